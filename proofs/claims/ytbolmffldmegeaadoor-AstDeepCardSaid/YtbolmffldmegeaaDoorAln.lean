/-
  Package ast: areLines.
-/
import Derived.Test.YtbolmffldmegeaaDoorAsp
import Derived.Test.YtbolmffldmegeaaDoorSc5
namespace Go.Proofs.YtbolmffldmegeaaDoor
open Go.RowKit
set_option linter.unusedVariables false
set_option linter.unusedSimpArgs false

theorem anyTo_skip (p : Nat → Bool) (a : Nat) : ∀ b, a ≤ b → (∀ j, a ≤ j → j < b → p j = false) → anyTo p b = anyTo p a
  | 0, h, _ => by rw [show a = 0 by omega]
  | b + 1, h, hp => by
    by_cases e : a = b + 1
    · rw [e]
    · rw [anyTo, anyTo_skip p a b (by omega) (fun j h1 h2 => hp j h1 (by omega)), hp b (by omega) (by omega), Bool.or_false]
theorem newAt_no {l : List UInt8} {j : Nat} (h : nlB (at0 l j) = true) : newAt l j = false := by
  unfold nlB at h
  unfold newAt
  cases e : at0 l j == 10
  · rfl
  · rw [e] at h; cases h
theorem badAt_no {l : List UInt8} {j : Nat} (h : newAt l j = false) : badAt l j = false := by unfold badAt; rw [h]; rfl
theorem flushAt_no {l : List UInt8} {j : Nat} (h : newAt l j = false) : flushAt l j = false := by unfold flushAt; rw [h]; rfl
/-- On to the next line feed. -/
theorem lines_step (l : List UInt8) (i : Nat) (hi : i + 1 ≤ l.length) :
    anyTo (newAt l) (behN nlB l (i + 1)) = (anyTo (newAt l) i || newAt l i) ∧ anyTo (badAt l) (behN nlB l (i + 1)) = (anyTo (badAt l) i || badAt l i) ∧ anyTo (flushAt l) (behN nlB l (i + 1)) = (anyTo (flushAt l) i || flushAt l i) := by
  have hn : ∀ j, i + 1 ≤ j → j < behN nlB l (i + 1) → newAt l j = false := fun j h1 h2 => newAt_no (behN_so nlB l (i + 1) j h1 h2)
  have hg := behN_ge nlB l (i + 1)
  exact ⟨anyTo_skip _ (i + 1) _ hg hn, anyTo_skip _ (i + 1) _ hg fun j h1 h2 => badAt_no (hn j h1 h2), anyTo_skip _ (i + 1) _ hg fun j h1 h2 => flushAt_no (hn j h1 h2)⟩
theorem lines_zero (l : List UInt8) : anyTo (newAt l) (behN nlB l 0) = false ∧ anyTo (badAt l) (behN nlB l 0) = false ∧ anyTo (flushAt l) (behN nlB l 0) = false := by
  have hn : ∀ j, 0 ≤ j → j < behN nlB l 0 → newAt l j = false := fun j h1 h2 => newAt_no (behN_so nlB l 0 j h1 h2)
  exact ⟨anyTo_skip _ 0 _ (Nat.zero_le _) hn, anyTo_skip _ 0 _ (Nat.zero_le _) fun j h1 h2 => badAt_no (hn j h1 h2), anyTo_skip _ 0 _ (Nat.zero_le _) fun j h1 h2 => flushAt_no (hn j h1 h2)⟩
theorem nlB_no {c : UInt8} (h : nlB c = false) : c = 10 := by unfold nlB at h; simpa using h
theorem nl_stop (l : List UInt8) (k : Nat) (h : behN nlB l k < l.length) : at0 l (behN nlB l k) = 10 := nlB_no (behN_stop nlB l k h)
theorem at0_data (s : ByteArray) (k : Nat) (h : k < s.size) : at0 s.data.toList k = s[k] := by
  rw [at0_get _ _ (by rw [size_data]; exact h)]; rfl
theorem mark_any (c : UInt8) (w : World) : Calls Tryd.prog 69 #[.int .u8 (c.toNat : Int)] w fun e w' => e = .returned (.bool (isMarkB c)) ∧ w = w' := by
  have E : isMarkB c = ((c.toNat : Int) == 46 || (c.toNat : Int) == 42 || (c.toNat : Int) == 91) := by
    unfold isMarkB
    rw [Bool.eq_iff_iff]
    simp [or_assoc]
  rw [E]
  clear E
  go_enter Tryd.func69, Tryd.ntmps69
  go_wp2
  all_goals
    go_ret
    exact ⟨by simp [*], rfl⟩
theorem beh_pos (p : UInt8 → Bool) (l : List UInt8) (k : Nat) (h : k < l.length) : decide ((k : Int) < (behN p l k : Int)) = p (at0 l k) := by
  rw [at0_get l k h]
  cases hb : p l[k]
  · rw [behN_no p l k h hb]; simp
  · have h1 := behN_yes p l k h hb
    have h2 := behN_ge p l (k + 1)
    exact decide_eq_true (by omega)
theorem sp_at (l : List UInt8) (k : Nat) (h : k < l.length) : ((behN spB l k : Int) == (k : Int)) = !spB (at0 l k) := by
  have := beh_pos spB l k h
  have hg := behN_ge spB l k
  rw [← this]
  by_cases e : behN spB l k = k
  · rw [e]; simp
  · have h1 : (k : Int) < (behN spB l k : Int) := by omega
    rw [decide_eq_true h1]
    simp
    omega
/-- Behind spaces something stands, if the last sign is none. -/
theorem sp_lt (l : List UInt8) (k : Nat) (h : k < l.length) (hl : blB (at0 l (l.length - 1)) = false) : behN spB l k < l.length := by
  have h1 := behN_le spB l k (by omega)
  rcases Nat.lt_or_ge (behN spB l k) l.length with h2 | h2
  · exact h2
  · have := behN_so spB l k (l.length - 1) (by omega) (by omega)
    unfold blB at hl
    unfold spB at this
    simp at hl this
    omega
theorem anyTo_true (p : Nat → Bool) (i : Nat) (h : p i = true) : ∀ n, i < n → anyTo p n = true
  | 0, hn => by omega
  | n + 1, hn => by
    rw [anyTo]
    by_cases e : i = n
    · subst e; rw [h, Bool.or_true]
    · rw [anyTo_true p i h n (by omega), Bool.true_or]
/-- How the lines end. -/
def lineEnd (l : List UInt8) (i : Nat) : Bool := !isMarkB (at0 l 0) || !anyTo (newAt l) i || anyTo (flushAt l) i
set_option maxHeartbeats 4000000 in
set_option maxRecDepth 1000000 in
theorem areLines_any (s : ByteArray) (w : World) (h0 : 0 < s.size) (hs : s.size ≤ 8000000) :
    Calls Tryd.prog 46 #[.string s] w fun e w' => e = .returned (.bool (linesB s.data.toList)) ∧ w = w' := by
  have hB := fun i W => blank_any s i W (by omega)
  have hL := fun i W => line_any s i W (by omega)
  have hS := fun i W => spaces_any s i W (by omega)
  have hlen := size_data s
  obtain ⟨l, hl⟩ : ∃ l, s.data.toList = l := ⟨_, rfl⟩
  rw [hl] at hB hL hS hlen ⊢
  have hat : ∀ k (h : k < s.size), s[k] = at0 l k := fun k h => by rw [← hl]; exact (at0_data s k h).symm
  have hB0 : behI blB l 0 = (behN blB l 0 : Int) := by unfold behI; rw [if_neg (by omega)]; rfl
  have hB1 : behI blB l (s.size - 1 : Int) = (behN blB l (s.size - 1) : Int) := by unfold behI; rw [if_neg (by omega), show ((s.size : Int) - 1).toNat = s.size - 1 by omega]
  have hd := beh_pos blB l 0 (by omega)
  have hd1 := beh_pos blB l (s.size - 1) (by omega)
  rw [show ((s.size - 1 : Nat) : Int) = (s.size : Int) - 1 by omega] at hd1
  rw [show ((0 : Nat) : Int) = 0 from rfl] at hd
  have hdN : decide (0 < behN blB l 0) = blB (at0 l 0) := by
    rw [← hd]
    rw [decide_eq_decide]
    omega
  have hB0' := fun W => hB 0 W
  have hB1' := fun W => hB (s.size - 1 : Int) W
  rw [hB0] at hB0'
  rw [hB1] at hB1'
  unfold linesB
  rw [hlen]
  have HLen := Lib.hid hlen
  have HL := Lib.hid hl
  have HAt := Lib.hid hat
  clear hB0 hB1 hB hlen hl hat
  have h1 : ¬ s.size < 1 := by omega
  have h1' : (1 : Int) ≤ (s.size : Int) := by omega
  have hLs : (s.size : Int) ≤ 8000000 := by omega
  cases hb0 : blB (at0 l 0)
  case true =>
    rw [hb0] at hd hdN
    generalize behN blB l 0 = k0 at *
    have HB := Lib.hid hB0'
    clear hd1 hB1' hB0' hL hS hb0
    go_enter Tryd.func46, Tryd.ntmps46
    go_wp2_with (go_at_call 66; refine (HB.out _).mono ?_; rintro e w' ⟨rfl, rfl⟩)
    go_ret
    exact ⟨rfl, rfl⟩
  rw [hb0] at hd hdN
  generalize behN blB l 0 = k0 at *
  cases hb1 : blB (at0 l (s.size - 1))
  case true =>
    rw [hb1] at hd1
    generalize behN blB l (s.size - 1) = k1 at *
    have HB := Lib.hid hB0'
    have HB1 := Lib.hid hB1'
    clear hB1' hB0' hL hS hb1 hb0
    go_enter Tryd.func46, Tryd.ntmps46
    go_wp2_with fail
    go_at_call 66
    refine (HB.out _).mono ?_
    rintro e w' ⟨rfl, rfl⟩
    go_wp2_with fail
    go_at_call 66
    refine (HB1.out _).mono ?_
    rintro e w' ⟨rfl, rfl⟩
    go_wp2
    go_ret
    exact ⟨rfl, rfl⟩
  rw [hb1] at hd1
  generalize behN blB l (s.size - 1) = k1 at *
  have HB := Lib.hid hB0'
  have HB1 := Lib.hid hB1'
  have HSp := Lib.hid hS
  have HLi := Lib.hid hL
  have Hb1 := Lib.hid hb1
  clear hB1' hB0' hL hS hb1 hb0
  have hl0 : lineI l 0 = (behN nlB l 0 : Int) := by unfold lineI; rw [if_pos ⟨by omega, by have := HLen.out; omega⟩]; rfl
  have hz := lines_zero l
  have hz1 := nl_stop l 0
  have hz2 := behN_le nlB l 0 (by omega)
  have hf := fun W => HLi.out 0 W
  rw [hl0] at hf
  have HF := Lib.hid hf
  rw [HLen.out] at hz1 hz2
  obtain ⟨i0, hi0⟩ : ∃ i0, behN nlB l 0 = i0 := ⟨_, rfl⟩
  rw [hi0] at HF hz hz1 hz2
  have Hz := Lib.hid hz
  have Hz1 := Lib.hid hz1
  clear hl0 hf hi0 hz hz1
  have hi0' : (0 : Int) ≤ (i0 : Int) := by omega
  have hi0'' : (i0 : Int) ≤ 8000000 := by omega
  go_enter Tryd.func46, Tryd.ntmps46
  go_wp2_with fail
  go_at_call 66
  refine (HB.out _).mono ?_
  rintro e w' ⟨rfl, rfl⟩
  go_wp2_with fail
  go_at_call 66
  refine (HB1.out _).mono ?_
  rintro e w' ⟨rfl, rfl⟩
  go_wp2_with fail
  go_at_call 67
  refine (HF.out _).mono ?_
  rintro e w' ⟨rfl, rfl⟩
  go_wp2
  go_loop [4, 5, 6] (fun sf fl at_ => ∃ k : Nat, 1 ≤ k ∧ k ≤ s.size + 1 ∧ at_ = .int .i64 (k : Nat) ∧ sf = .bool (anyTo (newAt l) (k - 1)) ∧ fl = .bool (anyTo (flushAt l) (k - 1)) ∧ Hid (k - 1 < s.size → at0 l (k - 1) = 10) ∧ Hid (anyTo (badAt l) (k - 1) = false)) (fun _ _ at_ => s.size + 1 - (intOf at_).toNat)
  case atStart =>
    exact ⟨i0 + 1, by omega, by omega, by go_num, by rw [Nat.add_sub_cancel, Hz.out.1], by rw [Nat.add_sub_cancel, Hz.out.2.2], Hz1.out, Hz.out.2.1⟩
  case round =>
    obtain ⟨k, hk1, hk2, rfl, rfl, rfl, Hnl, Hbad⟩ := hrel
    clear HB HB1 HF Hz Hz1 hz2 hi0' hi0'' hd hd1 hdN
    have hk0 : (0 : Int) ≤ (k : Int) := by omega
    have hk3 : (k : Int) ≤ 8000001 := by omega
    by_cases hlt : k < s.size
    · obtain ⟨i, hki⟩ : ∃ i, k = i + 1 := ⟨k - 1, by omega⟩
      have hst := lines_step l i (by have := HLen.out; omega)
      rw [← hki] at hst
      have hge := behN_ge nlB l k
      have hle := behN_le nlB l k (by have := HLen.out; omega)
      rw [HLen.out] at hle
      have hstop := nl_stop l k
      rw [HLen.out] at hstop
      have hln : lineI l (k : Int) = (behN nlB l k : Int) := by unfold lineI; rw [if_pos ⟨by omega, by have := HLen.out; omega⟩, Int.toNat_natCast]
      have hf := fun W => HLi.out (k : Int) W
      rw [hln] at hf
      have hnl := Hnl.out (by omega)
      have hki2 : k - 1 = i := by omega
      have hbad := Hbad.out
      rw [hki2] at hnl hbad ⊢
      have hnew : newAt l i = !(at0 l k == 10) := by
        unfold newAt
        rw [← hki, hnl, HLen.out, decide_eq_true hlt]; rfl
      have hsp := sp_lt l k (by have := HLen.out; omega) (by rw [HLen.out]; exact Hb1.out)
      rw [HLen.out] at hsp
      have hspg := behN_ge spB l k
      have hspa := sp_at l k (by have := HLen.out; omega)
      have hsb : behI spB l (k : Int) = (behN spB l k : Int) := by unfold behI; rw [if_neg (by omega), Int.toNat_natCast]
      have hsw := fun W => HSp.out (k : Int) W
      rw [hsb] at hsw
      obtain ⟨b, hb⟩ : ∃ b, behN spB l k = b := ⟨_, rfl⟩
      have hbd : badAt l i = (newAt l i && (at0 l b == 10 || isMarkB (at0 l b))) := by unfold badAt; rw [← hki, hb]
      have hfl : flushAt l i = (newAt l i && ((b : Int) == (k : Int))) := by unfold flushAt; rw [← hki, ← hspa, hb]
      rw [hb] at hsp hspg hsw
      obtain ⟨j, hj⟩ : ∃ j, behN nlB l k = j := ⟨_, rfl⟩
      rw [hj] at hst hge hle hstop hf
      have hc := HAt.out k hlt
      have hcb := HAt.out b hsp
      obtain ⟨c, hcc⟩ : ∃ c, s[k] = c := ⟨_, rfl⟩
      obtain ⟨x, hx⟩ : ∃ x, s[b] = x := ⟨_, rfl⟩
      rw [hcc] at hc
      rw [hx] at hcb
      rw [← hc] at hnew
      rw [← hcb] at hbd
      have hlt' : decide ((k : Int) < (s.size : Int)) = true := decide_eq_true (by omega)
      have hlt'' : decide (k < s.size) = true := decide_eq_true hlt
      have hlt3 : (k : Int) < (s.size : Int) := by omega
      have hb3 : (b : Int) < (s.size : Int) := by omega
      have hb0 : (0 : Int) ≤ (b : Int) := by omega
      have hj0 : (0 : Int) ≤ (j : Int) := by omega
      have hj1 : (j : Int) ≤ 8000000 := by omega
      have HF := Lib.hid hf
      have Hki := Lib.hid hki
      have HW := Lib.hid hsw
      have Hst := Lib.hid hst
      have Hnew := Lib.hid hnew
      have Hbd := Lib.hid hbd
      have Hfl := Lib.hid hfl
      have Hbad2 := Lib.hid hbad
      have Hstop := Lib.hid hstop
      have Hle := Lib.hid hle
      have Hge := Lib.hid hge
      have Hspg := Lib.hid hspg
      clear hki hki2 hst hstop hln hf hnl hbad hspa hsb hsw hb hbd hfl hj hc hcb hnew Hnl Hbad HLi HSp hle hge hspg
      obtain ⟨nA, hnA⟩ : ∃ z, anyTo (newAt l) i = z := ⟨_, rfl⟩
      obtain ⟨fA, hfA⟩ : ∃ z, anyTo (flushAt l) i = z := ⟨_, rfl⟩
      rw [hnA, hfA]
      have HnA := Lib.hid hnA
      have HfA := Lib.hid hfA
      clear hnA hfA
      by_cases h10 : c = 10
      · subst h10
        have hcz : ((s[k].toNat : Int) == 10) = true := by rw [hcc]; rfl
        have hn0 : newAt l i = false := by rw [Hnew.out]; rfl
        have Hn0 := Lib.hid hn0
        have Hcc := Lib.hid hcc
        clear hn0 hcc hx
        go_wp2_with fail
        go_at_call 67
        refine (HF.out _).mono ?_
        rintro e w' ⟨rfl, rfl⟩
        go_wp2
        go_round
        case rel =>
          have := Hle.out
          exact ⟨j + 1, by omega, by omega, by go_num, by rw [Nat.add_sub_cancel, Hst.out.1, HnA.out, Hn0.out, Bool.or_false], by rw [Nat.add_sub_cancel, Hst.out.2.2, HfA.out, flushAt_no Hn0.out, Bool.or_false], by rw [Nat.add_sub_cancel]; exact Hstop.out, by rw [Nat.add_sub_cancel]; exact (Hst.out.2.1.trans (by rw [Hbad2.out, badAt_no Hn0.out]; rfl))⟩
        case measure => simp [intOf]; have := Hge.out; omega
      · have hc1 : (c == 10) = false := by simpa using h10
        have hn1 : newAt l i = true := by rw [Hnew.out, hc1]; rfl
        have hcz : ((s[k].toNat : Int) == 10) = false := by
          rw [hcc]
          have : c.toNat ≠ 10 := fun e => h10 (UInt8.toNat_inj.1 e)
          simp; omega
        have Hn1 := Lib.hid hn1
        have Hcc := Lib.hid hcc
        have Hxx := Lib.hid hx
        have hms := fun W => mark_any s[b] W
        rw [hx] at hms
        have hxz : ((s[b].toNat : Int) == 10) = (x == 10) := by
          rw [hx]
          by_cases e : x = 10
          · subst e; rfl
          · have h1 : (x == 10) = false := by simpa using e
            have h2 : x.toNat ≠ 10 := fun e2 => e (UInt8.toNat_inj.1 e2)
            rw [h1]; simp; omega
        have hms2 : ∀ W : World, Calls Tryd.prog 69 #[.int .u8 (s[b].toNat : Int)] W fun e w' => e = .returned (.bool (isMarkB x)) ∧ W = w' := fun W => by rw [hx]; exact hms W
        have Hms := Lib.hid hms2
        clear hn1 hcc hx hms hms2 h10 hc1
        obtain ⟨q, hq⟩ : ∃ q, (x == 10) = q := ⟨_, rfl⟩
        rw [hq] at hxz
        have hb2 := Hbd.out
        rw [Hn1.out, hq] at hb2
        have Hb2 := Lib.hid hb2
        clear hq hb2
        cases q
        case true =>
          go_wp2_with fail
          go_at_call 68
          refine (HW.out _).mono ?_
          rintro e w' ⟨rfl, rfl⟩
          go_wp2
          go_ret
          exact ⟨ret_bool (by rw [anyTo_true (badAt l) i (by rw [Hb2.out]; rfl) s.size (by have := Hki.out; omega)]; simp), rfl⟩
        obtain ⟨m, hm⟩ : ∃ m, isMarkB x = m := ⟨_, rfl⟩
        have hms := Hms.out
        rw [hm] at hms
        have hb2 := Hb2.out
        rw [hm] at hb2
        have HM := Lib.hid hms
        have HB := Lib.hid hb2
        clear hm hms hb2 Hms Hb2
        cases m
        case true =>
          go_wp2_with fail
          go_at_call 68
          refine (HW.out _).mono ?_
          rintro e w' ⟨rfl, rfl⟩
          go_wp2_with fail
          go_at_call 69
          refine (HM.out _).mono ?_
          rintro e w' ⟨rfl, rfl⟩
          go_wp2
          go_ret
          exact ⟨ret_bool (by rw [anyTo_true (badAt l) i (by rw [HB.out]; rfl) s.size (by have := Hki.out; omega)]; simp), rfl⟩
        obtain ⟨z, hz⟩ : ∃ z, ((b : Int) == (k : Int)) = z := ⟨_, rfl⟩
        have hfl := Hfl.out
        rw [hz, Hn1.out] at hfl
        have HFl := Lib.hid hfl
        have hz2 : (b == k) = z := by rw [← hz]; rw [Bool.eq_iff_iff]; simp; omega
        clear hfl Hfl
        cases fA <;> cases z <;>
        · go_wp2_with fail
          go_at_call 68
          refine (HW.out _).mono ?_
          rintro e w' ⟨rfl, rfl⟩
          go_wp2_with fail
          go_at_call 69
          refine (HM.out _).mono ?_
          rintro e w' ⟨rfl, rfl⟩
          go_wp2_with fail
          go_at_call 67
          refine (HF.out _).mono ?_
          rintro e w' ⟨rfl, rfl⟩
          go_wp2
          go_round
          case rel =>
            have := Hle.out
            exact ⟨j + 1, by omega, by omega, by go_num, by rw [Nat.add_sub_cancel, Hst.out.1, HnA.out, Hn1.out, Bool.or_true], by rw [Nat.add_sub_cancel, Hst.out.2.2, HfA.out, HFl.out]; rfl, by rw [Nat.add_sub_cancel]; exact Hstop.out, by rw [Nat.add_sub_cancel]; exact (Hst.out.2.1.trans (by rw [Hbad2.out, HB.out]; rfl))⟩
          case measure => simp [intOf]; have := Hge.out; omega
    · have hkk : k = s.size + 1 := by
        by_cases e : k = s.size
        · have := Hnl.out (by omega)
          rw [e] at this
          have hb := Hb1.out
          rw [this] at hb
          exact absurd hb (by decide)
        · omega
      have hbad := Hbad.out
      obtain ⟨x, hx⟩ : ∃ x, anyTo (newAt l) s.size = x := ⟨_, rfl⟩
      obtain ⟨y, hy⟩ : ∃ y, anyTo (flushAt l) s.size = y := ⟨_, rfl⟩
      obtain ⟨m, hm⟩ : ∃ m, isMarkB (at0 l 0) = m := ⟨_, rfl⟩
      rw [show k - 1 = s.size by omega] at hbad ⊢
      rw [hx, hy]
      have hs0 := HAt.out 0 h0
      have hms := fun W => mark_any s[0] W
      rw [hs0, hm] at hms
      rw [← hs0] at hms
      have Hms := Lib.hid hms
      have Hx := Lib.hid hx
      have Hy := Lib.hid hy
      have Hm := Lib.hid hm
      have Hbad2 := Lib.hid hbad
      have hlt' : decide ((k : Int) < (s.size : Int)) = false := decide_eq_false (by omega)
      have hlt'' : decide (k < s.size) = false := decide_eq_false hlt
      have h00 : (0 : Int) < (s.size : Int) := by omega
      clear hs0 hkk hbad Hbad HLi HSp hx hy hm hms Hnl
      go_wp2_with fail
      go_at_call 69
      refine (Hms.out _).mono ?_
      rintro e w' ⟨rfl, rfl⟩
      cases m <;> cases x <;> cases y <;>
      · go_wp2
        go_ret
        exact ⟨ret_bool (by rw [Hbad2.out, Hx.out, Hy.out, Hm.out]; rfl), rfl⟩
end Go.Proofs.YtbolmffldmegeaaDoor
