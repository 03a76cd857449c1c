/-
  Several texts put together (part 33): what the law and the program call, walked; their contracts.
-/
import Derived.Test.YtdoambpiafkmmaaGreatDoorQ20
import Derived.Test.YtdoambpiafkmmaaGreatDoorQ9
import Derived.Test.YtdoambpiafkmmaaGreatDoorQ16
namespace Go.Proofs.YtdoambpiafkmmaaGreatDoor
open Go.RowKit
set_option linter.unusedVariables false
set_option linter.unusedSimpArgs false
theorem letter9_any (c : UInt8) (w : World) : Calls Tryz.prog 20 #[.int .u8 (c.toNat : Int)] w fun e w' => e = .returned (.bool (leB c)) ∧ w = w' := by
  by_cases h1 : (97 : Int) ≤ (c.toNat : Int)
  · by_cases h2 : (c.toNat : Int) ≤ 122
    · go_enter Tryz.func20, Tryz.ntmps20
      go_wp2
      go_ret
      refine ⟨ret_bool ?_, rfl⟩
      simp [leB, h1, h2]
    · have hb : decide ((c.toNat : Int) ≤ 122) = false := by simp; omega
      by_cases h3 : (65 : Int) ≤ (c.toNat : Int)
      all_goals
        go_enter Tryz.func20, Tryz.ntmps20
        go_wp2
        go_ret
        refine ⟨ret_bool ?_, rfl⟩
        rw [Bool.eq_iff_iff]
        simp [leB]
        omega
  · by_cases h3 : (65 : Int) ≤ (c.toNat : Int)
    all_goals
      go_enter Tryz.func20, Tryz.ntmps20
      go_wp2
      go_ret
      refine ⟨ret_bool ?_, rfl⟩
      rw [Bool.eq_iff_iff]
      simp [leB]
      omega
def bareB (s : ByteArray) : Bool := s.data.toList.all fun c => c == 32 || c == 10
theorem all_take (p : UInt8 → Bool) (l : List UInt8) (i : Nat) (hi : i < l.length) : (l.take (i + 1)).all p = ((l.take i).all p && p l[i]) := by
  rw [List.take_succ_eq_append_getElem hi, List.all_append]
  simp
set_option maxHeartbeats 2000000 in
set_option maxRecDepth 100000 in
theorem bare_any (s : ByteArray) (w : World) (hs : s.size ≤ 4000000) : Calls Tryz.prog 18 #[.string s] w fun e w' => e = .returned (.bool (bareB s)) ∧ w = w' := by
  obtain ⟨R, hR⟩ : ∃ R, bareB s = R := ⟨_, rfl⟩
  rw [hR]
  unfold bareB at hR
  have HR := Lib.hid hR
  have hss : (s.size : Int) ≤ 4000000 := by omega
  clear hR
  go_enter Tryz.func18, Tryz.ntmps18
  go_wp2
  go_loopw [3] (fun t3 wr => ∃ i : Nat, t3 = .int .i64 i ∧ i ≤ s.size ∧ Hid ((s.data.toList.take i).all (fun c => c == 32 || c == 10) = true) ∧ wr = w) (fun t3 _ => s.size - (intOf t3).toNat)
  case atStart => exact ⟨0, rfl, Nat.zero_le _, Lib.hid rfl, rfl⟩
  case round =>
    obtain ⟨i, rfl, hi, HF, hw⟩ := hrel
    subst hw
    have hi0 : (i : Int) ≤ 4000000 := by omega
    by_cases hlt : i < s.size
    · have d1 : decide ((i : Int) < (s.size : Int)) = true := decide_eq_true (by omega)
      have d2 : (i : Int) < (s.size : Int) := by omega
      have hst := all_take (fun c => c == 32 || c == 10) s.data.toList i (by rw [size_data]; exact hlt)
      rw [HF.out, Bool.true_and] at hst
      obtain ⟨c, hc⟩ : ∃ c, (s[i]'hlt).toNat = c := ⟨_, rfl⟩
      have e32 : ((s.data.toList[i]'(by rw [size_data]; exact hlt)) == 32) = decide (c = 32) := by
        rw [← hc, Bool.eq_iff_iff, beq_iff_eq, decide_eq_true_iff]
        exact ⟨fun h => by rw [show (s[i]'hlt) = (s.data.toList[i]'(by rw [size_data]; exact hlt)) from rfl, h]; rfl, fun h => UInt8.toNat_inj.1 h⟩
      have e10 : ((s.data.toList[i]'(by rw [size_data]; exact hlt)) == 10) = decide (c = 10) := by
        rw [← hc, Bool.eq_iff_iff, beq_iff_eq, decide_eq_true_iff]
        exact ⟨fun h => by rw [show (s[i]'hlt) = (s.data.toList[i]'(by rw [size_data]; exact hlt)) from rfl, h]; rfl, fun h => UInt8.toNat_inj.1 h⟩
      rw [e32, e10] at hst
      have Hst := Lib.hid hst
      clear hst e32 e10
      by_cases c1 : c = 32
      · have q1 : ((c : Int) != 32) = false := by rw [bne_eq_false_iff_eq]; omega
        have Hn := Lib.hid (Hst.out.trans (by rw [decide_eq_true c1, Bool.true_or]))
        clear Hst c1
        go_wp2
        go_roundw
        case rel => exact ⟨i + 1, by go_num, hlt, Hn, trivial⟩
        case measure => simp [intOf]; omega
      have q1 : ((c : Int) != 32) = true := by rw [bne_iff_ne]; omega
      by_cases c2 : c = 10
      · have q2 : ((c : Int) != 10) = false := by rw [bne_eq_false_iff_eq]; omega
        have Hn := Lib.hid (Hst.out.trans (by rw [decide_eq_true c2, Bool.or_true]))
        clear Hst c1 c2
        go_wp2
        go_roundw
        case rel => exact ⟨i + 1, by go_num, hlt, Hn, trivial⟩
        case measure => simp [intOf]; omega
      have q2 : ((c : Int) != 10) = true := by rw [bne_iff_ne]; omega
      have hRf : false = R := by
        rw [← HR.out, eq_comm, List.all_eq_false]
        refine ⟨s.data.toList[i]'(by rw [size_data]; exact hlt), List.getElem_mem _, ?_⟩
        have := Hst.out
        rw [decide_eq_false c1, decide_eq_false c2] at this
        intro h
        have h2 := all_take (fun c => c == 32 || c == 10) s.data.toList i (by rw [size_data]; exact hlt)
        rw [this, HF.out, Bool.true_and] at h2
        rw [← h2] at h
        cases h
      have HRf := Lib.hid hRf
      clear hRf c1 c2 Hst
      go_wp2
      go_ret
      exact ⟨ret_bool HRf.out, rfl⟩
    have d1 : decide ((i : Int) < (s.size : Int)) = false := decide_eq_false (by omega)
    have d2 : ¬ (i : Int) < (s.size : Int) := by omega
    have hRt : true = R := by
      rw [← HR.out]
      have := HF.out
      rw [List.take_of_length_le (by rw [size_data]; omega)] at this
      exact this.symm
    have HRt := Lib.hid hRt
    clear hRt HF
    go_wp2
    go_ret
    exact ⟨ret_bool HRt.out, rfl⟩
def splitN (s : ByteArray) (acc : List ByteArray) (a i : Nat) : List ByteArray :=
  if h : i < s.size then
    if isAt s i 10 then splitN s (acc ++ [s.extract a (i + 1)]) (i + 1) (i + 1) else splitN s acc a (i + 1)
  else if a < s.size then acc ++ [s.extract a s.size] else acc
termination_by s.size - i
def splitS (s : ByteArray) : List ByteArray := splitN s [] 0 0
def StrsAt (W : World) (l : List ByteArray) (v : Value) : Prop := ∃ A c, v = .slice A l.length c ∧ (0 < l.length → ∃ b o, A = some ⟨b, o, none⟩ ∧ b < W.heap.size ∧ ∀ j x, l[j]? = some x → W.cell? ⟨b, o + j, none⟩ = some (.string x))
def strV9 (x : ByteArray) : Value := .string x
theorem strs_of {W : World} {B : Nat} {e : TypeId} {v : Value} {l : List ByteArray} (h : W.ownsRowF B e 1 v l.length (l.map strV9)) : StrsAt W l v := by
  rcases h.2 with ⟨rfl, h0⟩ | ⟨g, cap, cur, fz, rfl, hb, hg, rest⟩
  · exact ⟨none, 0, by rw [h0], fun h => by omega⟩
  · refine ⟨_, _, rfl, fun _ => ⟨g, 0, rfl, (Array.getElem?_eq_some_iff.1 hg).1, fun j x hx => ?_⟩⟩
    have := h.cells (g := g) rfl j (strV9 x) (by rw [List.getElem?_map, hx]; rfl)
    rw [Addr.add_mid] at this
    exact this
set_option maxHeartbeats 4000000 in
set_option maxRecDepth 1000000 in
theorem split_any (s : ByteArray) (w : World) (hs : s.size ≤ 1000000) : Calls Tryz.prog 21 #[.string s] w fun e w' => Below w.heap.size w w' ∧ ∃ v, e = .returned v ∧ StrsAt w' (splitS s) v := by
  obtain ⟨i0, hi, hz0, hz1, hz2⟩ := info_parts infoStr
  obtain ⟨RL, hRL⟩ : ∃ R, splitS s = R := ⟨_, rfl⟩
  rw [hRL]
  unfold splitS at hRL
  have HRL := Lib.hid hRL
  have hss : (s.size : Int) ≤ 1000000 := by omega
  clear hRL
  go_enter Tryz.func21, Tryz.ntmps21
  go_wp2
  go_loopw [3, 4, 5] (fun t3 t4 t5 wr => ∃ (acc : List ByteArray) (a i : Nat), t4 = .int .i64 a ∧ t5 = .int .i64 i ∧ a ≤ i ∧ i ≤ s.size ∧ acc.length ≤ i ∧ Hid (splitN s acc a i = RL) ∧ Hid (wr.ownsRowF w.heap.size 9 1 t3 acc.length (acc.map strV9)) ∧ Hid (Below w.heap.size w wr)) (fun _ _ t5 _ => s.size - (intOf t5).toNat)
  case atStart => exact ⟨[], 0, 0, rfl, rfl, Nat.le_refl _, Nat.zero_le _, Nat.zero_le _, HRL, owns_empty w 9, (Below.refl _ w).alloc (Nat.le_refl _) _⟩
  case round =>
    obtain ⟨acc, a, i, rfl, rfl, hai, hi1, hac, HN, HO, HBel⟩ := hrel
    have ha0 : (a : Int) ≤ (i : Int) := by omega
    have hi00 : (i : Int) ≤ 1000000 := by omega
    have hs0 := HBel.out.size
    by_cases hlt : i < s.size
    · have d1 : decide ((i : Int) < (s.size : Int)) = true := decide_eq_true (by omega)
      have d2 : (i : Int) < (s.size : Int) := by omega
      have hN := HN.out
      rw [splitN, dif_pos hlt, isAt_get s i hlt 10, show (10 : UInt8).toNat = 10 from rfl] at hN
      obtain ⟨c, hc⟩ : ∃ c, (s[i]'hlt).toNat = c := ⟨_, rfl⟩
      rw [hc] at hN
      by_cases c1 : c = 10
      · have q1 : ((c : Int) == 10) = true := beq_iff_eq.2 (by omega)
        rw [if_pos (by rw [c1]; rfl)] at hN
        have HN2 := Lib.hid hN
        have hown1 := HO.out.alloc (.cells #[.string (s.extract a (i + 1))] 9)
        have hi1s : (i : Int) + 1 ≤ (s.size : Int) := by omega
        clear hN HN c1
        go_wp2_with (at_builtin; refine wpList_append_ownF _ rfl _ _ 49 rfl w.heap.size 9 i0 (.string ⟨#[]⟩) 1 16 Tryz.underlying49 hi hz0 hz1 hz2 rfl (by decide) _ _ _ rfl hown1 ⟨wr.heap.size, 0, none⟩ 1 1 [.string (s.extract a (i + 1))] rfl rfl ?c1 ?c2 ?c3 ?c4 ?c5 ?_)
        case c1 =>
          intro j u hj
          match j, hj with
          | 0, hj => simp at hj; subst hj; simp [Addr.add]
        case c2 => intro u hu; simp at hu; subst hu; rfl
        case c3 => unfold maxLen; omega
        case c4 => omega
        case c5 => simp; omega
        intro v' w2 hown' hgrow _
        have HB2 := Lib.hid ((HBel.out.alloc hs0 _).grown hgrow (by simp; omega) (fun k hk => (hown1.lt k hk).1))
        have HO2 := Lib.hid hown'
        clear hown' hgrow hown1
        go_wp2
        go_roundw
        case rel =>
          refine ⟨acc ++ [s.extract a (i + 1)], i + 1, i + 1, by go_num, by go_num, Nat.le_refl _, hlt, by rw [List.length_append, List.length_singleton]; omega, HN2, ?_, HB2⟩
          rw [List.length_append, List.length_singleton, List.map_append]
          exact Lib.hid HO2.out
        case measure => simp [intOf]; omega
      have q1 : ((c : Int) == 10) = false := beq_eq_false_iff_ne.2 (by omega)
      rw [if_neg (by rw [beq_iff_eq]; exact c1)] at hN
      have HN2 := Lib.hid hN
      clear hN HN c1
      go_wp2
      go_roundw
      case rel => exact ⟨acc, a, i + 1, rfl, by go_num, by omega, hlt, by omega, HN2, HO, HBel⟩
      case measure => simp [intOf]; omega
    have d1 : decide ((i : Int) < (s.size : Int)) = false := decide_eq_false (by omega)
    have d2 : ¬ (i : Int) < (s.size : Int) := by omega
    have hN := HN.out
    rw [splitN, dif_neg hlt] at hN
    by_cases hal : a < s.size
    · have d3 : decide ((a : Int) < (s.size : Int)) = true := decide_eq_true (by omega)
      have d4 : (a : Int) < (s.size : Int) := by omega
      rw [if_pos hal] at hN
      subst hN
      have hown1 := HO.out.alloc (.cells #[.string (s.extract a s.size)] 9)
      clear HN
      go_wp2_with (at_builtin; refine wpList_append_ownF _ rfl _ _ 49 rfl w.heap.size 9 i0 (.string ⟨#[]⟩) 1 16 Tryz.underlying49 hi hz0 hz1 hz2 rfl (by decide) _ _ _ rfl hown1 ⟨wr.heap.size, 0, none⟩ 1 1 [.string (s.extract a s.size)] rfl rfl (fun j u hj => by match j, hj with | 0, hj => simp at hj; subst hj; simp [Addr.add]) ?c2 ?c3 ?c4 ?c5 ?_)
      case c2 => first | rfl | (intro u hu; simp at hu; subst hu; rfl)
      case c3 => unfold maxLen; omega
      case c4 => omega
      case c5 => first | omega | (simp; omega)
      intro v' w2 hown' hgrow _
      have HB2 := Lib.hid ((HBel.out.alloc hs0 _).grown hgrow (by simp; omega) (fun k hk => (hown1.lt k hk).1))
      have hst : StrsAt w2 (acc ++ [s.extract a s.size]) v' := strs_of (B := w.heap.size) (e := 9) (by
        rw [List.length_append, List.length_singleton, List.map_append]
        exact hown')
      have HSt := Lib.hid hst
      clear hown' hgrow hown1 hst
      go_wp2
      go_ret
      exact ⟨HB2.out, v', rfl, HSt.out⟩
    have d3 : decide ((a : Int) < (s.size : Int)) = false := decide_eq_false (by omega)
    have d4 : ¬ (a : Int) < (s.size : Int) := by omega
    rw [if_neg hal] at hN
    subst hN
    have HSt := Lib.hid (strs_of HO.out)
    clear HN
    go_wp2
    go_ret
    exact ⟨HBel.out, _, rfl, HSt.out⟩
end Go.Proofs.YtdoambpiafkmmaaGreatDoor

namespace Go.Proofs.YtdoambpiafkmmaaGreatDoor
open Go.RowKit
set_option linter.unusedVariables false
set_option linter.unusedSimpArgs false
def lsAt (s : ByteArray) (i : Nat) : Prop := i = 0 ∨ i = s.size ∨ ∃ j, i = j + 1 ∧ isAt s j 10 = true
theorem li_stop (s : ByteArray) (i : Nat) (h : li s i < s.size) : isAt s (li s i) 10 = true := by
  have := behN_stop nlB s.data.toList i (by rw [size_data]; exact h)
  unfold isAt
  rw [decide_eq_true h, Bool.true_and]
  unfold nlB at this
  rw [Bool.not_eq_false'] at this
  exact this
theorem beh_ls (s : ByteArray) (i : Nat) : lsAt s (beh s i) := by
  unfold beh
  split
  · next h => exact Or.inr (Or.inr ⟨_, rfl, li_stop s i h⟩)
  · exact Or.inr (Or.inl rfl)
theorem comGo_ls (s : ByteArray) (lv : Nat) : ∀ (n : Nat) (acc : List ByteArray) (k : Nat) (x : ByteArray), s.size - k ≤ n → lsAt s (comGo s lv acc k x).2
  | n, acc, k, x, hn => by
    rw [comGo]
    split
    · next h =>
      cases n with
      | zero => omega
      | succ n => exact comGo_ls s lv n _ _ _ (by omega)
    · exact beh_ls s k
theorem junkTo_ls (s : ByteArray) : ∀ (n k : Nat), s.size - k ≤ n → lsAt s k → lsAt s (junkTo s k)
  | n, k, hn, hk => by
    rw [junkTo]
    split
    · next h =>
      split
      · cases n with
        | zero => omega
        | succ n => exact junkTo_ls s n _ (by omega) (beh_ls s k)
      · exact hk
    · exact hk
theorem read_ls {s : ByteArray} {i : Nat} (hi : i < s.size) : lsAt s (readS s i).tu := by
  unfold readS
  split
  · next x h =>
    unfold comS at h
    split at h
    · cases h
    · cases h
      exact comGo_ls s _ s.size _ _ _ (by omega)
  · split
    · next x h =>
      unfold msgS at h
      split at h
      · cases h
      · split at h
        · cases h; exact beh_ls s _
        · cases h
    · exact junkTo_ls s s.size _ (by omega) (beh_ls s i)
def bareN (s : ByteArray) (a b : Nat) : Prop := ∀ m, a ≤ m → m < b → at0 s.data.toList m = 32 ∨ at0 s.data.toList m = 10
theorem sp_32 {c : UInt8} (h : spB c = true) : c = 32 := by
  unfold spB at h
  rw [decide_eq_true_iff] at h
  exact UInt8.toNat_inj.1 (by show c.toNat = 32; omega)
theorem passE_bare (s : ByteArray) : ∀ (n k : Nat), s.size - k ≤ n → k ≤ s.size → bareN s k (passE s k)
  | n, k, hn, hk => by
    by_cases hlt : k < s.size
    · by_cases h : sp s k < s.size ∧ isAt s (sp s k) 10 = false
      · rw [passE, dif_pos hlt, if_pos h]
        intro m h1 h2; omega
      · obtain ⟨h1, h2, h3⟩ := passE_go s k hlt h
        rw [h1]
        cases n with
        | zero => omega
        | succ n =>
          have ih := passE_bare s n (beh s (sp s k)) (by omega) h3
          intro m m1 m2
          by_cases hm : m < sp s k
          · exact Or.inl (sp_32 (behN_so spB s.data.toList k m m1 hm))
          · by_cases hm2 : m < beh s (sp s k)
            · by_cases hsz : sp s k < s.size
              · have h10 : isAt s (sp s k) 10 = true := by
                  cases hb : isAt s (sp s k) 10
                  · exact absurd ⟨hsz, hb⟩ h
                  · rfl
                have hl : li s (sp s k) = sp s k := by
                  unfold li
                  refine behN_no nlB s.data.toList (sp s k) (by rw [size_data]; exact hsz) ?_
                  unfold isAt at h10
                  rw [decide_eq_true hsz, Bool.true_and, at0_get _ _ (by rw [size_data]; exact hsz), beq_iff_eq] at h10
                  rw [h10]; decide
                have : m = sp s k := by unfold beh at hm2; rw [hl, if_pos hsz] at hm2; omega
                subst this
                unfold isAt at h10
                rw [decide_eq_true hsz, Bool.true_and, beq_iff_eq] at h10
                exact Or.inr h10
              · have hsp : sp s k ≤ s.size := by have := behN_le spB s.data.toList k (by rw [size_data]; exact hk); rw [size_data] at this; exact this
                have := (beh_ok s (sp s k) hsp).2.1
                omega
            · exact ih m (by omega) m2
    · rw [passE, dif_neg hlt]
      intro m h1 h2; omega
theorem passE_ls (s : ByteArray) : ∀ (n k : Nat), s.size - k ≤ n → k ≤ s.size → lsAt s k → lsAt s (passE s k)
  | n, k, hn, hk, hl => by
    by_cases hlt : k < s.size
    · by_cases h : sp s k < s.size ∧ isAt s (sp s k) 10 = false
      · rw [passE, dif_pos hlt, if_pos h]; exact hl
      · obtain ⟨h1, h2, h3⟩ := passE_go s k hlt h
        rw [h1]
        cases n with
        | zero => omega
        | succ n => exact passE_ls s n _ (by omega) h3 (beh_ls s _)
    · rw [passE, dif_neg hlt]; exact hl
inductive Chain (s : ByteArray) : Nat → List EN → Prop
  | nil {a : Nat} (h : bareN s a s.size) : Chain s a []
  | cons {a : Nat} {x : EN} {r : List EN} (h1 : a ≤ x.fr) (h2 : bareN s a x.fr) (h3 : lsAt s x.fr) (h4 : x.fr < s.size) (h5 : readS s x.fr = x) (h6 : x.fr < x.tu ∧ x.tu ≤ s.size ∧ lsAt s x.tu) (h7 : Chain s x.tu r) : Chain s a (x :: r)
theorem chain_go (s : ByteArray) : ∀ (n a : Nat) (acc : List EN), s.size - a ≤ n → a ≤ s.size → lsAt s a → ∃ l, parseGo s acc (passE s a) = acc ++ l ∧ Chain s a l
  | n, a, acc, hn, ha, hl => by
    have h1 := passE_pos s s.size a (by omega) ha
    have h2 := passE_bare s s.size a (by omega) ha
    have h3 := passE_ls s s.size a (by omega) ha hl
    by_cases hlt : passE s a < s.size
    · have h4 := read_pos hlt
      have h5 := read_ls hlt
      obtain ⟨x, hx⟩ : ∃ x, readS s (passE s a) = x := ⟨_, rfl⟩
      rw [hx] at h4 h5
      cases n with
      | zero => omega
      | succ n =>
        obtain ⟨l, e1, e2⟩ := chain_go s n x.tu (acc ++ [x]) (by omega) h4.2.1 h5
        refine ⟨x :: l, ?_, ?_⟩
        · rw [(parseGo_step s acc _ hlt).1, hx, e1, List.append_assoc]
          rfl
        · rw [← h4.2.2] at h1 h2 h3 hlt hx
          exact Chain.cons h1.1 h2 h3 hlt hx ⟨by omega, h4.2.1, h5⟩ e2
    · refine ⟨[], by rw [parseGo_end s acc _ hlt, List.append_nil], Chain.nil ?_⟩
      rw [show passE s a = s.size by omega] at h2
      exact h2
theorem parse_chain (s : ByteArray) : Chain s 0 (parseS s) := by
  obtain ⟨l, h1, h2⟩ := chain_go s s.size 0 [] (by omega) (Nat.zero_le _) (Or.inl rfl)
  unfold parseS
  rw [h1]
  exact h2
theorem junkTo_end (s : ByteArray) : ∀ (n k : Nat), s.size - k ≤ n → k ≤ s.size → junkTo s k < s.size → mayB s (junkTo s k) = true
  | n, k, hn, hk, h => by
    rw [junkTo] at h ⊢
    split
    · next hc =>
      rw [dif_pos hc] at h
      split
      · next h2 =>
        rw [dif_pos h2] at h
        cases n with
        | zero => omega
        | succ n => exact junkTo_end s n _ (by omega) (beh_ok s k hk).2.1 h
      · next h2 => exact absurd ((beh_ok s k hk).2.2 hc.1) h2
    · next hc =>
      rw [dif_neg hc] at h
      cases hm : mayB s k
      · exact absurd ⟨h, hm⟩ hc
      · rfl
theorem junkTo_in (s : ByteArray) : ∀ (n k : Nat), s.size - k ≤ n → k ≤ s.size → ∀ p, k ≤ p → p + 1 ≤ junkTo s k → (p = k ∨ ∃ j, p = j + 1 ∧ isAt s j 10 = true) → mayB s p = false
  | n, k, hn, hk, p, h1, h2, h3 => by
    rw [junkTo] at h2
    split at h2
    · next hc =>
      split at h2
      · next hb =>
        rcases h3 with h3 | ⟨j, h3, h4⟩
        · rw [h3]; exact hc.2
        · by_cases hp : p = k
          · rw [hp]; exact hc.2
          · cases n with
            | zero => omega
            | succ n =>
              refine junkTo_in s n (beh s k) (by omega) (beh_ok s k hk).2.1 p ?_ h2 (Or.inr ⟨j, h3, h4⟩)
              -- the next line begins at beh s k at the latest
              have hj : li s k ≤ j := by
                by_cases hlt : j < li s k
                · have := behN_so nlB s.data.toList k j (by omega) hlt
                  have hjs := isAt_lt h4
                  unfold isAt at h4
                  rw [decide_eq_true hjs, Bool.true_and, beq_iff_eq] at h4
                  rw [h4] at this
                  exact absurd this (by decide)
                · omega
              have hjs := isAt_lt h4
              unfold beh
              rw [if_pos (by omega)]
              omega
      · next hb => omega
    · omega
theorem junk_facts {s : ByteArray} {i : Nat} (hi : i < s.size) (h : (readS s i).ty = 3) : (readS s i).tx = s.extract i (readS s i).tu ∧ ((readS s i).tu < s.size → mayB s (readS s i).tu = true) ∧
    ∀ p, i < p → p < (readS s i).tu → (∃ j, p = j + 1 ∧ isAt s j 10 = true) → mayB s p = false := by
  have hr : readS s i = junkS s i := by
    unfold readS at h ⊢
    split
    · next x hc =>
      rw [hc] at h
      unfold comS at hc
      split at hc
      · cases hc
      · cases hc; cases h
    · next hc =>
      rw [hc] at h
      dsimp only at h
      split
      · next x hm =>
        rw [hm] at h
        unfold msgS at hm
        split at hm
        · cases hm
        · split at hm
          · cases hm
            dsimp only at h
            split at h <;> cases h
          · cases hm
      · rfl
  rw [hr]
  unfold junkS
  dsimp only
  have hb := beh_ok s i (Nat.le_of_lt hi)
  refine ⟨rfl, fun h => junkTo_end s s.size _ (by omega) hb.2.1 h, fun p h1 h2 h3 => ?_⟩
  refine junkTo_in s s.size (beh s i) (by omega) hb.2.1 p ?_ (by omega) (Or.inr h3)
  obtain ⟨j, rfl, h4⟩ := h3
  have hj : li s i ≤ j := by
    by_cases hlt : j < li s i
    · have := behN_so nlB s.data.toList i j (by omega) hlt
      have hjs := isAt_lt h4
      unfold isAt at h4
      rw [decide_eq_true hjs, Bool.true_and, beq_iff_eq] at h4
      rw [h4] at this
      exact absurd this (by decide)
    · omega
  have hjs := isAt_lt h4
  unfold beh
  rw [if_pos (by omega)]
  omega
end Go.Proofs.YtdoambpiafkmmaaGreatDoor
