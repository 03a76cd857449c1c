/-
  Package script: haveValues, Right.
-/
import Derived.Test.YtgdkpamlkpncgabGreatDoorSwh0
namespace Go.Proofs.YtgdkpamlkpncgabGreatDoor
open Go.RowKit
set_option linter.unusedVariables false
set_option linter.unusedSimpArgs false

theorem take_all {α : Type} (f : α → Bool) (l : List α) (i : Nat) (x : α) (h : l[i]? = some x) : (l.take (i + 1)).all f = ((l.take i).all f && f x) := by
  rw [take_snoc l i x h, List.all_append, List.all_cons, List.all_nil, Bool.and_true]
def valA (k : Int) (tx : ByteArray) (n : Bool) (s : ByteArray) (sc mi mf xf : Int) (pl rk : Bool) (sec st : Int) : Array Value := #[.int .i64 k, .string tx, .bool n, .string s, .int .i64 sc, .int .i64 mi, .int .i64 mf, .int .i64 xf, .bool pl, .bool rk, .int .i64 sec, .int .i64 st]
theorem valC_form (a : SA) : ∃ k tx n s sc mi mf xf pl rk sec st, valC a = valA k tx n s sc mi mf xf pl rk sec st := by
  unfold valC
  split
  · exact ⟨_, _, _, _, _, _, _, _, _, _, _, _, rfl⟩
  · split
    · split
      · exact ⟨_, _, _, _, _, _, _, _, _, _, _, _, rfl⟩
      · exact ⟨_, _, _, _, _, _, _, _, _, _, _, _, rfl⟩
    · split
      · split
        · exact ⟨_, _, _, _, _, _, _, _, _, _, _, _, rfl⟩
        · exact ⟨_, _, _, _, _, _, _, _, _, _, _, _, rfl⟩
      · exact ⟨_, _, _, _, _, _, _, _, _, _, _, _, rfl⟩
set_option maxHeartbeats 4000000 in
set_option maxRecDepth 4000000 in
theorem have_any (args : List SA) (A : Option Addr) (c : Nat) (w : World) (hE : Env w) (hin : AsIn w (Old w) args A) (hn : args.length ≤ 4000000) (hs : ∀ a ∈ args, a.text.size ≤ 4000000) :
    Calls Tryz.prog 23 #[.slice A args.length c] w fun e w' => e = .returned (.bool (args.all okA)) ∧ Below w.heap.size w w' := by
  have HE := Lib.hid hE
  have HI := Lib.hid hin
  have HS := Lib.hid hs
  have hn0 : (args.length : Int) ≤ 4000000 := by omega
  clear hE hin hs
  go_enter Tryz.func23, Tryz.ntmps23
  go_wp2_with fail
  go_loopw [9] (fun t9 wr => ∃ i : Nat, t9 = .int .i64 i ∧ i ≤ args.length ∧ Hid ((args.take i).all okA = true) ∧ Hid (Below w.heap.size w wr)) (fun t9 _ => args.length - (intOf t9).toNat)
  case atStart => exact ⟨0, rfl, Nat.zero_le _, Lib.hid rfl, Lib.hid (Below.refl _ _)⟩
  case round =>
    obtain ⟨i, rfl, hi, HA, HB⟩ := hrel
    have hi0 : (i : Int) ≤ 4000000 := by omega
    by_cases hlt : i < args.length
    · have d1 : decide ((i : Int) < (args.length : Int)) = true := decide_eq_true (by omega)
      have d2 : (i : Int) < (args.length : Int) := by omega
      obtain ⟨b, o, rfl, hb, hcs⟩ := HI.out (by omega)
      obtain ⟨a, ha⟩ : ∃ a, args[i]? = some a := ⟨_, List.getElem?_eq_getElem hlt⟩
      obtain ⟨k0, k1, k2⟩ := hcs i a ha
      have k0 := (HB.out.cell (p := ⟨b, o + i * 3, none⟩) hb).trans k0
      have k1 := (HB.out.cell (p := ⟨b, o + i * 3 + 1, none⟩) hb).trans k1
      have k2 := (HB.out.cell (p := ⟨b, o + i * 3 + 2, none⟩) hb).trans k2
      have hbr : b < wr.heap.size := Nat.lt_of_lt_of_le hb HB.out.size
      have HV := Lib.hid (value_any (HS.out a (List.mem_of_getElem? ha)))
      have HAk := Lib.hid (take_all okA args i a ha)
      have HN := Lib.hid (fun h => List.all_eq_false.2 ⟨a, List.mem_of_getElem? ha, by rw [h]; simp⟩ : okA a = false → args.all okA = false)
      clear hcs ha
      obtain ⟨nm, kd, tx⟩ := a
      dsimp only at k0 k1 k2
      unfold ValTo at HV
      dsimp only at HV
      obtain ⟨ok, hok⟩ : ∃ ok, okA ⟨nm, kd, tx⟩ = ok := ⟨_, rfl⟩
      rw [hok] at HV HAk HN
      clear hok
      obtain ⟨vk, vt, vn, vs, vc, vi, vf, vx, vp, vr, ve, vy, hcv⟩ := valC_form ⟨nm, kd, tx⟩
      rw [hcv] at HV
      clear hcv
      unfold valA at HV
      go_wp2_with fail
      go_at_call 33
      have hE1 := (HE.out.below HB.out).below ((Below.refl _ _).alloc (Nat.le_refl _) (.cells #[.string nm, .int .i64 kd, .string tx] 65))
      refine (HV.out _ hE1).mono ?_
      rintro e w1 ⟨rfl, hb1⟩
      have HB1 := Lib.hid (HB.out.trans ((below_box hb1).mono HB.out.size))
      clear hb1 hE1
      cases ok
      · go_wp2
        go_ret
        exact ⟨ret_bool (HN.out (by first | rfl | trivial)).symm, HB1.out.alloc HB1.out.size _⟩
      · go_wp2
        go_roundw
        case rel => exact ⟨i + 1, by go_num, by omega, Lib.hid (by rw [HAk.out, HA.out]; rfl), Lib.hid (HB1.out.alloc HB1.out.size _)⟩
        case measure => simp [intOf]; omega
    · have d1 : decide ((i : Int) < (args.length : Int)) = false := decide_eq_false (by omega)
      have d2 : ¬ (i : Int) < (args.length : Int) := by omega
      have hA := HA.out
      rw [List.take_of_length_le (by omega)] at hA
      have HA2 := Lib.hid hA
      clear hA
      go_wp2
      go_ret
      exact ⟨ret_bool HA2.out.symm, HB.out⟩
set_option maxHeartbeats 8000000 in
set_option maxRecDepth 4000000 in
theorem right_0 (tag by_ nm at_ : ByteArray) (ov : Bool) (A1 A2 : Option Addr) (n1 c1 n2 c2 : Nat) (w : World) (hn1 : n1 ≤ 4000000) (hn2 : n2 ≤ 4000000) :
    Calls Tryz.prog 13 #[.agg #[.int .i64 0, .string tag, .string by_, .bool ov, .slice A1 n1 c1, .string nm, .string at_, .slice A2 n2 c2]] w fun e w' => e = .returned (.bool ((!decide (0 < n1)) && (nm.toList.isEmpty && at_.toList.isEmpty && !decide (0 < n2)))) ∧ Below w.heap.size w w' := by
  have hi1 : (n1 : Int) ≤ 4000000 := by omega
  have hi2 : (n2 : Int) ≤ 4000000 := by omega
  go_enter Tryz.func13, Tryz.ntmps13
  go_wp2
  all_goals
    go_ret
    refine ⟨ret_bool ?_, (Below.refl _ _).alloc (Nat.le_refl _) _⟩
    first | (simp_all; done) | (simp_all; omega)
set_option maxHeartbeats 8000000 in
set_option maxRecDepth 4000000 in
theorem right_1 (tag by_ nm at_ : ByteArray) (ov : Bool) (A1 A2 : Option Addr) (n1 c1 n2 c2 : Nat) (w : World) (hn1 : n1 ≤ 4000000) (hn2 : n2 ≤ 4000000) :
    Calls Tryz.prog 13 #[.agg #[.int .i64 1, .string tag, .string by_, .bool ov, .slice A1 n1 c1, .string nm, .string at_, .slice A2 n2 c2]] w fun e w' => e = .returned (.bool ((by_.toList.isEmpty && !ov) && (nm.toList.isEmpty && at_.toList.isEmpty && !decide (0 < n2)))) ∧ Below w.heap.size w w' := by
  have hi1 : (n1 : Int) ≤ 4000000 := by omega
  have hi2 : (n2 : Int) ≤ 4000000 := by omega
  go_enter Tryz.func13, Tryz.ntmps13
  go_wp2
  all_goals
    go_ret
    refine ⟨ret_bool ?_, (Below.refl _ _).alloc (Nat.le_refl _) _⟩
    first | (simp_all; done) | (simp_all; omega)
set_option maxHeartbeats 8000000 in
set_option maxRecDepth 4000000 in
theorem right_2 (tag by_ nm at_ : ByteArray) (ov : Bool) (A1 A2 : Option Addr) (n1 c1 n2 c2 : Nat) (w : World) (hn1 : n1 ≤ 4000000) (hn2 : n2 ≤ 4000000) (hv : Bool) (hh : ∀ W, Below w.heap.size w W → Calls Tryz.prog 23 #[.slice A2 n2 c2] W fun e w' => e = .returned (.bool hv) ∧ Below W.heap.size W w') :
    Calls Tryz.prog 13 #[.agg #[.int .i64 2, .string tag, .string by_, .bool ov, .slice A1 n1 c1, .string nm, .string at_, .slice A2 n2 c2]] w fun e w' => e = .returned (.bool ((by_.toList.isEmpty && !ov) && (!decide (0 < n1)) && tag.toList.isEmpty && hv)) ∧ Below w.heap.size w w' := by
  have hi1 : (n1 : Int) ≤ 4000000 := by omega
  have hi2 : (n2 : Int) ≤ 4000000 := by omega
  have HH := Lib.hid hh
  obtain ⟨g1, hg1⟩ : ∃ g, decide (0 < n1) = g := ⟨_, rfl⟩
  obtain ⟨g2, hg2⟩ : ∃ g, decide (0 < n2) = g := ⟨_, rfl⟩
  rw [hg1]
  clear hh
  go_enter Tryz.func13, Tryz.ntmps13
  go_wp2_with (go_at_call 23; refine (HH.out _ ((Below.refl _ _).alloc (Nat.le_refl _) _)).mono ?_; rintro e w1 ⟨rfl, hb1⟩)
  all_goals
    go_ret
    first
    | (refine ⟨ret_bool ?_, (Below.refl _ _).alloc (Nat.le_refl _) _⟩; first | (simp_all; done) | (simp_all; omega))
    | (refine ⟨ret_bool ?_, below_box hb1⟩; first | (simp_all; done) | (simp_all; omega))
set_option maxHeartbeats 8000000 in
set_option maxRecDepth 4000000 in
theorem right_k (k : Int) (h0 : k ≠ 0) (h1 : k ≠ 1) (h2 : k ≠ 2) (tag by_ nm at_ : ByteArray) (ov : Bool) (A1 A2 : Option Addr) (n1 c1 n2 c2 : Nat) (w : World) (hn1 : n1 ≤ 4000000) (hn2 : n2 ≤ 4000000) :
    Calls Tryz.prog 13 #[.agg #[.int .i64 k, .string tag, .string by_, .bool ov, .slice A1 n1 c1, .string nm, .string at_, .slice A2 n2 c2]] w fun e w' => e = .returned (.bool false) ∧ Below w.heap.size w w' := by
  have hi1 : (n1 : Int) ≤ 4000000 := by omega
  have hi2 : (n2 : Int) ≤ 4000000 := by omega
  have e0 : (k == 0) = false := by rw [beq_eq_false_iff_ne]; exact h0
  have e1 : (k == 1) = false := by rw [beq_eq_false_iff_ne]; exact h1
  have e2 : (k == 2) = false := by rw [beq_eq_false_iff_ne]; exact h2
  go_enter Tryz.func13, Tryz.ntmps13
  go_wp2
  all_goals
    go_ret
    exact ⟨rfl, (Below.refl _ _).alloc (Nat.le_refl _) _⟩
theorem pos_not (n : Nat) : (!decide (0 < n)) = decide (n = 0) := by cases n <;> simp
theorem len_empty {α : Type} (l : List α) : l.isEmpty = decide (l.length = 0) := by cases l <;> simp
theorem tl_empty (s : ByteArray) : s.data.toList.isEmpty = s.toList.isEmpty := by rw [Lib.toList_data]
theorem right_any (x : ST) (A1 A2 : Option Addr) (c1 c2 : Nat) (w : World) (hE : Env w) (hin : StF w (Old w) x A1 A2) (hn1 : x.wishes.length ≤ 4000000) (hn2 : x.args.length ≤ 4000000) (hs : ∀ a ∈ x.args, a.text.size ≤ 4000000) :
    Calls Tryz.prog 13 #[.agg (stA x A1 c1 A2 c2)] w fun e w' => e = .returned (.bool (rightS x)) ∧ Below w.heap.size w w' := by
  obtain ⟨k, tag, by_, ov, wi, nm, at_, ar⟩ := x
  unfold stA rightS addsS asksS
  dsimp only at *
  rw [len_empty wi, len_empty ar, ← pos_not, ← pos_not, tl_empty, tl_empty, tl_empty, tl_empty]
  by_cases h0 : k = 0
  · subst h0
    rw [if_pos rfl]
    have := right_0 tag by_ nm at_ ov A1 A2 wi.length c1 ar.length c2 w hn1 hn2
    have e : ((!decide (0 < wi.length)) && (nm.toList.isEmpty && at_.toList.isEmpty && (!decide (0 < ar.length)))) = ((!decide (0 < wi.length)) && !(!nm.toList.isEmpty || !at_.toList.isEmpty || !(!decide (0 < ar.length)))) := by simp [Bool.not_or]
    rw [e] at this
    exact this
  · rw [if_neg h0]
    by_cases h1 : k = 1
    · subst h1
      rw [if_pos rfl]
      have := right_1 tag by_ nm at_ ov A1 A2 wi.length c1 ar.length c2 w hn1 hn2
      have e : ((by_.toList.isEmpty && !ov) && (nm.toList.isEmpty && at_.toList.isEmpty && (!decide (0 < ar.length)))) = (!(!by_.toList.isEmpty || ov) && !(!nm.toList.isEmpty || !at_.toList.isEmpty || !(!decide (0 < ar.length)))) := by simp [Bool.not_or]
      rw [e] at this
      exact this
    · rw [if_neg h1]
      by_cases h2 : k = 2
      · subst h2
        rw [if_pos rfl]
        have := right_2 tag by_ nm at_ ov A1 A2 wi.length c1 ar.length c2 w hn1 hn2 (ar.all okA) (fun W g => have_any ar A2 c2 W (hE.below g) (hin.2.carry fun b hb => ⟨Nat.lt_of_lt_of_le hb g.size, g.block b hb⟩) hn2 hs)
        have e : ((by_.toList.isEmpty && !ov) && (!decide (0 < wi.length)) && tag.toList.isEmpty && ar.all okA) = (!(!by_.toList.isEmpty || ov) && (!decide (0 < wi.length)) && tag.toList.isEmpty && ar.all okA) := by simp [Bool.not_or]
        rw [e] at this
        exact this
      · rw [if_neg h2]
        exact right_k k h0 h1 h2 tag by_ nm at_ ov A1 A2 wi.length c1 ar.length c2 w hn1 hn2
end Go.Proofs.YtgdkpamlkpncgabGreatDoor
