/-
  Several texts put together (part 22): what the law and the program call, walked; their contracts.
-/
import Derived.Test.YtpgiboblonlddaaGreatDoorQ21
import Derived.Deep.RegionWith
import Derived.RegionTactic
namespace Go.Proofs.YtpgiboblonlddaaGreatDoor
open Go.RowKit Go.ChangeMaps
set_option linter.unusedVariables false
set_option linter.unusedSimpArgs false
theorem app_data (a b : ByteArray) : (a ++ b).data.toList = a.data.toList ++ b.data.toList := by simp
set_option maxHeartbeats 2000000 in
theorem joined_any (n a : ByteArray) (w : World) (hs : n.size + a.size ≤ 1000000000) : Calls Tryz.prog 26 #[.string n, .string a] w fun e w' => e = .returned (.string (joinN n a)) ∧ w' = w := by
  by_cases hz : a.size = 0
  · have z0 : a.toList = [] := by
      rw [Lib.toList_data]
      exact List.eq_nil_of_length_eq_zero (by rw [size_data]; exact hz)
    have z2 : (a.toList == []) = true := by rw [z0]; rfl
    have z3 : a.toList.isEmpty = true := by rw [z0]; rfl
    have e1 : joinN n a = n := if_pos hz
    rw [e1]
    clear z0 hz e1
    go_enter Tryz.func26, Tryz.ntmps26
    go_wp2
    go_ret
    exact ⟨rfl, rfl⟩
  · have z0 : ¬ a.toList = [] := by
      rw [Lib.toList_data]
      intro h
      apply hz
      rw [← size_data, h]
      rfl
    have z2 : (a.toList == []) = false := beq_eq_false_iff_ne.2 z0
    have z3 : a.toList.isEmpty = false := by
      cases h : a.toList with
      | nil => exact absurd h z0
      | cons x r => rfl
    have e1 : joinN n a = ⟨(n.data.toList ++ 46 :: a.data.toList).toArray⟩ := if_neg hz
    rw [e1]
    have h1 : ¬ 9223372036854775807 < n.size + 1 + a.size := by omega
    have h2 : ¬ 9223372036854775807 < n.size + 1 := by omega
    have h1i : ¬ (9223372036854775807 : Int) < (n.size : Int) + 1 + (a.size : Int) := by omega
    have h2i : ¬ (9223372036854775807 : Int) < (n.size : Int) + 1 := by omega
    clear z0 hz e1
    go_enter Tryz.func26, Tryz.ntmps26
    go_wp2
    go_ret
    refine ⟨ret_str (bytes_eq ?_), rfl⟩
    simp [app_data]
theorem joinN_size (n a : ByteArray) : (joinN n a).size ≤ n.size + a.size + 1 := by
  unfold joinN
  split
  · omega
  · rw [size_mk]
    simp
    omega
set_option maxHeartbeats 4000000 in
set_option maxRecDepth 100000 in
theorem nameOf_any (k : Int) (n a : ByteArray) (b o : Nat) (W : World) (c0 : W.cell? ⟨b, o, none⟩ = some (.int .i64 k)) (c2 : W.cell? ⟨b, o + 2, none⟩ = some (.string n)) (c3 : W.cell? ⟨b, o + 3, none⟩ = some (.string a)) (hs : n.size + a.size ≤ 900000000) :
    Calls Tryz.prog 146 #[.pointer (some ⟨b, o, none⟩)] W fun e w' => e = .returned (.string (nameK k n a)) ∧ Below W.heap.size W w' := by
  have HJ := Lib.hid (fun V => joined_any n a V (by omega))
  have hj := joinN_size n a
  by_cases k2 : k = 2
  · have e1 : nameK k n a = ⟨(36 :: n.data.toList).toArray⟩ := if_pos k2
    rw [e1]
    have f2 : (k == 2) = true := beq_iff_eq.2 k2
    have h2 : ¬ 9223372036854775807 < 1 + n.size := by omega
    have h2i : ¬ (9223372036854775807 : Int) < 1 + (n.size : Int) := by omega
    clear e1 k2
    go_enter Tryz.func146, Tryz.ntmps146
    go_wp2
    go_ret
    refine ⟨ret_str (bytes_eq ?_), Below.refl _ _⟩
    simp [app_data]
  have f2 : (k == 2) = false := beq_eq_false_iff_ne.2 k2
  by_cases k3 : k = 3
  · have e1 : nameK k n a = joinN n a := by unfold nameK; rw [if_neg k2, if_pos k3]
    rw [e1]
    have f3 : (k == 3) = true := beq_iff_eq.2 k3
    clear e1 k2 k3
    go_enter Tryz.func146, Tryz.ntmps146
    go_wp2_with fail
    go_region_with (go_at_call 26; refine (HJ.out _).mono ?_; rintro e w1 ⟨rfl, rfl⟩)
    all_goals
      go_wp2
      go_ret
      exact ⟨rfl, (Below.refl _ _).drew⟩
  have f3 : (k == 3) = false := beq_eq_false_iff_ne.2 k3
  by_cases k4 : k = 4
  · have e1 : nameK k n a = ⟨(45 :: (joinN n a).data.toList).toArray⟩ := by unfold nameK; rw [if_neg k2, if_neg k3, if_pos k4]
    rw [e1]
    have f4 : (k == 4) = true := beq_iff_eq.2 k4
    obtain ⟨jn, hjn⟩ : ∃ j, joinN n a = j := ⟨_, rfl⟩
    rw [hjn] at HJ hj ⊢
    have h2 : ¬ 9223372036854775807 < 1 + jn.size := by omega
    have h2i : ¬ (9223372036854775807 : Int) < 1 + (jn.size : Int) := by omega
    clear e1 k2 k3 k4 hjn
    go_enter Tryz.func146, Tryz.ntmps146
    go_wp2_with fail
    go_region_with (go_at_call 26; refine (HJ.out _).mono ?_; rintro e w1 ⟨rfl, rfl⟩)
    all_goals
      go_wp2
      go_ret
      refine ⟨ret_str (bytes_eq ?_), (Below.refl _ _).drew⟩
      simp [app_data]
  have f4 : (k == 4) = false := beq_eq_false_iff_ne.2 k4
  by_cases k5 : k = 5
  · have e1 : nameK k n a = ⟨(n.data.toList ++ [40, 41]).toArray⟩ := by unfold nameK; rw [if_neg k2, if_neg k3, if_neg k4, if_pos k5]
    rw [e1]
    have f5 : (k == 5) = true := beq_iff_eq.2 k5
    have h2 : ¬ 9223372036854775807 < n.size + 2 := by omega
    have h2i : ¬ (9223372036854775807 : Int) < (n.size : Int) + 2 := by omega
    clear e1 k2 k3 k4 k5
    go_enter Tryz.func146, Tryz.ntmps146
    go_wp2
    go_ret
    refine ⟨ret_str (bytes_eq ?_), Below.refl _ _⟩
    simp [app_data]
  have f5 : (k == 5) = false := beq_eq_false_iff_ne.2 k5
  have e1 : nameK k n a = ⟨#[]⟩ := by unfold nameK; rw [if_neg k2, if_neg k3, if_neg k4, if_neg k5]
  rw [e1]
  clear e1 k2 k3 k4 k5
  go_enter Tryz.func146, Tryz.ntmps146
  go_wp2
  go_ret
  exact ⟨rfl, Below.refl _ _⟩
end Go.Proofs.YtpgiboblonlddaaGreatDoor
