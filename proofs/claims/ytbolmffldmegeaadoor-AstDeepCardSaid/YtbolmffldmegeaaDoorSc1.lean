/-
  Contracts of package scan: what a byte is, isWithin, behind.
-/
import Derived.Test.YtbolmffldmegeaaDoorBase
import Derived.Test.YtbolmffldmegeaaDoorScMath
namespace Go.Proofs.YtbolmffldmegeaaDoor
open Go.RowKit

theorem within_yes (s : ByteArray) (i : Int) (w : World) (h0 : 0 ≤ i) (h1 : i < s.size) : Calls Tryd.prog 56 #[.string s, .int .i64 i] w fun e w' => e = .returned (.bool true) ∧ w = w' := by
  go_enter Tryd.func56, Tryd.ntmps56
  go_wp2
  go_ret
  exact ⟨rfl, rfl⟩
theorem within_no (s : ByteArray) (i : Int) (w : World) (h : i < 0 ∨ (s.size : Int) ≤ i) : Calls Tryd.prog 56 #[.string s, .int .i64 i] w fun e w' => e = .returned (.bool false) ∧ w = w' := by
  by_cases h0 : 0 ≤ i
  · have h1 : ¬ i < s.size := by omega
    go_enter Tryd.func56, Tryd.ntmps56
    go_wp2
    go_ret
    exact ⟨rfl, rfl⟩
  · go_enter Tryd.func56, Tryd.ntmps56
    go_wp2
    go_ret
    exact ⟨rfl, rfl⟩
theorem capital_any (c : UInt8) (w : World) : Calls Tryd.prog 74 #[.int .u8 (c.toNat : Int)] w fun e w' => e = .returned (.bool (caB c)) ∧ w = w' := by
  by_cases h : (65 : Int) ≤ (c.toNat : Int)
  all_goals
    go_enter Tryd.func74, Tryd.ntmps74
    go_wp2
    go_ret
    refine ⟨ret_bool ?_, rfl⟩
    rw [Bool.eq_iff_iff]
    simp [caB]
    omega
theorem digit_any (c : UInt8) (w : World) : Calls Tryd.prog 60 #[.int .u8 (c.toNat : Int)] w fun e w' => e = .returned (.bool (dgB c)) ∧ w = w' := by
  by_cases h : (48 : Int) ≤ (c.toNat : Int)
  all_goals
    go_enter Tryd.func60, Tryd.ntmps60
    go_wp2
    go_ret
    refine ⟨ret_bool ?_, rfl⟩
    rw [Bool.eq_iff_iff]
    simp [dgB]
    omega
theorem joint_any (c : UInt8) (w : World) : Calls Tryd.prog 61 #[.int .u8 (c.toNat : Int)] w fun e w' => e = .returned (.bool (joB c)) ∧ w = w' := by
  go_enter Tryd.func61, Tryd.ntmps61
  go_wp2
  all_goals
    go_ret
    refine ⟨ret_bool ?_, rfl⟩
    rw [Bool.eq_iff_iff]
    simp [joB, *]
theorem letter_any (c : UInt8) (w : World) : Calls Tryd.prog 57 #[.int .u8 (c.toNat : Int)] w fun e w' => e = .returned (.bool (leB c)) ∧ w = w' := by
  by_cases h1 : (97 : Int) ≤ (c.toNat : Int)
  · by_cases h2 : (c.toNat : Int) ≤ 122
    · go_enter Tryd.func57, Tryd.ntmps57
      go_wp2_with (go_at_call 74; refine (capital_any c _).mono ?_; rintro e w' ⟨rfl, rfl⟩)
      go_ret
      refine ⟨ret_bool ?_, rfl⟩
      simp [leB, h1, h2]
    · have hb : decide ((c.toNat : Int) ≤ 122) = false := by simp; omega
      go_enter Tryd.func57, Tryd.ntmps57
      go_wp2_with (go_at_call 74; refine (capital_any c _).mono ?_; rintro e w' ⟨rfl, rfl⟩)
      go_ret
      refine ⟨ret_bool ?_, rfl⟩
      simp only [leB, caB]
      rw [Bool.eq_iff_iff]
      simp
      omega
  · go_enter Tryd.func57, Tryd.ntmps57
    go_wp2_with (go_at_call 74; refine (capital_any c _).mono ?_; rintro e w' ⟨rfl, rfl⟩)
    go_ret
    refine ⟨ret_bool ?_, rfl⟩
    simp only [leB, caB]
    rw [Bool.eq_iff_iff]
    simp
    omega

/-- A function value that tells of a byte whether it is such. -/
def Tells (N : FuncId) (p : UInt8 → Bool) : Prop := ∀ (c : UInt8) (w : World), Calls Tryd.prog N #[.int .u8 (c.toNat : Int)] w fun e w' => e = .returned (.bool (p c)) ∧ w = w'
theorem tells_digit : Tells 60 dgB := digit_any
theorem tells_space : Tells 88 spB := fun c w => by
  go_enter Tryd.func88, Tryd.ntmps88
  go_wp2
  all_goals
    go_ret
    refine ⟨ret_bool ?_, rfl⟩
    rw [Bool.eq_iff_iff]
    simp [spB, *]
theorem tells_blank : Tells 86 blB := fun c w => by
  go_enter Tryd.func86, Tryd.ntmps86
  go_wp2
  all_goals
    go_ret
    refine ⟨ret_bool ?_, rfl⟩
    rw [Bool.eq_iff_iff]
    simp [blB, *]
theorem tells_name : Tells 59 naB := fun c w => by
  cases h1 : leB c
  · cases h2 : dgB c
    · go_enter Tryd.func59, Tryd.ntmps59
      go_wp2_with (first | (go_at_call 57; refine (letter_any c _).mono ?_; rw [h1]; rintro e w' ⟨rfl, rfl⟩) | (go_at_call 60; refine (digit_any c _).mono ?_; rw [h2]; rintro e w' ⟨rfl, rfl⟩) | (go_at_call 61; refine (joint_any c _).mono ?_; rintro e w' ⟨rfl, rfl⟩))
      go_ret
      exact ⟨ret_bool (by simp [naB, h1, h2]), rfl⟩
    · go_enter Tryd.func59, Tryd.ntmps59
      go_wp2_with (first | (go_at_call 57; refine (letter_any c _).mono ?_; rw [h1]; rintro e w' ⟨rfl, rfl⟩) | (go_at_call 60; refine (digit_any c _).mono ?_; rw [h2]; rintro e w' ⟨rfl, rfl⟩) | (go_at_call 61; refine (joint_any c _).mono ?_; rintro e w' ⟨rfl, rfl⟩))
      go_ret
      exact ⟨ret_bool (by simp [naB, h1, h2]), rfl⟩
  · go_enter Tryd.func59, Tryd.ntmps59
    go_wp2_with (first | (go_at_call 57; refine (letter_any c _).mono ?_; rw [h1]; rintro e w' ⟨rfl, rfl⟩) | (go_at_call 60; refine (digit_any c _).mono ?_; rintro e w' ⟨rfl, rfl⟩) | (go_at_call 61; refine (joint_any c _).mono ?_; rintro e w' ⟨rfl, rfl⟩))
    go_ret
    exact ⟨ret_bool (by simp [naB, h1]), rfl⟩
theorem tells_big : Tells 99 biB := fun c w => by
  cases h1 : caB c
  · cases h2 : dgB c
    · go_enter Tryd.func99, Tryd.ntmps99
      go_wp2_with (first | (go_at_call 74; refine (capital_any c _).mono ?_; rw [h1]; rintro e w' ⟨rfl, rfl⟩) | (go_at_call 60; refine (digit_any c _).mono ?_; rw [h2]; rintro e w' ⟨rfl, rfl⟩) | (go_at_call 61; refine (joint_any c _).mono ?_; rintro e w' ⟨rfl, rfl⟩))
      go_ret
      exact ⟨ret_bool (by simp [biB, h1, h2]), rfl⟩
    · go_enter Tryd.func99, Tryd.ntmps99
      go_wp2_with (first | (go_at_call 74; refine (capital_any c _).mono ?_; rw [h1]; rintro e w' ⟨rfl, rfl⟩) | (go_at_call 60; refine (digit_any c _).mono ?_; rw [h2]; rintro e w' ⟨rfl, rfl⟩) | (go_at_call 61; refine (joint_any c _).mono ?_; rintro e w' ⟨rfl, rfl⟩))
      go_ret
      exact ⟨ret_bool (by simp [biB, h1, h2]), rfl⟩
  · go_enter Tryd.func99, Tryd.ntmps99
    go_wp2_with (first | (go_at_call 74; refine (capital_any c _).mono ?_; rw [h1]; rintro e w' ⟨rfl, rfl⟩) | (go_at_call 60; refine (digit_any c _).mono ?_; rintro e w' ⟨rfl, rfl⟩) | (go_at_call 61; refine (joint_any c _).mono ?_; rintro e w' ⟨rfl, rfl⟩))
    go_ret
    exact ⟨ret_bool (by simp [biB, h1]), rfl⟩

end Go.Proofs.YtbolmffldmegeaaDoor
