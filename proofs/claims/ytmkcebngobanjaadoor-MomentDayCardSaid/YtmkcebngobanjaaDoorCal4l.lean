/-
  Contracts of the law's own: leap, days.
-/
import Derived.Test.YtmkcebngobanjaaDoorCal3
namespace Go.Proofs.YtmkcebngobanjaaDoor
open Go.RowKit

theorem lp4 {y : Int} (h : y.tmod 400 = 0) : true = lpB y := by
  rw [tmod_iff] at h
  rw [Bool.eq_iff_iff, lpB_iff]
  simp
  omega
theorem lp5 {y : Int} (h : ¬ y.tmod 400 = 0) (h4 : y.tmod 4 = 0) : (y.tmod 100 != 0) = lpB y := by
  rw [tmod_iff] at h h4
  rw [tmod_zero', Bool.eq_iff_iff, lpB_iff, bne_iff_ne]
  omega
theorem lp6 {y : Int} (h4 : ¬ y.tmod 4 = 0) : false = lpB y := lp3 h4
theorem lleap_any (y : Int) (w : World) :
    Calls Tryd.prog 24 #[.int .i64 y] w fun e w' => e = .returned (.bool (lpB y)) ∧ w = w' := by
  go_enter Tryd.func24, Tryd.ntmps24
  go_wp2
  · go_ret
    exact ⟨ret_bool (lp4 (by simpa using (‹(y.tmod 400 == 0) = true› : (y.tmod 400 == 0) = true))), rfl⟩
  · go_ret
    exact ⟨ret_bool (lp5 (by simpa using (‹(y.tmod 400 == 0) = false› : (y.tmod 400 == 0) = false)) ‹_›), rfl⟩
  · go_ret
    exact ⟨ret_bool (lp6 ‹_›), rfl⟩
set_option maxHeartbeats 4000000 in
theorem ldays_any (y m : Int) (w : World) :
    Calls Tryd.prog 25 #[.int .i64 y, .int .i64 m] w fun e w' => e = .returned (.int .i64 (dimI y m)) ∧ Below w.heap.size w w' := by
  by_cases hlo : m < 1
  · have e := dim_none y m (.inl hlo)
    rw [e]
    clear e
    go_enter Tryd.func25, Tryd.ntmps25
    go_wp2
    go_ret
    exact ⟨rfl, Below.refl _ _⟩
  by_cases hhi : 12 < m
  · have e := dim_none y m (.inr hhi)
    rw [e]
    clear e
    go_enter Tryd.func25, Tryd.ntmps25
    go_wp2
    go_ret
    exact ⟨rfl, Below.refl _ _⟩
  have : m = 1 ∨ m = 2 ∨ m = 3 ∨ m = 4 ∨ m = 5 ∨ m = 6 ∨ m = 7 ∨ m = 8 ∨ m = 9 ∨ m = 10 ∨ m = 11 ∨ m = 12 := by omega
  clear hlo hhi
  rcases this with rfl | rfl | rfl | rfl | rfl | rfl | rfl | rfl | rfl | rfl | rfl | rfl
  case inr.inl =>
    have e : dimI y 2 = 28 + lpI y := by simp [dimI]
    rw [e]
    have hl : lpI y = if lpB y = true then 1 else 0 := rfl
    have Hl := Lib.hid hl
    clear e hl
    cases hb : lpB y
    all_goals
      have Hb := Lib.hid hb
      go_enter Tryd.func25, Tryd.ntmps25
      go_wp2_with (go_at_call 24; refine (lleap_any y _).mono ?_; rw [Hb.out]; rintro e w' ⟨rfl, rfl⟩)
      go_ret
      exact ⟨ret_int (by rw [Hl.out, Hb.out]; rfl), (Below.refl _ _).alloc (Nat.le_refl _) _⟩
  all_goals
    first | rw [show dimI y 1 = 31 by simp [dimI]] | rw [show dimI y 3 = 31 by simp [dimI]] | rw [show dimI y 4 = 30 by simp [dimI]] | rw [show dimI y 5 = 31 by simp [dimI]] | rw [show dimI y 6 = 30 by simp [dimI]] | rw [show dimI y 7 = 31 by simp [dimI]] | rw [show dimI y 8 = 31 by simp [dimI]] | rw [show dimI y 9 = 30 by simp [dimI]] | rw [show dimI y 10 = 31 by simp [dimI]] | rw [show dimI y 11 = 30 by simp [dimI]] | rw [show dimI y 12 = 31 by simp [dimI]]
    go_enter Tryd.func25, Tryd.ntmps25
    go_wp2
    go_ret
    exact ⟨rfl, (Below.refl _ _).alloc (Nat.le_refl _) _⟩
end Go.Proofs.YtmkcebngobanjaaDoor
