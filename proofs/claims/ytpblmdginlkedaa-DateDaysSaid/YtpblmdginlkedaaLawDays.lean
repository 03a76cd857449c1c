/-
  DateDays: whatever year and month: whether the year has a day more, and how many days the month has, are what the law reckons. No condition.
-/
import Derived.Test.YtpblmdginlkedaaCal4
namespace Go.Proofs.Ytpblmdginlkedaa
open Go.RowKit

set_option maxHeartbeats 1000000 in
theorem lawDays (y m : Int) (w : World) : Calls Try.prog 5 #[.int .i64 y, .int .i64 m] w fun e w' => e = .returned (.bool true) ∧ Below w.heap.size w w' := by
  go_enter Try.func5, Try.ntmps5
  go_wp2_with (first | (go_at_call 7; refine (head_any _).mono ?_; rintro e w1 ⟨rfl, hb1⟩) | (go_at_call 12; refine (leap_any _ _).mono ?_; rintro e w2 ⟨rfl, rfl⟩) | (go_at_call 13; refine (lleap_any _ _).mono ?_; rintro e w3 ⟨rfl, rfl⟩) | (go_at_call 11; refine (days_any _ _ _).mono ?_; rintro e w4 ⟨rfl, rfl⟩) | (go_at_call 14; refine (ldays_any _ _ _).mono ?_; rintro e w5 ⟨rfl, hb5⟩))
  go_ret
  have L := Nat.le_refl w.heap.size
  exact ⟨rfl, below_then hb1 L hb5⟩
end Go.Proofs.Ytpblmdginlkedaa
