import Derived.Test.YtglennfjeacpoaaGreatDoorA2
import Derived.Test.YtglennfjeacpoaaGreatDoorShelf
import Derived.Lib.RabinKarpLaws
namespace Go.Proofs.YtglennfjeacpoaaGreatDoor
open Go.RowKit

set_option maxHeartbeats 400000 in
theorem zero_any (neg : Bool) (s : ByteArray) (sc : Int) (w : World) (hs : s.size ≤ maxLen) :
    Calls Tryz.prog 39 #[.agg #[.bool neg, .string s, .int .i64 sc]] w fun e w' => e = .returned (.bool (Lib.trimB s.data.toList 48).isEmpty) ∧ Below w.heap.size w w' := by
  unfold maxLen at hs
  go_enter Tryz.func39, Tryz.ntmps39
  go_wp2_with (go_at_call 80; refine (Tryz.strings_Trim_one s 48 (by decide) _ (by omega)).mono ?_; rintro e w1 ⟨rfl, hw1⟩)
  go_ret
  refine ⟨ret_bool ?_, ?_⟩
  · simp
  · rcases hw1 with rfl | rfl
    · exact (Below.refl _ _).alloc (Nat.le_refl _) _
    · exact ((Below.refl _ _).alloc (Nat.le_refl _) _).drew

end Go.Proofs.YtglennfjeacpoaaGreatDoor
