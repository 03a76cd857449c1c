/-
  Package number: what is said where nothing is; signs that nobody asked for yet.
-/
import Derived.Test.YtglennfjeacpoaaGreatDoorNg
namespace Go.Proofs.YtglennfjeacpoaaGreatDoor
open Go.RowKit
set_option linter.unusedVariables false
set_option linter.unusedSimpArgs false

theorem default_any (w : World) : Calls Tryz.prog 41 #[] w fun e w' => e = .returned (.agg #[.int .i64 1, .int .i64 0, .int .i64 3, .bool false, .bool false]) ∧ Below w.heap.size w w' := by
  go_enter Tryz.func41, Tryz.ntmps41
  go_wp2
  exact bodyPost_ret (v := .agg #[.int .i64 1, .int .i64 0, .int .i64 3, .bool false, .bool false]) (by simp [results, Tryz.results41, go_sem]) rfl ⟨rfl, (Below.refl _ _).alloc (Nat.le_refl _) _⟩
theorem marks_new (w : World) : MarksAt (w.alloc (.cells #[.int .u32 0, .int .i32 0, .int .u32 0, .map none, .int .i64 0] 53)) w.heap.size false 0 :=
  ⟨.map none, BoxAt.new w _ _, fun h => by cases h⟩
end Go.Proofs.YtglennfjeacpoaaGreatDoor
