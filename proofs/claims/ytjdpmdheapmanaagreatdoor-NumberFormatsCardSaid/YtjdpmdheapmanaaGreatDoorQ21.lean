/-
  Several texts put together (part 21): what the law and the program call, walked; their contracts.
-/
import Derived.Test.YtjdpmdheapmanaaGreatDoorQ3
import Derived.Deep.QuietTactic
import Derived.BigQuiet
namespace Go.Proofs.YtjdpmdheapmanaaGreatDoor
open Go.RowKit
set_option linter.unusedVariables false
theorem default_any (w : World) : Calls Tryz.prog 7 #[] w fun e w' => e = .returned (.agg #[.int .i64 1, .int .i64 0, .int .i64 3, .bool false, .bool false]) ∧ Below w.heap.size w w' := by
  go_enter Tryz.func7, Tryz.ntmps7
  go_wp2
  exact bodyPost_ret (v := .agg #[.int .i64 1, .int .i64 0, .int .i64 3, .bool false, .bool false]) (by simp [results, Tryz.results7, go_sem]) rfl ⟨rfl, (Below.refl _ _).alloc (Nat.le_refl _) _⟩
end Go.Proofs.YtjdpmdheapmanaaGreatDoor
