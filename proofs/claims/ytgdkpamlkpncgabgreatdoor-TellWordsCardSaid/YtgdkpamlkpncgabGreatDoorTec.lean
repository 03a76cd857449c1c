/-
  Package run: what is asked of no bundles.
-/
import Derived.Test.YtgdkpamlkpncgabGreatDoorTeb
namespace Go.Proofs.YtgdkpamlkpncgabGreatDoor
open Go.RowKit
set_option linter.unusedVariables false
set_option linter.unusedSimpArgs false

set_option maxHeartbeats 2000000 in
set_option maxRecDepth 100000 in
theorem rvals_none (A : Option Addr) (n : Nat) (w : World) : Calls Tryz.prog 27 #[.slice A 0 n] w fun e w' => (∃ M, e = .returned M) ∧ Below w.heap.size w w' := by
  have hmk : ∀ W : World, (Instr.makeMap 97 none).run Tryz.prog W = .ok (.map (some W.heap.size)) (W.alloc (.map #[] 0)) := fun _ => rfl
  go_enter Tryz.func27, Tryz.ntmps27
  go_wp2
  go_loopw [11] (fun t11 wr => t11 = .int .i64 0 ∧ Hid (Below w.heap.size w wr)) (fun _ _ => 0)
  case atStart => exact ⟨rfl, Lib.hid (by repeat' first | with_reducible exact Below.refl _ _ | with_reducible apply Below.drew | with_reducible apply Below.setCell | with_reducible apply Below.alloc | exact Nat.le_refl _ | (simp; done))⟩
  case round =>
    obtain ⟨rfl, HB⟩ := hrel
    go_wp2
    go_ret
    exact ⟨⟨_, rfl⟩, HB.out⟩
end Go.Proofs.YtgdkpamlkpncgabGreatDoor
