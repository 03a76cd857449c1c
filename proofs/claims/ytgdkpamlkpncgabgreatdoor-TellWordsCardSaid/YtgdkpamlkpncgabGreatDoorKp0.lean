/-
  What a call does to memory that changes one block alone.
-/
import Derived.Test.YtgdkpamlkpncgabGreatDoorBx
namespace Go.Proofs.YtgdkpamlkpncgabGreatDoor
open Go.RowKit
set_option linter.unusedVariables false

/-- Of what was there only block rb changes. -/
structure Kp (rb : Nat) (w w' : World) : Prop where
  below : Below rb w w'
  others : ∀ k, k < w.heap.size → k ≠ rb → w'.heap[k]? = w.heap[k]?
theorem Kp.size {rb : Nat} {w w' : World} (h : Kp rb w w') : w.heap.size ≤ w'.heap.size := h.below.size
theorem Kp.refl (rb : Nat) (w : World) : Kp rb w w := ⟨Below.refl _ _, fun _ _ _ => rfl⟩
theorem Kp.trans {rb : Nat} {a b c : World} (h : Kp rb a b) (k : Kp rb b c) : Kp rb a c :=
  ⟨h.below.trans k.below, fun j hj hn => (k.others j (Nat.lt_of_lt_of_le hj h.size) hn).trans (h.others j hj hn)⟩
theorem Kp.of_below {rb : Nat} {w w' : World} (hb : Below w.heap.size w w') (hr : rb ≤ w.heap.size) : Kp rb w w' := ⟨hb.mono hr, fun k hk _ => hb.block k hk⟩
theorem Kp.alloc {rb : Nat} {a w : World} (h : Kp rb a w) (hr : rb ≤ w.heap.size) (o : Obj) : Kp rb a (w.alloc o) := h.trans (Kp.of_below ((Below.refl _ _).alloc (Nat.le_refl _) _) hr)
theorem Kp.drew {rb : Nat} {a w : World} (h : Kp rb a w) : Kp rb a w.drew := ⟨h.below.drew, fun k hk hn => h.others k hk hn⟩
theorem Kp.setCell {rb : Nat} {a w : World} (h : Kp rb a w) (o : Nat) (v : Value) : Kp rb a (w.setCell ⟨rb, o, none⟩ v) :=
  ⟨h.below.setCell (p := ⟨rb, o, none⟩) (Nat.le_refl _) v, fun k hk hn => by
    rw [← h.others k hk hn]
    simp only [World.setCell]
    rw [Array.getElem?_modify, if_neg (fun e => hn e.symm)]⟩
theorem BoxAt.kp {rb : Nat} {w w' : World} {k : Nat} {cs : Array Value} {t : TypeId} (h : BoxAt w k cs t) (g : Kp rb w w') (hk : k ≠ rb) : BoxAt w' k cs t := (g.others k h.lt hk).trans h
theorem BoxAt.drew {w : World} {k : Nat} {cs : Array Value} {t : TypeId} (h : BoxAt w k cs t) : BoxAt w.drew k cs t := h
end Go.Proofs.YtgdkpamlkpncgabGreatDoor
