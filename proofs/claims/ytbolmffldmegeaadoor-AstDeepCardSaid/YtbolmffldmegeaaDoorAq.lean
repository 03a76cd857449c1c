/-
  Package ast: the list of what is still to be asked: 'later'.
-/
import Derived.Test.YtbolmffldmegeaaDoorBase
import Derived.Lib.OthersKept
import Derived.Lib.OwnKind
import Derived.Lib.Builder
import Derived.WalkSmall
import Derived.OneCell
import Derived.Laws.EntriesVeiled
namespace Go.Proofs.YtbolmffldmegeaaDoor
open Go.RowKit
set_option linter.unusedVariables false

/-- What a call does to memory that may put questions off: below B nothing, and of what there is nothing but the list's own. -/
structure StepQ (B qb : Nat) (w w' : World) : Prop where
  below : Below B w w'
  kept : Lib.OthersKept 27 (some qb) w w'
theorem StepQ.refl (B qb : Nat) (w : World) : StepQ B qb w w := ⟨Below.refl _ _, Lib.OthersKept.refl _ _ _⟩
theorem StepQ.trans {B qb : Nat} {a b c : World} (h : StepQ B qb a b) (k : StepQ B qb b c) : StepQ B qb a c := ⟨h.below.trans k.below, h.kept.trans k.kept⟩
theorem StepQ.alloc {B qb : Nat} {a w : World} (h : StepQ B qb a w) (hB : B ≤ w.heap.size) (o : Obj) : StepQ B qb a (w.alloc o) := ⟨h.below.alloc hB o, h.kept.alloc o⟩
theorem StepQ.drew {B qb : Nat} {a w : World} (h : StepQ B qb a w) : StepQ B qb a w.drew := ⟨h.below.drew, h.kept.drew⟩
theorem StepQ.size {B qb : Nat} {a w : World} (h : StepQ B qb a w) : a.heap.size ≤ w.heap.size := h.below.size
/-- A block of the call's own, or of anything's, that is no list's. -/
def BoxAt (w : World) (k : Nat) (cs : Array Value) (t : TypeId) : Prop := w.heap[k]? = some (.cells cs t (0, 0))
theorem BoxAt.lt {w : World} {k : Nat} {cs : Array Value} {t : TypeId} (h : BoxAt w k cs t) : k < w.heap.size := (Array.getElem?_eq_some_iff.1 h).1
theorem BoxAt.step {B qb : Nat} {w w' : World} {k : Nat} {cs : Array Value} {t : TypeId} (h : BoxAt w k cs t) (hs : StepQ B qb w w') (hk : k ≠ qb) (ht : t ≠ 27) : BoxAt w' k cs t :=
  hs.kept k _ h (by intro e; exact hk (Option.some.inj e)) (by intro c fz e; cases e; exact ht rfl)
theorem BoxAt.cell {w : World} {k : Nat} {cs : Array Value} {t : TypeId} (h : BoxAt w k cs t) (o : Nat) : w.cell? ⟨k, o, none⟩ = cs[o]? := by
  rw [Lib.cell_of_heap h]
theorem BoxAt.new (w : World) (cs : Array Value) (t : TypeId) : BoxAt (w.alloc (.cells cs t)) w.heap.size cs t := by
  show (w.heap.push _)[w.heap.size]? = _
  simp
theorem BoxAt.alloc {w : World} {k : Nat} {cs : Array Value} {t : TypeId} (h : BoxAt w k cs t) (o : Obj) : BoxAt (w.alloc o) k cs t :=
  (Lib.alloc_old w o k h.lt).trans h

/-- The list at block qb. -/
def QAt (B qb : Nat) (fvs : List Value) (w : World) : Prop :=
  B ≤ qb ∧ ∃ v, BoxAt w qb #[v] 46 ∧ w.ownsRow B 27 1 v fvs.length fvs
theorem QAt.alloc {B qb : Nat} {fvs : List Value} {w : World} (h : QAt B qb fvs w) (o : Obj) : QAt B qb fvs (w.alloc o) := by
  obtain ⟨hB, v, hb, ho⟩ := h
  exact ⟨hB, v, hb.alloc o, ho.alloc o⟩
theorem QAt.drew {B qb : Nat} {fvs : List Value} {w : World} (h : QAt B qb fvs w) : QAt B qb fvs w.drew := h
theorem QAt.lt {B qb : Nat} {fvs : List Value} {w : World} (h : QAt B qb fvs w) : qb < w.heap.size := by
  obtain ⟨hB, v, hb, ho⟩ := h
  exact hb.lt
theorem infoFn : (Tryd.prog.info? 27).map (fun i => (i.zero, i.size, i.bytes)) = some (some .nilFunc, 1, 8) := by kernel_rfl
end Go.Proofs.YtbolmffldmegeaaDoor
