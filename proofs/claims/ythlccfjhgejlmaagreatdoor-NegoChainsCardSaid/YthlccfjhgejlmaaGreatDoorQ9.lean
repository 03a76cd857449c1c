/-
  Several texts put together (part 9): what the law and the program call, walked; their contracts.
-/
import Derived.Test.YthlccfjhgejlmaaGreatDoorQ8
import Derived.Deep.RegionWith
import Derived.Deep.DrawnRows
import Derived.Deep.DeepCutAuto
namespace Go.Proofs.YthlccfjhgejlmaaGreatDoor
open Go.RowKit Go.Shelf
set_option linter.unusedVariables false
set_option linter.unusedSimpArgs false
def StandsS (W : World) (v : Value) (l : List ByteArray) : Prop :=
  ∃ b cap, v = .slice (some ⟨b, 0, none⟩) l.length cap ∧ l.length ≤ cap ∧ b < W.heap.size ∧ ∀ j, j < l.length → W.cell? ⟨b, 0 + j, none⟩ = some (.string (l.getD j ByteArray.empty))
theorem StandsS.below {A B : World} {v : Value} {l : List ByteArray} (h : StandsS A v l) (hb : Below A.heap.size A B) : StandsS B v l := by
  obtain ⟨b, cap, rfl, h1, h2, h3⟩ := h
  exact ⟨b, cap, rfl, h1, Nat.lt_of_lt_of_le h2 hb.size, fun j hj => (hb.cell (p := ⟨b, 0 + j, none⟩) h2).trans (h3 j hj)⟩
theorem StandsS.of_row {n₀ : Nat} {W : World} {v : Value} {l : List ByteArray} (h : W.ownsRow n₀ 9 1 v l.length (l.map Value.string)) (hne : l ≠ []) : StandsS W v l := by
  have h0 := h
  rcases h.2 with ⟨rfl, hz⟩ | ⟨gb, c2, cur, rfl, hbase, hgb, r1, r2, r3, r4⟩
  · exact absurd (List.eq_nil_of_length_eq_zero hz) hne
  · refine ⟨gb, c2, rfl, r1, (Array.getElem?_eq_some_iff.1 hgb).1, fun j hj => ?_⟩
    rw [← add_zero]
    refine h0.cells (g := gb) rfl j _ ?_
    rw [List.getElem?_map, List.getElem?_eq_getElem hj]
    simp [List.getD, hj]
def piecesB (L S R : ByteArray) (vs : List ByteArray) : List ByteArray := fullL [L, S, R] ++ vs
theorem piecesB_ne {L : ByteArray} (hL : L ≠ ⟨#[]⟩) (S R : ByteArray) (vs : List ByteArray) : piecesB L S R vs ≠ [] := by
  unfold piecesB fullL
  rw [List.filter_cons]
  simp [hL]
theorem piecesB_len (L S R : ByteArray) (vs : List ByteArray) : (piecesB L S R vs).length ≤ 3 + vs.length := by
  unfold piecesB
  rw [List.length_append]
  have : (fullL [L, S, R]).length ≤ 3 := List.length_filter_le _ _
  omega
def PartsTo (L S R : ByteArray) (sv : Value) (vs : List ByteArray) (W0 : World) : Prop :=
  ∀ W, Below W0.heap.size W0 W → Calls Tryz.prog 29 #[tagV L S R sv] W fun e W' => ∃ v, e = .returned v ∧ StandsS W' v (piecesB L S R vs) ∧ Below W.heap.size W W'
theorem PartsTo.of (L S R : ByteArray) (hL : L ≠ ⟨#[]⟩) (sv : Value) (vs : List ByteArray) (hvs : vs.length ≤ 1000) (W0 : World) (hI : StrsAt W0.heap.size W0 sv vs) : PartsTo L S R sv vs W0 := fun W hb =>
  (parts_any L S R sv vs hvs W (hI.later hb hb.size)).mono fun e W' ⟨v, he, hr, hb'⟩ => ⟨v, he, StandsS.of_row hr (piecesB_ne hL S R vs), hb'⟩
theorem PartsTo.at_ {L S R : ByteArray} {sv : Value} {vs : List ByteArray} {W0 : World} (h : PartsTo L S R sv vs W0) {W : World} (hb : Below W0.heap.size W0 W) : Calls Tryz.prog 29 #[tagV L S R sv] W fun e W' => ∃ v, e = .returned v ∧ StandsS W' v (piecesB L S R vs) ∧ Below W.heap.size W W' := h W hb
theorem below_drew {W w1 : World} (h : Below W.drew.heap.size W.drew w1) : Below W.heap.size W w1 := (Below.refl W.heap.size W).drew.trans h
theorem below_two {w w1 w2 : World} {o o' : Obj} (h1 : Below ((w.alloc o).alloc o').drew.heap.size ((w.alloc o).alloc o').drew w1) (h2 : Below w1.heap.size w1 w2) : Below w.heap.size w w2 := by
  have h := below_box2 (below_drew h1)
  exact below_then h (Nat.le_refl _) h2
theorem below_drewN {B : Nat} {a w : World} (h : Below B a w) (n : Nat) : Below B a (w.drewN n) := ⟨h.os, h.tape, h.output, h.size, h.block⟩
def fitsB (p q : List ByteArray) : Bool := decide (q.length ≤ p.length) && decide (p.take q.length = q.take q.length)
end Go.Proofs.YthlccfjhgejlmaaGreatDoor
