/-
  Package tag: whether a tag fits another one.
-/
import Derived.Test.YtldmldgkjkgkcaaDoorTgString
import Derived.Deep.RegionWith
import Derived.Deep.DrawnRows
import Derived.Deep.DeepCutAuto
namespace Go.Proofs.YtldmldgkjkgkcaaDoor
open Go.RowKit Go.Shelf
set_option linter.unusedVariables false
set_option linter.unusedSimpArgs false

/-- A row of strings, not empty, that stands in the world. -/
def StandsS (W : World) (v : Value) (l : List ByteArray) : Prop :=
  ∃ b cap, v = .slice (some ⟨b, 0, none⟩) l.length cap ∧ l.length ≤ cap ∧ b < W.heap.size ∧ ∀ j, j < l.length → W.cell? ⟨b, 0 + j, none⟩ = some (.string (l.getD j ByteArray.empty))
theorem StandsS.below {A B : World} {v : Value} {l : List ByteArray} (h : StandsS A v l) (hb : Below A.heap.size A B) : StandsS B v l := by
  obtain ⟨b, cap, rfl, h1, h2, h3⟩ := h
  exact ⟨b, cap, rfl, h1, Nat.lt_of_lt_of_le h2 hb.size, fun j hj => (hb.cell (p := ⟨b, 0 + j, none⟩) h2).trans (h3 j hj)⟩
theorem StandsS.of_row {n₀ : Nat} {W : World} {v : Value} {l : List ByteArray} (h : W.ownsRow n₀ 9 1 v l.length (l.map Value.string)) (hne : l ≠ []) : StandsS W v l := by
  have h0 := h
  rcases h.2 with ⟨rfl, hz⟩ | ⟨gb, c2, cur, rfl, hbase, hgb, r1, r2, r3, r4⟩
  · exact absurd (List.eq_nil_of_length_eq_zero hz) hne
  · refine ⟨gb, c2, rfl, r1, (Array.getElem?_eq_some_iff.1 hgb).1, fun j hj => ?_⟩
    rw [← add_zero]
    refine h0.cells (g := gb) rfl j _ ?_
    rw [List.getElem?_map, List.getElem?_eq_getElem hj]
    simp [List.getD, hj]

/-- The pieces of a tag, as byte strings. -/
def piecesB (L S R : ByteArray) (vs : List ByteArray) : List ByteArray := fullL [L, S, R] ++ vs
theorem piecesB_ne {L : ByteArray} (hL : L ≠ ⟨#[]⟩) (S R : ByteArray) (vs : List ByteArray) : piecesB L S R vs ≠ [] := by
  unfold piecesB fullL
  rw [List.filter_cons]
  simp [hL]
theorem piecesB_len (L S R : ByteArray) (vs : List ByteArray) : (piecesB L S R vs).length ≤ 3 + vs.length := by
  unfold piecesB
  rw [List.length_append]
  have : (fullL [L, S, R]).length ≤ 3 := List.length_filter_le _ _
  omega

/-- What 'parts' gives, wherever the variants still stand. -/
def PartsTo (L S R : ByteArray) (sv : Value) (vs : List ByteArray) (W0 : World) : Prop :=
  ∀ W, Below W0.heap.size W0 W → Calls Tryd.prog 26 #[tagV L S R sv] W fun e W' => ∃ v, e = .returned v ∧ StandsS W' v (piecesB L S R vs) ∧ Below W.heap.size W W'
theorem PartsTo.of (L S R : ByteArray) (hL : L ≠ ⟨#[]⟩) (sv : Value) (vs : List ByteArray) (hvs : vs.length ≤ 1000) (W0 : World) (hI : StrsAt W0.heap.size W0 sv vs) : PartsTo L S R sv vs W0 := fun W hb =>
  (parts_any L S R sv vs hvs W (hI.later hb hb.size)).mono fun e W' ⟨v, he, hr, hb'⟩ => ⟨v, he, StandsS.of_row hr (piecesB_ne hL S R vs), hb'⟩
theorem PartsTo.at_ {L S R : ByteArray} {sv : Value} {vs : List ByteArray} {W0 : World} (h : PartsTo L S R sv vs W0) {W : World} (hb : Below W0.heap.size W0 W) : Calls Tryd.prog 26 #[tagV L S R sv] W fun e W' => ∃ v, e = .returned v ∧ StandsS W' v (piecesB L S R vs) ∧ Below W.heap.size W W' := h W hb

theorem below_drew {W w1 : World} (h : Below W.drew.heap.size W.drew w1) : Below W.heap.size W w1 := (Below.refl W.heap.size W).drew.trans h

theorem below_two {w w1 w2 : World} {o o' : Obj} (h1 : Below ((w.alloc o).alloc o').drew.heap.size ((w.alloc o).alloc o').drew w1) (h2 : Below w1.heap.size w1 w2) : Below w.heap.size w w2 := by
  have h := below_box2 (below_drew h1)
  exact below_then h (Nat.le_refl _) h2
theorem below_drewN {B : Nat} {a w : World} (h : Below B a w) (n : Nat) : Below B a (w.drewN n) := ⟨h.os, h.tape, h.output, h.size, h.block⟩

/-- Are the one's parts the first ones of the other's? -/
def fitsB (p q : List ByteArray) : Bool := decide (q.length ≤ p.length) && decide (p.take q.length = q.take q.length)

set_option maxRecDepth 100000 in
set_option maxHeartbeats 4000000 in
theorem fits_any (L S R : ByteArray) (sv : Value) (vs : List ByteArray) (L' S' R' : ByteArray) (sv' : Value) (vs' : List ByteArray) (hL : L ≠ ⟨#[]⟩) (hL' : L' ≠ ⟨#[]⟩) (hvs : vs.length ≤ 1000) (hvs' : vs'.length ≤ 1000)
    (w : World) (hI : StrsAt w.heap.size w sv vs) (hI' : StrsAt w.heap.size w sv' vs') :
    Calls Tryd.prog 12 #[tagV L S R sv, tagV L' S' R' sv'] w fun e W' => e = .returned (.bool (fitsB (piecesB L S R vs) (piecesB L' S' R' vs'))) ∧ Below w.heap.size w W' := by
  obtain ⟨A, cap, rfl⟩ := hI.out
  obtain ⟨A', cap', rfl⟩ := hI'.out
  have hb0 : Below w.heap.size w ((w.alloc (.cells #[.string L, .string S, .string R, .slice A vs.length cap] 25)).alloc (.cells #[.string L', .string S', .string R', .slice A' vs'.length cap'] 25)) := ((Below.refl _ w).alloc (Nat.le_refl _) _).alloc (by simp) _
  have P1 := PartsTo.of L S R hL _ vs hvs _ (hI.later hb0 (by simp; omega))
  have P2 := PartsTo.of L' S' R' hL' _ vs' hvs' _ (hI'.later hb0 (by simp; omega))
  have hp := piecesB_len L S R vs
  have hq := piecesB_len L' S' R' vs'
  obtain ⟨p, hpe⟩ : ∃ p, piecesB L S R vs = p := ⟨_, rfl⟩
  obtain ⟨q, hqe⟩ : ∃ q, piecesB L' S' R' vs' = q := ⟨_, rfl⟩
  unfold PartsTo at P1 P2
  rw [hpe] at P1 hp
  rw [hqe] at P2 hq
  rw [hpe, hqe]
  have H1 := Lib.hid P1
  have H2 := Lib.hid P2
  clear P1 P2 hpe hqe hI hI'
  unfold tagV at H1 H2 ⊢
  go_enter Tryd.func12, Tryd.ntmps12
  go_upto_region 1 with fail
  go_cut [5, 6] (fun a b wx => StandsS wx a p ∧ StandsS wx b q ∧ Below w.heap.size w wx)
  case first =>
    go_region_with (first
      | (go_at_call 26; (with_reducible refine (H1.out _ (Below.refl _ _).drew).mono ?_); rintro e w1 ⟨v1, rfl, s1, hb1⟩; obtain ⟨hc1, hf1⟩ := bcell hb1)
      | (go_at_call 26; (with_reducible refine (H2.out _ (Below.refl _ _).drew).mono ?_); rintro e w1 ⟨v2, rfl, s2, hb1⟩; obtain ⟨hc1, hf1⟩ := bcell hb1)
      | (go_at_call 26; (with_reducible refine (H1.out _ (below_drew hb1)).mono ?_); rintro e w2 ⟨v1, rfl, s1, hb2⟩)
      | (go_at_call 26; (with_reducible refine (H2.out _ (below_drew hb1)).mono ?_); rintro e w2 ⟨v2, rfl, s2, hb2⟩))
    all_goals
      go_wp2_with fail
      go_meet
      case rel => exact ⟨s1.below hb2, s2, below_two hb1 hb2⟩
  case rest =>
    obtain ⟨s1, s2, hb⟩ := hcut
    obtain ⟨b1, c1, rfl, r1, k1, g1⟩ := s1
    obtain ⟨b2, c2, rfl, r2, k2, g2⟩ := s2
    have cE := Tryd.slices_Equal_string b1 0 q.length c1 b2 0 q.length c2 p q wc
    clear H1 H2 hb0
    by_cases hle : q.length ≤ p.length
    · have cE := Lib.hid (cE hle (Nat.le_refl _) (by omega) (by omega) g1 g2)
      have r1' : q.length ≤ c1 := by omega
      clear g1 g2
      go_wp2_with ((go_at_call 27; refine cE.out.mono ?_; rintro e w' ⟨rfl, n, rfl⟩))
      go_ret
      exact ⟨by simp [fitsB, hle], below_drewN hb n⟩
    · clear cE g1 g2
      go_wp2_with fail
      go_ret
      exact ⟨by simp [fitsB, hle], hb⟩
end Go.Proofs.YtldmldgkjkgkcaaDoor
