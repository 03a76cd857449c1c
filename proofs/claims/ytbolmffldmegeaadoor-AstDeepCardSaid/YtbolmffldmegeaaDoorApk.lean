/-
  Package ast: the list of questions while a builder is written; a pattern's builder while the list is.
-/
import Derived.Test.YtbolmffldmegeaaDoorAtx
import Derived.Test.YtbolmffldmegeaaDoorAln
import Derived.Test.YtbolmffldmegeaaDoorBld
namespace Go.Proofs.YtbolmffldmegeaaDoor
open Go.RowKit
set_option linter.unusedVariables false

/-- The types of the boxes that a question stands in. -/
def Kd (t : TypeId) : Prop := t = 52 ∨ t = 33 ∨ t = 105 ∨ t = 3
theorem IsQ.mono {W0 : World} {qb : Nat} {fv : Value} {q : Qn} {w w' : World} (h : IsQ W0 qb fv q w) (go : ∀ {k c t}, Kd t → BoxAt w k c t → BoxAt w' k c t) : IsQ W0 qb fv q w' := by
  match q, h with
  | .same a b, ⟨k1, k2, k3, pa, pb, e, b1, b2, b3, r⟩ => exact ⟨k1, k2, k3, pa, pb, e, go (by simp [Kd]) b1, go (by simp [Kd]) b2, go (by simp [Kd]) b3, r⟩
  | .pats a b, ⟨k1, k2, k3, x1, o1, x2, o2, u1, u2, e, b1, b2, b3, r⟩ => exact ⟨k1, k2, k3, x1, o1, x2, o2, u1, u2, e, go (by simp [Kd]) b1, go (by simp [Kd]) b2, go (by simp [Kd]) b3, r⟩
  | .may .brc a d, ⟨N, k1, k2, k3, p, d', hN, hd, hd2, e, b1, b2, b3, r⟩ => exact ⟨N, k1, k2, k3, p, d', hN, hd, hd2, e, go (by simp [Kd]) b1, go (by simp [Kd]) b2, go (by simp [Kd]) b3, r⟩
  | .may .inl a d, ⟨k1, k2, k3, p, hd, e, b1, b2, b3, r⟩ => exact ⟨k1, k2, k3, p, hd, e, go (by simp [Kd]) b1, go (by simp [Kd]) b2, go (by simp [Kd]) b3, r⟩
theorem QZip.mono {W0 : World} {qb : Nat} {w w' : World} (go : ∀ {k c t}, Kd t → BoxAt w k c t → BoxAt w' k c t) : ∀ {fs : List Value} {qs : List Qn}, QZip W0 qb w fs qs → QZip W0 qb w' fs qs
  | [], [], _ => trivial
  | f :: fs, q :: qs, h => ⟨h.1.mono go, QZip.mono go h.2⟩
  | [], q :: qs, h => h.elim
  | f :: fs, [], h => h.elim
/-- What a builder's step keeps. -/
theorem keptU_box {b : Nat} {cs : Array Value} {w w' : World} (hb : BoxAt w b cs 70) (hk : Lib.OthersKept 5 (some b) w w') {k : Nat} {c : Array Value} {t : TypeId} (h : BoxAt w k c t) (h1 : t ≠ 70) (h2 : t ≠ 5) : BoxAt w' k c t :=
  hk k _ h (by intro e; exact ne_of_box h hb h1 (Option.some.inj e)) (by intro c fz e; cases e; exact h2 rfl)
theorem QsAt.keptU {W0 : World} {qb : Nat} {qs : List Qn} {b : Nat} {cs : Array Value} {w w' : World} (h : QsAt W0 qb qs w) (hb : BoxAt w b cs 70) (hk : Lib.OthersKept 5 (some b) w w') (hB : Below W0.heap.size w w') : QsAt W0 qb qs w' := by
  obtain ⟨fvs, ⟨h1, v, h2, h3⟩, h4, h5⟩ := h
  refine ⟨fvs, ⟨h1, v, keptU_box hb hk h2 (by decide) (by decide), ?_⟩, h4.mono (fun hkd hbx => keptU_box hb hk hbx (by rcases hkd with rfl | rfl | rfl | rfl <;> decide) (by rcases hkd with rfl | rfl | rfl | rfl <;> decide)), h5.trans hB⟩
  obtain ⟨g1, g2⟩ := h3
  refine ⟨g1, ?_⟩
  rcases g2 with g2 | ⟨g, cap, cur, e, hg, hh, r⟩
  · exact .inl g2
  · exact .inr ⟨g, cap, cur, e, hg, keptU_box hb hk hh (by decide) (by decide), r⟩
/-- A step of a builder that is younger than w. -/
theorem StepQ.build {B qb n : Nat} {w w1 w2 : World} (h : StepQ B qb w w1) (hn : n = w.heap.size) (hB : B ≤ n) (hs : Below n w1 w2) : StepQ B qb w w2 :=
  ⟨h.below.trans (hs.mono hB), fun k o hk h1 h2 => (hs.block k (by rw [hn]; exact (Array.getElem?_eq_some_iff.1 hk).1)).trans (h.kept k o hk h1 h2)⟩
/-- A builder while the list is written. -/
theorem IsBuilderF.stepQ {B qb n b : Nat} {cs : Array Value} {bs : List Value} {w w' : World} (h : Lib.IsBuilderF 70 5 n b bs w) (hq : BoxAt w qb cs 46) (hs : StepQ B qb w w') : Lib.IsBuilderF 70 5 n b bs w' := by
  have go : ∀ {p : Value}, Lib.BuilderAtF 70 5 n b p bs w → Lib.BuilderAtF 70 5 n b p bs w' := by
    rintro p ⟨h1, v, h2, h3, h4⟩
    have hx : BoxAt w b #[p, v] 70 := h2
    refine ⟨h1, v, hx.step hs (ne_of_box hx hq (by decide)) (by decide), ?_, h4⟩
    obtain ⟨g1, g2⟩ := h3
    refine ⟨g1, ?_⟩
    rcases g2 with g2 | ⟨g, cap, cur, fz, e, hg, hh, r⟩
    · exact .inl g2
    · refine .inr ⟨g, cap, cur, fz, e, hg, ?_, r⟩
      have hne : g ≠ qb := by
        rintro rfl
        unfold BoxAt at hq
        rw [hh] at hq
        cases hq
      exact hs.kept g _ hh (by intro e; exact hne (Option.some.inj e)) (by intro c fz e; cases e)
  rcases h with h | h
  · exact .inl (go h)
  · exact .inr (go h)
theorem IsBuilderF.box {n b : Nat} {bs : List Value} {w : World} (h : Lib.IsBuilderF 70 5 n b bs w) : ∃ cs, BoxAt w b cs 70 := by
  rcases h with ⟨_, v, h, _⟩ | ⟨_, v, h, _⟩
  · exact ⟨_, h⟩
  · exact ⟨_, h⟩
end Go.Proofs.YtbolmffldmegeaaDoor
