/-
  Package ast: of the same cells there is one tree; a tree is the same as itself; elements by their place.
-/
import Derived.Test.YtbolmffldmegeaaDoorAqn
namespace Go.Proofs.YtbolmffldmegeaaDoor
open Go.RowKit
set_option linter.unusedVariables false

mutual
theorem sameE_refl : ∀ e : EX, sameE e e = true
  | .mk k t n a al i vs => by
    rw [sameE, sameAs_refl al, sameO_refl i, sameVs_refl vs]
    simp
theorem sameAs_refl : ∀ l : List AR, sameAs l l = true
  | [] => by rw [sameAs]
  | .mk n e :: r => by rw [sameAs, sameE_refl e, sameAs_refl r]; simp
theorem sameO_refl : ∀ i : Option EX, sameO i i = true
  | none => by rw [sameO]
  | some e => by rw [sameO]; exact sameE_refl e
theorem sameVs_refl : ∀ l : List VA, sameVs l l = true
  | [] => by rw [sameVs]
  | .mk n d v :: r => by rw [sameVs, sameEs_refl v, sameVs_refl r]; simp
theorem sameEs_refl : ∀ l : List EL, sameEs l l = true
  | [] => by rw [sameEs]
  | .mk n p :: r => by rw [sameEs, sameO_refl p, sameEs_refl r]; simp
end

theorem CellsAt.uniq {W : World} {b o : Nat} {c c' : C7} (h : CellsAt W b o c) (h' : CellsAt W b o c') : c = c' := by
  obtain ⟨h0, h1, h2, h3, h4, h5, h6⟩ := h
  obtain ⟨g0, g1, g2, g3, g4, g5, g6⟩ := h'
  cases c; cases c'
  simp_all
theorem LieAt.uniqLen {P Q : Nat → Nat → Prop} {v : Value} {n m : Nat} (h : LieAt P v n) (h' : LieAt Q v m) : n = m := by
  obtain ⟨A, c, e, _⟩ := h
  obtain ⟨A', c', e', _⟩ := h'
  rw [e] at e'
  cases e'; rfl
mutual
theorem ExAt.uniq {W : World} : ∀ (e e' : EX) (c : C7), ExAt W e c → ExAt W e' c → e = e'
  | .mk k t n a al i vs, .mk k' t' n' a' al' i' vs', c, h, h' => by
    rw [ExAt] at h h'
    obtain ⟨h1, h2, h3, h4, h5, h6, h7⟩ := h
    obtain ⟨g1, g2, g3, g4, g5, g6, g7⟩ := h'
    have el := h5.uniqLen g5
    have vl := h7.uniqLen g7
    have ea : al = al' := by
      obtain ⟨A, q, e1, _, _, r1⟩ := h5
      obtain ⟨A', q', e2, _, _, r2⟩ := g5
      rw [e1] at e2
      injection e2 with e2 _ _
      subst e2
      by_cases h0 : 0 < al.length
      · obtain ⟨b, o, e3, p1⟩ := r1 h0
        obtain ⟨b', o', e4, p2⟩ := r2 (by omega)
        rw [e3] at e4
        cases e4
        exact AsAt.uniq al al' b o el p1 p2
      · rw [List.eq_nil_of_length_eq_zero (by omega : al.length = 0), List.eq_nil_of_length_eq_zero (by omega : al'.length = 0)]
    have ev : vs = vs' := by
      obtain ⟨A, q, e1, _, _, r1⟩ := h7
      obtain ⟨A', q', e2, _, _, r2⟩ := g7
      rw [e1] at e2
      injection e2 with e2 _ _
      subst e2
      by_cases h0 : 0 < vs.length
      · obtain ⟨b, o, e3, p1⟩ := r1 h0
        obtain ⟨b', o', e4, p2⟩ := r2 (by omega)
        rw [e3] at e4
        cases e4
        exact VsAt.uniq vs vs' b o vl p1 p2
      · rw [List.eq_nil_of_length_eq_zero (by omega : vs.length = 0), List.eq_nil_of_length_eq_zero (by omega : vs'.length = 0)]
    have ei := OAt.uniq i i' _ h6 g6
    rw [h1] at g1; rw [h2] at g2; rw [h3] at g3; rw [h4] at g4
    cases g1; cases g2; cases g3; cases g4
    rw [ea, ev, ei]
theorem OAt.uniq {W : World} : ∀ (i i' : Option EX) (v : Value), OAt W i v → OAt W i' v → i = i'
  | none, none, v, h, h' => rfl
  | none, some e, v, h, h' => by
    simp only [OAt] at h h'
    obtain ⟨b, o, c, e, _⟩ := h'
    rw [h] at e; cases e
  | some e, none, v, h, h' => by
    simp only [OAt] at h h'
    obtain ⟨b, o, c, e, _⟩ := h
    rw [h'] at e; cases e
  | some e, some e', v, h, h' => by
    simp only [OAt] at h h'
    obtain ⟨b, o, c, e1, _, h1, h2⟩ := h
    obtain ⟨b', o', c', e2, _, g1, g2⟩ := h'
    rw [e1] at e2
    cases e2
    obtain rfl := h1.uniq g1
    rw [ExAt.uniq e e' c h2 g2]
theorem AsAt.uniq {W : World} : ∀ (l l' : List AR) (b o : Nat), l.length = l'.length → AsAt W l b o → AsAt W l' b o → l = l'
  | [], [], b, o, _, _, _ => rfl
  | [], _ :: _, b, o, hl, _, _ => by simp at hl
  | _ :: _, [], b, o, hl, _, _ => by simp at hl
  | .mk n e :: r, .mk n' e' :: r', b, o, hl, h, h' => by
    rw [AsAt] at h h'
    obtain ⟨_, h1, ⟨c, h2, h3⟩, h4⟩ := h
    obtain ⟨_, g1, ⟨c', g2, g3⟩, g4⟩ := h'
    obtain rfl := h2.uniq g2
    rw [h1] at g1
    cases g1
    rw [ExAt.uniq e e' c h3 g3, AsAt.uniq r r' b (o + 8) (by simpa using hl) h4 g4]
theorem VsAt.uniq {W : World} : ∀ (l l' : List VA) (b o : Nat), l.length = l'.length → VsAt W l b o → VsAt W l' b o → l = l'
  | [], [], b, o, _, _, _ => rfl
  | [], _ :: _, b, o, hl, _, _ => by simp at hl
  | _ :: _, [], b, o, hl, _, _ => by simp at hl
  | .mk n d v :: r, .mk n' d' v' :: r', b, o, hl, h, h' => by
    rw [VsAt] at h h'
    obtain ⟨_, h1, hd, ⟨c, h2, h3⟩, h4⟩ := h
    obtain ⟨_, g1, gd, ⟨c', g2, g3⟩, g4⟩ := h'
    rw [h2] at g2
    cases g2
    rw [h1] at g1
    cases g1
    rw [hd] at gd
    cases gd
    have hv := h3.uniqLen g3
    have ev : v = v' := by
      obtain ⟨A, q, e1, _, _, r1⟩ := h3
      obtain ⟨A', q', e2, _, _, r2⟩ := g3
      rw [e1] at e2
      injection e2 with e2 _ _
      subst e2
      by_cases h0 : 0 < v.length
      · obtain ⟨b, o, e3, p1⟩ := r1 h0
        obtain ⟨b', o', e4, p2⟩ := r2 (by omega)
        rw [e3] at e4
        cases e4
        exact EsAt.uniq v v' b o hv p1 p2
      · rw [List.eq_nil_of_length_eq_zero (by omega : v.length = 0), List.eq_nil_of_length_eq_zero (by omega : v'.length = 0)]
    rw [ev, VsAt.uniq r r' b (o + 3) (by simpa using hl) h4 g4]
theorem EsAt.uniq {W : World} : ∀ (l l' : List EL) (b o : Nat), l.length = l'.length → EsAt W l b o → EsAt W l' b o → l = l'
  | [], [], b, o, _, _, _ => rfl
  | [], _ :: _, b, o, hl, _, _ => by simp at hl
  | _ :: _, [], b, o, hl, _, _ => by simp at hl
  | .mk n p :: r, .mk n' p' :: r', b, o, hl, h, h' => by
    rw [EsAt] at h h'
    obtain ⟨_, h1, ⟨c, h2, h3⟩, h4⟩ := h
    obtain ⟨_, g1, ⟨c', g2, g3⟩, g4⟩ := h'
    rw [h2] at g2
    cases g2
    rw [h1] at g1
    cases g1
    rw [OAt.uniq p p' c h3 g3, EsAt.uniq r r' b (o + 2) (by simpa using hl) h4 g4]
end

theorem EsAt.get {W : World} : ∀ {l : List EL} {b o : Nat} (j : Nat) {t : ByteArray} {p : Option EX}, EsAt W l b o → l[j]? = some (.mk t p) →
    b < W.heap.size ∧ W.cell? ⟨b, o + j * 2, none⟩ = some (.string t) ∧ ∃ u, W.cell? ⟨b, o + j * 2 + 1, none⟩ = some u ∧ OAt W p u
  | [], b, o, j, t, p, h, hj => by simp at hj
  | .mk t' p' :: r, b, o, 0, t, p, h, hj => by
    rw [EsAt] at h
    simp at hj
    obtain ⟨rfl, rfl⟩ := hj
    obtain ⟨h0, h1, h2, _⟩ := h
    exact ⟨h0, by simpa using h1, by simpa using h2⟩
  | .mk t' p' :: r, b, o, j + 1, t, p, h, hj => by
    rw [EsAt] at h
    have := EsAt.get j h.2.2.2 (by simpa using hj)
    rw [show o + (j + 1) * 2 = o + 2 + j * 2 by omega]
    exact this
theorem AsAt.get {W : World} : ∀ {l : List AR} {b o : Nat} (j : Nat) {t : ByteArray} {e : EX}, AsAt W l b o → l[j]? = some (.mk t e) →
    b < W.heap.size ∧ W.cell? ⟨b, o + j * 8, none⟩ = some (.string t) ∧ ∃ c, CellsAt W b (o + j * 8 + 1) c ∧ ExAt W e c
  | [], b, o, j, t, p, h, hj => by simp at hj
  | .mk t' p' :: r, b, o, 0, t, p, h, hj => by
    rw [AsAt] at h
    simp at hj
    obtain ⟨rfl, rfl⟩ := hj
    obtain ⟨h0, h1, h2, _⟩ := h
    exact ⟨h0, by simpa using h1, by simpa using h2⟩
  | .mk t' p' :: r, b, o, j + 1, t, p, h, hj => by
    rw [AsAt] at h
    have := AsAt.get j h.2.2.2 (by simpa using hj)
    rw [show o + (j + 1) * 8 = o + 8 + j * 8 by omega]
    exact this
theorem VsAt.get {W : World} : ∀ {l : List VA} {b o : Nat} (j : Nat) {t : ByteArray} {d : Bool} {v : List EL}, VsAt W l b o → l[j]? = some (.mk t d v) →
    b < W.heap.size ∧ W.cell? ⟨b, o + j * 3, none⟩ = some (.string t) ∧ W.cell? ⟨b, o + j * 3 + 1, none⟩ = some (.bool d) ∧ ∃ u, W.cell? ⟨b, o + j * 3 + 2, none⟩ = some u ∧ PatAt W v u
  | [], b, o, j, t, d, p, h, hj => by simp at hj
  | .mk t' d' p' :: r, b, o, 0, t, d, p, h, hj => by
    rw [VsAt] at h
    simp at hj
    obtain ⟨rfl, rfl, rfl⟩ := hj
    obtain ⟨h0, h1, hd, h2, _⟩ := h
    exact ⟨h0, by simpa using h1, by simpa using hd, by simpa [PatAt] using h2⟩
  | .mk t' d' p' :: r, b, o, j + 1, t, d, p, h, hj => by
    rw [VsAt] at h
    have := VsAt.get j h.2.2.2.2 (by simpa using hj)
    rw [show o + (j + 1) * 3 = o + 3 + j * 3 by omega]
    exact this
end Go.Proofs.YtbolmffldmegeaaDoor
