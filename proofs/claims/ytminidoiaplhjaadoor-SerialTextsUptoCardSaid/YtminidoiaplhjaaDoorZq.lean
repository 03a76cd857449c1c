/-
  Package serial: the knot; named patterns; messages.
-/
import Derived.Test.YtminidoiaplhjaaDoorZp
namespace Go.Proofs.YtminidoiaplhjaaDoor
open Go.RowKit
set_option linter.unusedVariables false
set_option linter.unusedSimpArgs false

theorem szVs_get : ∀ (l : List VA) (j : Nat) (k : ByteArray) (d : Bool) (v : List EL), l[j]? = some (.mk k d v) → 1 + sizeEs v ≤ sizeVs l
  | [], j, k, d, v, h => by simp at h
  | .mk k' d' v' :: r, 0, k, d, v, h => by
    simp at h
    obtain ⟨rfl, rfl, rfl⟩ := h
    rw [sizeVs]; omega
  | .mk k' d' v' :: r, j + 1, k, d, v, h => by
    have := szVs_get r j k d v (by simpa using h)
    rw [sizeVs]; omega
theorem szEs_place (l : List EL) (j : Nat) (t : ByteArray) (e : EX) (h : l[j]? = some (.mk t (some e))) : 1 + e.size ≤ sizeEs l := by
  induction l generalizing j with
  | nil => simp at h
  | cons x r ih =>
    cases j with
    | zero =>
      simp at h
      subst h
      rw [sizeEs, sizeO]; omega
    | succ j =>
      have := ih j (by simpa using h)
      obtain ⟨t', p'⟩ := x
      rw [sizeEs]; omega
theorem knotW {W0 : World} (hM : MxW W0) {B b : Nat} : ∀ (s : Nat) (e : EX), e.size ≤ s → ∀ m, m + 2 * e.size ≤ 4000000 → (gdI e = true → WiTo W0 B b m e) ∧ (gdP e = true → WpTo W0 B b m e) := by
  intro s
  induction s with
  | zero => intro e h; have := e.size_pos; omega
  | succ s ih =>
    intro e he m hm
    have hI : ∀ x : EX, x.size ≤ e.size → gdI x = true → WiTo W0 B b m x := by
      intro x hx hg
      refine winl_any x hg (by omega) fun y hy hyz => ?_
      obtain ⟨k, t, n, a, al, i, vs⟩ := y
      have hs := hyz
      rw [EX.size] at hs
      refine whead_any k t n a al i vs hy (by omega) fun k6 z hz => ?_
      subst hz
      have hzz : sizeO (some z) = z.size := by rw [sizeO]
      have hgz : gdP z = true := by
        rw [gdI] at hy
        unfold gdW at hy
        rw [if_pos k6, Bool.and_eq_true, gdO] at hy
        exact hy.2
      exact (ih z (by omega) m (by omega)).2 hgz
    refine ⟨hI e (Nat.le_refl _), fun hg => ?_⟩
    obtain ⟨k, t, n, a, al, i, vs⟩ := e
    by_cases k7 : k = 7
    · subst k7
      obtain ⟨⟨x, rfl, hgx⟩, hgv⟩ := gdP_sel hg
      have hs := he
      rw [EX.size, sizeO] at hs
      rw [EX.size, sizeO] at hm
      have hvl := sizeVs_length vs
      refine wplace_sel (by omega) t n a al x vs (by omega) (hI x (by rw [EX.size, sizeO]; omega) hgx) fun j k' d l hel => ?_
      have h1 := szVs_get vs j k' d l hel
      refine wpat_any hM l (by omega) fun j' t' z hz => ?_
      have h2 := szEs_place l j' t' z hz
      have h3 := x.size_pos
      exact (ih z (by omega) (m + 8) (by omega)).2 (gdEs_get l j' t' z (gdVs_get vs j k' d l hgv hel).1 hz)
    · exact wplace_plain k t n a al i vs k7 (hI _ (Nat.le_refl _) (gdP_inl k7 hg))
end Go.Proofs.YtminidoiaplhjaaDoor
