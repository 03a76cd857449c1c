/-
  Package serial: what is asked of an entry's form; how long its text is.
-/
import Derived.Test.YtminidoiaplhjaaDoorZb
namespace Go.Proofs.YtminidoiaplhjaaDoor
open Go.RowKit
set_option linter.unusedVariables false
set_option linter.unusedSimpArgs false

def gdW (k : Int) (as0 args inner : Bool) : Bool := if k = 6 then as0 && inner else if k = 0 ∨ k = 1 ∨ k = 2 then as0 else decide (k = 3 ∨ k = 4 ∨ k = 5) && args
mutual
/-- Has an expression its form: inline, in braces? -/
def gdI : EX → Bool
  | .mk k _ _ _ al i _ => gdW k al.isEmpty (gdAs al) (gdO i)
def gdP : EX → Bool
  | .mk k _ _ _ al i vs => if k = 7 then gdJ i && gdVs vs else gdW k al.isEmpty (gdAs al) (gdO i)
def gdO : Option EX → Bool
  | none => false
  | some e => gdP e
def gdJ : Option EX → Bool
  | none => false
  | some e => gdI e
def gdAs : List AR → Bool
  | [] => true
  | .mk _ e :: r => gdI e && gdAs r
def gdVs : List VA → Bool
  | [] => true
  | .mk _ _ v :: r => gdEs v && !v.isEmpty && gdVs r
def gdEs : List EL → Bool
  | [] => true
  | .mk _ none :: r => gdEs r
  | .mk _ (some e) :: r => gdP e && gdEs r
end
theorem inlP_gd {k : Int} {t n a : ByteArray} {as0 i0 vs0 X Y X' Y' : Bool} (h : inlP k t n a as0 i0 vs0 X Y = true) (hX : X = true → X' = true) (h0 : as0 = true → X' = true) (hY : Y = true → Y' = true) : gdW k as0 X' Y' = true := by
  unfold inlP at h
  unfold gdW
  by_cases k0 : k = 0
  · subst k0; simp at h; simp [h]
  by_cases k1 : k = 1
  · subst k1; simp at h; simp [h]
  by_cases k2 : k = 2
  · subst k2; simp at h; simp [h]
  by_cases k3 : k = 3
  · subst k3; simp at h; simp [h0 h.2.1.1.2]
  by_cases k4 : k = 4
  · subst k4; simp at h; simp [hX h.1.2]
  by_cases k5 : k = 5
  · subst k5; simp at h; simp [hX h.1.2]
  by_cases k6 : k = 6
  · subst k6; simp at h; simp [h.2.1.2, hY h.1]
  · rw [if_neg k0, if_neg k1, if_neg k2, if_neg k3, if_neg k4, if_neg k5, if_neg k6] at h
    cases h
mutual
theorem ok_gd : ∀ (m : Md) (e : EX) (d : Nat), okE m e d = true → (m = .brc → gdP e = true) ∧ (m ≠ .brc → gdI e = true)
  | m, .mk k t n a al i vs, d, h => by
    have hA : (argNames [] al && okAs al d) = true → gdAs al = true := fun q => okAs_gd al d (Bool.and_eq_true_iff.1 q).2
    have h0 : al.isEmpty = true → gdAs al = true := fun q => by
      rw [List.isEmpty_iff] at q
      subst q
      rfl
    have hI : okO .brc i (d + 1) = true → gdO i = true := okO_gd i (d + 1)
    cases m with
    | inl =>
      rw [okE] at h
      refine ⟨(fun q => by cases q), fun _ => ?_⟩
      rw [gdI]
      exact inlP_gd h hA h0 hI
    | brc =>
      rw [okE] at h
      refine ⟨fun _ => ?_, fun q => absurd rfl q⟩
      rw [Bool.and_eq_true] at h
      have h := h.2
      rw [gdP]
      by_cases k7 : k = 7
      · rw [if_pos k7] at h ⊢
        simp only [Bool.and_eq_true] at h
        rw [Bool.and_eq_true]
        refine ⟨okJ_gd i d h.2, okVs_gd vs d h.1.2 ?_⟩
        have hv := h.1.1.2
        unfold varsL at hv
        rw [Bool.and_eq_true, List.all_eq_true] at hv
        intro v hm
        have := hv.1 v hm
        simp only [Bool.and_eq_true] at this
        exact this.1.2
      · rw [if_neg k7] at h ⊢
        exact inlP_gd h hA h0 hI
    | ask =>
      rw [okE] at h
      refine ⟨(fun q => by cases q), fun _ => ?_⟩
      rw [gdI]
      by_cases k4 : k = 4
      · rw [if_pos k4, Bool.and_eq_true] at h
        exact inlP_gd h.2 hA h0 hI
      · rw [if_neg k4] at h
        split at h
        · exact inlP_gd h hA h0 hI
        · cases h
theorem okO_gd : ∀ (i : Option EX) (d : Nat), okO .brc i d = true → gdO i = true
  | none, d, h => by rw [okO] at h; cases h
  | some e, d, h => by
    rw [okO] at h
    rw [gdO]
    exact (ok_gd .brc e d h).1 rfl
theorem okJ_gd : ∀ (i : Option EX) (d : Nat), okO .ask i d = true → gdJ i = true
  | none, d, h => by rw [okO] at h; cases h
  | some e, d, h => by
    rw [okO] at h
    rw [gdJ]
    exact (ok_gd .ask e d h).2 (by simp)
theorem okAs_gd : ∀ (l : List AR) (d : Nat), okAs l d = true → gdAs l = true
  | [], d, h => by rw [gdAs]
  | .mk n e :: r, d, h => by
    rw [okAs, Bool.and_eq_true] at h
    rw [gdAs, Bool.and_eq_true]
    exact ⟨(ok_gd .inl e d h.1).2 (by simp), okAs_gd r d h.2⟩
theorem okVs_gd : ∀ (l : List VA) (d : Nat), okVs l d = true → (∀ v ∈ l, (!(vaVal v).isEmpty) = true) → gdVs l = true
  | [], d, h, _ => by rw [gdVs]
  | .mk k b v :: r, d, h, hv => by
    rw [okVs, Bool.and_eq_true] at h
    rw [gdVs, Bool.and_eq_true, Bool.and_eq_true]
    exact ⟨⟨okEs_gd v (d + 1) h.1, hv _ (List.mem_cons_self ..)⟩, okVs_gd r d h.2 (fun x hx => hv x (List.mem_cons_of_mem _ hx))⟩
theorem okEs_gd : ∀ (l : List EL) (d : Nat), okEs l d = true → gdEs l = true
  | [], d, h => by rw [gdEs]
  | .mk t none :: r, d, h => by
    rw [okEs] at h
    rw [gdEs]
    exact okEs_gd r d h
  | .mk t (some e) :: r, d, h => by
    rw [okEs, Bool.and_eq_true] at h
    rw [gdEs, Bool.and_eq_true]
    exact ⟨(ok_gd .brc e d h.1).1 rfl, okEs_gd r d h.2⟩
end
/-- A right pattern has its form. -/
theorem patB_gd {l : List EL} {d : Nat} (h : patB l d = true) : gdEs l = true := by
  unfold patB at h
  rw [Bool.and_eq_true] at h
  exact okEs_gd l (d + 1) h.2
theorem gdAs_get : ∀ (l : List AR) (j : Nat) (n : ByteArray) (e : EX), gdAs l = true → l[j]? = some (.mk n e) → gdI e = true
  | [], j, n, e, _, h => by simp at h
  | .mk n' e' :: r, 0, n, e, g, h => by
    simp at h
    obtain ⟨rfl, rfl⟩ := h
    rw [gdAs, Bool.and_eq_true] at g
    exact g.1
  | .mk n' e' :: r, j + 1, n, e, g, h => by
    rw [gdAs, Bool.and_eq_true] at g
    exact gdAs_get r j n e g.2 (by simpa using h)
theorem gdVs_get : ∀ (l : List VA) (j : Nat) (k : ByteArray) (b : Bool) (v : List EL), gdVs l = true → l[j]? = some (.mk k b v) → gdEs v = true ∧ v ≠ []
  | [], j, k, b, v, _, h => by simp at h
  | .mk k' b' v' :: r, 0, k, b, v, g, h => by
    simp at h
    obtain ⟨rfl, rfl, rfl⟩ := h
    rw [gdVs, Bool.and_eq_true, Bool.and_eq_true] at g
    exact ⟨g.1.1, by intro e; rw [e] at g; simp at g⟩
  | .mk k' b' v' :: r, j + 1, k, b, v, g, h => by
    rw [gdVs, Bool.and_eq_true] at g
    exact gdVs_get r j k b v g.2 (by simpa using h)
theorem gdEs_get : ∀ (l : List EL) (j : Nat) (t : ByteArray) (e : EX), gdEs l = true → l[j]? = some (.mk t (some e)) → gdP e = true
  | [], j, t, e, _, h => by simp at h
  | .mk t' none :: r, 0, t, e, g, h => by simp at h
  | .mk t' (some e') :: r, 0, t, e, g, h => by
    simp at h
    obtain ⟨rfl, rfl⟩ := h
    rw [gdEs, Bool.and_eq_true] at g
    exact g.1
  | .mk t' none :: r, j + 1, t, e, g, h => by
    rw [gdEs] at g
    exact gdEs_get r j t e g (by simpa using h)
  | .mk t' (some e') :: r, j + 1, t, e, g, h => by
    rw [gdEs, Bool.and_eq_true] at g
    exact gdEs_get r j t e g.2 (by simpa using h)
/-- What is read off a form. -/
theorem gdI_flat {e : EX} (h : gdI e = true) : flatE e = true := by
  obtain ⟨k, t, n, a, al, i, vs⟩ := e
  rw [gdI] at h
  unfold gdW at h
  show (al.isEmpty || !(decide (k = 0 ∨ k = 1 ∨ k = 2 ∨ k = 6))) = true
  by_cases k6 : k = 6
  · rw [if_pos k6, Bool.and_eq_true] at h
    rw [h.1]; rfl
  · rw [if_neg k6] at h
    split at h
    · rw [h]; rfl
    · next hk =>
      rw [decide_eq_false (by omega : ¬ (k = 0 ∨ k = 1 ∨ k = 2 ∨ k = 6))]
      simp
theorem gdI_kind {k : Int} {t n a : ByteArray} {al : List AR} {i : Option EX} {vs : List VA} (h : gdI (.mk k t n a al i vs) = true) :
    (k = 0 ∨ k = 1 ∨ k = 2 ∨ k = 3 ∨ k = 4 ∨ k = 5 ∨ k = 6) ∧ (k = 6 → ∃ e, i = some e ∧ gdP e = true) ∧ gdAs al = true := by
  rw [gdI] at h
  unfold gdW at h
  by_cases k6 : k = 6
  · rw [if_pos k6, Bool.and_eq_true] at h
    refine ⟨by omega, fun _ => ?_, ?_⟩
    · cases i with
      | none => rw [gdO] at h; cases h.2
      | some e => rw [gdO] at h; exact ⟨e, rfl, h.2⟩
    · have := List.isEmpty_iff.1 h.1
      subst this
      rfl
  · rw [if_neg k6] at h
    split at h
    · next hk =>
      refine ⟨by omega, fun e => absurd e k6, ?_⟩
      have := List.isEmpty_iff.1 h
      subst this
      rfl
    · rw [Bool.and_eq_true, decide_eq_true_iff] at h
      exact ⟨by omega, fun e => absurd e k6, h.2⟩
theorem gdP_inl {k : Int} {t n a : ByteArray} {al : List AR} {i : Option EX} {vs : List VA} (k7 : k ≠ 7) (h : gdP (.mk k t n a al i vs) = true) : gdI (.mk k t n a al i vs) = true := by
  rw [gdP, if_neg k7] at h
  rw [gdI]
  exact h
theorem gdP_sel {t n a : ByteArray} {al : List AR} {i : Option EX} {vs : List VA} (h : gdP (.mk 7 t n a al i vs) = true) : (∃ e, i = some e ∧ gdI e = true) ∧ gdVs vs = true := by
  rw [gdP, if_pos rfl, Bool.and_eq_true] at h
  refine ⟨?_, h.2⟩
  cases i with
  | none => rw [gdJ] at h; cases h.1
  | some e => rw [gdJ] at h; exact ⟨e, rfl, h.1⟩
end Go.Proofs.YtminidoiaplhjaaDoor
