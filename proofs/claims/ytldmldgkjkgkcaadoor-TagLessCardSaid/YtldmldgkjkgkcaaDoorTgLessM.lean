/-
  Plain mathematics of TagLess: a tag without its last piece.
-/
import Derived.Test.YtldmldgkjkgkcaaDoorTgTag
import Derived.Test.YtldmldgkjkgkcaaDoorTgLess
namespace Go.Proofs.YtldmldgkjkgkcaaDoor
open Go.RowKit Go.Shelf
set_option linter.unusedVariables false
set_option linter.unusedSimpArgs false

/-- A tag without its last piece. -/
def TagT.less (t : TagT) : TagT :=
  if t.vs ≠ [] then ⟨t.L, t.S, t.R, t.vs.dropLast⟩ else if t.R ≠ [] then ⟨t.L, t.S, [], []⟩ else ⟨t.L, [], [], []⟩
theorem less_pieces {t : TagT} (g : t.Good) (h : 1 < t.pieces.length) : t.less.pieces = t.pieces.dropLast := by
  have hL := lang_ne g.hL
  unfold TagT.less
  split
  · rename_i hv
    unfold TagT.pieces
    simp only
    rw [List.dropLast_append_of_ne_nil hv]
  · rename_i hv
    have hv' : t.vs = [] := by simpa using hv
    obtain ⟨L, S, R, vs⟩ := t
    simp only at hv' hL
    subst hv'
    split
    · rename_i hR
      simp only at hR
      by_cases hS : S = [] <;> simp [TagT.pieces, hL, hR, hS]
    · rename_i hR
      have hR' : R = [] := by simpa using hR
      subst hR'
      by_cases hS : S = []
      · subst hS; simp [TagT.pieces, hL] at h
      · simp [TagT.pieces, hL, hS]
theorem less_good {t : TagT} (g : t.Good) : t.less.Good := by
  unfold TagT.less
  split
  · exact ⟨g.hL, g.lL, g.hS, g.hR, fun v hv => g.hv v (List.dropLast_subset _ hv), g.nd.sublist (List.dropLast_sublist _)⟩
  · split
    · exact ⟨g.hL, g.lL, g.hS, .inl rfl, by simp, by simp⟩
    · exact ⟨g.hL, g.lL, .inl rfl, .inl rfl, by simp, by simp⟩
theorem less_len {t : TagT} (g : t.Good) (h : 1 < t.pieces.length) : t.less.text.length < t.text.length := by
  have h1 := join_len t.pieces (pieces_ne g)
  have h2 := join_len t.less.pieces (pieces_ne (less_good g))
  have e := less_pieces g h
  show (Lib.join t.less.pieces [45]).length < (Lib.join t.pieces [45]).length
  rw [e] at h2 ⊢
  have hne := pieces_ne g
  have e3 : t.pieces = t.pieces.dropLast ++ [t.pieces.getLast hne] := (List.dropLast_concat_getLast hne).symm
  have e4 : (t.pieces.map List.length).sum = (t.pieces.dropLast.map List.length).sum + (t.pieces.getLast hne).length := by
    conv => lhs; rw [e3]
    simp
  have e5 : t.pieces.dropLast.length = t.pieces.length - 1 := List.length_dropLast
  omega
theorem less_ok {t : TagT} (k : t.Ok) (h : 1 < t.pieces.length) : t.less.Ok := by
  have h1 := less_len k.good h
  have h2 := less_pieces k.good h
  have h3 : t.less.pieces.length ≤ 1000 := by rw [h2, List.length_dropLast]; have := k.pieces; omega
  refine ⟨less_good k.good, ?_, by have := k.text; omega, h3⟩
  have : t.less.vs.length ≤ t.less.pieces.length := by unfold TagT.pieces; rw [List.length_append]; omega
  omega
theorem less_fits {t : TagT} (g : t.Good) (h : 1 < t.pieces.length) : fitsT t t.less = true := by
  unfold fitsT
  rw [less_pieces g h, List.length_dropLast, List.dropLast_eq_take]
  simp
/-- A tag of one piece. -/
theorem one_piece {t : TagT} (g : t.Good) (h : t.pieces.length = 1) : t.S = [] ∧ t.R = [] ∧ t.vs = [] ∧ t.pieces = [t.L] := by
  obtain ⟨r, hr⟩ := pieces_cons g
  rw [hr] at h
  have : r = [] := List.eq_nil_of_length_eq_zero (by simpa using h)
  subst this
  have hL := lang_ne g.hL
  unfold TagT.pieces at hr
  rw [List.filter_cons] at hr
  simp only [hL, ne_eq, not_false_eq_true, decide_true, if_true, List.cons_append, List.cons.injEq, true_and, List.append_eq_nil_iff] at hr
  have hS : t.S = [] := by
    by_cases e : t.S = []
    · exact e
    · have := hr.1; simp [List.filter_cons, e] at this
  have hR : t.R = [] := by
    by_cases e : t.R = []
    · exact e
    · have := hr.1
      simp [List.filter_cons, e, hS] at this
  refine ⟨hS, hR, hr.2, ?_⟩
  unfold TagT.pieces
  simp [hL, hS, hR, hr.2]
theorem one_text {t : TagT} (g : t.Good) (h : t.pieces.length = 1) : t.text = t.L := by
  unfold TagT.text
  rw [(one_piece g h).2.2.2, join_one]
theorem head_piece {t : TagT} (g : t.Good) : t.pieces[0]? = some t.L := by obtain ⟨r, hr⟩ := pieces_cons g; rw [hr]; rfl
theorem isEmpty_mk {l : List UInt8} (h : l ≠ []) : (!(mk l).toList.isEmpty) = true := by
  rw [Lib.toList_data, mk_data]
  cases l with
  | nil => exact absurd rfl h
  | cons a r => rfl

/-- What Less gives of a tag of more than one piece; of one piece. -/
theorem lessY {t : TagT} (k : t.Ok) (h : 1 < t.pieces.length) {A : Option Addr} {c : Nat} {W : World} (hv : VarsAt W t A c) :
    Calls Tryd.prog 13 #[.agg #[.string (mk t.L), .string (mk t.S), .string (mk t.R), .slice A t.vs.length c]] W fun e W' => ∃ A' c', e = .returned (.tuple #[.agg #[.string (mk t.less.L), .string (mk t.less.S), .string (mk t.less.R), .slice A' t.less.vs.length c'], .bool true]) ∧ VarsAt W' t.less A' c' ∧ Below W.heap.size W W' := by
  have hnil : ∀ W', VarsAt W' ⟨t.L, t.S, [], []⟩ none 0 := fun W' => ⟨Nat.le_refl _, .inl ⟨rfl, rfl⟩⟩
  have hnil2 : ∀ W', VarsAt W' ⟨t.L, [], [], []⟩ none 0 := fun W' => ⟨Nat.le_refl _, .inl ⟨rfl, rfl⟩⟩
  by_cases hvs : t.vs = []
  · have hl : t.vs.length = 0 := by rw [hvs]; rfl
    by_cases hR : t.R = []
    · have hS : t.S ≠ [] := by
        intro e
        have : t.pieces = [t.L] := by
          unfold TagT.pieces; simp [lang_ne k.good.hL, e, hR, hvs]
        rw [this] at h; simp at h
      have e : t.less = ⟨t.L, [], [], []⟩ := by unfold TagT.less; simp [hvs, hR]
      rw [hl, hR, mk_nil, e]
      refine (less_script (mk t.L) (mk t.S) (isEmpty_mk hS) c A W).mono ?_
      rintro e' W' ⟨rfl, hb⟩
      exact ⟨none, 0, rfl, hnil2 W', hb⟩
    · have e : t.less = ⟨t.L, t.S, [], []⟩ := by unfold TagT.less; simp [hvs, hR]
      rw [hl, e]
      refine (less_region (mk t.L) (mk t.S) (mk t.R) (isEmpty_mk hR) c A W).mono ?_
      rintro e' W' ⟨rfl, hb⟩
      exact ⟨none, 0, rfl, hnil W', hb⟩
  · have e : t.less = ⟨t.L, t.S, t.R, t.vs.dropLast⟩ := by unfold TagT.less; simp [hvs]
    rw [e]
    refine (less_vars (mk t.L) (mk t.S) (mk t.R) (.slice A t.vs.length c) (t.vs.map mk) (by simpa using hvs) (by rw [List.length_map]; exact k.vs) W hv.2 ⟨_, _, _, rfl, hv.1⟩).mono ?_
    rintro e' W' ⟨sv, rfl, h1, h2, hb⟩
    rw [← List.map_dropLast] at h2
    obtain ⟨A', c', rfl, hv'⟩ := VarsAt.of (t := ⟨t.L, t.S, t.R, t.vs.dropLast⟩) h1 h2
    exact ⟨A', c', rfl, hv', hb⟩
theorem lessN {t : TagT} (k : t.Ok) (h : t.pieces.length = 1) {A : Option Addr} {c : Nat} {W : World} :
    Calls Tryd.prog 13 #[.agg #[.string (mk t.L), .string (mk t.S), .string (mk t.R), .slice A t.vs.length c]] W fun e W' => e = .returned (.tuple #[.agg #[.string ⟨#[]⟩, .string ⟨#[]⟩, .string ⟨#[]⟩, .slice none 0 0], .bool false]) ∧ Below W.heap.size W W' := by
  obtain ⟨h1, h2, h3, _⟩ := one_piece k.good h
  rw [h1, h2, h3, mk_nil]
  exact less_none (mk t.L) c A W
end Go.Proofs.YtldmldgkjkgkcaaDoor
