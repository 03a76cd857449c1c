/-
  Plain mathematics of the law's own Parse (package tag's law): its tests by counts, and its state between two parts.
-/
import Derived.Test.YtldmldgkjkgkcaaDoorTgLaw1
namespace Go.Proofs.YtldmldgkjkgkcaaDoor
open Go
set_option linter.unusedVariables false

theorem cnt_sum : ∀ l : List UInt8, l.all letDigB = true → (l.filter letB).length + (l.filter digTB).length = l.length
  | [], _ => rfl
  | c :: r, h => by
    rw [List.all_cons, Bool.and_eq_true] at h
    have ih := cnt_sum r h.2
    cases hd : digTB c
    · have hl : letB c = true := by have := h.1; simpa [letDigB, hd] using this
      rw [List.filter_cons, List.filter_cons, hl, hd]; simp; omega
    · rw [List.filter_cons, List.filter_cons, dig_let c hd, hd]; simp; omega
theorem all_let_iff : ∀ l : List UInt8, l.all letDigB = true → (l.all letB = true ↔ (l.filter digTB).length = 0)
  | [], _ => by simp
  | c :: r, h => by
    rw [List.all_cons, Bool.and_eq_true] at h
    have ih := all_let_iff r h.2
    cases hd : digTB c
    · have hl : letB c = true := by have := h.1; simpa [letDigB, hd] using this
      rw [List.filter_cons, List.all_cons, hl, hd]; simpa using ih
    · rw [List.filter_cons, List.all_cons, dig_let c hd, hd]; simp
theorem all_dig_iff : ∀ l : List UInt8, l.all letDigB = true → (l.all digTB = true ↔ (l.filter letB).length = 0)
  | [], _ => by simp
  | c :: r, h => by
    rw [List.all_cons, Bool.and_eq_true] at h
    have ih := all_dig_iff r h.2
    cases hd : digTB c
    · have hl : letB c = true := by have := h.1; simpa [letDigB, hd] using this
      rw [List.filter_cons, List.all_cons, hl, hd]; simp
    · rw [List.filter_cons, List.all_cons, dig_let c hd, hd]; simpa using ih
/-- The counts' facts: all signs are letters or digits, or both counts are below nought. -/
theorem cnt_facts (p : List UInt8) : (p.all letDigB = true ∧ ∃ nl nd : Nat, cntL p = nl ∧ cntD p = nd ∧ nl + nd = p.length ∧ (p.all letB = true ↔ nd = 0) ∧ (p.all digTB = true ↔ nl = 0)) ∨
    (p.all letDigB = false ∧ cntL p = -1 ∧ cntD p = -1 ∧ p.all letB = false ∧ p.all digTB = false) := by
  cases h : p.all letDigB
  · refine .inr ⟨rfl, by simp only [cntL, h]; rfl, by simp only [cntD, h]; rfl, ?_, ?_⟩
    · cases e : p.all letB
      · rfl
      · rw [List.all_eq_true.2 (fun c hc => let_ld c (List.all_eq_true.1 e c hc))] at h; cases h
    · cases e : p.all digTB
      · rfl
      · rw [List.all_eq_true.2 (fun c hc => dig_ld c (List.all_eq_true.1 e c hc))] at h; cases h
  · exact .inl ⟨rfl, _, _, by simp only [cntL, h]; rfl, by simp only [cntD, h]; rfl, cnt_sum p h, all_let_iff p h, all_dig_iff p h⟩
theorem lang_cnt (p : List UInt8) : langB p = true ↔ cntD p = 0 ∧ 2 ≤ cntL p ∧ cntL p ≤ 3 := by
  unfold langB
  simp only [Bool.and_eq_true, Bool.or_eq_true, beq_iff_eq]
  rcases cnt_facts p with ⟨_, nl, nd, h1, h2, h3, h4, h5⟩ | ⟨_, h1, h2, h3, h4⟩
  · rw [h4, h1, h2]; omega
  · rw [h3, h1, h2]; simp
theorem script_cnt (p : List UInt8) : scriptB p = true ↔ cntL p = 4 ∧ cntD p = 0 := by
  unfold scriptB
  simp only [Bool.and_eq_true, beq_iff_eq]
  rcases cnt_facts p with ⟨_, nl, nd, h1, h2, h3, h4, h5⟩ | ⟨_, h1, h2, h3, h4⟩
  · rw [h4, h1, h2]; omega
  · rw [h3, h1, h2]; simp
theorem region_cnt (p : List UInt8) : regionB p = true ↔ (cntL p = 2 ∧ cntD p = 0) ∨ (cntL p = 0 ∧ cntD p = 3) := by
  unfold regionB
  simp only [Bool.and_eq_true, Bool.or_eq_true, beq_iff_eq]
  rcases cnt_facts p with ⟨_, nl, nd, h1, h2, h3, h4, h5⟩ | ⟨_, h1, h2, h3, h4⟩
  · rw [h4, h5, h1, h2]; omega
  · rw [h3, h4, h1, h2]; simp
theorem ld_le (c : UInt8) (h : letDigB c = true) : digTB c = true ↔ c.toNat ≤ 57 := by
  have := all256 (fun c => !letDigB c || (digTB c == decide (c.toNat ≤ 57))) (by decide +kernel) c
  simp only [h, Bool.not_true, Bool.false_or, beq_iff_eq] at this
  rw [this]; simp
theorem variant_cnt (p : List UInt8) : variantB p = true ↔ (5 ≤ cntL p + cntD p ∧ cntL p + cntD p ≤ 8) ∨ (cntL p + cntD p = 4 ∧ 0 < cntD p ∧ (p.headD 0).toNat ≤ 57) := by
  unfold variantB
  simp only [Bool.and_eq_true, Bool.not_eq_true', Bool.and_eq_false_iff, decide_eq_true_eq, beq_eq_false_iff_ne, Bool.not_eq_false']
  rcases cnt_facts p with ⟨ha, nl, nd, h1, h2, h3, h4, h5⟩ | ⟨ha, h1, h2, h3, h4⟩
  · rw [ha, h1, h2]
    cases p with
    | nil => simp at h3 ⊢; omega
    | cons c r =>
      rw [List.all_cons, Bool.and_eq_true] at ha
      have hl := ld_le c ha.1
      simp only [List.headD_cons]
      have hd0 : digTB c = true → 0 < nd := by
        intro hd
        rcases Nat.eq_zero_or_pos nd with e | e
        · have := h4.2 e
          rw [List.all_cons, dig_let c hd] at this
          simp at this
        · exact e
      constructor
      · rintro ⟨h6, ⟨h7, h8⟩, _⟩
        rcases h6 with h6 | h6
        · left; omega
        · by_cases h9 : (c :: r).length = 4
          · right; exact ⟨by omega, by have := hd0 h6; omega, hl.1 h6⟩
          · left; omega
      · rintro (⟨h6, h7⟩ | ⟨h6, h7, h8⟩)
        · exact ⟨.inl (by omega), ⟨by omega, by omega⟩, trivial⟩
        · exact ⟨.inr (hl.2 h8), ⟨by omega, by omega⟩, trivial⟩
  · rw [ha, h1, h2]; simp

/-- The law's state ahead of part k: its stage, what it has seen, its text. -/
def LInv (P : List (List UInt8)) (k st : Nat) (seen : List (List UInt8)) (o : List UInt8) : Prop :=
  (k = 0 ∧ st = 0 ∧ seen = [] ∧ o = []) ∨ (0 < k ∧ ∃ D, D ≠ [] ∧ o = Lib.join D [45] ∧ lawP P = (lawR st seen (P.drop k)).map (D ++ ·))
theorem LInv.first {P : List (List UInt8)} {st : Nat} {seen : List (List UInt8)} {o p : List UInt8} (h : LInv P 0 st seen o) (hp : P[0]? = some p) (hl : langB p = true) : LInv P 1 st seen (low p) := by
  rcases h with ⟨_, rfl, rfl, rfl⟩ | ⟨h, _⟩
  · refine .inr ⟨by omega, [low p], by simp, (join_one _).symm, ?_⟩
    cases P with
    | nil => simp at hp
    | cons q ps =>
      simp only [List.getElem?_cons_zero, Option.some.injEq] at hp
      subst hp
      simp [lawP, hl]
  · omega
theorem LInv.not_lang {P : List (List UInt8)} {p : List UInt8} (hp : P[0]? = some p) (hl : langB p = false) : lawP P = none := by
  cases P with
  | nil => simp at hp
  | cons q ps =>
    simp only [List.getElem?_cons_zero, Option.some.injEq] at hp
    subst hp
    simp [lawP, hl]
theorem LInv.step {P : List (List UInt8)} {k st st' : Nat} {seen seen' : List (List UInt8)} {o p p' : List UInt8} (h : LInv P k st seen o) (hk : 0 < k) (hp : P[k]? = some p)
    (hs : ∀ ps, lawR st seen (p :: ps) = (lawR st' seen' ps).map (p' :: ·)) : LInv P (k + 1) st' seen' (o ++ [45] ++ p') := by
  rcases h with ⟨h, _⟩ | ⟨_, D, hD, rfl, h⟩
  · omega
  · refine .inr ⟨by omega, D ++ [p'], by simp, by rw [join_snoc D p' hD]; simp, ?_⟩
    obtain ⟨hlt, hq⟩ := List.getElem?_eq_some_iff.1 hp
    rw [h, List.drop_eq_getElem_cons hlt, hq, hs]
    cases lawR st' seen' (P.drop (k + 1)) <;> simp
theorem LInv.stop {P : List (List UInt8)} {k st : Nat} {seen : List (List UInt8)} {o p : List UInt8} (h : LInv P k st seen o) (hk : 0 < k) (hp : P[k]? = some p)
    (hs : ∀ ps, lawR st seen (p :: ps) = none) : lawP P = none := by
  rcases h with ⟨h, _⟩ | ⟨_, D, hD, rfl, h⟩
  · omega
  · obtain ⟨hlt, hq⟩ := List.getElem?_eq_some_iff.1 hp
    rw [h, List.drop_eq_getElem_cons hlt, hq, hs]; rfl
theorem LInv.done {P : List (List UInt8)} {st : Nat} {seen : List (List UInt8)} {o : List UInt8} (h : LInv P P.length st seen o) (hP : P ≠ []) : ∃ D, lawP P = some D ∧ o = Lib.join D [45] := by
  rcases h with ⟨h, _⟩ | ⟨_, D, hD, rfl, h⟩
  · exact absurd (List.eq_nil_of_length_eq_zero h) hP
  · refine ⟨D, ?_, rfl⟩
    rw [h, List.drop_length]; simp [lawR]
theorem lawR_script {st : Nat} {seen : List (List UInt8)} {p : List UInt8} (h1 : st < 1) (h2 : scriptB p = true) (ps : List (List UInt8)) : lawR st seen (p :: ps) = (lawR 1 seen ps).map (title p :: ·) := by
  rw [lawR]; simp [h2]; omega
theorem lawR_region {st : Nat} {seen : List (List UInt8)} {p : List UInt8} (h0 : ¬ (st < 1 ∧ scriptB p = true)) (h1 : st < 2) (h2 : regionB p = true) (ps : List (List UInt8)) : lawR st seen (p :: ps) = (lawR 2 seen ps).map (upp p :: ·) := by
  rw [lawR, region_script h2]; simp [h2, h1]
theorem lawR_variant {st : Nat} {seen : List (List UInt8)} {p : List UInt8} (h2 : variantB p = true) (hs : low p ∉ seen) (ps : List (List UInt8)) : lawR st seen (p :: ps) = (lawR 3 (low p :: seen) ps).map (low p :: ·) := by
  rw [lawR, variant_script h2, variant_region h2]; simp [h2, hs]
theorem lawR_twice {st : Nat} {seen : List (List UInt8)} {p : List UInt8} (h2 : variantB p = true) (hs : low p ∈ seen) (ps : List (List UInt8)) : lawR st seen (p :: ps) = none := by
  rw [lawR, variant_script h2, variant_region h2]; simp [h2, hs]
theorem lawR_none {st : Nat} {seen : List (List UInt8)} {p : List UInt8} (h0 : ¬ (st < 1 ∧ scriptB p = true)) (h1 : ¬ (st < 2 ∧ regionB p = true)) (h2 : variantB p = false) (ps : List (List UInt8)) : lawR st seen (p :: ps) = none := by
  rw [lawR]
  have e0 : (decide (st < 1) && scriptB p) = false := by
    cases e : (decide (st < 1) && scriptB p)
    · rfl
    · simp only [Bool.and_eq_true, decide_eq_true_eq] at e; exact absurd e h0
  have e1 : (decide (st < 2) && regionB p) = false := by
    cases e : (decide (st < 2) && regionB p)
    · rfl
    · simp only [Bool.and_eq_true, decide_eq_true_eq] at e; exact absurd e h1
  rw [e0, e1, h2]; simp
end Go.Proofs.YtldmldgkjkgkcaaDoor
