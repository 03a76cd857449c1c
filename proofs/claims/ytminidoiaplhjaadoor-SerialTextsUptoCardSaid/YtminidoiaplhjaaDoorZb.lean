/-
  Package serial: mathematics of the two writers.
-/
import Derived.Test.YtminidoiaplhjaaDoorZa
namespace Go.Proofs.YtminidoiaplhjaaDoor
open Go.RowKit
set_option linter.unusedVariables false
set_option linter.unusedSimpArgs false

/-- A text up to its first line feed, and what is behind it. -/
theorem lineG_none (mg : List UInt8) : ∀ l : List UInt8, l.contains 10 = false → lineG mg l = l
  | [], _ => rfl
  | c :: r, h => by
    rw [List.contains_cons, Bool.or_eq_false_iff] at h
    have hc : ¬ c = 10 := fun e => by rw [e] at h; simp at h
    rw [lineG, if_neg (fun q => hc q.1), lineG_none mg r h.2]
theorem lineG_cut (mg B : List UInt8) : ∀ A : List UInt8, A.contains 10 = false → lineG mg (A ++ 10 :: B) = A ++ (10 :: ((if B.head? = some 10 then [] else mg) ++ lineG mg B))
  | [], _ => by
    rw [List.nil_append, List.nil_append, lineG]
    by_cases h : B.head? = some 10
    · rw [if_neg (fun q => q.2 h), if_pos h, List.nil_append]
    · rw [if_pos ⟨rfl, h⟩, if_neg h]
  | c :: r, h => by
    rw [List.contains_cons, Bool.or_eq_false_iff] at h
    have hc : ¬ c = 10 := fun e => by rw [e] at h; simp at h
    rw [List.cons_append, lineG, if_neg (fun q => hc q.1), lineG_cut mg B r h.2, List.cons_append]
theorem comT_none (mk : List UInt8) : ∀ (l line : List UInt8), l.contains 10 = false → comT mk line l = comL mk (line ++ l)
  | [], line, _ => by rw [comT, List.append_nil]
  | c :: r, line, h => by
    rw [List.contains_cons, Bool.or_eq_false_iff] at h
    have hc : ¬ c = 10 := fun e => by rw [e] at h; simp at h
    rw [comT, if_neg hc, comT_none mk r _ h.2, List.append_assoc, List.singleton_append]
theorem comT_cut (mk B : List UInt8) : ∀ (A line : List UInt8), A.contains 10 = false → comT mk line (A ++ 10 :: B) = comL mk (line ++ A) ++ comT mk [] B
  | [], line, _ => by rw [List.nil_append, comT, if_pos rfl, List.append_nil]
  | c :: r, line, h => by
    rw [List.contains_cons, Bool.or_eq_false_iff] at h
    have hc : ¬ c = 10 := fun e => by rw [e] at h; simp at h
    rw [List.cons_append, comT, if_neg hc, comT_cut mk B r _ h.2, List.append_assoc, List.singleton_append]

/-- What is still to be written of calls that are open, the innermost first: arguments, and how many are written. -/
def restG (m : Nat) : List (List AR × Nat) → List UInt8
  | [] => []
  | (al, k) :: st => asT m (k == 0) (al.drop k) ++ (41 :: restG m st)
def opensE : EX → Bool | .mk k _ _ _ al _ _ => k == 5 || !al.isEmpty
/-- An expression, but for its arguments. -/
def hdT (m : Nat) : EX → List UInt8
  | .mk k t n a al i vs => if k = 0 then quoteAll t else if k = 1 then t.data.toList else if k = 2 then 36 :: n.data.toList else if k = 6 then plO m i else refG k n a
/-- Only what refers has arguments. -/
def flatE : EX → Bool | .mk k _ _ _ al _ _ => al.isEmpty || !(decide (k = 0 ∨ k = 1 ∨ k = 2 ∨ k = 6))
def exArs : EX → List AR | .mk _ _ _ _ al _ _ => al
theorem exT_head (m : Nat) (e : EX) (h : flatE e = true) (st : List (List AR × Nat)) : exT m e ++ restG m st = hdT m e ++ (if opensE e = true then 40 :: restG m ((exArs e, 0) :: st) else restG m st) := by
  obtain ⟨k, t, n, a, al, i, vs⟩ := e
  have ho : opensE (.mk k t n a al i vs) = (k == 5 || !al.isEmpty) := rfl
  have hf : flatE (.mk k t n a al i vs) = (al.isEmpty || !(decide (k = 0 ∨ k = 1 ∨ k = 2 ∨ k = 6))) := rfl
  have ha : exArs (.mk k t n a al i vs) = al := rfl
  rw [exT, hdT, ha]
  rw [hf] at h
  unfold inlG
  by_cases h4 : k = 0 ∨ k = 1 ∨ k = 2 ∨ k = 6
  · rw [decide_eq_true h4, Bool.not_true, Bool.or_false] at h
    have h5 : (k == 5) = false := by rw [beq_eq_false_iff_ne]; omega
    have hop : opensE (.mk k t n a al i vs) = false := by rw [ho, h5, h]; rfl
    rw [hop, if_neg (by simp : ¬ (false = true))]
    rcases h4 with rfl | rfl | rfl | rfl <;> simp
  · rw [if_neg (fun q => h4 (.inl q)), if_neg (fun q => h4 (.inr (.inl q))), if_neg (fun q => h4 (.inr (.inr (.inl q)))), if_neg (fun q => h4 (.inr (.inr (.inr q)))),
      if_neg (fun q => h4 (.inl q)), if_neg (fun q => h4 (.inr (.inl q))), if_neg (fun q => h4 (.inr (.inr (.inl q)))), if_neg (fun q => h4 (.inr (.inr (.inr q))))]
    by_cases h5 : k = 5
    · subst h5
      have hop : opensE (.mk 5 t n a al i vs) = true := by rw [ho]; rfl
      rw [hop, if_pos rfl, if_neg (by simp), restG]
      simp
    · have e5 : (k == 5) = false := by rw [beq_eq_false_iff_ne]; exact h5
      by_cases h6 : al.isEmpty = true
      · have hop : opensE (.mk k t n a al i vs) = false := by rw [ho, e5, h6]; rfl
        rw [hop, if_neg (by simp : ¬ (false = true)), if_pos ⟨h5, h6⟩, List.append_nil]
      · have e6 : al.isEmpty = false := by simpa using h6
        have hop : opensE (.mk k t n a al i vs) = true := by rw [ho, e5, e6]; rfl
        rw [hop, if_pos rfl, if_neg (fun q => h6 q.2), restG]
        simp
theorem restG_pop (m : Nat) (al : List AR) (st : List (List AR × Nat)) : restG m ((al, al.length) :: st) = 41 :: restG m st := by
  rw [restG, List.drop_of_length_le (Nat.le_refl _), asT, List.nil_append]
theorem restG_next (m : Nat) (al : List AR) (k : Nat) (n : ByteArray) (e : EX) (st : List (List AR × Nat)) (h : al[k]? = some (.mk n e)) : restG m ((al, k) :: st) = nameG (k == 0) n ++ (exT m e ++ restG m ((al, k + 1) :: st)) := by
  rw [restG, drop_cons al k _ h, asT, restG, List.append_assoc, List.append_assoc]
  rfl
/-- How much is still to be done. -/
def todoG : List (List AR × Nat) → Nat
  | [] => 0
  | (al, k) :: st => sizeAs (al.drop k) + todoG st
theorem todo_next (al : List AR) (k : Nat) (n : ByteArray) (e : EX) (st : List (List AR × Nat)) (h : al[k]? = some (.mk n e)) : e.size + todoG ((al, k + 1) :: st) ≤ todoG ((al, k) :: st) := by
  unfold todoG
  rw [drop_cons al k _ h, sizeAs]
  omega
end Go.Proofs.YtminidoiaplhjaaDoor
