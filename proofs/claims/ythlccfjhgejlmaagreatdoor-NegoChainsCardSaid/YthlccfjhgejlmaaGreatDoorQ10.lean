/-
  Several texts put together (part 10): what the law and the program call, walked; their contracts.
-/
import Derived.Lib.Split
import Derived.Lib.Join
namespace Go.Proofs.YthlccfjhgejlmaaGreatDoor
open Go
def preH (x : List UInt8) : List (List UInt8) → List (List UInt8)
  | [] => [x]
  | p :: ps => (x ++ p) :: ps
def splitH : List UInt8 → List (List UInt8)
  | [] => [[]]
  | c :: r => if c = 45 then [] :: splitH r else preH [c] (splitH r)
theorem splitH_ne : ∀ l, splitH l ≠ []
  | [] => by simp [splitH]
  | c :: r => by
    unfold splitH
    split
    · simp
    · cases splitH r <;> simp [preH]
theorem preH_nil {l : List (List UInt8)} (h : l ≠ []) : preH [] l = l := by
  cases l with
  | nil => exact absurd rfl h
  | cons p ps => rfl
theorem preH_pre (x y : List UInt8) (l : List (List UInt8)) : preH x (preH y l) = preH (x ++ y) l := by
  cases l <;> simp [preH]
theorem splitH_app (x r : List UInt8) (h : (45 : UInt8) ∉ x) : splitH (x ++ r) = preH x (splitH r) := by
  induction x with
  | nil => exact (preH_nil (splitH_ne r)).symm
  | cons c x ih =>
    simp only [List.mem_cons, not_or] at h
    rw [List.cons_append, splitH, if_neg (fun e => h.1 e.symm), ih h.2, preH_pre]; rfl
theorem splitH_one (x : List UInt8) (h : (45 : UInt8) ∉ x) : splitH x = [x] := by
  have := splitH_app x [] h
  rw [List.append_nil] at this
  rw [this]; simp [splitH, preH]
theorem splitH_hy (x r : List UInt8) (h : (45 : UInt8) ∉ x) : splitH (x ++ 45 :: r) = x :: splitH r := by
  rw [splitH_app x _ h, splitH, if_pos rfl]; simp [preH]
theorem splitH_app2 (a r : List UInt8) : splitH (a ++ 45 :: r) = splitH a ++ splitH r := by
  induction a with
  | nil => simp [splitH]
  | cons c a ih =>
    rw [List.cons_append, splitH, splitH]
    by_cases h : c = 45
    · rw [if_pos h, if_pos h, ih]; rfl
    · rw [if_neg h, if_neg h, ih]
      have := splitH_ne a
      cases e : splitH a with
      | nil => exact absurd e this
      | cons p ps => simp [preH]
theorem splitH_free : ∀ (l : List UInt8) (p : List UInt8), p ∈ splitH l → (45 : UInt8) ∉ p
  | [], p, h => by simp [splitH] at h; subst h; simp
  | c :: r, p, h => by
    unfold splitH at h
    have ih := splitH_free r
    split at h
    · rename_i e
      rcases List.mem_cons.1 h with rfl | h
      · simp
      · exact ih p h
    · rename_i e
      cases e2 : splitH r with
      | nil => exact absurd e2 (splitH_ne r)
      | cons q qs =>
        rw [e2] at h
        simp only [preH, List.cons_append, List.nil_append, List.mem_cons] at h
        rcases h with rfl | h
        · have := ih q (by rw [e2]; simp)
          simp only [List.mem_cons, not_or]
          exact ⟨fun x => e x.symm, this⟩
        · exact ih p (by rw [e2]; simp [h])
theorem join_cons (x : List UInt8) (l : List (List UInt8)) (h : l ≠ []) : Lib.join (x :: l) [45] = x ++ 45 :: Lib.join l [45] := by
  unfold Lib.join
  cases l with
  | nil => exact absurd rfl h
  | cons p ps => simp [List.intercalate, List.intersperse]
theorem join_one (x : List UInt8) : Lib.join [x] [45] = x := by simp [Lib.join, List.intercalate, List.intersperse]
theorem join_snoc (l : List (List UInt8)) (x : List UInt8) (h : l ≠ []) : Lib.join (l ++ [x]) [45] = Lib.join l [45] ++ 45 :: x := by
  induction l with
  | nil => exact absurd rfl h
  | cons p ps ih =>
    cases ps with
    | nil => rw [List.singleton_append, join_cons _ _ (by simp), join_one, join_one]
    | cons q qs =>
      rw [List.cons_append, join_cons _ _ (by simp), ih (by simp), join_cons p (q :: qs) (by simp)]
      simp
theorem splitH_join (ps : List (List UInt8)) (hne : ps ≠ []) (h : ∀ p ∈ ps, (45 : UInt8) ∉ p) : splitH (Lib.join ps [45]) = ps := by
  induction ps with
  | nil => exact absurd rfl hne
  | cons p ps ih =>
    cases ps with
    | nil => rw [join_one, splitH_one p (h p (by simp))]
    | cons q qs =>
      rw [join_cons _ _ (by simp), splitH_hy p _ (h p (by simp)), ih (by simp) (fun x hx => h x (List.mem_cons_of_mem _ hx))]
theorem join_splitH : ∀ l : List UInt8, Lib.join (splitH l) [45] = l
  | [] => by simp [splitH, Lib.join, List.intercalate]
  | c :: r => by
    have ih := join_splitH r
    unfold splitH
    by_cases e : c = 45
    · rw [if_pos e, join_cons _ _ (splitH_ne r), ih, e]; rfl
    · rw [if_neg e]
      cases e2 : splitH r with
      | nil => exact absurd e2 (splitH_ne r)
      | cons q qs =>
        rw [e2] at ih
        show Lib.join ((([c] : List UInt8) ++ q) :: qs) [45] = _
        cases qs with
        | nil => rw [join_one] at ih ⊢; rw [ih]; rfl
        | cons a as => rw [join_cons _ _ (by simp)] at ih ⊢; rw [← ih]; simp
theorem splitH_map (f : UInt8 → UInt8) (hf : ∀ c, f c = 45 ↔ c = 45) : ∀ l : List UInt8, splitH (l.map f) = (splitH l).map (·.map f)
  | [] => by simp [splitH]
  | c :: r => by
    have ih := splitH_map f hf r
    rw [List.map_cons, splitH, splitH]
    by_cases e : c = 45
    · rw [if_pos e, if_pos ((hf c).2 e), ih]; simp
    · rw [if_neg e, if_neg (fun x => e ((hf c).1 x)), ih]
      cases splitH r <;> simp [preH]
theorem splitH_sum : ∀ l : List UInt8, ((splitH l).map List.length).sum + (splitH l).length = l.length + 1
  | [] => by simp [splitH]
  | c :: r => by
    have ih := splitH_sum r
    unfold splitH
    split
    · simp; omega
    · cases e : splitH r with
      | nil => exact absurd e (splitH_ne r)
      | cons p ps => rw [e] at ih; simp [preH] at ih ⊢; omega
theorem splitH_length (l : List UInt8) : (splitH l).length ≤ l.length + 1 := by have := splitH_sum l; omega
theorem sum_mem : ∀ (l : List Nat) (x : Nat), x ∈ l → x ≤ l.sum
  | [], x, h => by simp at h
  | y :: l, x, h => by
    rcases List.mem_cons.1 h with rfl | h
    · simp
    · have := sum_mem l x h; simp; omega
theorem splitH_mem_length (l p : List UInt8) (h : p ∈ splitH l) : p.length ≤ l.length := by
  have h1 := splitH_sum l
  have h2 : p.length ≤ ((splitH l).map List.length).sum := sum_mem _ _ (List.mem_map_of_mem h)
  have h3 : 0 < (splitH l).length := List.length_pos_iff.2 (splitH_ne l)
  omega
theorem index_hy (l : List UInt8) : (Lib.index l [45] = -1 ∧ (45 : UInt8) ∉ l) ∨ (∃ i : Nat, Lib.index l [45] = i ∧ i < l.length ∧ (45 : UInt8) ∉ l.take i ∧ l = l.take i ++ 45 :: l.drop (i + 1)) := by
  rcases Lib.index_spec l [45] with ⟨h1, h2⟩ | ⟨i, h1, h2, h3, h4⟩
  · refine .inl ⟨h1, fun hm => ?_⟩
    obtain ⟨j, hj, he⟩ := List.getElem_of_mem hm
    have := h2 j (by omega)
    rw [Lib.occAt_iff_take _ _ _ (by simp; omega)] at this
    rw [List.drop_eq_getElem_cons hj] at this
    simp [he] at this
  · have hr : i < l.length := by
      rcases Lib.occAt_room h3 with h | h
      · simp at h; omega
      · simp at h
    have hc := Lib.occAt_head (t := []) rfl h3
    have hg : l[i] = 45 := by rw [List.getElem?_eq_getElem hr] at hc; simpa using hc
    refine .inr ⟨i, h1, hr, fun hm => ?_, ?_⟩
    · obtain ⟨j, hj, he⟩ := List.getElem_of_mem hm
      have hj' : j < i := by simp at hj; omega
      have hjl : j < l.length := by omega
      have := h4 j hj'
      rw [Lib.occAt_iff_take _ _ _ (by simp; omega), List.drop_eq_getElem_cons hjl] at this
      rw [List.getElem_take] at he
      simp [he] at this
    · have := List.take_append_drop i l
      rw [List.drop_eq_getElem_cons hr, hg] at this
      exact this.symm
theorem splitK_hy : ∀ (n : Nat) (l : List UInt8), l.length ≤ n → Lib.splitK [45] 0 (Lib.count l [45]) l = splitH l
  | n, l, hn => by
    rcases index_hy l with ⟨h1, h2⟩ | ⟨i, h1, h2, h3, h4⟩
    · rw [Lib.count_miss h1, splitH_one l h2]; rfl
    · obtain ⟨m, rfl⟩ : ∃ m, n = m + 1 := ⟨n - 1, by omega⟩
      have ih := splitK_hy m (l.drop (i + 1)) (by simp; omega)
      rw [Lib.count_hit (by simp) h1, Nat.add_comm]
      have hm : ¬ (Lib.index l [45] == -1) = true := fun e => by have := beq_iff_eq.1 e; omega
      rw [Lib.splitK, if_neg hm, h1]
      show l.take (i + 0) :: Lib.splitK [45] 0 (Lib.count (l.drop (i + 1)) [45]) (l.drop (i + 1)) = _
      rw [ih]
      have e : splitH l = l.take i :: splitH (l.drop (i + 1)) := by
        have e2 := splitH_hy (l.take i) (l.drop (i + 1)) h3
        rwa [← h4] at e2
      rw [e]; rfl
end Go.Proofs.YthlccfjhgejlmaaGreatDoor
