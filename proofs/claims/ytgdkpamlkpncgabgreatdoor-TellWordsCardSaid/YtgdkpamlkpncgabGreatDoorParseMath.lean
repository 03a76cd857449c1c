import Derived.Test.YtgdkpamlkpncgabGreatDoorA6
namespace Go.Proofs.YtgdkpamlkpncgabGreatDoor
open Go.RowKit

theorem index_not (c : UInt8) : ∀ l : List UInt8, (∀ x ∈ l, x ≠ c) → Lib.index l [c] = -1
  | [], _ => rfl
  | b :: l, h => by
    have hb : (c == b) = false := by rw [beq_eq_false_iff_ne]; exact fun e => h b (List.mem_cons_self ..) e.symm
    have ih := index_not c l (fun x hx => h x (List.mem_cons_of_mem _ hx))
    simp [Lib.index, List.isPrefixOf, hb, ih]
theorem index_mid (c : UInt8) (y : List UInt8) : ∀ x : List UInt8, (∀ b ∈ x, b ≠ c) → Lib.index (x ++ c :: y) [c] = x.length
  | [], _ => by simp [Lib.index, List.isPrefixOf]
  | b :: x, h => by
    have hb : (c == b) = false := by rw [beq_eq_false_iff_ne]; exact fun e => h b (List.mem_cons_self ..) e.symm
    have ih := index_mid c y x (fun z hz => h z (List.mem_cons_of_mem _ hz))
    rw [List.cons_append]
    have e : ((x.length : Int) == -1) = false := by rw [beq_eq_false_iff_ne]; omega
    simp [Lib.index, List.isPrefixOf, hb, ih, e]
theorem cut_none (c : UInt8) (l : List UInt8) (h : ∀ x ∈ l, x ≠ c) : Lib.cut l [c] = (l, [], false) := by
  unfold Lib.cut
  rw [index_not c l h]
  rfl
theorem cut_mid (c : UInt8) (x y : List UInt8) (h : ∀ b ∈ x, b ≠ c) : Lib.cut (x ++ c :: y) [c] = (x, y, true) := by
  unfold Lib.cut
  rw [index_mid c y x h, if_pos (by omega)]
  simp
theorem dig_not46 {c : UInt8} (h : digB c = true) : c ≠ 46 := by
  intro e; rw [e] at h; exact absurd h (by decide)
theorem all_not46 {l : List UInt8} (h : l.all digB = true) : ∀ x ∈ l, x ≠ 46 := fun x hx => dig_not46 (List.all_eq_true.1 h x hx)

/-- What stands behind a sign: its digits, and how many stand behind the point. -/
def bodyL (b : List UInt8) : Option (List UInt8 × Nat) :=
  let c := Lib.cut b [46]
  if digsB c.1 = true ∧ (c.2.2 = true → digsB c.2.1 = true) ∧ c.1.length + c.2.1.length ≤ 40 then
    some (Lib.trimLeftB (c.1.take (c.1.length - 1)) 48 ++ c.1.drop (c.1.length - 1) ++ c.2.1, c.2.1.length)
  else none
theorem parseL_body (l : List UInt8) : parseL l = (bodyL (Lib.trimPrefix l [45])).map fun x => (Lib.hasPrefix l [45], x.1, x.2) := by
  unfold parseL bodyL
  simp only
  split <;> rfl

/-- Noughts ahead are left out while more digits than k stand there. -/
def stripL (k : Nat) : List UInt8 → List UInt8
  | [] => []
  | c :: l => if k < l.length + 1 ∧ c = 48 then stripL k l else c :: l
theorem strip_whole (part : List UInt8) : ∀ w : List UInt8, w ≠ [] → stripL (part.length + 1) (w ++ part) = Lib.trimLeftB (w.take (w.length - 1)) 48 ++ w.drop (w.length - 1) ++ part
  | [], h => absurd rfl h
  | [c], _ => by simp [stripL, Lib.trimLeftB]
  | c :: d :: w, _ => by
    have ih := strip_whole part (d :: w) (by simp)
    have hk : part.length + 1 < ((d :: w) ++ part).length + 1 := by simp; omega
    have e1 : (c :: d :: w).length - 1 = (d :: w).length - 1 + 1 := by simp
    rw [e1, List.take_succ_cons, List.drop_succ_cons]
    by_cases h : c = 48
    · subst h
      rw [List.cons_append, stripL, if_pos ⟨hk, rfl⟩, ih]
      simp [Lib.trimLeftB]
    · rw [List.cons_append, stripL, if_neg (fun x => h x.2)]
      have h' : (c == 48) = false := by rw [beq_eq_false_iff_ne]; exact h
      unfold Lib.trimLeftB
      rw [List.dropWhile_cons, h']
      simp only [Bool.false_eq_true, if_false]
      rw [List.cons_append, List.cons_append]
      have := List.take_append_drop ((d :: w).length - 1) (d :: w)
      rw [this]
      rfl
theorem bodyL_plain {b : List UInt8} (h : b.all digB = true) : bodyL b = if b ≠ [] ∧ b.length ≤ 40 then some (stripL 1 b, 0) else none := by
  unfold bodyL
  rw [cut_none 46 b (all_not46 h)]
  by_cases hb : b = []
  · subst hb; simp [digsB]
  · have hd : digsB b = true := by
      unfold digsB; rw [h]; cases b with
      | nil => exact absurd rfl hb
      | cons => rfl
    have hs := strip_whole [] b hb
    simp only [List.append_nil, List.length_nil, Nat.zero_add] at hs
    by_cases hl : b.length ≤ 40
    · rw [if_pos ⟨hd, fun h => (by cases h), by simpa using hl⟩, if_pos ⟨hb, hl⟩, hs]
      simp
    · rw [if_neg (fun x => hl (by simpa using x.2.2)), if_neg (fun x => hl x.2)]
theorem bodyL_point {x y : List UInt8} (hx : x.all digB = true) (hy : y.all digB = true) (hx0 : x ≠ []) (hy0 : y ≠ []) : bodyL (x ++ 46 :: y) = if (x ++ y).length ≤ 40 then some (stripL (y.length + 1) (x ++ y), y.length) else none := by
  have hd : ∀ {l : List UInt8}, l.all digB = true → l ≠ [] → digsB l = true := by
    intro l h h0
    unfold digsB; rw [h]
    cases l with
    | nil => exact absurd rfl h0
    | cons => rfl
  unfold bodyL
  rw [cut_mid 46 x y (all_not46 hx), strip_whole y x hx0]
  by_cases hl : (x ++ y).length ≤ 40
  · rw [if_pos ⟨hd hx hx0, fun _ => hd hy hy0, by simpa using hl⟩, if_pos hl]
  · rw [if_neg (fun z => hl (by simpa using z.2.2)), if_neg hl]
theorem not_digs_of {l : List UInt8} {c : UInt8} (hc : c ∈ l) (h : digB c = false) : digsB l = false := by
  have : l.all digB = false := by
    rw [List.all_eq_false]; exact ⟨c, hc, by rw [h]; decide⟩
  unfold digsB; rw [this]; rfl
theorem bodyL_bad {x y : List UInt8} {c : UInt8} (hx : x.all digB = true) (hc : digB c = false) (h46 : c ≠ 46) : bodyL (x ++ c :: y) = none := by
  unfold bodyL
  have key : digsB (Lib.cut (x ++ c :: y) [46]).1 = false := by
    by_cases hy : ∃ u v, y = u ++ 46 :: v ∧ ∀ b ∈ u, b ≠ 46
    · obtain ⟨u, v, rfl, hu⟩ := hy
      have e : x ++ c :: (u ++ 46 :: v) = (x ++ c :: u) ++ 46 :: v := by simp
      rw [e, cut_mid 46 (x ++ c :: u) v (by
        intro b hb
        rcases List.mem_append.1 hb with h | h
        · exact all_not46 hx b h
        · rcases List.mem_cons.1 h with h | h
          · rw [h]; exact h46
          · exact hu b h)]
      exact not_digs_of (c := c) (by simp) hc
    · have hno : ∀ b ∈ y, b ≠ 46 := by
        intro b hb e
        subst e
        obtain ⟨u, v, e, hu⟩ : ∃ u v, y = u ++ 46 :: v ∧ ∀ b ∈ u, b ≠ 46 := by
          clear hy
          induction y with
          | nil => cases hb
          | cons d y ih =>
            by_cases hd : d = 46
            · exact ⟨[], y, by rw [hd]; rfl, fun _ h => by cases h⟩
            · rcases List.mem_cons.1 hb with h | h
              · exact absurd h.symm hd
              · obtain ⟨u, v, e, hu⟩ := ih h
                exact ⟨d :: u, v, by rw [e]; rfl, fun b hb => by
                  rcases List.mem_cons.1 hb with h | h
                  · rw [h]; exact hd
                  · exact hu b h⟩
        exact hy ⟨u, v, e, hu⟩
      rw [cut_none 46 _ (by
        intro b hb
        rcases List.mem_append.1 hb with h | h
        · exact all_not46 hx b h
        · rcases List.mem_cons.1 h with h | h
          · rw [h]; exact h46
          · exact hno b h)]
      exact not_digs_of (c := c) (by simp) hc
  simp only
  rw [if_neg (fun z => by rw [key] at z; exact absurd z.1 (by decide))]
theorem bodyL_first {y : List UInt8} : bodyL (46 :: y) = none := by
  unfold bodyL
  have := cut_mid 46 [] y (fun _ h => by cases h)
  rw [List.nil_append] at this
  rw [this]
  rfl
theorem bodyL_last {x : List UInt8} (hx : x.all digB = true) : bodyL (x ++ [46]) = none := by
  unfold bodyL
  rw [cut_mid 46 x [] (all_not46 hx)]
  simp only
  rw [if_neg (fun z => absurd (z.2.1 trivial) (by decide))]
theorem bodyL_behind {x z y : List UInt8} {c : UInt8} (hx : x.all digB = true) (hc : digB c = false) : bodyL (x ++ 46 :: (z ++ c :: y)) = none := by
  unfold bodyL
  rw [cut_mid 46 x _ (all_not46 hx)]
  simp only
  rw [if_neg (fun w => by
    have := w.2.1 trivial
    rw [not_digs_of (c := c) (by simp) hc] at this
    exact absurd this (by decide))]

/-- What has been read of a body behind i bytes: its digits, and where its point stands. -/
def St (b : List UInt8) (i : Nat) (D : List UInt8) (p : Int) : Prop :=
  D.all digB = true ∧ ((p = -1 ∧ D = b.take i) ∨ ∃ q : Nat, p = q ∧ 0 < q ∧ q < i ∧ q + 1 < b.length ∧ b[q]? = some 46 ∧ D = b.take q ++ (b.take i).drop (q + 1))
theorem St_start (b : List UInt8) : St b 0 [] (-1) := ⟨rfl, Or.inl ⟨rfl, rfl⟩⟩
theorem St_len {b D : List UInt8} {i : Nat} {p : Int} (h : St b i D p) (hi : i ≤ b.length) : D.length ≤ i ∧ -1 ≤ p ∧ p < i := by
  obtain ⟨_, ⟨rfl, rfl⟩ | ⟨q, rfl, h0, h1, h2, h3, rfl⟩⟩ := h
  · simp; omega
  · simp; omega
theorem St_digit {b D : List UInt8} {i : Nat} {p : Int} (h : St b i D p) (hi : i < b.length) (hd : digB b[i] = true) : St b (i + 1) (D ++ [b[i]]) p := by
  obtain ⟨hall, h⟩ := h
  refine ⟨by rw [List.all_append, hall]; simp [hd], ?_⟩
  rcases h with ⟨rfl, rfl⟩ | ⟨q, rfl, h0, h1, h2, h3, rfl⟩
  · exact Or.inl ⟨rfl, by rw [List.take_succ_eq_append_getElem hi]⟩
  · refine Or.inr ⟨q, rfl, h0, by omega, h2, h3, ?_⟩
    rw [List.take_succ_eq_append_getElem hi, List.drop_append_of_le_length (by simp; omega), List.append_assoc]
theorem St_point {b D : List UInt8} {i : Nat} (h : St b i D (-1)) (hi : i + 1 < b.length) (h46 : b[i]'(by omega) = 46) (h0 : 0 < i) : St b (i + 1) D i := by
  obtain ⟨hall, h⟩ := h
  refine ⟨hall, ?_⟩
  rcases h with ⟨_, rfl⟩ | ⟨q, hq, _⟩
  · refine Or.inr ⟨i, rfl, h0, by omega, hi, by rw [List.getElem?_eq_getElem (by omega), h46], ?_⟩
    rw [List.drop_of_length_le (by rw [List.length_take]; omega), List.append_nil]
  · omega
theorem split_mid {b : List UInt8} {q : Nat} {c : UInt8} (h : b[q]? = some c) : b = b.take q ++ c :: b.drop (q + 1) := by
  obtain ⟨hq, e⟩ := List.getElem?_eq_some_iff.1 h
  conv => lhs; rw [← List.take_append_drop q b, List.drop_eq_getElem_cons hq, e]
theorem St_bad {b D : List UInt8} {i : Nat} {p : Int} (h : St b i D p) (hi : i < b.length) (hd : digB b[i] = false) (hp : ¬ (b[i] = 46 ∧ p < 0 ∧ 0 < i ∧ i + 1 < b.length)) : bodyL b = none := by
  obtain ⟨hall, h⟩ := h
  have hs := split_mid (List.getElem?_eq_getElem hi)
  rcases h with ⟨rfl, rfl⟩ | ⟨q, rfl, h0, h1, h2, h3, rfl⟩
  · by_cases h46 : b[i] = 46
    · rw [h46] at hs
      rcases Nat.eq_zero_or_pos i with h0 | h0
      · subst h0
        rw [hs]
        exact bodyL_first
      · have : b.length ≤ i + 1 := by
          rcases Nat.lt_or_ge (i + 1) b.length with h | h
          · exact absurd ⟨h46, by omega, h0, h⟩ hp
          · exact h
        rw [List.drop_of_length_le this] at hs
        rw [hs]
        exact bodyL_last hall
    · rw [hs]
      exact bodyL_bad hall hd h46
  · have hx : (b.take q).all digB = true := by rw [List.all_append, Bool.and_eq_true] at hall; exact hall.1
    have e1 := split_mid h3
    have e2 : b.drop (q + 1) = (b.drop (q + 1)).take (i - (q + 1)) ++ b[i] :: (b.drop (q + 1)).drop (i - (q + 1) + 1) := by
      apply split_mid
      rw [List.getElem?_drop, show q + 1 + (i - (q + 1)) = i by omega, List.getElem?_eq_getElem hi]
    rw [e1, e2]
    exact bodyL_behind hx hd
theorem St_end {b D : List UInt8} {p : Int} (h : St b b.length D p) (sc : Nat) (hsc : (sc : Int) = if 0 ≤ p then (b.length : Int) - 1 - p else 0) : bodyL b = if D ≠ [] ∧ D.length ≤ 40 then some (stripL (sc + 1) D, sc) else none := by
  obtain ⟨hall, h⟩ := h
  rcases h with ⟨rfl, rfl⟩ | ⟨q, rfl, h0, h1, h2, h3, rfl⟩
  · rw [List.take_length] at hall ⊢
    rw [if_neg (by omega)] at hsc
    have : sc = 0 := by omega
    subst this
    exact bodyL_plain hall
  · rw [List.take_length] at hall ⊢
    rw [List.all_append, Bool.and_eq_true] at hall
    rw [if_pos (by omega)] at hsc
    have e1 := split_mid h3
    have hx0 : b.take q ≠ [] := by intro e; have := congrArg List.length e; rw [List.length_take, List.length_nil] at this; omega
    have hy0 : b.drop (q + 1) ≠ [] := by intro e; have := congrArg List.length e; rw [List.length_drop, List.length_nil] at this; omega
    have hl : (b.drop (q + 1)).length = sc := by simp; omega
    have := bodyL_point hall.1 hall.2 hx0 hy0
    rw [← e1, hl] at this
    rw [this]
    have hne : b.take q ++ b.drop (q + 1) ≠ [] := by intro e; exact hx0 (List.append_eq_nil_iff.1 e).1
    by_cases h40 : (b.take q ++ b.drop (q + 1)).length ≤ 40
    · rw [if_pos h40, if_pos ⟨hne, h40⟩]
    · rw [if_neg h40, if_neg (fun x => h40 x.2)]
theorem St_sc {b D : List UInt8} {p : Int} (h : St b b.length D p) (hp : 0 ≤ p) : (b.length : Int) - 1 - p + 1 ≤ D.length ∧ 0 ≤ (b.length : Int) - 1 - p := by
  obtain ⟨_, ⟨rfl, rfl⟩ | ⟨q, rfl, h0, h1, h2, h3, rfl⟩⟩ := h
  · omega
  · simp; omega
end Go.Proofs.YtgdkpamlkpncgabGreatDoor
