/-
  Plain mathematics: what the law reckons of a number's row is what the program reckons of its digits.
-/
import Derived.Test.YtmkcebngobanjabDoorPl9
import Derived.Test.YtmkcebngobanjabDoorLawRight
namespace Go.Proofs.YtmkcebngobanjabDoor
open Go.RowKit
set_option linter.unusedVariables false

theorem more_iff (A : Nat → Int) : ∀ n, moreJ A n = true ↔ ∃ j, j < n ∧ j < 98 ∧ 0 < A j
  | 0 => by simp [moreJ]
  | n + 1 => by
    rw [moreJ, Bool.or_eq_true, more_iff A n, Bool.and_eq_true, decide_eq_true_iff, decide_eq_true_iff]
    constructor
    · rintro (⟨j, h1, h2, h3⟩ | ⟨h1, h2⟩)
      · exact ⟨j, by omega, h2, h3⟩
      · exact ⟨n, by omega, h1, h2⟩
    · rintro ⟨j, h1, h2, h3⟩
      by_cases e : j = n
      · subst e; exact .inr ⟨h2, h3⟩
      · exact .inl ⟨j, by omega, h2, h3⟩
theorem whole_iff (A : Nat → Int) : ∀ n, wholeJ A n = true ↔ ∀ j, j < n → 100 ≤ j → A j = 0
  | 0 => by simp [wholeJ]
  | n + 1 => by
    rw [wholeJ, Bool.and_eq_true, whole_iff A n, Bool.or_eq_true, decide_eq_true_iff, decide_eq_true_iff]
    constructor
    · rintro ⟨h1, h2⟩ j h3 h4
      by_cases e : j = n
      · subst e; omega
      · exact h1 j (by omega) h4
    · intro h
      exact ⟨fun j h1 h2 => h j (by omega) h2, by
        by_cases e : n < 100
        · exact .inl e
        · exact .inr (h n (by omega) (by omega))⟩
theorem drop_all (p : UInt8 → Bool) : ∀ l : List UInt8, (l.dropWhile p).isEmpty = l.all p
  | [] => rfl
  | x :: l => by
    rw [List.dropWhile_cons, List.all_cons]
    cases h : p x
    · simp
    · simpa [h] using drop_all p l
theorem trim_all (c : UInt8) (l : List UInt8) : (Lib.trimB l c).isEmpty = l.all (· == c) := by
  unfold Lib.trimB Lib.trimLeftB Lib.trimRightB
  rw [drop_all, List.all_reverse]
  rw [Bool.eq_iff_iff]
  constructor
  · intro h
    have h1 : (l.reverse.dropWhile (· == c)) = [] := by
      cases hx : l.reverse.dropWhile (· == c) with
      | nil => rfl
      | cons x xs =>
        exfalso
        have hne : ¬ (x == c) = true := by
          have := List.head_dropWhile_not (· == c) (l := l.reverse) (by rw [hx]; exact List.cons_ne_nil _ _)
          simp only [hx, List.head_cons] at this
          simpa using this
        rw [hx, List.all_cons, Bool.and_eq_true] at h
        exact hne h.1
    have h2 := drop_all (· == c) l.reverse
    rw [h1, List.all_reverse] at h2
    exact h2.symm
  · intro h
    have h2 := drop_all (· == c) l.reverse
    rw [List.all_reverse, h] at h2
    rw [List.isEmpty_iff.1 h2]
    rfl
theorem fix_at (s : ByteArray) (k : Nat) (p : Nat) (h1 : 100 - (s.size - k) ≤ p) (h2 : p < 100 - (s.size - k) + s.size) : fixF s.data.toList k p = ((s.data.toList.getD (p - (100 - (s.size - k))) 48).toNat : Int) - 48 := by
  unfold fixF fixJ
  rw [size_data, if_pos ⟨h1, h2⟩]
theorem fix_out (s : ByteArray) (k : Nat) (p : Nat) (h : p < 100 - (s.size - k) ∨ 100 - (s.size - k) + s.size ≤ p) : fixF s.data.toList k p = 0 := by
  unfold fixF fixJ
  rw [size_data, if_neg (by omega)]
section
variable (s : ByteArray) (k : Nat) (hn : Num s.data.toList k)
include hn
theorem num_m : k < s.size ∧ s.size ≤ 60 := by
  have h1 := hn.lt
  have h2 := hn.le
  rw [size_data] at h1 h2
  exact ⟨h1, h2⟩
theorem row_more : moreJ (fixF s.data.toList k) 200 = decide (2 < s.size - k) := by
  obtain ⟨hk, h60⟩ := num_m s k hn
  rw [Bool.eq_iff_iff, more_iff, decide_eq_true_iff]
  constructor
  · rintro ⟨j, h1, h2, h3⟩
    by_cases hm : 2 < s.size - k
    · exact hm
    · rw [fix_out s k j (by omega)] at h3
      omega
  · intro hm
    refine ⟨100 - (s.size - k), by omega, by omega, ?_⟩
    rw [fix_at s k _ (Nat.le_refl _) (by omega), Nat.sub_self]
    have hl : 0 < s.data.toList.length := by rw [size_data]; omega
    have hd := dig_le (List.all_eq_true.1 hn.digs _ (List.getElem_mem hl))
    have hh : s.data.toList[0] ≠ 48 := by
      rcases hn.head with h | h
      · intro e
        apply h
        rw [List.head?_eq_getElem?, List.getElem?_eq_getElem hl, e]
      · rw [size_data] at h; omega
    rw [List.getD_eq_getElem?_getD, List.getElem?_eq_getElem hl, Option.getD_some]
    have : s.data.toList[0].toNat ≠ 48 := fun e => hh (UInt8.toNat_inj.1 e)
    omega
theorem row_last : 10 * fixF s.data.toList k 98 + fixF s.data.toList k 99 = valL (whB s k).data.toList % 100 := by
  obtain ⟨hk, h60⟩ := num_m s k hn
  have hW : (whB s k).data.toList = s.data.toList.take (s.size - k) := by unfold whB; exact extract_take _ _
  rw [hW]
  have hdig : ∀ j (h : j < s.data.toList.length), 48 ≤ (s.data.toList[j]).toNat ∧ (s.data.toList[j]).toNat ≤ 57 := fun j h => dig_le (List.all_eq_true.1 hn.digs _ (List.getElem_mem h))
  have hlast : ∀ j, j < s.size → valL (s.data.toList.take (j + 1)) = 10 * valL (s.data.toList.take j) + (((s.data.toList.getD j 48).toNat : Int) - 48) := fun j hj => by
    rw [take_succ s j hj, valL_snoc]
    rw [List.getD_eq_getElem?_getD, List.getElem?_eq_getElem (by rw [size_data]; exact hj)]
    rfl
  have hget : ∀ j, j < s.size → 48 ≤ (s.data.toList.getD j 48).toNat ∧ (s.data.toList.getD j 48).toNat ≤ 57 := fun j hj => by
    have := hdig j (by rw [size_data]; exact hj)
    rw [List.getD_eq_getElem?_getD, List.getElem?_eq_getElem (by rw [size_data]; exact hj), Option.getD_some]
    exact this
  obtain ⟨m, hm⟩ : ∃ m, s.size - k = m + 1 := ⟨s.size - k - 1, by omega⟩
  rw [hm, hlast m (by omega), fix_at s k 99 (by omega) (by omega), hm, show 99 - (100 - (m + 1)) = m by omega]
  have h1 := hget m (by omega)
  by_cases hm0 : m = 0
  · subst hm0
    rw [fix_out s k 98 (by omega), List.take_zero]
    show _ = (10 * 0 + _) % 100
    omega
  · obtain ⟨q, rfl⟩ : ∃ q, m = q + 1 := ⟨m - 1, by omega⟩
    rw [hlast q (by omega), fix_at s k 98 (by omega) (by omega), hm, show 98 - (100 - (q + 1 + 1)) = q by omega]
    have h2 := hget q (by omega)
    omega
theorem row_whole : wholeJ (fixF s.data.toList k) 200 = pWhole s k := by
  obtain ⟨hk, h60⟩ := num_m s k hn
  unfold pWhole
  rw [trim_all, Bool.eq_iff_iff, whole_iff, List.all_eq_true]
  constructor
  · intro h x hx
    obtain ⟨j, hj, rfl⟩ := List.getElem_of_mem hx
    rw [List.length_drop, size_data] at hj
    have := h (100 + j) (by omega) (by omega)
    rw [fix_at s k _ (by omega) (by omega), show 100 + j - (100 - (s.size - k)) = s.size - k + j by omega, List.getD_eq_getElem?_getD, List.getElem?_eq_getElem (by rw [size_data]; omega), Option.getD_some] at this
    rw [List.getElem_drop, beq_iff_eq]
    exact UInt8.toNat_inj.1 (by have : (48 : UInt8).toNat = 48 := rfl; omega)
  · intro h j h1 h2
    by_cases hj : j < 100 - (s.size - k) + s.size
    · rw [fix_at s k _ (by omega) hj]
      have hlt : j - (100 - (s.size - k)) < s.data.toList.length := by rw [size_data]; omega
      have hmem : s.data.toList[j - (100 - (s.size - k))] ∈ s.data.toList.drop (s.size - k) := by
        rw [List.mem_iff_getElem]
        refine ⟨j - 100, by rw [List.length_drop, size_data]; omega, ?_⟩
        rw [List.getElem_drop]
        congr 1
        omega
      have := beq_iff_eq.1 (h _ hmem)
      rw [List.getD_eq_getElem?_getD, List.getElem?_eq_getElem hlt, Option.getD_some, this]
      rfl
    · exact fix_out s k j (by omega)
end
end Go.Proofs.YtmkcebngobanjabDoor
