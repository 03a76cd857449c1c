/-
  Several texts put together (part 5): what the law and the program call, walked; their contracts.
-/
import Derived.Lib.SlicesCompact
namespace Go.Proofs.YthlccfjhgejlmaaGreatDoor
open Go
theorem compact_length_eq {α : Type} [Inhabited α] [DecidableEq α] (zs : List α) :
    (Lib.compact zs).length = zs.length ↔ ∀ j, j < zs.length → Lib.keeps zs.toArray j = true := by
  constructor
  · intro h j hj
    have h2 : ((List.range zs.length).filter (Lib.keeps zs.toArray)).length = (List.range zs.length).length := by
      rw [List.length_range]
      refine Eq.trans ?_ h
      simp [Lib.compact, Lib.compactUpTo]
    exact List.length_filter_eq_length_iff.1 h2 j (List.mem_range.2 hj)
  · intro h; rw [Lib.compact_all zs h]
theorem compact_le {α : Type} [Inhabited α] [DecidableEq α] (zs : List α) : (Lib.compact zs).length ≤ zs.length := by
  unfold Lib.compact Lib.compactUpTo
  rw [List.length_map]
  exact Nat.le_trans (List.length_filter_le _ _) (by simp)
theorem keeps_all_iff {α : Type} [Inhabited α] [DecidableEq α] (le : α → α → Prop) (anti : ∀ a b, le a b → le b a → a = b) (zs : List α) (hs : zs.Pairwise le) :
    (∀ j, j < zs.length → Lib.keeps zs.toArray j = true) ↔ zs.Nodup := by
  constructor
  · intro h
    rw [List.Nodup, List.pairwise_iff_getElem]
    intro i j hi hj hij he
    have hlt := List.pairwise_iff_getElem.1 hs
    have k1 := h (i + 1) (by omega)
    simp only [Lib.keeps, decide_eq_true_eq] at k1
    rcases k1 with k1 | k1
    · omega
    · apply k1
      rw [getElem!_pos zs.toArray (i + 1) (by simp; omega), getElem!_pos zs.toArray (i + 1 - 1) (by simp; omega)]
      simp only [List.getElem_toArray, Nat.add_sub_cancel]
      have a1 : le zs[i] zs[i + 1] := hlt i (i + 1) hi (by omega) (by omega)
      by_cases hj2 : i + 1 = j
      · subst hj2; exact he.symm
      · have a2 : le zs[i + 1] zs[j] := hlt (i + 1) j (by omega) hj (by omega)
        rw [← he] at a2
        exact anti _ _ a2 a1
  · intro h j hj
    simp only [Lib.keeps, decide_eq_true_eq]
    by_cases h0 : j = 0
    · exact Or.inl h0
    · refine Or.inr ?_
      rw [getElem!_pos zs.toArray j (by simpa using hj), getElem!_pos zs.toArray (j - 1) (by simp; omega)]
      simp only [List.getElem_toArray]
      intro he
      exact (List.pairwise_iff_getElem.1 h) (j - 1) j (by omega) hj (by omega) he.symm
theorem bytes_le_trans (a b c : List UInt8) (h1 : a ≤ b) (h2 : b ≤ c) : a ≤ c := List.le_trans h1 h2
theorem bytes_le_total (a b : List UInt8) : a ≤ b ∨ b ≤ a := List.le_total a b
theorem bytes_le_anti (a b : List UInt8) (h1 : a ≤ b) (h2 : b ≤ a) : a = b := List.le_antisymm h1 h2
theorem sorted_compact_lt (ss : List (List UInt8)) :
    (Lib.compact (ss.mergeSort fun x y => decide (x ≤ y))).length < ss.length ↔ ¬ ss.Nodup := by
  have hs : (ss.mergeSort fun x y => decide (x ≤ y)).Pairwise (fun x y => x ≤ y) := by
    have := List.pairwise_mergeSort (le := fun (x y : List UInt8) => decide (x ≤ y)) (fun a b c h1 h2 => by
      simp only [decide_eq_true_eq] at *; exact bytes_le_trans a b c h1 h2) (fun a b => by
      have := bytes_le_total a b; simpa using this) ss
    exact this.imp (fun h => by simpa using h)
  have hp := List.mergeSort_perm ss (fun x y => decide (x ≤ y))
  have hl := hp.length_eq
  have hle := compact_le (ss.mergeSort fun x y => decide (x ≤ y))
  have hk := keeps_all_iff (fun (x y : List UInt8) => x ≤ y) bytes_le_anti _ hs
  have he := compact_length_eq (ss.mergeSort fun x y => decide (x ≤ y))
  rw [hk, hp.nodup_iff] at he
  constructor
  · intro h hn; have := he.2 hn; omega
  · intro h
    have : (Lib.compact (ss.mergeSort fun x y => decide (x ≤ y))).length ≠ (ss.mergeSort fun x y => decide (x ≤ y)).length := fun e => h (he.1 e)
    omega
end Go.Proofs.YthlccfjhgejlmaaGreatDoor
