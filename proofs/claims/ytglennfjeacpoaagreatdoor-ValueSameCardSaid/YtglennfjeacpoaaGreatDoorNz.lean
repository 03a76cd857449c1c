import Derived.Test.YtglennfjeacpoaaGreatDoorA10
namespace Go.Proofs.YtglennfjeacpoaaGreatDoor
open Go.RowKit
set_option linter.unusedVariables false

theorem drop48 (l : List UInt8) : ∃ k, l = List.replicate k 48 ++ l.dropWhile (· == 48) := by
  induction l with
  | nil => exact ⟨0, rfl⟩
  | cons c r ih =>
    obtain ⟨k, hk⟩ := ih
    by_cases h : c = 48
    · subst h
      refine ⟨k + 1, ?_⟩
      rw [List.dropWhile_cons_of_pos (by simp), List.replicate_succ, List.cons_append, ← hk]
    · exact ⟨0, by rw [List.dropWhile_cons_of_neg (by simpa using h)]; rfl⟩
theorem drop48_head (l : List UInt8) : (l.dropWhile (· == 48)).head? ≠ some 48 := by
  induction l with
  | nil => simp
  | cons c r ih =>
    by_cases h : c = 48
    · subst h
      rwa [List.dropWhile_cons_of_pos (by simp)]
    · rw [List.dropWhile_cons_of_neg (by simpa using h)]
      simpa using h
theorem trimR_split (l : List UInt8) : ∃ k, l = Lib.trimRightB l 48 ++ List.replicate k 48 := by
  obtain ⟨k, hk⟩ := drop48 l.reverse
  refine ⟨k, ?_⟩
  have := congrArg List.reverse hk
  rw [List.reverse_append, List.reverse_reverse, List.reverse_replicate] at this
  exact this
theorem incR_length (r : List UInt8) : r.length ≤ (incR r).length ∧ (incR r).length ≤ r.length + 1 := by
  induction r with
  | nil => exact ⟨by simp [incR], by simp [incR]⟩
  | cons c r ih =>
    rw [incR]
    split
    · simp only [List.length_cons]
      omega
    · simp
theorem incL_length (l : List UInt8) : l.length ≤ (incL l).length ∧ (incL l).length ≤ l.length + 1 := by
  have := incR_length l.reverse
  unfold incL
  simpa using this

theorem roundL_length (l : List UInt8) (k m : Nat) (hk : k ≤ l.length) : min k m ≤ (roundL l k m).length ∧ (roundL l k m).length ≤ l.length + 1 := by
  have hl : (l.take (l.length - k + m)).length = min (l.length - k + m) l.length := List.length_take
  unfold roundL
  split
  · split
    · have := incL_length (l.take (l.length - k + m))
      omega
    · omega
  · omega
/-- How many noughts Trim leaves out. -/
def trimZ (l : List UInt8) (k m : Nat) : Nat := k - m - (Lib.trimRightB (l.drop (l.length - k + m)) 48).length
theorem trimZ_le (l : List UInt8) (k m : Nat) : trimZ l k m ≤ k - m := by unfold trimZ; omega
theorem trim_split (l : List UInt8) (k m : Nat) (hk : k ≤ l.length) (hm : m < k) :
    l = l.take (l.length - trimZ l k m) ++ List.replicate (trimZ l k m) 48 ∧ l.take (l.length - trimZ l k m) = l.take (l.length - k + m) ++ Lib.trimRightB (l.drop (l.length - k + m)) 48 ∧ (Lib.trimRightB (l.drop (l.length - k + m)) 48).length + trimZ l k m = k - m := by
  obtain ⟨j, hj⟩ := trimR_split (l.drop (l.length - k + m))
  have hl := congrArg List.length hj
  rw [List.length_append, List.length_replicate, List.length_drop] at hl
  have hz : trimZ l k m = j := by unfold trimZ; omega
  have e : l = (l.take (l.length - k + m) ++ Lib.trimRightB (l.drop (l.length - k + m)) 48) ++ List.replicate j 48 := by
    rw [List.append_assoc, ← hj, List.take_append_drop]
  have hlen : (l.take (l.length - k + m) ++ Lib.trimRightB (l.drop (l.length - k + m)) 48).length = l.length - j := by
    rw [List.length_append, List.length_take]; omega
  have ht : l.take (l.length - j) = l.take (l.length - k + m) ++ Lib.trimRightB (l.drop (l.length - k + m)) 48 := by
    have := congrArg (List.take (l.length - j)) e
    rw [this, ← hlen, List.take_left]
  rw [hz]
  refine ⟨?_, ht, by omega⟩
  rw [ht]
  exact e
end Go.Proofs.YtglennfjeacpoaaGreatDoor
