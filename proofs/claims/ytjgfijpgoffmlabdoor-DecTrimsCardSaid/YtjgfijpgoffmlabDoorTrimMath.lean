import Derived.Test.YtjgfijpgoffmlabDoorFixMath
import Derived.Test.YtjgfijpgoffmlabDoorLawRight
import Derived.Test.YtjgfijpgoffmlabDoorA3r
namespace Go.Proofs.YtjgfijpgoffmlabDoor
open Go.RowKit

theorem fixF_pad (a : List UInt8) (k j : Nat) : fixF (a ++ List.replicate j 48) (k + j) = fixF a k := by
  funext p
  unfold fixF fixJ
  have e : (a ++ List.replicate j 48).length - (k + j) = a.length - k := by rw [List.length_append, List.length_replicate]; omega
  rw [e]
  generalize 100 - (a.length - k) = o
  by_cases h1 : o ≤ p ∧ p < o + a.length
  · rw [if_pos h1, if_pos ⟨h1.1, by rw [List.length_append]; omega⟩, List.getD_eq_getElem?_getD, List.getD_eq_getElem?_getD, List.getElem?_append_left (by omega)]
  · rw [if_neg h1]
    by_cases h2 : o ≤ p ∧ p < o + (a ++ List.replicate j 48).length
    · rw [if_pos h2, List.getD_eq_getElem?_getD, List.getElem?_append_right (by omega)]
      rw [List.length_append, List.length_replicate] at h2
      rw [List.getElem?_replicate_of_lt (by omega)]
      rfl
    · rw [if_neg h2]

/-- How many noughts Trim leaves out. -/
def trimZ (l : List UInt8) (k m : Nat) : Nat := k - m - (Lib.trimRightB (l.drop (l.length - k + m)) 48).length
theorem trimZ_le (l : List UInt8) (k m : Nat) : trimZ l k m ≤ k - m := by unfold trimZ; omega
theorem trim_split (l : List UInt8) (k m : Nat) (hk : k ≤ l.length) (hm : m < k) :
    l = l.take (l.length - trimZ l k m) ++ List.replicate (trimZ l k m) 48 ∧ l.take (l.length - trimZ l k m) = l.take (l.length - k + m) ++ Lib.trimRightB (l.drop (l.length - k + m)) 48 ∧ (Lib.trimRightB (l.drop (l.length - k + m)) 48).length + trimZ l k m = k - m := by
  obtain ⟨j, hj⟩ := trimR_split (l.drop (l.length - k + m))
  have hl := congrArg List.length hj
  rw [List.length_append, List.length_replicate, List.length_drop] at hl
  have hz : trimZ l k m = j := by unfold trimZ; omega
  have e : l = (l.take (l.length - k + m) ++ Lib.trimRightB (l.drop (l.length - k + m)) 48) ++ List.replicate j 48 := by
    rw [List.append_assoc, ← hj, List.take_append_drop]
  have hlen : (l.take (l.length - k + m) ++ Lib.trimRightB (l.drop (l.length - k + m)) 48).length = l.length - j := by
    rw [List.length_append, List.length_take]; omega
  have ht : l.take (l.length - j) = l.take (l.length - k + m) ++ Lib.trimRightB (l.drop (l.length - k + m)) 48 := by
    have := congrArg (List.take (l.length - j)) e
    rw [this, ← hlen, List.take_left]
  rw [hz]
  refine ⟨?_, ht, by omega⟩
  rw [ht]
  exact e
theorem right_of (a : List UInt8) (k : Nat) (hd : a.all digB = true) (hk : k < a.length) (hh : a.head? ≠ some 48 ∨ a.length = k + 1) : decRightB a (k : Int) = true := by
  have hne : a ≠ [] := by intro e; rw [e] at hk; simp at hk
  unfold decRightB digsB
  rw [hd]
  have e1 : a.isEmpty = false := by simpa using hne
  have e2 : decide ((k : Int) < (a.length : Int)) = true := by simp; omega
  have e3 : decide ((0 : Int) ≤ (k : Int)) = true := by simp
  rw [e1, e2, e3]
  rcases hh with h | h
  · have : (a.head? == some 48) = false := by simpa using h
    rw [this]; rfl
  · have : decide ((a.length : Int) - (k : Int) = 1) = true := by simp; omega
    rw [this]; simp
theorem head_take (l : List UInt8) (n : Nat) (hn : 0 < n) : (l.take n).head? = l.head? := by
  cases l with
  | nil => simp
  | cons a b =>
    obtain ⟨j, rfl⟩ : ∃ j, n = j + 1 := ⟨n - 1, by omega⟩
    rfl
theorem trim_right (l : List UInt8) (k m : Nat) (hN : Num l k) (hm : m < k) : decRightB (l.take (l.length - trimZ l k m)) ((k - trimZ l k m : Nat) : Int) = true := by
  have h1 := hN.lt
  have h2 := trimZ_le l k m
  have hl : (l.take (l.length - trimZ l k m)).length = l.length - trimZ l k m := by rw [List.length_take]; omega
  refine right_of _ _ (all_take hN.digs _) (by omega) ?_
  rw [head_take _ _ (by omega)]
  rcases hN.head with h | h
  · exact Or.inl h
  · right; omega
theorem pad_right (l : List UInt8) (k j : Nat) (hN : Num l k) : decRightB (l ++ List.replicate j 48) ((k + j : Nat) : Int) = true := by
  have h1 := hN.lt
  refine right_of _ _ ?_ (by rw [List.length_append, List.length_replicate]; omega) ?_
  · rw [List.all_append, hN.digs, Bool.true_and, List.all_eq_true]
    intro c hc
    rw [(List.mem_replicate.1 hc).2]
    rfl
  · rcases hN.head with h | h
    · left
      cases l with
      | nil => simp at h1
      | cons a b => exact h
    · right; rw [List.length_append, List.length_replicate]; omega
theorem trim_fix (l : List UInt8) (k m : Nat) (hk : k ≤ l.length) (hm : m < k) : fixF (l.take (l.length - trimZ l k m)) (k - trimZ l k m) = fixF l k := by
  have h := (trim_split l k m hk hm).1
  have hz := trimZ_le l k m
  have e := fixF_pad (l.take (l.length - trimZ l k m)) (k - trimZ l k m) (trimZ l k m)
  rw [← h, Nat.sub_add_cancel (by omega)] at e
  exact e.symm
theorem trim_last (l : List UInt8) (k m : Nat) (hk : k ≤ l.length) (hm : m < k) (h : m < k - trimZ l k m) : (l.take (l.length - trimZ l k m)).getLast? ≠ some 48 := by
  obtain ⟨-, h2, h3⟩ := trim_split l k m hk hm
  rw [h2, List.getLast?_append]
  have hne : Lib.trimRightB (l.drop (l.length - k + m)) 48 ≠ [] := by
    intro e
    rw [e] at h3
    simp at h3
    omega
  have he := trimR_ends (l.drop (l.length - k + m))
  unfold endsWell at he
  obtain ⟨x, hx⟩ := Option.ne_none_iff_exists'.1 (fun e => hne (List.getLast?_eq_none_iff.1 e))
  rw [hx] at he ⊢
  exact he
end Go.Proofs.YtjgfijpgoffmlabDoor
