/-
  Several texts put together (part 7): what the law and the program call, walked; their contracts.
-/
import Derived.Test.YtgdkpamlkpncgaaGreatDoorR4
import Derived.Lib.TrimU
namespace Go.Proofs.YtgdkpamlkpncgaaGreatDoor
open Go.RowKit
set_option linter.unusedVariables false
set_option linter.unusedSimpArgs false
theorem cont_high (s : ByteArray) (pos j : Nat) (hj : 0 < j) (hj2 : j < (Utf8.decode s pos).2) : pos + j < s.size /\ 128 <= (s.get! (pos + j)).toNat:=by
 unfold Utf8.decode at hj2
 simp only at hj2
 split at hj2
 ·simp at hj2; omega
 split at hj2
 ·rename_i h
  simp only [Bool.and_eq_true,decide_eq_true_eq,beq_iff_eq] at h
  split at hj2
  ·simp at hj2
   obtain rfl : j = 1:=by omega
   exact ⟨h.2.1,by omega⟩
  ·simp at hj2; omega
 split at hj2
 ·rename_i h
  simp only [Bool.and_eq_true,decide_eq_true_eq,beq_iff_eq] at h
  split at hj2
  ·simp at hj2
   rcases (by omega : j = 1 ∨ j = 2) with rfl | rfl
   ·exact ⟨h.1.2.1,by omega⟩
   ·exact ⟨h.2.1,by omega⟩
  ·simp at hj2; omega
 split at hj2
 ·rename_i h
  simp only [Bool.and_eq_true,decide_eq_true_eq,beq_iff_eq] at h
  split at hj2
  ·simp at hj2
   rcases (by omega : j = 1 ∨ j = 2 ∨ j = 3) with rfl | rfl | rfl
   ·exact ⟨h.1.1.2.1,by omega⟩
   ·exact ⟨h.1.2.1,by omega⟩
   ·exact ⟨h.2.1,by omega⟩
  ·simp at hj2; omega
 ·simp at hj2; omega
theorem get_bang (s : ByteArray) (k : Nat) (h : k < s.size) : s.get! k = s.data.toList[k]'(by rw [size_data]; exact h):=by
 have h2 : s.get! k = s.data[k]!:=rfl
 rw [h2,getElem!_pos s.data k h]
 simp
end Go.Proofs.YtgdkpamlkpncgaaGreatDoor
