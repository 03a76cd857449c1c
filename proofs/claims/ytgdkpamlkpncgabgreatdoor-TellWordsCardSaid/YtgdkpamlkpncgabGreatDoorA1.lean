import Derived.Test.YtgdkpamlkpncgabGreatDoorBase
namespace Go.Proofs.YtgdkpamlkpncgabGreatDoor
open Go.RowKit

/-- A byte that is a decimal digit. -/
def digB (c : UInt8) : Bool := decide (48 ≤ c.toNat) && decide (c.toNat ≤ 57)
/-- Digits alone, one at least. -/
def digsB (l : List UInt8) : Bool := l.all digB && !l.isEmpty

theorem all_take_succ (s : ByteArray) (k : Nat) (h : k < s.size) : (s.data.toList.take (k + 1)).all digB = ((s.data.toList.take k).all digB && digB s[k]) := by
  rw [take_succ s k h, List.all_append]; simp
theorem digsB_false_of (s : ByteArray) (k : Nat) (h : k < s.size) (hd : digB s[k] = false) : digsB s.data.toList = false := by
  have : s.data.toList.all digB = false := by
    rw [List.all_eq_false]
    exact ⟨s[k], by simp [ByteArray.getElem_eq_getElem_data], by simp [hd]⟩
  simp [digsB, this]
theorem digsB_end (s : ByteArray) (h : (s.data.toList.take s.size).all digB = true) : digsB s.data.toList = !s.toList.isEmpty := by
  rw [Lib.toList_data]
  have e : s.data.toList.take s.size = s.data.toList := List.take_of_length_le (Nat.le_of_eq (by simp))
  rw [e] at h
  simp [digsB, h]

theorem dig_le {c : UInt8} (h : digB c = true) : 48 ≤ c.toNat ∧ c.toNat ≤ 57 := by
  simpa [digB] using h
theorem all_take {l : List UInt8} (h : l.all digB = true) (n : Nat) : (l.take n).all digB = true :=
  List.all_eq_true.2 fun c hc => List.all_eq_true.1 h c (List.mem_of_mem_take hc)
end Go.Proofs.YtgdkpamlkpncgabGreatDoor
