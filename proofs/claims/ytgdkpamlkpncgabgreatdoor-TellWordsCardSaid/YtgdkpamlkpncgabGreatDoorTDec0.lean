import Derived.Test.YtgdkpamlkpncgabGreatDoorRune
import Derived.BigCall
namespace Go.Proofs.YtgdkpamlkpncgabGreatDoor
open Go.RowKit
set_option linter.unusedVariables false
set_option linter.unusedSimpArgs false

/-- What Decode tells from place pos on. -/
def decFrom (s : ByteArray) : Nat → Nat → List UInt8
  | 0, _ => []
  | fuel + 1, pos => if pos < s.size then (if (Utf8.decode s pos).1 = 13 then [] else Lib.encodeRune (Utf8.decode s pos).1) ++ decFrom s fuel (pos + (Utf8.decode s pos).2) else []
def decAll (s : ByteArray) : List UInt8 := decFrom s s.size 0
theorem width_pos (s : ByteArray) (pos : Nat) (h : pos < s.size) : 1 ≤ (Utf8.decode s pos).2 := by
  by_cases ha : (s[pos]'h).toNat < 128
  · rw [decode_ascii s pos h ha]
    exact Nat.le_refl _
  · exact (decode_high s pos h (by omega)).2
theorem decFrom_end (s : ByteArray) (fuel pos : Nat) (h : ¬ pos < s.size) : decFrom s fuel pos = [] := by
  cases fuel with
  | zero => rfl
  | succ f => simp [decFrom, h]

theorem decFrom_length (s : ByteArray) : ∀ fuel pos, (decFrom s fuel pos).length ≤ 4 * (s.size - pos)
  | 0, _ => by simp [decFrom]
  | f + 1, pos => by
    unfold decFrom
    by_cases hp : pos < s.size
    · rw [if_pos hp, List.length_append]
      have ih := decFrom_length s f (pos + (Utf8.decode s pos).2)
      have hw := width_pos s pos hp
      have h4 : (if (Utf8.decode s pos).1 = 13 then [] else Lib.encodeRune (Utf8.decode s pos).1).length ≤ 4 := by
        split
        · simp
        · have := Lib.runeCells_le ((Utf8.decode s pos).1 : Int)
          rw [Lib.runeCells_length] at this
          exact this.2
      omega
    · rw [if_neg hp]; simp

end Go.Proofs.YtgdkpamlkpncgabGreatDoor
