import Derived.Test.YtjgfijpgoffmlabDoorBase
namespace Go.Proofs.YtjgfijpgoffmlabDoor
open Go.RowKit

/-- A byte that is a decimal digit. -/
def digB (c : UInt8) : Bool := decide (48 ≤ c.toNat) && decide (c.toNat ≤ 57)
/-- Digits alone, one at least. -/
def digsB (l : List UInt8) : Bool := l.all digB && !l.isEmpty

theorem all_take_succ (s : ByteArray) (k : Nat) (h : k < s.size) : (s.data.toList.take (k + 1)).all digB = ((s.data.toList.take k).all digB && digB s[k]) := by
  rw [take_succ s k h, List.all_append]; simp
theorem digsB_false_of (s : ByteArray) (k : Nat) (h : k < s.size) (hd : digB s[k] = false) : digsB s.data.toList = false := by
  have : s.data.toList.all digB = false := by
    rw [List.all_eq_false]
    exact ⟨s[k], by simp [ByteArray.getElem_eq_getElem_data], by simp [hd]⟩
  simp [digsB, this]
theorem digsB_end (s : ByteArray) (h : (s.data.toList.take s.size).all digB = true) : digsB s.data.toList = !s.toList.isEmpty := by
  rw [Lib.toList_data]
  have e : s.data.toList.take s.size = s.data.toList := List.take_of_length_le (Nat.le_of_eq (by simp))
  rw [e] at h
  simp [digsB, h]

set_option maxHeartbeats 400000 in
theorem areDigits_any (s : ByteArray) (w : World) (hs : s.size ≤ maxLen) :
    Calls Tryd.prog 30 #[.string s] w fun e w' => e = .returned (.bool (digsB s.data.toList)) ∧ w = w' := by
  unfold maxLen at hs
  go_enter Tryd.func30, Tryd.ntmps30
  go_wp2
  go_loop [6] (fun i => ∃ k : Nat, k ≤ s.size ∧ i = .int .i64 k ∧ (s.data.toList.take k).all digB = true) (fun i => s.size - (intOf i).toNat)
  case atStart => exact ⟨0, Nat.zero_le _, rfl, rfl⟩
  case round =>
    obtain ⟨k, hk, rfl, hd⟩ := hrel
    have Hd := Lib.hid hd
    clear hd
    by_cases hlt : k < s.size
    · by_cases h1 : (48 : Int) ≤ (s[k].toNat : Int)
      · by_cases h2 : (s[k].toNat : Int) ≤ 57
        · have hb : digB s[k] = true := by simp only [digB, Bool.and_eq_true, decide_eq_true_eq]; omega
          have Hb := Lib.hid hb
          clear hb
          go_wp2
          go_round
          case rel => exact ⟨k + 1, by omega, by go_num, by rw [all_take_succ s k hlt, Hd.out, Hb.out]; rfl⟩
          case measure => simp [intOf]; omega
        · have hb : digB s[k] = false := by simp only [digB, Bool.and_eq_false_iff, decide_eq_false_iff_not]; omega
          have Hb := Lib.hid (digsB_false_of s k hlt hb)
          clear hb
          go_wp2
          go_ret
          exact ⟨ret_bool Hb.out.symm, rfl⟩
      · have hb : digB s[k] = false := by simp only [digB, Bool.and_eq_false_iff, decide_eq_false_iff_not]; omega
        have Hb := Lib.hid (digsB_false_of s k hlt hb)
        clear hb
        go_wp2
        go_ret
        exact ⟨ret_bool Hb.out.symm, rfl⟩
    · obtain rfl : k = s.size := by omega
      go_wp2
      go_ret
      exact ⟨ret_bool (digsB_end s Hd.out).symm, rfl⟩
end Go.Proofs.YtjgfijpgoffmlabDoor
