import Derived.Test.YtgdkpamlkpncgabGreatDoorA1
namespace Go.Proofs.YtgdkpamlkpncgabGreatDoor
open Go.RowKit

set_option maxHeartbeats 400000 in
theorem areDigits_any (s : ByteArray) (w : World) (hs : s.size ≤ maxLen) :
    Calls Tryz.prog 80 #[.string s] w fun e w' => e = .returned (.bool (digsB s.data.toList)) ∧ w = w' := by
  unfold maxLen at hs
  go_enter Tryz.func80, Tryz.ntmps80
  go_wp2
  go_loop [6] (fun i => ∃ k : Nat, k ≤ s.size ∧ i = .int .i64 k ∧ (s.data.toList.take k).all digB = true) (fun i => s.size - (intOf i).toNat)
  case atStart => exact ⟨0, Nat.zero_le _, rfl, rfl⟩
  case round =>
    obtain ⟨k, hk, rfl, hd⟩ := hrel
    have Hd := Lib.hid hd
    clear hd
    by_cases hlt : k < s.size
    · by_cases h1 : (48 : Int) ≤ (s[k].toNat : Int)
      · by_cases h2 : (s[k].toNat : Int) ≤ 57
        · have hb : digB s[k] = true := by simp only [digB, Bool.and_eq_true, decide_eq_true_eq]; omega
          have Hb := Lib.hid hb
          clear hb
          go_wp2
          go_round
          case rel => exact ⟨k + 1, by omega, by go_num, by rw [all_take_succ s k hlt, Hd.out, Hb.out]; rfl⟩
          case measure => simp [intOf]; omega
        · have hb : digB s[k] = false := by simp only [digB, Bool.and_eq_false_iff, decide_eq_false_iff_not]; omega
          have Hb := Lib.hid (digsB_false_of s k hlt hb)
          clear hb
          go_wp2
          go_ret
          exact ⟨ret_bool Hb.out.symm, rfl⟩
      · have hb : digB s[k] = false := by simp only [digB, Bool.and_eq_false_iff, decide_eq_false_iff_not]; omega
        have Hb := Lib.hid (digsB_false_of s k hlt hb)
        clear hb
        go_wp2
        go_ret
        exact ⟨ret_bool Hb.out.symm, rfl⟩
    · obtain rfl : k = s.size := by omega
      go_wp2
      go_ret
      exact ⟨ret_bool (digsB_end s Hd.out).symm, rfl⟩
end Go.Proofs.YtgdkpamlkpncgabGreatDoor
