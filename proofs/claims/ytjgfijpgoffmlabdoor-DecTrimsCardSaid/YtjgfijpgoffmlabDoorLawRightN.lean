import Derived.Test.YtjgfijpgoffmlabDoorLawRight
import Derived.Test.YtjgfijpgoffmlabDoorNumMath
namespace Go.Proofs.YtjgfijpgoffmlabDoor
open Go.RowKit

set_option maxHeartbeats 1000000 in
set_option maxRecDepth 100000 in
theorem lawRight_num (n : Bool) (s : ByteArray) (k : Nat) (w : World) (hN : Num s.data.toList k) :
    Calls Tryd.prog 15 #[.agg #[.bool n, .string s, .int .i64 k]] w fun e w' => e = .returned (.bool true) ∧ Below w.heap.size w w' := by
  have h1 := hN.le
  have h2 := hN.lt
  rw [size_data] at h1 h2
  have hd := Lib.hid hN.digs
  have hh := Lib.hid hN.head
  clear hN
  have hpos : 0 < s.size := by omega
  have hn : ¬ (k : Int) < 0 := by omega
  have hb : ¬ (s.size : Int) ≤ (k : Int) := by omega
  have h60 : ¬ (60 : Int) < s.size := by omega
  go_enter Tryd.func15, Tryd.ntmps15
  go_wp2
  go_loop [3] (fun i => ∃ j : Nat, j ≤ s.size ∧ i = .int .i64 j ∧ Hid (0 ≤ j)) (fun i => s.size - (intOf i).toNat)
  case atStart => exact ⟨0, Nat.zero_le _, rfl, Nat.zero_le _⟩
  case round =>
    obtain ⟨j, hj, rfl, h0j⟩ := hrel
    by_cases hlt : j < s.size
    · have hdj : digB s[j] = true := by
        have h3 := all_take_succ s j hlt
        rw [all_take hd.out, all_take hd.out, Bool.true_and] at h3
        exact h3.symm
      go_wp2_with (go_at_call 32; refine (lawDigit_any s[j] _).mono ?_; rintro e w2 ⟨rfl, rfl⟩)
      go_round
      case rel => exact ⟨j + 1, by omega, by go_num, Nat.zero_le _⟩
      case measure => simp [intOf]; omega
    · obtain rfl : j = s.size := by omega
      have hhead := head_data s hpos
      by_cases h48 : s[0] = 48
      · have hb48 : ((s[0].toNat : Int) != 48) = false := by rw [h48]; rfl
        have hk : s.size = k + 1 := by
          rcases hh.out with h | h
          · rw [hhead, h48] at h; exact absurd rfl h
          · rw [size_data] at h; exact h
        have hkb : ((s.size : Int) == (k : Int) + 1) = true := by rw [beq_iff_eq]; omega
        clear hk h48 hhead
        go_wp2
        go_ret
        exact ⟨rfl, (Below.refl _ _).alloc (Nat.le_refl _) _⟩
      · have hb48 : ((s[0].toNat : Int) != 48) = true := by
          rw [bne_iff_ne]; intro e; exact h48 (UInt8.toNat_inj.mp (by show s[0].toNat = 48; omega))
        clear h48 hhead
        go_wp2
        go_ret
        exact ⟨rfl, (Below.refl _ _).alloc (Nat.le_refl _) _⟩

end Go.Proofs.YtjgfijpgoffmlabDoor
