import Derived.Test.YtjgfijpgoffmlacDoorLawSigns
import Derived.Test.YtjgfijpgoffmlacDoorNumMath
namespace Go.Proofs.YtjgfijpgoffmlacDoor
open Go.RowKit

set_option maxHeartbeats 1000000 in
set_option maxRecDepth 100000 in
theorem lawRight_num (n : Bool) (s : ByteArray) (k : Nat) (w : World) (hN : Num s.data.toList k) :
    Calls Tryd.prog 9 #[.agg #[.bool n, .string s, .int .i64 k]] w fun e w' => e = .returned (.bool true) ∧ Below w.heap.size w w' := by
  have h1 := hN.le
  have h2 := hN.lt
  rw [size_data] at h1 h2
  have hd := Lib.hid hN.digs
  have hh := Lib.hid hN.head
  clear hN
  have hpos : 0 < s.size := by omega
  have hn : ¬ (k : Int) < 0 := by omega
  have hb : ¬ (s.size : Int) ≤ (k : Int) := by omega
  have h60 : ¬ (60 : Int) < s.size := by omega
  go_enter Tryd.func9, Tryd.ntmps9
  go_wp2
  go_loop [3] (fun i => ∃ j : Nat, j ≤ s.size ∧ i = .int .i64 j ∧ Hid (0 ≤ j)) (fun i => s.size - (intOf i).toNat)
  case atStart => exact ⟨0, Nat.zero_le _, rfl, Nat.zero_le _⟩
  case round =>
    obtain ⟨j, hj, rfl, h0j⟩ := hrel
    by_cases hlt : j < s.size
    · have hdj : digB s[j] = true := by
        have h3 := all_take_succ s j hlt
        rw [all_take hd.out, all_take hd.out, Bool.true_and] at h3
        exact h3.symm
      go_wp2_with (go_at_call 7; refine (lawDigit_any s[j] _).mono ?_; rintro e w2 ⟨rfl, rfl⟩)
      go_round
      case rel => exact ⟨j + 1, by omega, by go_num, Nat.zero_le _⟩
      case measure => simp [intOf]; omega
    · obtain rfl : j = s.size := by omega
      have hhead := head_data s hpos
      by_cases h48 : s[0] = 48
      · have hb48 : ((s[0].toNat : Int) != 48) = false := by rw [h48]; rfl
        have hk : s.size = k + 1 := by
          rcases hh.out with h | h
          · rw [hhead, h48] at h; exact absurd rfl h
          · rw [size_data] at h; exact h
        have hkb : ((s.size : Int) == (k : Int) + 1) = true := by rw [beq_iff_eq]; omega
        clear hk h48 hhead
        go_wp2
        go_ret
        exact ⟨rfl, (Below.refl _ _).alloc (Nat.le_refl _) _⟩
      · have hb48 : ((s[0].toNat : Int) != 48) = true := by
          rw [bne_iff_ne]; intro e; exact h48 (UInt8.toNat_inj.mp (by show s[0].toNat = 48; omega))
        clear h48 hhead
        go_wp2
        go_ret
        exact ⟨rfl, (Below.refl _ _).alloc (Nat.le_refl _) _⟩

theorem decC_zero (n : Bool) (l : List UInt8) (k : Nat) (z : Bool) (hz : zeroB l = z) :
    z = true ∧ (decC n l k (!n) l k == 0) = true ∨ z = false ∧ IntKind.i64.wrap (-(decC (!n) l k n l k)) = decC n l k (!n) l k ∧ (decC n l k (!n) l k != 0) = true := by
  unfold decC
  rw [hz, sizeC_self]
  cases z <;> cases n
  · right; exact ⟨rfl, by decide, by decide⟩
  · right; exact ⟨rfl, by decide, by decide⟩
  · left; exact ⟨rfl, by decide⟩
  · left; exact ⟨rfl, by decide⟩

set_option maxHeartbeats 1000000 in
set_option maxRecDepth 100000 in
theorem lawSigns (n : Bool) (s : ByteArray) (sc x : Int) (w : World) (hsh : w.ShapedOpen Tryd.prog) (hs : s.size ≤ 9223372036854775807) (lo : -9223372036854775808 ≤ sc) (hi : sc ≤ 9223372036854775807) (hx0 : -9223372036854775808 ≤ x) (hx1 : x ≤ 9223372036854775807) :
    Calls Tryd.prog 5 #[.agg #[.bool n, .string s, .int .i64 sc], .int .i64 x] w fun e w' => e = .returned (.bool true) ∧ Below w.heap.size w w' := by
  by_cases hcase : (∃ k : Nat, sc = k ∧ Num s.data.toList k) ∧ x ≤ 40
  · obtain ⟨⟨k, rfl, hN⟩, hx⟩ := hcase
    have h1 := hN.le
    have h2 := hN.lt
    rw [size_data] at h1 h2
    have hm : s.size ≤ maxLen := by unfold maxLen; omega
    exact signs_core n (zeroB s.data.toList) s _ _ _ k _ x _ _ w hsh hx (fun W => lawRight_num n s k W hN)
      (fun W => round_any n s k x W (by omega) (by omega) hN.digs hx0 hx1) (fun W => round_any (!n) s k x W (by omega) (by omega) hN.digs hx0 hx1)
      (fun W => zero_any n s k W hm) (fun W => zero_any (!n) s k W hm)
      (fun W => whole_any n s k W hm (by omega)) (fun W => whole_any (!n) s k W hm (by omega))
      (fun W => part_any n s k W hm (by omega)) (fun W => part_any (!n) s k W hm (by omega))
      (fun W => compare_any n (!n) s s k k W hm hm (by omega) (by omega)) (fun W => compare_any (!n) n s s k k W hm hm (by omega) (by omega))
      (decC_zero n s.data.toList k _ rfl)
  · have hc := Lib.hid hcase
    clear hcase
    go_enter Tryd.func5, Tryd.ntmps5
    go_wp2_with fail
    go_at_call 6
    refine (head_any _ (shp_alloc hsh _)).mono ?_
    rintro e wh ⟨rfl, hbh⟩
    obtain ⟨hch, hfh⟩ := bcell hbh
    have yh : w.heap.size < wh.heap.size := by have := hbh.size; simp at this; omega
    go_wp2_with fail
    go_at_call 9
    refine (lawRight_any n s sc _ hs lo hi).mono ?_
    rintro e wr ⟨hr, hbr⟩
    rcases hr with rfl | ⟨k, rfl, hN, rfl⟩
    · go_wp2
      go_ret
      exact ⟨rfl, below_then (below_box hbh) (Nat.le_refl _) hbr⟩
    · have hx : 40 < x := Int.lt_of_not_ge (fun h => hc.out ⟨⟨k, rfl, hN⟩, h⟩)
      go_wp2
      go_ret
      exact ⟨rfl, below_then (below_box hbh) (Nat.le_refl _) hbr⟩
end Go.Proofs.YtjgfijpgoffmlacDoor
