import Derived.Test.YtglennfjeacpoaaGreatDoorA1
namespace Go.Proofs.YtglennfjeacpoaaGreatDoor
open Go.RowKit

theorem lawDigit_any (c : UInt8) (w : World) : Calls Tryz.prog 47 #[.int .u8 (c.toNat : Int)] w fun e w' => e = .returned (.bool (digB c)) ∧ w = w' := by
  by_cases h1 : (48 : Int) ≤ (c.toNat : Int)
  · go_enter Tryz.func47, Tryz.ntmps47
    go_wp2
    go_ret
    refine ⟨ret_bool ?_, rfl⟩
    rw [Bool.eq_iff_iff]
    simp [digB]
    omega
  · go_enter Tryz.func47, Tryz.ntmps47
    go_wp2
    go_ret
    refine ⟨ret_bool ?_, rfl⟩
    rw [Bool.eq_iff_iff]
    simp [digB]
    omega

/-- Such a number as the page says, of sixty digits at most. -/
structure Num (l : List UInt8) (k : Nat) : Prop where
  digs : l.all digB = true
  le : l.length ≤ 60
  lt : k < l.length
  head : l.head? ≠ some 48 ∨ l.length = k + 1
def RightEnd (l : List UInt8) (sc : Int) (e : Ending) : Prop := e = .returned (.bool false) ∨ ∃ k : Nat, sc = k ∧ Num l k ∧ e = .returned (.bool true)

set_option maxHeartbeats 1000000 in
set_option maxRecDepth 100000 in
theorem lawRight_any (n : Bool) (s : ByteArray) (sc : Int) (w : World) (hs : s.size ≤ 9223372036854775807) (h0 : -9223372036854775808 ≤ sc) (h1 : sc ≤ 9223372036854775807) :
    Calls Tryz.prog 16 #[.agg #[.bool n, .string s, .int .i64 sc]] w fun e w' => RightEnd s.data.toList sc e ∧ Below w.heap.size w w' := by
  by_cases hn : sc < 0
  · go_enter Tryz.func16, Tryz.ntmps16
    go_wp2
    go_ret
    exact ⟨Or.inl rfl, (Below.refl _ _).alloc (Nat.le_refl _) _⟩
  by_cases hb : (s.size : Int) ≤ sc
  · go_enter Tryz.func16, Tryz.ntmps16
    go_wp2
    go_ret
    exact ⟨Or.inl rfl, (Below.refl _ _).alloc (Nat.le_refl _) _⟩
  by_cases h60 : (60 : Int) < s.size
  · go_enter Tryz.func16, Tryz.ntmps16
    go_wp2
    go_ret
    exact ⟨Or.inl rfl, (Below.refl _ _).alloc (Nat.le_refl _) _⟩
  obtain ⟨k, rfl⟩ : ∃ k : Nat, sc = k := ⟨sc.toNat, by omega⟩
  have hpos : 0 < s.size := by omega
  go_enter Tryz.func16, Tryz.ntmps16
  go_wp2
  go_loop [3] (fun i => ∃ j : Nat, j ≤ s.size ∧ i = .int .i64 j ∧ Hid ((s.data.toList.take j).all digB = true)) (fun i => s.size - (intOf i).toNat)
  case atStart => exact ⟨0, Nat.zero_le _, rfl, rfl⟩
  case round =>
    obtain ⟨j, hj, rfl, hd⟩ := hrel
    by_cases hlt : j < s.size
    · cases hdj : digB s[j]
      · go_wp2_with (go_at_call 47; refine (lawDigit_any s[j] _).mono ?_; rintro e w2 ⟨rfl, rfl⟩)
        go_ret
        exact ⟨Or.inl rfl, (Below.refl _ _).alloc (Nat.le_refl _) _⟩
      · have Hn : Hid ((s.data.toList.take (j + 1)).all digB = true) := by
          show _ = _
          rw [all_take_succ s j hlt, hd, hdj]; rfl
        go_wp2_with (go_at_call 47; refine (lawDigit_any s[j] _).mono ?_; rintro e w2 ⟨rfl, rfl⟩)
        go_round
        case rel => exact ⟨j + 1, by omega, by go_num, Hn⟩
        case measure => simp [intOf]; omega
    · obtain rfl : j = s.size := by omega
      have hall : Hid (s.data.toList.all digB = true) := by
        have := hd.out
        rw [← size_data, List.take_length] at this
        exact this
      have hhead := head_data s hpos
      have Hhead := Lib.hid hhead
      clear hd hhead
      by_cases h48 : s[0] = 48
      · have hb48 : ((s[0].toNat : Int) != 48) = false := by rw [h48]; rfl
        have H48 := Lib.hid h48
        clear h48
        by_cases hk : s.size = k + 1
        · have hkb : ((s.size : Int) == (k : Int) + 1) = true := by rw [beq_iff_eq]; omega
          have Hk := Lib.hid hk
          clear hk
          go_wp2
          go_ret
          exact ⟨Or.inr ⟨k, rfl, ⟨hall, by rw [size_data]; omega, by rw [size_data]; omega, Or.inr (by rw [size_data]; exact Hk.out)⟩, rfl⟩, (Below.refl _ _).alloc (Nat.le_refl _) _⟩
        · have hkb : ((s.size : Int) == (k : Int) + 1) = false := by rw [beq_eq_false_iff_ne]; omega
          clear hk
          go_wp2
          go_ret
          exact ⟨Or.inl rfl, (Below.refl _ _).alloc (Nat.le_refl _) _⟩
      · have hb48 : ((s[0].toNat : Int) != 48) = true := by
          rw [bne_iff_ne]; intro e; exact h48 (UInt8.toNat_inj.mp (by show s[0].toNat = 48; omega))
        have H48 := Lib.hid h48
        clear h48
        go_wp2
        go_ret
        exact ⟨Or.inr ⟨k, rfl, ⟨hall, by rw [size_data]; omega, by rw [size_data]; omega, Or.inl (by rw [Hhead.out]; intro e; exact H48.out (Option.some.inj e))⟩, rfl⟩, (Below.refl _ _).alloc (Nat.le_refl _) _⟩
end Go.Proofs.YtglennfjeacpoaaGreatDoor
