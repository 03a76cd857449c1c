/-
  The law's own two, four.
-/
import Derived.Test.YtmkcebngobanjaaDoorMs
import Derived.Lib.TrimByte
namespace Go.Proofs.YtmkcebngobanjaaDoor
open Go.RowKit
set_option linter.unusedVariables false
set_option linter.unusedSimpArgs false

set_option maxHeartbeats 1000000 in
theorem ltwo_any (n : Int) (h0 : 0 ≤ n) (h1 : n ≤ 99) (w : World) (ht : TabPow w) :
    Calls Tryd.prog 17 #[.int .i64 n] w fun e w' => e = .returned (.string (dgB n 2)) ∧ Below w.heap.size w w' := by
  have hI := fun W hT => itoa_any n (by omega) (by omega) W hT
  have hb := itB_bd (n := n) (by omega) (by omega)
  by_cases hn : n < 10
  · rw [two_lt h0 hn]
    have hd : decide (n < 10) = true := decide_eq_true hn
    generalize itB n = a at *
    obtain ⟨b0, b1⟩ := hb
    have HI := Lib.hid hI
    clear hI
    go_enter Tryd.func17, Tryd.ntmps17
    go_wp2_with fail
    go_at_call 18
    refine (HI.out _ ht).mono ?_
    rintro e w1 ⟨rfl, hb1⟩
    go_wp2
    go_ret
    exact ⟨rfl, hb1⟩
  · rw [two_ge (by omega)]
    have hd : decide (n < 10) = false := decide_eq_false hn
    generalize itB n = a at *
    have HI := Lib.hid hI
    clear hI
    go_enter Tryd.func17, Tryd.ntmps17
    go_wp2_with fail
    go_at_call 18
    refine (HI.out _ ht).mono ?_
    rintro e w1 ⟨rfl, hb1⟩
    go_wp2
    go_ret
    exact ⟨rfl, hb1⟩
set_option maxHeartbeats 1000000 in
theorem lfour_pos (n : Int) (h0 : 0 ≤ n) (h1 : n ≤ 1000000000) (w : World) (ht : TabPow w) :
    Calls Tryd.prog 16 #[.int .i64 n] w fun e w' => e = .returned (.string (dgB n 4)) ∧ Below w.heap.size w w' := by
  have hI := fun W hT => itoa_any n (by omega) (by omega) W hT
  have hb := itB_bd (n := n) (by omega) (by omega)
  have hg : dgB n 4 = zrB (4 - (itB n).size) ++ itB n := by unfold dgB; rw [if_neg (by omega)]
  rw [hg]
  have hd : decide (n < 0) = false := decide_eq_false (by omega)
  generalize itB n = a at *
  obtain ⟨b0, b1⟩ := hb
  have HI := Lib.hid hI
  clear hI hg
  go_enter Tryd.func16, Tryd.ntmps16
  go_wp2_with fail
  go_at_call 18
  refine (HI.out _ ht).mono ?_
  rintro e w1 ⟨rfl, hb1⟩
  have HB := Lib.hid hb1
  clear hb1
  go_wp2_with fail
  go_loop [3] (fun v => ∃ k : Nat, v = .string (zrB k ++ a) ∧ k ≤ 4 - a.size) (fun v => 4 - Lib.strSize v)
  case atStart => exact ⟨0, by rw [zrB_zero], by omega⟩
  case round =>
    obtain ⟨k, rfl, hk⟩ := hrel
    have hz : (zrB k ++ a).size = k + a.size := by rw [ByteArray.size_append, zrB_size]
    have hz1 : (zrB (k + 1) ++ a).size = k + 1 + a.size := by rw [ByteArray.size_append, zrB_size]
    have hS := zrB_succ k a
    generalize hX : zrB k ++ a = X at *
    generalize hY : zrB (k + 1) ++ a = Y at *
    by_cases hlt : X.size < 4
    · have hd2 : decide ((X.size : Int) < 4) = true := decide_eq_true (by omega)
      have HY := Lib.hid hY
      have HS := Lib.hid hS
      have HX := Lib.hid hX
      clear hS hX hY
      go_wp2_with fail
      go_round
      case rel => exact ⟨k + 1, by rw [HS.out, HY.out], by omega⟩
      case measure => simp only [Lib.strSize_string, HS.out]; omega
    · have hd2 : decide ((X.size : Int) < 4) = false := decide_eq_false (by omega)
      have hk4 := Lib.hid (show k = 4 - a.size by omega)
      have HX := Lib.hid hX
      clear hS hX hY
      go_wp2
      go_ret
      exact ⟨ret_str (by rw [← HX.out, hk4.out]), HB.out⟩
set_option maxHeartbeats 1000000 in
theorem lfour_any (n : Int) (h0 : -1000000000 ≤ n) (h1 : n ≤ 1000000000) (w : World) (ht : TabPow w) :
    Calls Tryd.prog 16 #[.int .i64 n] w fun e w' => e = .returned (.string (dgB n 4)) ∧ Below w.heap.size w w' := by
  by_cases hn : n < 0
  · have hF := fun W hT => lfour_pos (-n) (by omega) (by omega) W hT
    have hs := dgB_size (n := -n) (by omega) (by omega) 4 (by omega)
    have hg : dgB n 4 = ⟨#[45]⟩ ++ dgB (-n) 4 := by unfold dgB; rw [if_pos hn, if_neg (by omega)]
    have hd : decide (n < 0) = true := decide_eq_true hn
    rw [hg]
    generalize dgB (-n) 4 = a at *
    obtain ⟨b0, b1⟩ := hs
    have HF := Lib.hid hF
    clear hF hg
    go_enter Tryd.func16, Tryd.ntmps16
    go_wp2_with fail
    go_at_call 16
    refine (HF.out _ ht).mono ?_
    rintro e w1 ⟨rfl, hb1⟩
    go_wp2
    go_ret
    exact ⟨rfl, hb1⟩
  · exact lfour_pos n (by omega) h1 w ht
end Go.Proofs.YtmkcebngobanjaaDoor
