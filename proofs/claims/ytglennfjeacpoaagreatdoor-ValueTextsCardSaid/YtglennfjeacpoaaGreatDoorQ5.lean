/-
  Several texts put together (part 5): what the law and the program call, walked; their contracts.
-/
import Derived.Test.YtglennfjeacpoaaGreatDoorQ3
import Derived.Deep.QuietTactic
import Derived.BigQuiet
import Derived.Test.YtglennfjeacpoaaGreatDoorQ4
namespace Go.Proofs.YtglennfjeacpoaaGreatDoor
open Go.RowKit
set_option linter.unusedVariables false
theorem default_any (w : World) : Calls Tryz.prog 41 #[] w fun e w' => e = .returned (.agg #[.int .i64 1, .int .i64 0, .int .i64 3, .bool false, .bool false]) ∧ Below w.heap.size w w' := by
  go_enter Tryz.func41, Tryz.ntmps41
  go_wp2
  exact bodyPost_ret (v := .agg #[.int .i64 1, .int .i64 0, .int .i64 3, .bool false, .bool false]) (by simp [results, Tryz.results41, go_sem]) rfl ⟨rfl, (Below.refl _ _).alloc (Nat.le_refl _) _⟩
end Go.Proofs.YtglennfjeacpoaaGreatDoor

namespace Go.Proofs.YtglennfjeacpoaaGreatDoor
open Go.RowKit
theorem Calls.qmono {P : Program} {f : FuncId} {args : Array Value} {w : World} {v : Value} (h : Calls P f args w fun e w' => e = .returned v ∧ w = w') : Calls P f args w fun e w' => e = .returned v ∧ ∃ n, w' = w.drewN n :=
  h.mono fun _ _ ⟨he, hw⟩ => ⟨he, 0, by rw [← hw]; rfl⟩
theorem below_drewN {B : Nat} {a w : World} (h : Below B a w) (n : Nat) : Below B a (w.drewN n) := ⟨h.os, h.tape, h.output, h.size, h.block⟩
theorem div_neg (a b : Int) (hb : 0 < b) (ha : a < 0) : (a.tmod b < 0 → a.tdiv b - 1 = a / b ∧ a.tmod b + b = a % b) ∧ (¬ a.tmod b < 0 → a.tdiv b = a / b ∧ a.tmod b = a % b) := by
  have h1 := Int.tdiv_eq_ediv (a := a) (b := b)
  have h2 := Int.tmod_eq_emod (a := a) (b := b)
  have h3 := Int.emod_nonneg a (show b ≠ 0 by omega)
  have h4 := Int.emod_lt_of_pos a hb
  have hs : Int.sign b = 1 := Int.sign_eq_one_of_pos hb
  by_cases hd : b ∣ a
  · rw [if_pos (.inr hd)] at h1 h2
    have := Int.emod_eq_zero_of_dvd hd
    omega
  · rw [if_neg (by omega)] at h1 h2
    rw [hs] at h1
    have : a % b ≠ 0 := fun h => hd (Int.dvd_of_emod_eq_zero h)
    omega
theorem div_bd (a b : Int) (hb : 0 < b) (ha : a < 0) : a ≤ a.tdiv b ∧ a.tdiv b ≤ 0 ∧ -b ≤ a.tmod b ∧ a.tmod b ≤ 0 := by
  have h1 := Int.tdiv_eq_ediv (a := a) (b := b)
  have h2 := Int.tmod_eq_emod (a := a) (b := b)
  have h3 := Int.emod_nonneg a (show b ≠ 0 by omega)
  have h4 := Int.emod_lt_of_pos a hb
  have hs : Int.sign b = 1 := Int.sign_eq_one_of_pos hb
  have h5 : a ≤ a / b := by
    apply Int.le_ediv_of_mul_le hb
    have := Int.mul_le_mul_of_nonpos_left (show a ≤ 0 by omega) (show (1 : Int) ≤ b by omega)
    omega
  have h6 : a / b < 0 := Int.ediv_neg_of_neg_of_pos ha hb
  by_cases hd : b ∣ a
  · rw [if_pos (.inr hd)] at h1 h2
    have := Int.emod_eq_zero_of_dvd hd
    omega
  · rw [if_neg (by omega)] at h1 h2
    rw [hs] at h1
    omega
set_option maxHeartbeats 400000 in
theorem divide_any (a b : Int) (w : World) (hb : 0 < b) (hb2 : b ≤ 1000000) (h0 : -100000000000000000 ≤ a) (h1 : a ≤ 100000000000000000) :
    Calls Tryz.prog 138 #[.int .i64 a, .int .i64 b] w fun e w' => e = .returned (.tuple #[.int .i64 (a / b), .int .i64 (a % b)]) ∧ ∃ n, w' = w.drewN n := by
  have hb3 : (b == 0) = false := by simp; omega
  by_cases ha : 0 ≤ a
  · have h3 := Int.emod_nonneg a (show b ≠ 0 by omega)
    have h4 := Int.emod_lt_of_pos a hb
    go_enter Tryz.func138, Tryz.ntmps138
    go_wp2_with fail
    go_quiet (fail)
    go_wp2
    go_ret2
    exact ⟨rfl, _, rfl⟩
  · have hn := div_neg a b hb (by omega)
    have hq := div_bd a b hb (by omega)
    have Hn := Lib.hid hn
    clear hn
    obtain ⟨hq1, hq2, hq3, hq4⟩ := hq
    go_enter Tryz.func138, Tryz.ntmps138
    go_wp2_with fail
    go_quiet (fail)
    go_wp2
    · have hlt : a.tmod b < 0 := by assumption
      go_ret2
      obtain ⟨e1, e2⟩ := Hn.out.1 hlt
      exact ⟨by rw [e1, e2]; rfl, _, rfl⟩
    · have hge : 0 ≤ a.tmod b := by assumption
      go_ret2
      obtain ⟨e1, e2⟩ := Hn.out.2 (by omega)
      exact ⟨by rw [e1, e2]; rfl, _, rfl⟩
theorem tmod_zero (a b : Int) : (a.tmod b == 0) = (a % b == 0) := by
  rw [Bool.eq_iff_iff, beq_iff_eq, beq_iff_eq, ← Int.dvd_iff_tmod_eq_zero, Int.dvd_iff_emod_eq_zero]
theorem tmod_zero' (a b : Int) : (a.tmod b != 0) = (a % b != 0) := by
  rw [bne, tmod_zero, bne]
theorem tmod_iff (a b : Int) : a.tmod b = 0 ↔ a % b = 0 := by
  rw [← Int.dvd_iff_tmod_eq_zero, Int.dvd_iff_emod_eq_zero]
theorem lp1 {y : Int} (h4 : y.tmod 4 = 0) (h100 : y.tmod 100 = 0) : (y.tmod 400 == 0) = lpB y := by
  rw [tmod_iff] at h4 h100
  rw [tmod_zero, Bool.eq_iff_iff, lpB_iff, beq_iff_eq]
  omega
theorem lp2 {y : Int} (h4 : y.tmod 4 = 0) (h100 : ¬ y.tmod 100 = 0) : true = lpB y := by
  rw [tmod_iff] at h4 h100
  rw [Bool.eq_iff_iff, lpB_iff]
  simp
  omega
theorem lp3 {y : Int} (h4 : ¬ y.tmod 4 = 0) : false = lpB y := by
  rw [tmod_iff] at h4
  rw [Bool.eq_iff_iff, lpB_iff]
  simp
  omega
theorem leap_any (y : Int) (w : World) :
    Calls Tryz.prog 212 #[.int .i64 y] w fun e w' => e = .returned (.bool (lpB y)) ∧ w = w' := by
  go_enter Tryz.func212, Tryz.ntmps212
  go_wp2
  · go_ret
    exact ⟨ret_bool (lp1 ‹_› ‹_›), rfl⟩
  · go_ret
    exact ⟨ret_bool (lp2 ‹_› ‹_›), rfl⟩
  · go_ret
    exact ⟨ret_bool (lp3 ‹_›), rfl⟩
set_option maxHeartbeats 1000000 in
theorem days_any (y m : Int) (w : World) :
    Calls Tryz.prog 180 #[.int .i64 y, .int .i64 m] w fun e w' => e = .returned (.int .i64 (dimI y m)) ∧ w = w' := by
  by_cases h2 : m = 2
  · subst h2
    have e2 : dimI y 2 = 28 + lpI y := by simp [dimI]
    rw [e2]
    cases hl : lpB y
    · have el : lpI y = 0 := by simp [lpI, hl]
      have El := Lib.hid el
      clear el e2
      go_enter Tryz.func180, Tryz.ntmps180
      go_wp2_with (go_at_call 212; refine (leap_any y _).mono ?_; rintro e w' ⟨rfl, rfl⟩)
      go_ret
      exact ⟨ret_int (by rw [El.out]; rfl), rfl⟩
    · have el : lpI y = 1 := by simp [lpI, hl]
      have El := Lib.hid el
      clear el e2
      go_enter Tryz.func180, Tryz.ntmps180
      go_wp2_with (go_at_call 212; refine (leap_any y _).mono ?_; rintro e w' ⟨rfl, rfl⟩)
      go_ret
      exact ⟨ret_int (by rw [El.out]; rfl), rfl⟩
  · go_enter Tryz.func180, Tryz.ntmps180
    go_wp2
    all_goals go_ret
    all_goals refine ⟨ret_int ?_, rfl⟩
    all_goals (simp only [beq_iff_eq, beq_eq_false_iff_ne, ne_eq] at *)
    all_goals unfold dimI
    all_goals repeat' split
    all_goals omega
set_option maxHeartbeats 1000000 in
theorem firstDay_any (y : Int) (w : World) (h0 : -1000000000 ≤ y) (h1 : y ≤ 1000000000) :
    Calls Tryz.prog 141 #[.int .i64 y] w fun e w' => e = .returned (.int .i64 (fdB y)) ∧ ∃ n, w' = w.drewN n := by
  have b4 : -1000000000 ≤ (y - 1) / 4 ∧ (y - 1) / 4 ≤ 1000000000 := by omega
  have b1 : -1000000000 ≤ (y - 1) / 100 ∧ (y - 1) / 100 ≤ 1000000000 := by omega
  have b0 : -1000000000 ≤ (y - 1) / 400 ∧ (y - 1) / 400 ≤ 1000000000 := by omega
  obtain ⟨b4, b4'⟩ := b4
  obtain ⟨b1, b1'⟩ := b1
  obtain ⟨b0, b0'⟩ := b0
  go_enter Tryz.func141, Tryz.ntmps141
  go_wp2_with fail
  go_at_call 138
  refine (divide_any _ _ _ (by omega) (by omega) (by omega) (by omega)).mono ?_
  rintro e w' ⟨rfl, n1, rfl⟩
  go_wp2_with fail
  go_at_call 138
  refine (divide_any _ _ _ (by omega) (by omega) (by omega) (by omega)).mono ?_
  rintro e w' ⟨rfl, n2, rfl⟩
  go_wp2_with fail
  go_at_call 138
  refine (divide_any _ _ _ (by omega) (by omega) (by omega) (by omega)).mono ?_
  rintro e w' ⟨rfl, n3, rfl⟩
  go_wp2
  go_ret
  exact ⟨ret_int (by unfold fdB; omega), _, rfl⟩
end Go.Proofs.YtglennfjeacpoaaGreatDoor

namespace Go.Proofs.YtglennfjeacpoaaGreatDoor
open Go.RowKit
theorem year_guess (d : Int) : d < fdB (1970 + d * 400 / 146097 + 1 + 1) := fd_guess d
theorem fd_bds (y : Int) (h0 : -1000000000 ≤ y) (h1 : y ≤ 1000000000) : -400000000000 ≤ fdB y ∧ fdB y ≤ 400000000000 := by unfold fdB; omega
theorem fd_up (y d : Int) (h : fdB y ≤ d) (h1 : d ≤ 110000000000) : y ≤ 400000000 := by unfold fdB at h; omega
theorem fd_dn (y d : Int) (h : d < fdB (y + 1)) (h1 : -110000000000 ≤ d) : -400000000 ≤ y := by unfold fdB at h; omega
set_option maxHeartbeats 1000000 in
theorem yearOf_any (d : Int) (w : World) (h0 : -110000000000 ≤ d) (h1 : d ≤ 110000000000) :
    Calls Tryz.prog 139 #[.int .i64 d] w fun e w' => ∃ y : Int, e = .returned (.int .i64 y) ∧ fdB y ≤ d ∧ d < fdB (y + 1) ∧ ∃ n, w' = w.drewN n := by
  have hg := Lib.hid (year_guess d)
  have q0 : -400000000 ≤ d * 400 / 146097 := by omega
  have q1 : d * 400 / 146097 ≤ 400000000 := by omega
  go_enter Tryz.func139, Tryz.ntmps139
  go_wp2_with fail
  go_at_call 138
  refine (divide_any _ _ _ (by omega) (by omega) (by omega) (by omega)).mono ?_
  rintro e w' ⟨rfl, n1, rfl⟩
  go_wp2_with fail
  go_loopw [5] (fun t wr => ∃ y : Int, t = .int .i64 y ∧ Hid (d < fdB (y + 1)) ∧ y ≤ 500000000 ∧ ∃ n, wr = w.drewN n) (fun t _ => (fdB (intOf t) - d).toNat)
  case atStart => exact ⟨_, rfl, hg, by omega, _, rfl⟩
  case round =>
    obtain ⟨y, rfl, hy, hyb, n, rfl⟩ := hrel
    have hlo := fd_dn y d hy.out h0
    have hbb := fd_bds y (by omega) (by omega)
    obtain ⟨hb1, hb2⟩ := hbb
    by_cases hc : d < fdB y
    · have Hc := Lib.hid hc
      go_wp2_with fail
      go_at_call 141
      refine (firstDay_any _ _ (by omega) (by omega)).mono ?_
      rintro e w' ⟨rfl, n2, rfl⟩
      go_wp2_with fail
      go_roundw
      case rel => exact ⟨y - 1, rfl, by rw [show y - 1 + 1 = y by omega]; exact Hc, by omega, _, rfl⟩
      case measure =>
        have := fd_lt (y - 1) y (by omega)
        simp [intOf]; omega
    · go_wp2_with fail
      go_at_call 141
      refine (firstDay_any _ _ (by omega) (by omega)).mono ?_
      rintro e w' ⟨rfl, n2, rfl⟩
      go_wp2_with fail
      go_ret
      exact ⟨y, rfl, by omega, hy.out, _, rfl⟩
theorem month_end (y d m : Int) (hm1 : 1 ≤ m) (hm2 : m ≤ 12) (h : d < 365 + lpI y) (hc : dimI y m ≤ d - cumI y m) : m + 1 ≤ 12 := by
  by_cases e : m = 12
  · subst e
    exfalso
    have h13 := cum_13 y
    have := cum_succ y 12 (by omega) (by omega)
    rw [show (12 : Int) + 1 = 13 from rfl] at this
    omega
  · omega
set_option maxHeartbeats 1000000 in
theorem monthOf_any (y d : Int) (w : World) (h0 : 0 ≤ d) (h1 : d < 365 + lpI y) :
    Calls Tryz.prog 140 #[.int .i64 y, .int .i64 d] w fun e w' => ∃ m l : Int, e = .returned (.tuple #[.int .i64 m, .int .i64 l]) ∧ 1 ≤ m ∧ m ≤ 12 ∧ 0 ≤ l ∧ l < dimI y m ∧ l = d - cumI y m ∧ w = w' := by
  have hl := lpI_01 y
  have h366 : d ≤ 366 := by omega
  have H1 := Lib.hid h1
  clear h1 hl
  go_enter Tryz.func140, Tryz.ntmps140
  go_wp2_with fail
  go_loop [1, 6] (fun dd t => ∃ m l : Int, t = .int .i64 m ∧ dd = .int .i64 l ∧ 1 ≤ m ∧ m ≤ 12 ∧ 0 ≤ l ∧ l ≤ 366 ∧ Hid (l = d - cumI y m)) (fun _ t => (12 - intOf t).toNat)
  case atStart => exact ⟨1, d, rfl, rfl, by omega, by omega, h0, h366, Lib.hid (by rw [cum_one]; omega)⟩
  case round =>
    obtain ⟨m, l, rfl, rfl, hm1, hm2, hl0, hl1, hl⟩ := hrel
    have db := dim_bd y m
    obtain ⟨db0, db1⟩ := db
    by_cases hc : dimI y m ≤ l
    · have hm3 : m + 1 ≤ 12 := month_end y d m hm1 hm2 H1.out (by rw [← hl.out]; exact hc)
      have hs := Lib.hid (cum_succ y m hm1 hm2)
      go_wp2_with fail
      go_at_call 180
      refine (days_any _ _ _).mono ?_
      rintro e w' ⟨rfl, rfl⟩
      go_wp2_with fail
      go_at_call 180
      refine (days_any _ _ _).mono ?_
      rintro e w' ⟨rfl, rfl⟩
      go_wp2_with fail
      go_round
      case rel => exact ⟨m + 1, l - dimI y m, rfl, rfl, by omega, by omega, by omega, by omega, Lib.hid (by rw [hs.out, hl.out]; omega)⟩
      case measure => simp [intOf]; omega
    · go_wp2_with fail
      go_at_call 180
      refine (days_any _ _ _).mono ?_
      rintro e w' ⟨rfl, rfl⟩
      go_wp2_with fail
      go_ret2
      exact ⟨m, l, rfl, hm1, hm2, hl0, by omega, hl.out, rfl⟩
end Go.Proofs.YtglennfjeacpoaaGreatDoor
