/-
  Contracts of package date: yearOf, monthOf, From.
-/
import Derived.Test.YtmkcebngobanjaaDoorCal1
namespace Go.Proofs.YtmkcebngobanjaaDoor
open Go.RowKit

theorem year_guess (d : Int) : d < fdB (1970 + d * 400 / 146097 + 1 + 1) := fd_guess d
theorem fd_bds (y : Int) (h0 : -1000000000 ≤ y) (h1 : y ≤ 1000000000) : -400000000000 ≤ fdB y ∧ fdB y ≤ 400000000000 := by unfold fdB; omega
theorem fd_up (y d : Int) (h : fdB y ≤ d) (h1 : d ≤ 110000000000) : y ≤ 400000000 := by unfold fdB at h; omega
theorem fd_dn (y d : Int) (h : d < fdB (y + 1)) (h1 : -110000000000 ≤ d) : -400000000 ≤ y := by unfold fdB at h; omega
set_option maxHeartbeats 1000000 in
theorem yearOf_any (d : Int) (w : World) (h0 : -110000000000 ≤ d) (h1 : d ≤ 110000000000) :
    Calls Tryd.prog 20 #[.int .i64 d] w fun e w' => ∃ y : Int, e = .returned (.int .i64 y) ∧ fdB y ≤ d ∧ d < fdB (y + 1) ∧ ∃ n, w' = w.drewN n := by
  have hg := Lib.hid (year_guess d)
  have q0 : -400000000 ≤ d * 400 / 146097 := by omega
  have q1 : d * 400 / 146097 ≤ 400000000 := by omega
  go_enter Tryd.func20, Tryd.ntmps20
  go_wp2_with fail
  go_at_call 19
  refine (divide_any _ _ _ (by omega) (by omega) (by omega) (by omega)).mono ?_
  rintro e w' ⟨rfl, n1, rfl⟩
  go_wp2_with fail
  go_loopw [5] (fun t wr => ∃ y : Int, t = .int .i64 y ∧ Hid (d < fdB (y + 1)) ∧ y ≤ 500000000 ∧ ∃ n, wr = w.drewN n) (fun t _ => (fdB (intOf t) - d).toNat)
  case atStart => exact ⟨_, rfl, hg, by omega, _, rfl⟩
  case round =>
    obtain ⟨y, rfl, hy, hyb, n, rfl⟩ := hrel
    have hlo := fd_dn y d hy.out h0
    have hbb := fd_bds y (by omega) (by omega)
    obtain ⟨hb1, hb2⟩ := hbb
    by_cases hc : d < fdB y
    · have Hc := Lib.hid hc
      go_wp2_with fail
      go_at_call 22
      refine (firstDay_any _ _ (by omega) (by omega)).mono ?_
      rintro e w' ⟨rfl, n2, rfl⟩
      go_wp2_with fail
      go_roundw
      case rel => exact ⟨y - 1, rfl, by rw [show y - 1 + 1 = y by omega]; exact Hc, by omega, _, rfl⟩
      case measure =>
        have := fd_lt (y - 1) y (by omega)
        simp [intOf]; omega
    · go_wp2_with fail
      go_at_call 22
      refine (firstDay_any _ _ (by omega) (by omega)).mono ?_
      rintro e w' ⟨rfl, n2, rfl⟩
      go_wp2_with fail
      go_ret
      exact ⟨y, rfl, by omega, hy.out, _, rfl⟩

theorem month_end (y d m : Int) (hm1 : 1 ≤ m) (hm2 : m ≤ 12) (h : d < 365 + lpI y) (hc : dimI y m ≤ d - cumI y m) : m + 1 ≤ 12 := by
  by_cases e : m = 12
  · subst e
    exfalso
    have h13 := cum_13 y
    have := cum_succ y 12 (by omega) (by omega)
    rw [show (12 : Int) + 1 = 13 from rfl] at this
    omega
  · omega
set_option maxHeartbeats 1000000 in
theorem monthOf_any (y d : Int) (w : World) (h0 : 0 ≤ d) (h1 : d < 365 + lpI y) :
    Calls Tryd.prog 21 #[.int .i64 y, .int .i64 d] w fun e w' => ∃ m l : Int, e = .returned (.tuple #[.int .i64 m, .int .i64 l]) ∧ 1 ≤ m ∧ m ≤ 12 ∧ 0 ≤ l ∧ l < dimI y m ∧ l = d - cumI y m ∧ w = w' := by
  have hl := lpI_01 y
  have h366 : d ≤ 366 := by omega
  have H1 := Lib.hid h1
  clear h1 hl
  go_enter Tryd.func21, Tryd.ntmps21
  go_wp2_with fail
  go_loop [1, 6] (fun dd t => ∃ m l : Int, t = .int .i64 m ∧ dd = .int .i64 l ∧ 1 ≤ m ∧ m ≤ 12 ∧ 0 ≤ l ∧ l ≤ 366 ∧ Hid (l = d - cumI y m)) (fun _ t => (12 - intOf t).toNat)
  case atStart => exact ⟨1, d, rfl, rfl, by omega, by omega, h0, h366, Lib.hid (by rw [cum_one]; omega)⟩
  case round =>
    obtain ⟨m, l, rfl, rfl, hm1, hm2, hl0, hl1, hl⟩ := hrel
    have db := dim_bd y m
    obtain ⟨db0, db1⟩ := db
    by_cases hc : dimI y m ≤ l
    · have hm3 : m + 1 ≤ 12 := month_end y d m hm1 hm2 H1.out (by rw [← hl.out]; exact hc)
      have hs := Lib.hid (cum_succ y m hm1 hm2)
      go_wp2_with fail
      go_at_call 27
      refine (days_any _ _ _).mono ?_
      rintro e w' ⟨rfl, rfl⟩
      go_wp2_with fail
      go_at_call 27
      refine (days_any _ _ _).mono ?_
      rintro e w' ⟨rfl, rfl⟩
      go_wp2_with fail
      go_round
      case rel => exact ⟨m + 1, l - dimI y m, rfl, rfl, by omega, by omega, by omega, by omega, Lib.hid (by rw [hs.out, hl.out]; omega)⟩
      case measure => simp [intOf]; omega
    · go_wp2_with fail
      go_at_call 27
      refine (days_any _ _ _).mono ?_
      rintro e w' ⟨rfl, rfl⟩
      go_wp2_with fail
      go_ret2
      exact ⟨m, l, rfl, hm1, hm2, hl0, by omega, hl.out, rfl⟩
end Go.Proofs.YtmkcebngobanjaaDoor
