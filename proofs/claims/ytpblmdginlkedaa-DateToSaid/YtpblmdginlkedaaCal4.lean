/-
  Contracts: To, the law's head, leap, days.
-/
import Derived.Test.YtpblmdginlkedaaCal3
import Derived.Laws.StructEq
namespace Go.Proofs.Ytpblmdginlkedaa
open Go.RowKit

theorem sum_bd (y m d : Int) (h0 : -1000000000 ≤ y) (h1 : y ≤ 1000000000) (hd0 : 0 ≤ d) (hd1 : d ≤ 1000) : -500000000000 ≤ fdB y + d - 1 + cumI y m ∧ fdB y + d - 1 + cumI y m ≤ 500000000000 := by
  have := fd_bds y h0 h1
  have := cum_bd y m
  omega
abbrev civilObj (y m d h mi se wd : Int) : Obj := .cells #[.int .i64 y, .int .i64 m, .int .i64 d, .int .i64 h, .int .i64 mi, .int .i64 se, .int .i64 wd] 24
set_option maxHeartbeats 2000000 in
theorem to_any (y m d h mi se wd : Int) (w : World) (h0 : -1000000000 ≤ y) (h1 : y ≤ 1000000000) (hm0 : 1 ≤ m) (hm1 : m ≤ 12) (hd0 : 0 ≤ d) (hd1 : d ≤ 1000) (hh0 : 0 ≤ h) (hh1 : h ≤ 1000000) (hi0 : 0 ≤ mi) (hi1 : mi ≤ 1000000) (hs0 : 0 ≤ se) (hs1 : se ≤ 1000000) :
    Calls Try.prog 10 #[.agg #[.int .i64 y, .int .i64 m, .int .i64 d, .int .i64 h, .int .i64 mi, .int .i64 se, .int .i64 wd]] w fun e w' => e = .returned (.int .i64 ((fdB y + cumI y m + d - 1) * 86400 + h * 3600 + mi * 60 + se)) ∧ Below w.heap.size w w' := by
  have fb := fd_bds y h0 h1
  obtain ⟨fb0, fb1⟩ := fb
  go_enter Try.func10, Try.ntmps10
  go_wp2_with fail
  go_quiet ((go_at_call 18; exact Calls.quiet_of (firstDay_any _ _ (by omega) (by omega))))
  go_wp2_with fail
  go_loopw [3, 4] (fun dd t wr => ∃ k : Int, t = .int .i64 k ∧ dd = .int .i64 (fdB y + d - 1 + cumI y k) ∧ 1 ≤ k ∧ k ≤ m ∧ ∃ n, wr = (w.alloc (civilObj y m d h mi se wd)).drewN n) (fun _ t _ => (12 - intOf t).toNat)
  case atStart => exact ⟨1, rfl, by rw [cum_one]; simp, by omega, by omega, _, rfl⟩
  case round =>
    obtain ⟨k, rfl, rfl, hk1, hk2, n, rfl⟩ := hrel
    have sb := sum_bd y k d h0 h1 hd0 hd1
    have cb := cum_bd y k
    obtain ⟨sb0, sb1⟩ := sb
    obtain ⟨cb0, cb1⟩ := cb
    by_cases hlt : k < m
    · have h12 : k ≤ 12 := by omega
      have db := dim_bd y k
      obtain ⟨db0, db1⟩ := db
      have hs := Lib.hid (cum_succ y k hk1 (by omega))
      have hd : decide (k < m) = true := by simpa using hlt
      go_wp2_with fail
      go_at_call 11
      refine (days_any _ _ _).mono ?_
      rintro e w' ⟨rfl, rfl⟩
      go_wp2_with fail
      go_roundw
      case rel => exact ⟨k + 1, rfl, by rw [hs.out]; go_num, by omega, by omega, _, rfl⟩
      case measure => simp [intOf]; omega
    · obtain rfl : k = m := by omega
      go_wp2
      go_ret
      exact ⟨ret_int (by rw [show fdB y + cumI y k + d - 1 = fdB y + d - 1 + cumI y k by omega]), below_drewN ((Below.refl _ _).alloc (Nat.le_refl _) _) _⟩

theorem lp4 {y : Int} (h : y.tmod 400 = 0) : true = lpB y := by
  rw [tmod_iff] at h
  rw [Bool.eq_iff_iff, lpB_iff]
  simp
  omega
theorem lp5 {y : Int} (h : ¬ y.tmod 400 = 0) (h4 : y.tmod 4 = 0) : (y.tmod 100 != 0) = lpB y := by
  rw [tmod_iff] at h h4
  rw [tmod_zero', Bool.eq_iff_iff, lpB_iff, bne_iff_ne]
  omega
theorem lp6 {y : Int} (h4 : ¬ y.tmod 4 = 0) : false = lpB y := lp3 h4
theorem lleap_any (y : Int) (w : World) :
    Calls Try.prog 13 #[.int .i64 y] w fun e w' => e = .returned (.bool (lpB y)) ∧ w = w' := by
  go_enter Try.func13, Try.ntmps13
  go_wp2
  · go_ret
    exact ⟨ret_bool (lp4 (by simpa using (‹(y.tmod 400 == 0) = true› : (y.tmod 400 == 0) = true))), rfl⟩
  · go_ret
    exact ⟨ret_bool (lp5 (by simpa using (‹(y.tmod 400 == 0) = false› : (y.tmod 400 == 0) = false)) ‹_›), rfl⟩
  · go_ret
    exact ⟨ret_bool (lp6 ‹_›), rfl⟩
set_option maxHeartbeats 4000000 in
theorem ldays_any (y m : Int) (w : World) :
    Calls Try.prog 14 #[.int .i64 y, .int .i64 m] w fun e w' => e = .returned (.int .i64 (dimI y m)) ∧ Below w.heap.size w w' := by
  by_cases hlo : m < 1
  · have e := dim_none y m (.inl hlo)
    rw [e]
    clear e
    go_enter Try.func14, Try.ntmps14
    go_wp2
    go_ret
    exact ⟨rfl, Below.refl _ _⟩
  by_cases hhi : 12 < m
  · have e := dim_none y m (.inr hhi)
    rw [e]
    clear e
    go_enter Try.func14, Try.ntmps14
    go_wp2
    go_ret
    exact ⟨rfl, Below.refl _ _⟩
  have : m = 1 ∨ m = 2 ∨ m = 3 ∨ m = 4 ∨ m = 5 ∨ m = 6 ∨ m = 7 ∨ m = 8 ∨ m = 9 ∨ m = 10 ∨ m = 11 ∨ m = 12 := by omega
  clear hlo hhi
  rcases this with rfl | rfl | rfl | rfl | rfl | rfl | rfl | rfl | rfl | rfl | rfl | rfl
  case inr.inl =>
    have e : dimI y 2 = 28 + lpI y := by simp [dimI]
    rw [e]
    have hl : lpI y = if lpB y = true then 1 else 0 := rfl
    have Hl := Lib.hid hl
    clear e hl
    cases hb : lpB y
    all_goals
      have Hb := Lib.hid hb
      go_enter Try.func14, Try.ntmps14
      go_wp2_with (go_at_call 13; refine (lleap_any y _).mono ?_; rw [Hb.out]; rintro e w' ⟨rfl, rfl⟩)
      go_ret
      exact ⟨ret_int (by rw [Hl.out, Hb.out]; rfl), (Below.refl _ _).alloc (Nat.le_refl _) _⟩
  all_goals
    first | rw [show dimI y 1 = 31 by simp [dimI]] | rw [show dimI y 3 = 31 by simp [dimI]] | rw [show dimI y 4 = 30 by simp [dimI]] | rw [show dimI y 5 = 31 by simp [dimI]] | rw [show dimI y 6 = 30 by simp [dimI]] | rw [show dimI y 7 = 31 by simp [dimI]] | rw [show dimI y 8 = 31 by simp [dimI]] | rw [show dimI y 9 = 30 by simp [dimI]] | rw [show dimI y 10 = 31 by simp [dimI]] | rw [show dimI y 11 = 30 by simp [dimI]] | rw [show dimI y 12 = 31 by simp [dimI]]
    go_enter Try.func14, Try.ntmps14
    go_wp2
    go_ret
    exact ⟨rfl, (Below.refl _ _).alloc (Nat.le_refl _) _⟩
theorem mom0 : Mom (clampS 951782400) 2000 2 29 0 0 0 2 := by
  refine ⟨⟨?_, ?_, ?_, ?_, ?_⟩, ?_, ?_, ?_, ?_⟩ <;> decide +kernel
theorem mom1 : Mom (clampS (-1)) 1969 12 31 23 59 59 3 := by
  refine ⟨⟨?_, ?_, ?_, ?_, ?_⟩, ?_, ?_, ?_, ?_⟩ <;> decide +kernel
theorem from0 (w : World) : Calls Try.prog 8 #[.int .i64 951782400] w fun e w' => e = .returned (.agg #[.int .i64 2000, .int .i64 2, .int .i64 29, .int .i64 0, .int .i64 0, .int .i64 0, .int .i64 2]) ∧ Below w.heap.size w w' := by
  refine (from_any _ w).mono ?_
  rintro e w' ⟨y, m, d, h, mi, se, wd, rfl, hm, hb⟩
  obtain ⟨rfl, rfl, rfl, rfl, rfl, rfl, rfl⟩ := hm.uniq mom0
  exact ⟨rfl, hb⟩
theorem from1 (w : World) : Calls Try.prog 8 #[.int .i64 (-1)] w fun e w' => e = .returned (.agg #[.int .i64 1969, .int .i64 12, .int .i64 31, .int .i64 23, .int .i64 59, .int .i64 59, .int .i64 3]) ∧ Below w.heap.size w w' := by
  refine (from_any _ w).mono ?_
  rintro e w' ⟨y, m, d, h, mi, se, wd, rfl, hm, hb⟩
  obtain ⟨rfl, rfl, rfl, rfl, rfl, rfl, rfl⟩ := hm.uniq mom1
  exact ⟨rfl, hb⟩
set_option maxHeartbeats 2000000 in
theorem head_any (w : World) : Calls Try.prog 7 #[] w fun e w' => e = .returned (.bool true) ∧ Below w.heap.size w w' := by
  go_enter Try.func7, Try.ntmps7
  go_wp2_with fail
  go_at_call 8
  refine (from0 _).mono ?_
  rintro e w1 ⟨rfl, hb1⟩
  go_wp2_with fail
  go_at_call 8
  refine (from1 _).mono ?_
  rintro e w2 ⟨rfl, hb2⟩
  go_wp2
  go_ret
  have L := Nat.le_refl w.heap.size
  exact ⟨rfl, below_then (below_new hb1 L _) L hb2⟩
end Go.Proofs.Ytpblmdginlkedaa
