/-
  DateFrom: whatever moment: the program's From tells what the law's own tells, and To tells the moment back.
-/
import Derived.Test.YtpblmdginlkedaaLawFrom
namespace Go.Proofs.Ytpblmdginlkedaa
open Go.RowKit

theorem mom_sec {sec y m d h mi se wd : Int} (a : Mom sec y m d h mi se wd) : (fdB y + cumI y m + d - 1) * 86400 + h * 3600 + mi * 60 + se = sec := by
  have h1 := a.civ.num
  have h2 := a.hh
  have h3 := a.hmi
  have h4 := a.hs
  omega
theorem mom_bd {sec y m d h mi se wd : Int} (a : Mom sec y m d h mi se wd) (s0 : -9100000000000000 ≤ sec) (s1 : sec ≤ 9100000000000000) : -400000000 ≤ y ∧ y ≤ 400000000 ∧ 1 ≤ m ∧ m ≤ 12 ∧ 1 ≤ d ∧ d ≤ 31 ∧ 0 ≤ h ∧ h < 24 ∧ 0 ≤ mi ∧ mi < 60 ∧ 0 ≤ se ∧ se < 60 ∧ 0 ≤ wd ∧ wd < 7 := by
  obtain ⟨hy0, hy1⟩ := a.civ.year
  have h1 := fd_dn y _ hy1 (by omega)
  have h2 := fd_up y _ hy0 (by omega)
  have h3 := a.hh
  have h4 := a.hmi
  have h5 := a.hs
  have h6 := a.hwd
  have h7 := a.civ.dd
  have h8 := dim_bd y m
  have h9 := a.civ.d1
  exact ⟨h1, h2, a.civ.m1, a.civ.m12, h9, by omega, by omega, by omega, by omega, by omega, by omega, by omega, by omega, by omega⟩

theorem to_mom {sec y m d h mi se wd : Int} (a : Mom sec y m d h mi se wd) (s0 : -9100000000000000 ≤ sec) (s1 : sec ≤ 9100000000000000) (wd2 : Int) (w : World) :
    Calls Try.prog 10 #[.agg #[.int .i64 y, .int .i64 m, .int .i64 d, .int .i64 h, .int .i64 mi, .int .i64 se, .int .i64 wd2]] w fun e w' => e = .returned (.int .i64 sec) ∧ Below w.heap.size w w' := by
  obtain ⟨y0, y1, m0, m1, d0, d1, h0, h1, i0, i1, k0, k1, _, _⟩ := mom_bd a s0 s1
  refine (to_any y m d h mi se wd2 w (by omega) (by omega) m0 m1 (by omega) (by omega) (by omega) (by omega) (by omega) (by omega) (by omega) (by omega)).mono ?_
  rintro e w' ⟨rfl, hb⟩
  exact ⟨ret_int (mom_sec a), hb⟩
set_option maxHeartbeats 4000000 in
theorem lawDateFrom (s : Int) (w : World) : Calls Try.prog 3 #[.int .i64 s] w fun e w' => e = .returned (.bool true) ∧ Below w.heap.size w w' := by
  have L := Nat.le_refl w.heap.size
  go_enter Try.func3, Try.ntmps3
  go_wp2_with fail
  go_at_call 7
  refine (head_any _).mono ?_
  rintro e w1 ⟨rfl, hb1⟩
  go_wp2_with fail
  go_at_call 8
  refine (from_any _ _).mono ?_
  rintro e w2 ⟨y, m, d, h, mi, se, wd, rfl, hm, hb2⟩
  have hz2 := hb2.size
  have Hm := Lib.hid hm
  clear hm
  go_wp2_with fail
  go_at_call 9
  refine (lfrom_any _ _).mono ?_
  rintro e w3 ⟨y', m', d', h', mi', se', wd', rfl, hm', hb3⟩
  obtain ⟨rfl, rfl, rfl, rfl, rfl, rfl, rfl⟩ := Hm.out.uniq hm'
  clear hm'
  have hcb := clamp_bd s
  have hbd := mom_bd Hm.out (by omega) (by omega)
  obtain ⟨y0, y1, m0, m1, d0, d1, h0, h1, i0, i1, s0, s1, wd0, wd1⟩ := hbd
  have L0 := hb1.size
  obtain ⟨hc3, hf3⟩ := bcell hb3
  have hz3 : w2.heap.size < w3.heap.size := by have := hb3.size; simp at this; omega
  have HB := Lib.hid (below_then (below_new (below_then hb1 L hb2) L (civilObj y m d h mi se wd)) L hb3)
  clear hcb hb1 hb2 hb3
  by_cases c1 : 9007199254740992 < s
  · skip
    have Hc := Lib.hid (show clampS s = 9007199254740992 by unfold clampS; rw [if_neg (by omega), if_pos c1])
    go_wp2_with fail
    go_at_call 10
    refine (to_mom (sec := 9007199254740992) (by rw [← Hc.out]; exact Hm.out) (by omega) (by omega) 9 _).mono ?_
    rintro e w4 ⟨rfl, hb4⟩
    go_wp2
    go_ret
    exact ⟨rfl, below_then (below_new (below1 HB.out (Nat.le_trans (Nat.le_trans L0 hz2) (Nat.le_refl _)) _ _) L _) L hb4⟩
  · by_cases c2 : s < -9007199254740992
    · skip
      have Hc := Lib.hid (show clampS s = -9007199254740992 by unfold clampS; rw [if_pos c2])
      go_wp2_with fail
      go_at_call 10
      refine (to_mom (sec := -9007199254740992) (by rw [← Hc.out]; exact Hm.out) (by omega) (by omega) 9 _).mono ?_
      rintro e w4 ⟨rfl, hb4⟩
      go_wp2
      go_ret
      exact ⟨rfl, below_then (below_new (below1 HB.out (Nat.le_trans (Nat.le_trans L0 hz2) (Nat.le_refl _)) _ _) L _) L hb4⟩
    · skip
      have Hc := Lib.hid (show clampS s = s by unfold clampS; rw [if_neg c2, if_neg c1])
      go_wp2_with fail
      go_at_call 10
      refine (to_mom (sec := s) (by rw [← Hc.out]; exact Hm.out) (by omega) (by omega) 9 _).mono ?_
      rintro e w4 ⟨rfl, hb4⟩
      go_wp2
      go_ret
      exact ⟨rfl, below_then (below_new (below1 HB.out (Nat.le_trans (Nat.le_trans L0 hz2) (Nat.le_refl _)) _ _) L _) L hb4⟩
end Go.Proofs.Ytpblmdginlkedaa
