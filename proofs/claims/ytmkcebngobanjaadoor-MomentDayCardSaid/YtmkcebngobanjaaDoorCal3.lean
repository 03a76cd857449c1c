/-
  Contracts of package date: From.
-/
import Derived.Test.YtmkcebngobanjaaDoorCal2
import Derived.Deep.DeepCutAuto
namespace Go.Proofs.YtmkcebngobanjaaDoor
open Go.RowKit

def clampS (s : Int) : Int := if s < -9007199254740992 then -9007199254740992 else if 9007199254740992 < s then 9007199254740992 else s
theorem clamp_bd (s : Int) : -9007199254740992 ≤ clampS s ∧ clampS s ≤ 9007199254740992 := by
  unfold clampS; repeat' split
  all_goals omega
theorem clamp_in (s : Int) (h0 : -9007199254740992 ≤ s) (h1 : s ≤ 9007199254740992) : clampS s = s := by
  unfold clampS; rw [if_neg (by omega), if_neg (by omega)]
abbrev zeroCivil : Obj := .cells #[.int .i64 0, .int .i64 0, .int .i64 0, .int .i64 0, .int .i64 0, .int .i64 0, .int .i64 0] 32
theorem below1 {B : Nat} {a w : World} (h : Below B a w) {b : Nat} (hb : B ≤ b) (o : Nat) (x : Value) : Below B a (w.setCell ⟨b, o, none⟩ x) :=
  h.setCell (p := ⟨b, o, none⟩) hb _
theorem below7 {B : Nat} {a w : World} (h : Below B a w) {b : Nat} (hb : B ≤ b) (x0 x1 x2 x3 x4 x5 x6 : Value) :
    Below B a (((((((w.setCell ⟨b, 0, none⟩ x0).setCell ⟨b, 1, none⟩ x1).setCell ⟨b, 2, none⟩ x2).setCell ⟨b, 3, none⟩ x3).setCell ⟨b, 4, none⟩ x4).setCell ⟨b, 5, none⟩ x5).setCell ⟨b, 6, none⟩ x6) :=
  below1 (below1 (below1 (below1 (below1 (below1 (below1 h hb _ _) hb _ _) hb _ _) hb _ _) hb _ _) hb _ _) hb _ _
set_option maxHeartbeats 1000000 in
theorem from_any (s : Int) (w : World) :
    Calls Tryd.prog 11 #[.int .i64 s] w fun e w' => ∃ y m d h mi se wd : Int, e = .returned (.agg #[.int .i64 y, .int .i64 m, .int .i64 d, .int .i64 h, .int .i64 mi, .int .i64 se, .int .i64 wd]) ∧ Mom (clampS s) y m d h mi se wd ∧ Below w.heap.size w w' := by
  go_enter Tryd.func11, Tryd.ntmps11
  go_upto_region 1 with fail
  go_cut [0] (fun v wx => v = .int .i64 (clampS s) ∧ wx = w.alloc zeroCivil)
  case first =>
    by_cases h1 : s < -9007199254740992
    · have e : clampS s = -9007199254740992 := by unfold clampS; rw [if_pos h1]
      have E := Lib.hid e
      clear e
      go_wp2_with fail
      go_meet
      exact ⟨by rw [E.out], rfl⟩
    · by_cases h2 : 9007199254740992 < s
      · have e : clampS s = 9007199254740992 := by unfold clampS; rw [if_neg h1, if_pos h2]
        have E := Lib.hid e
        clear e
        go_wp2_with fail
        go_meet
        exact ⟨by rw [E.out], rfl⟩
      · have e : clampS s = s := by unfold clampS; rw [if_neg h1, if_neg h2]
        have E := Lib.hid e
        clear e
        go_wp2_with fail
        go_meet
        exact ⟨by rw [E.out], rfl⟩
  case rest =>
    obtain ⟨rfl, rfl⟩ := hcut
    have hcb := clamp_bd s
    generalize hcc : clampS s = c at *
    have Hcc := Lib.hid hcc
    clear hcc
    obtain ⟨c0, c1⟩ := hcb
    have d0 : -110000000000 ≤ c / 86400 := by omega
    have d1 : c / 86400 ≤ 110000000000 := by omega
    have r0 : 0 ≤ c % 86400 := by omega
    have r1 : c % 86400 < 86400 := by omega
    go_wp2_with fail
    go_at_call 19
    refine (divide_any _ _ _ (by omega) (by omega) (by omega) (by omega)).mono ?_
    rintro e w' ⟨rfl, n1, rfl⟩
    go_wp2_with fail
    go_at_call 19
    refine (divide_any _ _ _ (by omega) (by omega) (by omega) (by omega)).mono ?_
    rintro e w' ⟨rfl, n2, rfl⟩
    go_wp2_with fail
    go_at_call 20
    refine (yearOf_any _ _ d0 d1).mono ?_
    rintro e w' ⟨y, rfl, hy0, hy1, n3, rfl⟩
    have yb0 := fd_dn y _ hy1 d0
    have yb1 := fd_up y _ hy0 d1
    have fb := fd_bds y (by omega) (by omega)
    obtain ⟨fb0, fb1⟩ := fb
    have fs := fd_succ y
    have hq0 : 0 ≤ c / 86400 - fdB y := by omega
    have hq1 : c / 86400 - fdB y < 365 + lpI y := by omega
    have Hy0 := Lib.hid hy0
    have Hy1 := Lib.hid hy1
    have Hq1 := Lib.hid hq1
    have Hq2 : c / 86400 - fdB y ≤ 366 := by have := lpI_01 y; omega
    clear fs hy0 hy1 hq1
    go_wp2_with fail
    go_at_call 22
    refine (firstDay_any _ _ (by omega) (by omega)).mono ?_
    rintro e w' ⟨rfl, n4, rfl⟩
    go_wp2_with fail
    go_at_call 21
    refine (monthOf_any _ _ _ hq0 Hq1.out).mono ?_
    rintro e w' ⟨m, l, rfl, hm1, hm2, hl0, hl1, hl, rfl⟩
    have hl2 := dim_bd y m
    have hl3 : l ≤ 31 := by omega
    have Hl := Lib.hid hl
    have Hl1 := Lib.hid hl1
    clear hl hl1 hl2
    go_wp2
    refine bodyPost_ret (v := .agg #[.int .i64 y, .int .i64 m, .int .i64 (l + 1), .int .i64 (c % 86400 / 3600), .int .i64 (c % 86400 % 3600 / 60), .int .i64 (c % 86400 % 60), .int .i64 ((c / 86400 + 4) % 7)]) (by simp [results, Tryd.results11, go_sem]) rfl ⟨y, m, _, _, _, _, _, rfl, ?_, ?_⟩
    · rw [Hcc.out]
      exact ⟨civ_of hm1 hm2 hl0 Hl1.out Hl.out, rfl, rfl, rfl, rfl⟩
    · exact below7 (below_drewN ((Below.refl _ _).alloc (Nat.le_refl _) _) _) (Nat.le_refl _) _ _ _ _ _ _ _
end Go.Proofs.YtmkcebngobanjaaDoor
