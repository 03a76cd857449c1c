/-
  Several texts put together (part 25): what the law and the program call, walked; their contracts.
-/
import Derived.Test.YtglennfjeacpoaaGreatDoorQ5
import Derived.Deep.DeepCutAuto
namespace Go.Proofs.YtglennfjeacpoaaGreatDoor
open Go.RowKit
def clampS (s : Int) : Int := if s < -9007199254740992 then -9007199254740992 else if 9007199254740992 < s then 9007199254740992 else s
theorem clamp_bd (s : Int) : -9007199254740992 ≤ clampS s ∧ clampS s ≤ 9007199254740992 := by
  unfold clampS; repeat' split
  all_goals omega
theorem clamp_in (s : Int) (h0 : -9007199254740992 ≤ s) (h1 : s ≤ 9007199254740992) : clampS s = s := by
  unfold clampS; rw [if_neg (by omega), if_neg (by omega)]
abbrev zeroCivil : Obj := .cells #[.int .i64 0, .int .i64 0, .int .i64 0, .int .i64 0, .int .i64 0, .int .i64 0, .int .i64 0] 96
theorem below1 {B : Nat} {a w : World} (h : Below B a w) {b : Nat} (hb : B ≤ b) (o : Nat) (x : Value) : Below B a (w.setCell ⟨b, o, none⟩ x) :=
  h.setCell (p := ⟨b, o, none⟩) hb _
theorem below7 {B : Nat} {a w : World} (h : Below B a w) {b : Nat} (hb : B ≤ b) (x0 x1 x2 x3 x4 x5 x6 : Value) :
    Below B a (((((((w.setCell ⟨b, 0, none⟩ x0).setCell ⟨b, 1, none⟩ x1).setCell ⟨b, 2, none⟩ x2).setCell ⟨b, 3, none⟩ x3).setCell ⟨b, 4, none⟩ x4).setCell ⟨b, 5, none⟩ x5).setCell ⟨b, 6, none⟩ x6) :=
  below1 (below1 (below1 (below1 (below1 (below1 (below1 h hb _ _) hb _ _) hb _ _) hb _ _) hb _ _) hb _ _) hb _ _
set_option maxHeartbeats 1000000 in
theorem from_any (s : Int) (w : World) :
    Calls Tryz.prog 86 #[.int .i64 s] w fun e w' => ∃ y m d h mi se wd : Int, e = .returned (.agg #[.int .i64 y, .int .i64 m, .int .i64 d, .int .i64 h, .int .i64 mi, .int .i64 se, .int .i64 wd]) ∧ Mom (clampS s) y m d h mi se wd ∧ Below w.heap.size w w' := by
  go_enter Tryz.func86, Tryz.ntmps86
  go_upto_region 1 with fail
  go_cut [0] (fun v wx => v = .int .i64 (clampS s) ∧ wx = w.alloc zeroCivil)
  case first =>
    by_cases h1 : s < -9007199254740992
    · have e : clampS s = -9007199254740992 := by unfold clampS; rw [if_pos h1]
      have E := Lib.hid e
      clear e
      go_wp2_with fail
      go_meet
      exact ⟨by rw [E.out], rfl⟩
    · by_cases h2 : 9007199254740992 < s
      · have e : clampS s = 9007199254740992 := by unfold clampS; rw [if_neg h1, if_pos h2]
        have E := Lib.hid e
        clear e
        go_wp2_with fail
        go_meet
        exact ⟨by rw [E.out], rfl⟩
      · have e : clampS s = s := by unfold clampS; rw [if_neg h1, if_neg h2]
        have E := Lib.hid e
        clear e
        go_wp2_with fail
        go_meet
        exact ⟨by rw [E.out], rfl⟩
  case rest =>
    obtain ⟨rfl, rfl⟩ := hcut
    have hcb := clamp_bd s
    generalize hcc : clampS s = c at *
    have Hcc := Lib.hid hcc
    clear hcc
    obtain ⟨c0, c1⟩ := hcb
    have d0 : -110000000000 ≤ c / 86400 := by omega
    have d1 : c / 86400 ≤ 110000000000 := by omega
    have r0 : 0 ≤ c % 86400 := by omega
    have r1 : c % 86400 < 86400 := by omega
    go_wp2_with fail
    go_at_call 138
    refine (divide_any _ _ _ (by omega) (by omega) (by omega) (by omega)).mono ?_
    rintro e w' ⟨rfl, n1, rfl⟩
    go_wp2_with fail
    go_at_call 138
    refine (divide_any _ _ _ (by omega) (by omega) (by omega) (by omega)).mono ?_
    rintro e w' ⟨rfl, n2, rfl⟩
    go_wp2_with fail
    go_at_call 139
    refine (yearOf_any _ _ d0 d1).mono ?_
    rintro e w' ⟨y, rfl, hy0, hy1, n3, rfl⟩
    have yb0 := fd_dn y _ hy1 d0
    have yb1 := fd_up y _ hy0 d1
    have fb := fd_bds y (by omega) (by omega)
    obtain ⟨fb0, fb1⟩ := fb
    have fs := fd_succ y
    have hq0 : 0 ≤ c / 86400 - fdB y := by omega
    have hq1 : c / 86400 - fdB y < 365 + lpI y := by omega
    have Hy0 := Lib.hid hy0
    have Hy1 := Lib.hid hy1
    have Hq1 := Lib.hid hq1
    have Hq2 : c / 86400 - fdB y ≤ 366 := by have := lpI_01 y; omega
    clear fs hy0 hy1 hq1
    go_wp2_with fail
    go_at_call 141
    refine (firstDay_any _ _ (by omega) (by omega)).mono ?_
    rintro e w' ⟨rfl, n4, rfl⟩
    go_wp2_with fail
    go_at_call 140
    refine (monthOf_any _ _ _ hq0 Hq1.out).mono ?_
    rintro e w' ⟨m, l, rfl, hm1, hm2, hl0, hl1, hl, rfl⟩
    have hl2 := dim_bd y m
    have hl3 : l ≤ 31 := by omega
    have Hl := Lib.hid hl
    have Hl1 := Lib.hid hl1
    clear hl hl1 hl2
    go_wp2
    refine bodyPost_ret (v := .agg #[.int .i64 y, .int .i64 m, .int .i64 (l + 1), .int .i64 (c % 86400 / 3600), .int .i64 (c % 86400 % 3600 / 60), .int .i64 (c % 86400 % 60), .int .i64 ((c / 86400 + 4) % 7)]) (by simp [results, Tryz.results86, go_sem]) rfl ⟨y, m, _, _, _, _, _, rfl, ?_, ?_⟩
    · rw [Hcc.out]
      exact ⟨civ_of hm1 hm2 hl0 Hl1.out Hl.out, rfl, rfl, rfl, rfl⟩
    · exact below7 (below_drewN ((Below.refl _ _).alloc (Nat.le_refl _) _) _) (Nat.le_refl _) _ _ _ _ _ _ _
end Go.Proofs.YtglennfjeacpoaaGreatDoor

namespace Go.Proofs.YtglennfjeacpoaaGreatDoor
open Go.RowKit
theorem lp4 {y : Int} (h : y.tmod 400 = 0) : true = lpB y := by
  rw [tmod_iff] at h
  rw [Bool.eq_iff_iff, lpB_iff]
  simp
  omega
theorem lp5 {y : Int} (h : ¬ y.tmod 400 = 0) (h4 : y.tmod 4 = 0) : (y.tmod 100 != 0) = lpB y := by
  rw [tmod_iff] at h h4
  rw [tmod_zero', Bool.eq_iff_iff, lpB_iff, bne_iff_ne]
  omega
theorem lp6 {y : Int} (h4 : ¬ y.tmod 4 = 0) : false = lpB y := lp3 h4
theorem lleap_any (y : Int) (w : World) :
    Calls Tryz.prog 83 #[.int .i64 y] w fun e w' => e = .returned (.bool (lpB y)) ∧ w = w' := by
  go_enter Tryz.func83, Tryz.ntmps83
  go_wp2
  · go_ret
    exact ⟨ret_bool (lp4 (by simpa using (‹(y.tmod 400 == 0) = true› : (y.tmod 400 == 0) = true))), rfl⟩
  · go_ret
    exact ⟨ret_bool (lp5 (by simpa using (‹(y.tmod 400 == 0) = false› : (y.tmod 400 == 0) = false)) ‹_›), rfl⟩
  · go_ret
    exact ⟨ret_bool (lp6 ‹_›), rfl⟩
set_option maxHeartbeats 4000000 in
theorem ldays_any (y m : Int) (w : World) :
    Calls Tryz.prog 84 #[.int .i64 y, .int .i64 m] w fun e w' => e = .returned (.int .i64 (dimI y m)) ∧ Below w.heap.size w w' := by
  by_cases hlo : m < 1
  · have e := dim_none y m (.inl hlo)
    rw [e]
    clear e
    go_enter Tryz.func84, Tryz.ntmps84
    go_wp2
    go_ret
    exact ⟨rfl, Below.refl _ _⟩
  by_cases hhi : 12 < m
  · have e := dim_none y m (.inr hhi)
    rw [e]
    clear e
    go_enter Tryz.func84, Tryz.ntmps84
    go_wp2
    go_ret
    exact ⟨rfl, Below.refl _ _⟩
  have : m = 1 ∨ m = 2 ∨ m = 3 ∨ m = 4 ∨ m = 5 ∨ m = 6 ∨ m = 7 ∨ m = 8 ∨ m = 9 ∨ m = 10 ∨ m = 11 ∨ m = 12 := by omega
  clear hlo hhi
  rcases this with rfl | rfl | rfl | rfl | rfl | rfl | rfl | rfl | rfl | rfl | rfl | rfl
  case inr.inl =>
    have e : dimI y 2 = 28 + lpI y := by simp [dimI]
    rw [e]
    have hl : lpI y = if lpB y = true then 1 else 0 := rfl
    have Hl := Lib.hid hl
    clear e hl
    cases hb : lpB y
    all_goals
      have Hb := Lib.hid hb
      go_enter Tryz.func84, Tryz.ntmps84
      go_wp2_with (go_at_call 83; refine (lleap_any y _).mono ?_; rw [Hb.out]; rintro e w' ⟨rfl, rfl⟩)
      go_ret
      exact ⟨ret_int (by rw [Hl.out, Hb.out]; rfl), (Below.refl _ _).alloc (Nat.le_refl _) _⟩
  all_goals
    first | rw [show dimI y 1 = 31 by simp [dimI]] | rw [show dimI y 3 = 31 by simp [dimI]] | rw [show dimI y 4 = 30 by simp [dimI]] | rw [show dimI y 5 = 31 by simp [dimI]] | rw [show dimI y 6 = 30 by simp [dimI]] | rw [show dimI y 7 = 31 by simp [dimI]] | rw [show dimI y 8 = 31 by simp [dimI]] | rw [show dimI y 9 = 30 by simp [dimI]] | rw [show dimI y 10 = 31 by simp [dimI]] | rw [show dimI y 11 = 30 by simp [dimI]] | rw [show dimI y 12 = 31 by simp [dimI]]
    go_enter Tryz.func84, Tryz.ntmps84
    go_wp2
    go_ret
    exact ⟨rfl, (Below.refl _ _).alloc (Nat.le_refl _) _⟩
end Go.Proofs.YtglennfjeacpoaaGreatDoor

namespace Go.Proofs.YtglennfjeacpoaaGreatDoor
open Go.RowKit
def capS (s : Int) : Int := if 9007199254740992 < s then 9007199254740992 else s
theorem cap_clamp1 (s : Int) (h : capS s < -9007199254740992) : clampS s = -9007199254740992 := by
  unfold capS at h; unfold clampS; split at h <;> split <;> omega
theorem cap_clamp2 (s : Int) (h : ¬ capS s < -9007199254740992) : clampS s = capS s := by
  unfold capS at h ⊢; unfold clampS; repeat' split
  all_goals (split at h <;> omega)
theorem cap_bd (s : Int) : capS s ≤ 9007199254740992 := by unfold capS; split <;> omega
theorem tdm (c b : Int) (hb : 0 < b) : (c.tmod b < 0 → c.tdiv b - 1 = c / b ∧ c.tmod b + b = c % b) ∧ (¬ c.tmod b < 0 → c.tdiv b = c / b ∧ c.tmod b = c % b) := by
  by_cases h : 0 ≤ c
  · have e1 : c.tdiv b = c / b := Int.tdiv_eq_ediv_of_nonneg h
    have e2 : c.tmod b = c % b := Int.tmod_eq_emod_of_nonneg h
    have := Int.emod_nonneg c (show b ≠ 0 by omega)
    rw [e1, e2]
    omega
  · exact div_neg c b hb (by omega)
theorem tdm_bd (c b : Int) (hb : 0 < b) : -b ≤ c.tmod b ∧ c.tmod b < b := by
  have h := tdm c b hb
  have := Int.emod_nonneg c (show b ≠ 0 by omega)
  have := Int.emod_lt_of_pos c hb
  by_cases hn : c.tmod b < 0
  · obtain ⟨_, e⟩ := h.1 hn
    omega
  · obtain ⟨_, e⟩ := h.2 hn
    omega
theorem week_eq (D q c : Int) (hD : D = c / 86400 - 10957) (h : D.tmod 7 = q) : (q + 7 + 6) % 7 = (c / 86400 + 4) % 7 := by
  have := tdm D 7 (by omega)
  rw [h] at this
  generalize D.tdiv 7 = z at this
  by_cases hq : q < 0
  · obtain ⟨_, b⟩ := this.1 hq
    omega
  · obtain ⟨_, b⟩ := this.2 hq
    omega
theorem year_stop (y D left : Int) (hD : D < 146097) (hl : left = D - (fdB y - fdB 2000)) (h : 365 + lpI y ≤ left) : y + 1 < 2400 := by
  have := fd_succ y
  unfold fdB at *
  omega
theorem civ_400 {D y m left c : Int} (hD : D = c / 86400 - 10957) (hm1 : 1 ≤ m) (hm2 : m ≤ 12) (hl : left = D % 146097 - (fdB y - fdB 2000) - cumI y m) (h0 : 0 ≤ left) (h1 : left < dimI y m) : Civ (c / 86400) (y + 400 * (D / 146097)) m (left + 1) := by
  refine ⟨?_, hm1, hm2, by omega, by rw [dim_400]; omega⟩
  rw [fd_400, cum_400, hl]
  have : fdB 2000 = 10957 := by decide +kernel
  omega
set_option maxHeartbeats 4000000 in
theorem lfrom_any (s : Int) (w : World) :
    Calls Tryz.prog 43 #[.int .i64 s] w fun e w' => ∃ y m d h mi se wd : Int, e = .returned (.agg #[.int .i64 y, .int .i64 m, .int .i64 d, .int .i64 h, .int .i64 mi, .int .i64 se, .int .i64 wd]) ∧ Mom (clampS s) y m d h mi se wd ∧ Below w.heap.size w w' := by
  go_enter Tryz.func43, Tryz.ntmps43
  go_upto_if 11 with fail
  go_cut [0] (fun v wx => v = .int .i64 (capS s) ∧ wx = w.alloc zeroCivil)
  case first =>
    by_cases h : 9007199254740992 < s
    · have E := Lib.hid (show capS s = 9007199254740992 by unfold capS; rw [if_pos h])
      go_wp2_with fail
      go_meet
      exact ⟨by rw [E.out], rfl⟩
    · have E := Lib.hid (show capS s = s by unfold capS; rw [if_neg h])
      go_wp2_with fail
      go_meet
      exact ⟨by rw [E.out], rfl⟩
  case rest =>
    obtain ⟨rfl, rfl⟩ := hcut
    have hc1 := cap_clamp1 s
    have hc2 := cap_clamp2 s
    have hcb := cap_bd s
    generalize capS s = p at *
    have H1 := Lib.hid hc1
    have H2 := Lib.hid hc2
    clear hc1 hc2
    go_upto_if 13 with fail
    go_cut [0] (fun v wx => v = .int .i64 (clampS s) ∧ wx = w.alloc zeroCivil)
    case first =>
      by_cases h : p < -9007199254740992
      · go_wp2_with fail
        go_meet
        exact ⟨by rw [H1.out h], rfl⟩
      · go_wp2_with fail
        go_meet
        exact ⟨by rw [H2.out h], rfl⟩
    case rest =>
      obtain ⟨rfl, rfl⟩ := hcut
      clear H1 H2 hcb
      have hcb := clamp_bd s
      generalize hcc : clampS s = c at *
      have Hcc := Lib.hid hcc
      clear hcc
      obtain ⟨c0, c1⟩ := hcb
      have ht := Lib.hid (tdm c 86400 (by omega))
      have hb := tdm_bd c 86400 (by omega)
      obtain ⟨D, hD⟩ : ∃ D, D = c / 86400 - 10957 := ⟨_, rfl⟩
      obtain ⟨lf, hlf⟩ : ∃ lf, lf = c % 86400 := ⟨_, rfl⟩
      have D0 : -110000000000 ≤ D := by omega
      have D1 : D ≤ 110000000000 := by omega
      have l0 : 0 ≤ lf := by omega
      have l1 : lf < 86400 := by omega
      have HD := Lib.hid hD
      have Hlf := Lib.hid hlf
      clear hD hlf
      generalize hq : c.tdiv 86400 = q at *
      generalize hr : c.tmod 86400 = r at *
      have q0 : -110000000000 ≤ q := by
        have := ht.out
        have := HD.out
        omega
      have q1 : q ≤ 110000000000 := by
        have := ht.out
        have := HD.out
        omega
      obtain ⟨r0, r1⟩ := hb
      go_upto_if 20 with fail
      go_cut [3, 4] (fun u v wx => u = .int .i64 D ∧ v = .int .i64 lf ∧ wx = w.alloc zeroCivil)
      case first =>
        by_cases h : r < 0
        · go_wp2_with fail
          go_meet
          obtain ⟨a, b⟩ := ht.out.1 h
          have := HD.out
          have := Hlf.out
          exact ⟨by rw [show q - 10957 - 1 = D by omega], by rw [show r + 86400 = lf by omega], rfl⟩
        · go_wp2_with fail
          go_meet
          obtain ⟨a, b⟩ := ht.out.2 h
          have := HD.out
          have := Hlf.out
          exact ⟨by rw [show q - 10957 = D by omega], by rw [show r = lf by omega], rfl⟩
      case rest =>
        obtain ⟨rfl, rfl, rfl⟩ := hcut
        clear hq hr ht q0 q1 r0 r1 q r
        have ht := Lib.hid (tdm D 146097 (by omega))
        have hb := tdm_bd D 146097 (by omega)
        have hw := tdm_bd D 7 (by omega)
        have Hw := fun q h => Lib.hid (week_eq D q c HD.out h)
        obtain ⟨S, hS⟩ : ∃ S, S = D / 146097 := ⟨_, rfl⟩
        obtain ⟨E, hE⟩ : ∃ E, E = D % 146097 := ⟨_, rfl⟩
        have S0 : -1000000 ≤ S := by omega
        have S1 : S ≤ 1000000 := by omega
        have E0 : 0 ≤ E := by omega
        have E1 : E < 146097 := by omega
        have HS := Lib.hid hS
        have HE := Lib.hid hE
        clear hS hE
        generalize hq : D.tdiv 146097 = q at *
        generalize hr : D.tmod 146097 = r at *
        generalize hk : D.tmod 7 = k at *
        have Hk := Hw k rfl
        have q0 : -1000000 ≤ q := by
          have := ht.out
          have := HS.out
          omega
        have q1 : q ≤ 1000000 := by
          have := ht.out
          have := HS.out
          omega
        obtain ⟨r0, r1⟩ := hb
        obtain ⟨k0, k1⟩ := hw
        have k2 : 0 ≤ k + 7 + 6 := by omega
        clear Hw
        go_upto_if 35 with fail
        go_cut [3, 6] (fun u v wx => u = .int .i64 E ∧ v = .int .i64 S ∧ wx = w.alloc zeroCivil)
        case first =>
          by_cases h : r < 0
          · go_wp2_with fail
            go_meet
            obtain ⟨a, b⟩ := ht.out.1 h
            have := HS.out
            have := HE.out
            exact ⟨by rw [show r + 146097 = E by omega], by rw [show q - 1 = S by omega], rfl⟩
          · go_wp2_with fail
            go_meet
            obtain ⟨a, b⟩ := ht.out.2 h
            have := HS.out
            have := HE.out
            exact ⟨by rw [show r = E by omega], by rw [show q = S by omega], rfl⟩
        case rest =>
          obtain ⟨rfl, rfl, rfl⟩ := hcut
          clear hq hr ht q0 q1 r0 r1 q r
          clear hk
          go_wp2_with fail
          go_loop [3, 7, 8] (fun u v _ => ∃ y left : Int, u = .int .i64 left ∧ v = .int .i64 y ∧ 2000 ≤ y ∧ y ≤ 2400 ∧ 0 ≤ left ∧ left ≤ 146097 ∧ Hid (left = E - (fdB y - fdB 2000))) (fun _ v _ => (2400 - intOf v).toNat)
          case atStart => exact ⟨2000, E, rfl, rfl, by omega, by omega, E0, by omega, Lib.hid (by omega)⟩
          case round =>
            obtain ⟨y, left, rfl, rfl, hy0, hy1, hl0, hl1, hl⟩ := hrel
            have hstop := Lib.hid (year_stop y E left E1 hl.out)
            have hs := Lib.hid (fd_succ y)
            have hI : lpI y = if lpB y = true then 1 else 0 := rfl
            have HI := Lib.hid hI
            clear hI
            cases hb : lpB y
            · have hi : lpI y = 0 := by rw [HI.out, hb]; rfl
              have Hb := Lib.hid hb
              have Hi := Lib.hid hi
              clear hb hi
              by_cases hlt : left < 365
              · go_wp2_with (go_at_call 83; refine (lleap_any _ _).mono ?_; rw [Hb.out]; rintro e w3 ⟨rfl, rfl⟩)
                clear hstop hs
                have hlr := hl.out
                have hl367 : left ≤ 366 := by omega
                go_loopw [3, 9] (fun u v wr => ∃ m l : Int, v = .int .i64 m ∧ u = .int .i64 l ∧ 1 ≤ m ∧ m ≤ 12 ∧ 0 ≤ l ∧ l ≤ 366 ∧ Hid (l = left - cumI y m) ∧ Hid (Below (w.alloc zeroCivil).heap.size (w.alloc zeroCivil) wr)) (fun _ v _ => (12 - intOf v).toNat)
                case atStart => exact ⟨1, left, rfl, rfl, by omega, by omega, hl0, hl367, Lib.hid (by rw [cum_one]; omega), Lib.hid (Below.refl _ _)⟩
                case round =>
                  obtain ⟨m, l, rfl, rfl, hm0, hm1, l20, l21, hl2, HB⟩ := hrel
                  have db := dim_bd y m
                  obtain ⟨db0, db1⟩ := db
                  have hly := Lib.hid (show left < 365 + lpI y by rw [Hi.out]; omega)
                  clear hlr
                  by_cases hc : dimI y m ≤ l
                  · have hm3 : m + 1 ≤ 12 := month_end y left m hm0 hm1 hly.out (by rw [← hl2.out]; exact hc)
                    have hs := Lib.hid (cum_succ y m hm0 hm1)
                    go_wp2_with fail
                    go_at_call 84
                    refine (ldays_any _ _ _).mono ?_
                    rintro e w4 ⟨rfl, b4⟩
                    have HB4 := Lib.hid (HB.out.trans (b4.mono HB.out.size))
                    go_wp2_with fail
                    go_at_call 84
                    refine (ldays_any _ _ _).mono ?_
                    rintro e w5 ⟨rfl, b5⟩
                    have HB5 := Lib.hid (HB4.out.trans (b5.mono HB4.out.size))
                    go_wp2_with fail
                    go_roundw
                    case rel => exact ⟨m + 1, l - dimI y m, rfl, rfl, by omega, by omega, by omega, by omega, Lib.hid (by rw [hs.out, hl2.out]; omega), HB5⟩
                    case measure => simp [intOf]; omega
                  · go_wp2_with fail
                    go_at_call 84
                    refine (ldays_any _ _ _).mono ?_
                    rintro e w4 ⟨rfl, b4⟩
                    have HB4 := HB.out.trans (b4.mono HB.out.size)
                    obtain ⟨hc4, hf4⟩ := bcell HB4
                    have hz4 : w.heap.size < w4.heap.size := by have := HB4.size; simp at this; omega
                    have HBB := Lib.hid HB4
                    clear HB4
                    go_wp2
                    refine bodyPost_ret (v := .agg #[.int .i64 (y + 400 * S), .int .i64 m, .int .i64 (l + 1), .int .i64 (lf / 3600), .int .i64 (lf / 60 % 60), .int .i64 (lf % 60), .int .i64 ((k + 7 + 6) % 7)]) (by simp [results, Tryz.results43, go_sem, hc4]) rfl ⟨y + 400 * S, m, _, _, _, _, _, rfl, ?_, ?_⟩
                    · rw [Hcc.out]
                      have e1 := Hlf.out
                      have e2 := HS.out
                      have e3 := HE.out
                      refine ⟨?_, ?_, ?_, ?_, ?_⟩
                      · rw [e2]
                        exact civ_400 HD.out hm0 hm1 (by rw [← e3, hl2.out, hl.out]) l20 (by omega)
                      · omega
                      · omega
                      · omega
                      · exact Hk.out
                    · exact below7 (((Below.refl _ _).alloc (Nat.le_refl _) _).trans (HBB.out.mono (by simp))) (Nat.le_refl _) _ _ _ _ _ _ _
              · go_wp2_with (go_at_call 83; refine (lleap_any _ _).mono ?_; rw [Hb.out]; rintro e w3 ⟨rfl, rfl⟩)
                go_round
                case rel =>
                  have h1 := hstop.out (by rw [Hi.out]; omega)
                  have h2 := hs.out
                  have h3 := Hi.out
                  have h4 := hl.out
                  exact ⟨y + 1, left - 365, rfl, rfl, by omega, by omega, by omega, by omega, Lib.hid (by omega)⟩
                case measure =>
                  have h1 := hstop.out (by rw [Hi.out]; omega)
                  simp [intOf]; omega
            · have hi : lpI y = 1 := by rw [HI.out, hb]; rfl
              have Hb := Lib.hid hb
              have Hi := Lib.hid hi
              clear hb hi
              by_cases hlt : left < 366
              · go_wp2_with (go_at_call 83; refine (lleap_any _ _).mono ?_; rw [Hb.out]; rintro e w3 ⟨rfl, rfl⟩)
                clear hstop hs
                have hlr := hl.out
                have hl367 : left ≤ 366 := by omega
                go_loopw [3, 9] (fun u v wr => ∃ m l : Int, v = .int .i64 m ∧ u = .int .i64 l ∧ 1 ≤ m ∧ m ≤ 12 ∧ 0 ≤ l ∧ l ≤ 366 ∧ Hid (l = left - cumI y m) ∧ Hid (Below (w.alloc zeroCivil).heap.size (w.alloc zeroCivil) wr)) (fun _ v _ => (12 - intOf v).toNat)
                case atStart => exact ⟨1, left, rfl, rfl, by omega, by omega, hl0, hl367, Lib.hid (by rw [cum_one]; omega), Lib.hid (Below.refl _ _)⟩
                case round =>
                  obtain ⟨m, l, rfl, rfl, hm0, hm1, l20, l21, hl2, HB⟩ := hrel
                  have db := dim_bd y m
                  obtain ⟨db0, db1⟩ := db
                  have hly := Lib.hid (show left < 365 + lpI y by rw [Hi.out]; omega)
                  clear hlr
                  by_cases hc : dimI y m ≤ l
                  · have hm3 : m + 1 ≤ 12 := month_end y left m hm0 hm1 hly.out (by rw [← hl2.out]; exact hc)
                    have hs := Lib.hid (cum_succ y m hm0 hm1)
                    go_wp2_with fail
                    go_at_call 84
                    refine (ldays_any _ _ _).mono ?_
                    rintro e w4 ⟨rfl, b4⟩
                    have HB4 := Lib.hid (HB.out.trans (b4.mono HB.out.size))
                    go_wp2_with fail
                    go_at_call 84
                    refine (ldays_any _ _ _).mono ?_
                    rintro e w5 ⟨rfl, b5⟩
                    have HB5 := Lib.hid (HB4.out.trans (b5.mono HB4.out.size))
                    go_wp2_with fail
                    go_roundw
                    case rel => exact ⟨m + 1, l - dimI y m, rfl, rfl, by omega, by omega, by omega, by omega, Lib.hid (by rw [hs.out, hl2.out]; omega), HB5⟩
                    case measure => simp [intOf]; omega
                  · go_wp2_with fail
                    go_at_call 84
                    refine (ldays_any _ _ _).mono ?_
                    rintro e w4 ⟨rfl, b4⟩
                    have HB4 := HB.out.trans (b4.mono HB.out.size)
                    obtain ⟨hc4, hf4⟩ := bcell HB4
                    have hz4 : w.heap.size < w4.heap.size := by have := HB4.size; simp at this; omega
                    have HBB := Lib.hid HB4
                    clear HB4
                    go_wp2
                    refine bodyPost_ret (v := .agg #[.int .i64 (y + 400 * S), .int .i64 m, .int .i64 (l + 1), .int .i64 (lf / 3600), .int .i64 (lf / 60 % 60), .int .i64 (lf % 60), .int .i64 ((k + 7 + 6) % 7)]) (by simp [results, Tryz.results43, go_sem, hc4]) rfl ⟨y + 400 * S, m, _, _, _, _, _, rfl, ?_, ?_⟩
                    · rw [Hcc.out]
                      have e1 := Hlf.out
                      have e2 := HS.out
                      have e3 := HE.out
                      refine ⟨?_, ?_, ?_, ?_, ?_⟩
                      · rw [e2]
                        exact civ_400 HD.out hm0 hm1 (by rw [← e3, hl2.out, hl.out]) l20 (by omega)
                      · omega
                      · omega
                      · omega
                      · exact Hk.out
                    · exact below7 (((Below.refl _ _).alloc (Nat.le_refl _) _).trans (HBB.out.mono (by simp))) (Nat.le_refl _) _ _ _ _ _ _ _
              · go_wp2_with (go_at_call 83; refine (lleap_any _ _).mono ?_; rw [Hb.out]; rintro e w3 ⟨rfl, rfl⟩)
                go_round
                case rel =>
                  have h1 := hstop.out (by rw [Hi.out]; omega)
                  have h2 := hs.out
                  have h3 := Hi.out
                  have h4 := hl.out
                  exact ⟨y + 1, left - 366, rfl, rfl, by omega, by omega, by omega, by omega, Lib.hid (by omega)⟩
                case measure =>
                  have h1 := hstop.out (by rw [Hi.out]; omega)
                  simp [intOf]; omega
end Go.Proofs.YtglennfjeacpoaaGreatDoor

namespace Go.Proofs.YtglennfjeacpoaaGreatDoor
open Go.RowKit
theorem mom_bd {sec y m d h mi se wd : Int} (a : Mom sec y m d h mi se wd) (s0 : -9100000000000000 ≤ sec) (s1 : sec ≤ 9100000000000000) : -400000000 ≤ y ∧ y ≤ 400000000 ∧ 1 ≤ m ∧ m ≤ 12 ∧ 1 ≤ d ∧ d ≤ 31 ∧ 0 ≤ h ∧ h < 24 ∧ 0 ≤ mi ∧ mi < 60 ∧ 0 ≤ se ∧ se < 60 ∧ 0 ≤ wd ∧ wd < 7 := by
  obtain ⟨hy0, hy1⟩ := a.civ.year
  have h1 := fd_dn y _ hy1 (by omega)
  have h2 := fd_up y _ hy0 (by omega)
  have h3 := a.hh
  have h4 := a.hmi
  have h5 := a.hs
  have h6 := a.hwd
  have h7 := a.civ.dd
  have h8 := dim_bd y m
  have h9 := a.civ.d1
  exact ⟨h1, h2, a.civ.m1, a.civ.m12, h9, by omega, by omega, by omega, by omega, by omega, by omega, by omega, by omega, by omega⟩
theorem next_of {sec y m d h mi se wd y' m' d' h' mi' se' wd' : Int} (a : Mom sec y m d h mi se wd) (b : Mom (sec + 86400) y' m' d' h' mi' se' wd') :
    h' = h ∧ mi' = mi ∧ se' = se ∧ wd' = (wd + 1) % 7 ∧ (1 < d' → d' = d + 1 ∧ m' = m ∧ y' = y ∧ d' ≤ dimI y m) ∧ (¬ 1 < d' → 1 < m' → d = dimI y m ∧ m' = m + 1 ∧ y' = y) ∧ (¬ 1 < d' → ¬ 1 < m' → d = 31 ∧ m = 12 ∧ y' = y + 1) := by
  have e1 : h' = h := by rw [a.hh, b.hh]; omega
  have e2 : mi' = mi := by rw [a.hmi, b.hmi]; omega
  have e3 : se' = se := by rw [a.hs, b.hs]; omega
  have e4 : wd' = (wd + 1) % 7 := by rw [a.hwd, b.hwd]; omega
  have ed : (sec + 86400) / 86400 = sec / 86400 + 1 := by omega
  have hb := b.civ
  rw [ed] at hb
  have ha := a.civ
  have m1 := ha.m1
  have m12 := ha.m12
  refine ⟨e1, e2, e3, e4, ?_⟩
  by_cases hlt : d < dimI y m
  · have c : Civ (sec / 86400 + 1) y m (d + 1) := ⟨by have := ha.num; omega, m1, m12, by have := ha.d1; omega, by omega⟩
    obtain ⟨rfl, rfl, rfl⟩ := hb.uniq c
    have := ha.d1
    exact ⟨fun _ => ⟨rfl, rfl, rfl, by omega⟩, fun h => absurd h (by omega), fun h => absurd h (by omega)⟩
  · have hd : d = dimI y m := by have := ha.dd; omega
    by_cases hm : m < 12
    · have hs := cum_succ y m m1 m12
      have hp := dim_pos y (m + 1) (by omega) (by omega)
      have c : Civ (sec / 86400 + 1) y (m + 1) 1 := ⟨by have := ha.num; omega, by omega, by omega, by omega, by omega⟩
      obtain ⟨rfl, rfl, rfl⟩ := hb.uniq c
      exact ⟨fun h => absurd h (by omega), fun _ _ => ⟨hd, rfl, rfl⟩, fun _ h => absurd h (by omega)⟩
    · obtain rfl : m = 12 := by omega
      have hs := cum_succ y 12 (by omega) (by omega)
      rw [show (12 : Int) + 1 = 13 from rfl, cum_13] at hs
      have h31 : dimI y 12 = 31 := by simp [dimI]
      have c : Civ (sec / 86400 + 1) (y + 1) 1 1 := ⟨by rw [fd_succ, cum_one]; have := ha.num; omega, by omega, by omega, by omega, by simp [dimI]⟩
      obtain ⟨rfl, rfl, rfl⟩ := hb.uniq c
      exact ⟨fun h => absurd h (by omega), fun _ h => absurd h (by omega), fun _ _ => ⟨by omega, rfl, rfl⟩⟩
end Go.Proofs.YtglennfjeacpoaaGreatDoor
