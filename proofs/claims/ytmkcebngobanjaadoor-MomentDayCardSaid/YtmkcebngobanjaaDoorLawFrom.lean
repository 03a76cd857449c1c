/-
  The law's own From: year by year, month by month: it tells the same moment.
-/
import Derived.Test.YtmkcebngobanjaaDoorCal4l
import Derived.Deep.DeepCutAuto
namespace Go.Proofs.YtmkcebngobanjaaDoor
open Go.RowKit

def capS (s : Int) : Int := if 9007199254740992 < s then 9007199254740992 else s
theorem cap_clamp1 (s : Int) (h : capS s < -9007199254740992) : clampS s = -9007199254740992 := by
  unfold capS at h; unfold clampS; split at h <;> split <;> omega
theorem cap_clamp2 (s : Int) (h : ¬ capS s < -9007199254740992) : clampS s = capS s := by
  unfold capS at h ⊢; unfold clampS; repeat' split
  all_goals (split at h <;> omega)
theorem cap_bd (s : Int) : capS s ≤ 9007199254740992 := by unfold capS; split <;> omega
theorem tdm (c b : Int) (hb : 0 < b) : (c.tmod b < 0 → c.tdiv b - 1 = c / b ∧ c.tmod b + b = c % b) ∧ (¬ c.tmod b < 0 → c.tdiv b = c / b ∧ c.tmod b = c % b) := by
  by_cases h : 0 ≤ c
  · have e1 : c.tdiv b = c / b := Int.tdiv_eq_ediv_of_nonneg h
    have e2 : c.tmod b = c % b := Int.tmod_eq_emod_of_nonneg h
    have := Int.emod_nonneg c (show b ≠ 0 by omega)
    rw [e1, e2]
    omega
  · exact div_neg c b hb (by omega)
theorem tdm_bd (c b : Int) (hb : 0 < b) : -b ≤ c.tmod b ∧ c.tmod b < b := by
  have h := tdm c b hb
  have := Int.emod_nonneg c (show b ≠ 0 by omega)
  have := Int.emod_lt_of_pos c hb
  by_cases hn : c.tmod b < 0
  · obtain ⟨_, e⟩ := h.1 hn
    omega
  · obtain ⟨_, e⟩ := h.2 hn
    omega
theorem week_eq (D q c : Int) (hD : D = c / 86400 - 10957) (h : D.tmod 7 = q) : (q + 7 + 6) % 7 = (c / 86400 + 4) % 7 := by
  have := tdm D 7 (by omega)
  rw [h] at this
  generalize D.tdiv 7 = z at this
  by_cases hq : q < 0
  · obtain ⟨_, b⟩ := this.1 hq
    omega
  · obtain ⟨_, b⟩ := this.2 hq
    omega
theorem year_stop (y D left : Int) (hD : D < 146097) (hl : left = D - (fdB y - fdB 2000)) (h : 365 + lpI y ≤ left) : y + 1 < 2400 := by
  have := fd_succ y
  unfold fdB at *
  omega
theorem civ_400 {D y m left c : Int} (hD : D = c / 86400 - 10957) (hm1 : 1 ≤ m) (hm2 : m ≤ 12) (hl : left = D % 146097 - (fdB y - fdB 2000) - cumI y m) (h0 : 0 ≤ left) (h1 : left < dimI y m) : Civ (c / 86400) (y + 400 * (D / 146097)) m (left + 1) := by
  refine ⟨?_, hm1, hm2, by omega, by rw [dim_400]; omega⟩
  rw [fd_400, cum_400, hl]
  have : fdB 2000 = 10957 := by decide +kernel
  omega
set_option maxHeartbeats 4000000 in
theorem lfrom_any (s : Int) (w : World) :
    Calls Tryd.prog 15 #[.int .i64 s] w fun e w' => ∃ y m d h mi se wd : Int, e = .returned (.agg #[.int .i64 y, .int .i64 m, .int .i64 d, .int .i64 h, .int .i64 mi, .int .i64 se, .int .i64 wd]) ∧ Mom (clampS s) y m d h mi se wd ∧ Below w.heap.size w w' := by
  go_enter Tryd.func15, Tryd.ntmps15
  go_upto_if 11 with fail
  go_cut [0] (fun v wx => v = .int .i64 (capS s) ∧ wx = w.alloc zeroCivil)
  case first =>
    by_cases h : 9007199254740992 < s
    · have E := Lib.hid (show capS s = 9007199254740992 by unfold capS; rw [if_pos h])
      go_wp2_with fail
      go_meet
      exact ⟨by rw [E.out], rfl⟩
    · have E := Lib.hid (show capS s = s by unfold capS; rw [if_neg h])
      go_wp2_with fail
      go_meet
      exact ⟨by rw [E.out], rfl⟩
  case rest =>
    obtain ⟨rfl, rfl⟩ := hcut
    have hc1 := cap_clamp1 s
    have hc2 := cap_clamp2 s
    have hcb := cap_bd s
    generalize capS s = p at *
    have H1 := Lib.hid hc1
    have H2 := Lib.hid hc2
    clear hc1 hc2
    go_upto_if 13 with fail
    go_cut [0] (fun v wx => v = .int .i64 (clampS s) ∧ wx = w.alloc zeroCivil)
    case first =>
      by_cases h : p < -9007199254740992
      · go_wp2_with fail
        go_meet
        exact ⟨by rw [H1.out h], rfl⟩
      · go_wp2_with fail
        go_meet
        exact ⟨by rw [H2.out h], rfl⟩
    case rest =>
      obtain ⟨rfl, rfl⟩ := hcut
      clear H1 H2 hcb
      have hcb := clamp_bd s
      generalize hcc : clampS s = c at *
      have Hcc := Lib.hid hcc
      clear hcc
      obtain ⟨c0, c1⟩ := hcb
      have ht := Lib.hid (tdm c 86400 (by omega))
      have hb := tdm_bd c 86400 (by omega)
      obtain ⟨D, hD⟩ : ∃ D, D = c / 86400 - 10957 := ⟨_, rfl⟩
      obtain ⟨lf, hlf⟩ : ∃ lf, lf = c % 86400 := ⟨_, rfl⟩
      have D0 : -110000000000 ≤ D := by omega
      have D1 : D ≤ 110000000000 := by omega
      have l0 : 0 ≤ lf := by omega
      have l1 : lf < 86400 := by omega
      have HD := Lib.hid hD
      have Hlf := Lib.hid hlf
      clear hD hlf
      generalize hq : c.tdiv 86400 = q at *
      generalize hr : c.tmod 86400 = r at *
      have q0 : -110000000000 ≤ q := by
        have := ht.out
        have := HD.out
        omega
      have q1 : q ≤ 110000000000 := by
        have := ht.out
        have := HD.out
        omega
      obtain ⟨r0, r1⟩ := hb
      go_upto_if 20 with fail
      go_cut [3, 4] (fun u v wx => u = .int .i64 D ∧ v = .int .i64 lf ∧ wx = w.alloc zeroCivil)
      case first =>
        by_cases h : r < 0
        · go_wp2_with fail
          go_meet
          obtain ⟨a, b⟩ := ht.out.1 h
          have := HD.out
          have := Hlf.out
          exact ⟨by rw [show q - 10957 - 1 = D by omega], by rw [show r + 86400 = lf by omega], rfl⟩
        · go_wp2_with fail
          go_meet
          obtain ⟨a, b⟩ := ht.out.2 h
          have := HD.out
          have := Hlf.out
          exact ⟨by rw [show q - 10957 = D by omega], by rw [show r = lf by omega], rfl⟩
      case rest =>
        obtain ⟨rfl, rfl, rfl⟩ := hcut
        clear hq hr ht q0 q1 r0 r1 q r
        have ht := Lib.hid (tdm D 146097 (by omega))
        have hb := tdm_bd D 146097 (by omega)
        have hw := tdm_bd D 7 (by omega)
        have Hw := fun q h => Lib.hid (week_eq D q c HD.out h)
        obtain ⟨S, hS⟩ : ∃ S, S = D / 146097 := ⟨_, rfl⟩
        obtain ⟨E, hE⟩ : ∃ E, E = D % 146097 := ⟨_, rfl⟩
        have S0 : -1000000 ≤ S := by omega
        have S1 : S ≤ 1000000 := by omega
        have E0 : 0 ≤ E := by omega
        have E1 : E < 146097 := by omega
        have HS := Lib.hid hS
        have HE := Lib.hid hE
        clear hS hE
        generalize hq : D.tdiv 146097 = q at *
        generalize hr : D.tmod 146097 = r at *
        generalize hk : D.tmod 7 = k at *
        have Hk := Hw k rfl
        have q0 : -1000000 ≤ q := by
          have := ht.out
          have := HS.out
          omega
        have q1 : q ≤ 1000000 := by
          have := ht.out
          have := HS.out
          omega
        obtain ⟨r0, r1⟩ := hb
        obtain ⟨k0, k1⟩ := hw
        have k2 : 0 ≤ k + 7 + 6 := by omega
        clear Hw
        go_upto_if 35 with fail
        go_cut [3, 6] (fun u v wx => u = .int .i64 E ∧ v = .int .i64 S ∧ wx = w.alloc zeroCivil)
        case first =>
          by_cases h : r < 0
          · go_wp2_with fail
            go_meet
            obtain ⟨a, b⟩ := ht.out.1 h
            have := HS.out
            have := HE.out
            exact ⟨by rw [show r + 146097 = E by omega], by rw [show q - 1 = S by omega], rfl⟩
          · go_wp2_with fail
            go_meet
            obtain ⟨a, b⟩ := ht.out.2 h
            have := HS.out
            have := HE.out
            exact ⟨by rw [show r = E by omega], by rw [show q = S by omega], rfl⟩
        case rest =>
          obtain ⟨rfl, rfl, rfl⟩ := hcut
          clear hq hr ht q0 q1 r0 r1 q r
          clear hk
          go_wp2_with fail
          go_loop [3, 7, 8] (fun u v _ => ∃ y left : Int, u = .int .i64 left ∧ v = .int .i64 y ∧ 2000 ≤ y ∧ y ≤ 2400 ∧ 0 ≤ left ∧ left ≤ 146097 ∧ Hid (left = E - (fdB y - fdB 2000))) (fun _ v _ => (2400 - intOf v).toNat)
          case atStart => exact ⟨2000, E, rfl, rfl, by omega, by omega, E0, by omega, Lib.hid (by omega)⟩
          case round =>
            obtain ⟨y, left, rfl, rfl, hy0, hy1, hl0, hl1, hl⟩ := hrel
            have hstop := Lib.hid (year_stop y E left E1 hl.out)
            have hs := Lib.hid (fd_succ y)
            have hI : lpI y = if lpB y = true then 1 else 0 := rfl
            have HI := Lib.hid hI
            clear hI
            cases hb : lpB y
            · have hi : lpI y = 0 := by rw [HI.out, hb]; rfl
              have Hb := Lib.hid hb
              have Hi := Lib.hid hi
              clear hb hi
              by_cases hlt : left < 365
              · go_wp2_with (go_at_call 24; refine (lleap_any _ _).mono ?_; rw [Hb.out]; rintro e w3 ⟨rfl, rfl⟩)
                clear hstop hs
                have hlr := hl.out
                have hl367 : left ≤ 366 := by omega
                go_loopw [3, 9] (fun u v wr => ∃ m l : Int, v = .int .i64 m ∧ u = .int .i64 l ∧ 1 ≤ m ∧ m ≤ 12 ∧ 0 ≤ l ∧ l ≤ 366 ∧ Hid (l = left - cumI y m) ∧ Hid (Below (w.alloc zeroCivil).heap.size (w.alloc zeroCivil) wr)) (fun _ v _ => (12 - intOf v).toNat)
                case atStart => exact ⟨1, left, rfl, rfl, by omega, by omega, hl0, hl367, Lib.hid (by rw [cum_one]; omega), Lib.hid (Below.refl _ _)⟩
                case round =>
                  obtain ⟨m, l, rfl, rfl, hm0, hm1, l20, l21, hl2, HB⟩ := hrel
                  have db := dim_bd y m
                  obtain ⟨db0, db1⟩ := db
                  have hly := Lib.hid (show left < 365 + lpI y by rw [Hi.out]; omega)
                  clear hlr
                  by_cases hc : dimI y m ≤ l
                  · have hm3 : m + 1 ≤ 12 := month_end y left m hm0 hm1 hly.out (by rw [← hl2.out]; exact hc)
                    have hs := Lib.hid (cum_succ y m hm0 hm1)
                    go_wp2_with fail
                    go_at_call 25
                    refine (ldays_any _ _ _).mono ?_
                    rintro e w4 ⟨rfl, b4⟩
                    have HB4 := Lib.hid (HB.out.trans (b4.mono HB.out.size))
                    go_wp2_with fail
                    go_at_call 25
                    refine (ldays_any _ _ _).mono ?_
                    rintro e w5 ⟨rfl, b5⟩
                    have HB5 := Lib.hid (HB4.out.trans (b5.mono HB4.out.size))
                    go_wp2_with fail
                    go_roundw
                    case rel => exact ⟨m + 1, l - dimI y m, rfl, rfl, by omega, by omega, by omega, by omega, Lib.hid (by rw [hs.out, hl2.out]; omega), HB5⟩
                    case measure => simp [intOf]; omega
                  · go_wp2_with fail
                    go_at_call 25
                    refine (ldays_any _ _ _).mono ?_
                    rintro e w4 ⟨rfl, b4⟩
                    have HB4 := HB.out.trans (b4.mono HB.out.size)
                    obtain ⟨hc4, hf4⟩ := bcell HB4
                    have hz4 : w.heap.size < w4.heap.size := by have := HB4.size; simp at this; omega
                    have HBB := Lib.hid HB4
                    clear HB4
                    go_wp2
                    refine bodyPost_ret (v := .agg #[.int .i64 (y + 400 * S), .int .i64 m, .int .i64 (l + 1), .int .i64 (lf / 3600), .int .i64 (lf / 60 % 60), .int .i64 (lf % 60), .int .i64 ((k + 7 + 6) % 7)]) (by simp [results, Tryd.results15, go_sem, hc4]) rfl ⟨y + 400 * S, m, _, _, _, _, _, rfl, ?_, ?_⟩
                    · rw [Hcc.out]
                      have e1 := Hlf.out
                      have e2 := HS.out
                      have e3 := HE.out
                      refine ⟨?_, ?_, ?_, ?_, ?_⟩
                      · rw [e2]
                        exact civ_400 HD.out hm0 hm1 (by rw [← e3, hl2.out, hl.out]) l20 (by omega)
                      · omega
                      · omega
                      · omega
                      · exact Hk.out
                    · exact below7 (((Below.refl _ _).alloc (Nat.le_refl _) _).trans (HBB.out.mono (by simp))) (Nat.le_refl _) _ _ _ _ _ _ _
              · go_wp2_with (go_at_call 24; refine (lleap_any _ _).mono ?_; rw [Hb.out]; rintro e w3 ⟨rfl, rfl⟩)
                go_round
                case rel =>
                  have h1 := hstop.out (by rw [Hi.out]; omega)
                  have h2 := hs.out
                  have h3 := Hi.out
                  have h4 := hl.out
                  exact ⟨y + 1, left - 365, rfl, rfl, by omega, by omega, by omega, by omega, Lib.hid (by omega)⟩
                case measure =>
                  have h1 := hstop.out (by rw [Hi.out]; omega)
                  simp [intOf]; omega
            · have hi : lpI y = 1 := by rw [HI.out, hb]; rfl
              have Hb := Lib.hid hb
              have Hi := Lib.hid hi
              clear hb hi
              by_cases hlt : left < 366
              · go_wp2_with (go_at_call 24; refine (lleap_any _ _).mono ?_; rw [Hb.out]; rintro e w3 ⟨rfl, rfl⟩)
                clear hstop hs
                have hlr := hl.out
                have hl367 : left ≤ 366 := by omega
                go_loopw [3, 9] (fun u v wr => ∃ m l : Int, v = .int .i64 m ∧ u = .int .i64 l ∧ 1 ≤ m ∧ m ≤ 12 ∧ 0 ≤ l ∧ l ≤ 366 ∧ Hid (l = left - cumI y m) ∧ Hid (Below (w.alloc zeroCivil).heap.size (w.alloc zeroCivil) wr)) (fun _ v _ => (12 - intOf v).toNat)
                case atStart => exact ⟨1, left, rfl, rfl, by omega, by omega, hl0, hl367, Lib.hid (by rw [cum_one]; omega), Lib.hid (Below.refl _ _)⟩
                case round =>
                  obtain ⟨m, l, rfl, rfl, hm0, hm1, l20, l21, hl2, HB⟩ := hrel
                  have db := dim_bd y m
                  obtain ⟨db0, db1⟩ := db
                  have hly := Lib.hid (show left < 365 + lpI y by rw [Hi.out]; omega)
                  clear hlr
                  by_cases hc : dimI y m ≤ l
                  · have hm3 : m + 1 ≤ 12 := month_end y left m hm0 hm1 hly.out (by rw [← hl2.out]; exact hc)
                    have hs := Lib.hid (cum_succ y m hm0 hm1)
                    go_wp2_with fail
                    go_at_call 25
                    refine (ldays_any _ _ _).mono ?_
                    rintro e w4 ⟨rfl, b4⟩
                    have HB4 := Lib.hid (HB.out.trans (b4.mono HB.out.size))
                    go_wp2_with fail
                    go_at_call 25
                    refine (ldays_any _ _ _).mono ?_
                    rintro e w5 ⟨rfl, b5⟩
                    have HB5 := Lib.hid (HB4.out.trans (b5.mono HB4.out.size))
                    go_wp2_with fail
                    go_roundw
                    case rel => exact ⟨m + 1, l - dimI y m, rfl, rfl, by omega, by omega, by omega, by omega, Lib.hid (by rw [hs.out, hl2.out]; omega), HB5⟩
                    case measure => simp [intOf]; omega
                  · go_wp2_with fail
                    go_at_call 25
                    refine (ldays_any _ _ _).mono ?_
                    rintro e w4 ⟨rfl, b4⟩
                    have HB4 := HB.out.trans (b4.mono HB.out.size)
                    obtain ⟨hc4, hf4⟩ := bcell HB4
                    have hz4 : w.heap.size < w4.heap.size := by have := HB4.size; simp at this; omega
                    have HBB := Lib.hid HB4
                    clear HB4
                    go_wp2
                    refine bodyPost_ret (v := .agg #[.int .i64 (y + 400 * S), .int .i64 m, .int .i64 (l + 1), .int .i64 (lf / 3600), .int .i64 (lf / 60 % 60), .int .i64 (lf % 60), .int .i64 ((k + 7 + 6) % 7)]) (by simp [results, Tryd.results15, go_sem, hc4]) rfl ⟨y + 400 * S, m, _, _, _, _, _, rfl, ?_, ?_⟩
                    · rw [Hcc.out]
                      have e1 := Hlf.out
                      have e2 := HS.out
                      have e3 := HE.out
                      refine ⟨?_, ?_, ?_, ?_, ?_⟩
                      · rw [e2]
                        exact civ_400 HD.out hm0 hm1 (by rw [← e3, hl2.out, hl.out]) l20 (by omega)
                      · omega
                      · omega
                      · omega
                      · exact Hk.out
                    · exact below7 (((Below.refl _ _).alloc (Nat.le_refl _) _).trans (HBB.out.mono (by simp))) (Nat.le_refl _) _ _ _ _ _ _ _
              · go_wp2_with (go_at_call 24; refine (lleap_any _ _).mono ?_; rw [Hb.out]; rintro e w3 ⟨rfl, rfl⟩)
                go_round
                case rel =>
                  have h1 := hstop.out (by rw [Hi.out]; omega)
                  have h2 := hs.out
                  have h3 := Hi.out
                  have h4 := hl.out
                  exact ⟨y + 1, left - 366, rfl, rfl, by omega, by omega, by omega, by omega, Lib.hid (by omega)⟩
                case measure =>
                  have h1 := hstop.out (by rw [Hi.out]; omega)
                  simp [intOf]; omega
end Go.Proofs.YtmkcebngobanjaaDoor
