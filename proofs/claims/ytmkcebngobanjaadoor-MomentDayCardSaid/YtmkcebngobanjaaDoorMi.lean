/-
  MomentDay: each minute of a day.
-/
import Derived.Test.YtmkcebngobanjaaDoorMh
namespace Go.Proofs.YtmkcebngobanjaaDoor
open Go.RowKit
set_option linter.unusedVariables false
set_option linter.unusedSimpArgs false

/-- A time within the day of number q. -/
theorem mom_in {q y m d : Int} (c : Civ q y m d) (r : Int) (h0 : 0 ≤ r) (h1 : r < 86400) : Mom (86400 * q + r) y m d (r / 3600) (r / 60 % 60) (r % 60) ((q + 4) % 7) := by
  have e1 : (86400 * q + r) / 86400 = q := by omega
  have e2 : (86400 * q + r) % 86400 = r := by omega
  refine ⟨by rw [e1]; exact c, by rw [e2], by rw [e2]; omega, by rw [e2], by rw [e1]⟩
theorem clamp_day {q r : Int} (hq0 : -14000000000 ≤ q) (hq1 : q ≤ 14000000000) (h0 : 0 ≤ r) (h1 : r ≤ 86400) : clampS (86400 * q + r) = 86400 * q + r := clamp_in _ (by omega) (by omega)
theorem civ_ne {q y m d y' m' d' : Int} (a : Civ q y m d) (b : Civ (q + 1) y' m' d') : d ≠ d' := by
  have h := next_of (mom_in a 0 (by omega) (by omega)) (by have := mom_in b 0 (by omega) (by omega); rw [show 86400 * (q + 1) + 0 = 86400 * q + 0 + 86400 by omega] at this; exact this)
  obtain ⟨_, _, _, _, h1, h2, h3⟩ := h
  have p1 := a.m1
  have p2 := a.m12
  have p3 := dim_pos y m p1 p2
  have p4 := b.d1
  intro e
  by_cases c1 : 1 < d'
  · have := (h1 c1).1
    omega
  · by_cases c2 : 1 < m'
    · have := (h2 c1 c2).1
      omega
    · have := (h3 c1 c2).1
      omega
/-- The time's text ahead of minute i: no text ahead of the first. -/
def lastT (k : Nat) : Nat → ByteArray
  | 0 => ⟨#[]⟩
  | i + 1 => clB k ((i : Int) / 60) ((i : Int) % 60)
theorem last_ne (k i : Nat) (hi : i < 1440) : clB k ((i : Int) / 60) ((i : Int) % 60) ≠ lastT k i := by
  cases i with
  | zero =>
    intro e
    have h := cl_size k (h := ((0 : Nat) : Int) / 60) (mi := ((0 : Nat) : Int) % 60) (by omega) (by omega)
    rw [e] at h
    have e0 : (lastT k 0).size = 0 := rfl
    omega
  | succ j =>
    intro e
    have := cl_inj k (by omega) (by omega) e
    omega
theorem ne_list {a b : ByteArray} (h : a ≠ b) : (a.toList == b.toList) = false := by
  rw [beq_eq_false_iff_ne]
  intro e
  apply h
  apply bytes_eq
  rw [← Lib.toList_data, ← Lib.toList_data, e]
set_option maxHeartbeats 8000000 in
theorem lawDay (s : Int) (x : ByteArray) (w : World) (ht : TabPow w) : Calls Tryd.prog 4 #[.int .i64 s, .string x] w fun e w' => e = .returned (.bool true) ∧ Below w.heap.size w w' := by
  obtain ⟨p, hp⟩ : ∃ p, s.tmod 1125899906842624 = p := ⟨_, rfl⟩
  have hpb : -1125899906842624 < p ∧ p < 1125899906842624 := by
    have := tdm_bd s 1125899906842624 (by omega)
    have h2 := Int.tmod_lt_of_pos s (show (0 : Int) < 1125899906842624 by omega)
    rw [hp] at this h2
    have h3 : -1125899906842624 < s.tmod 1125899906842624 := by
      have := Int.lt_tmod_of_pos s (show (0 : Int) < 1125899906842624 by omega)
      exact this
    rw [hp] at h3
    omega
  obtain ⟨r, hr⟩ : ∃ r, p.tmod 86400 = r := ⟨_, rfl⟩
  obtain ⟨q, hq⟩ : ∃ q, p.tdiv 86400 = q := ⟨_, rfl⟩
  have hpq : p - r = 86400 * q := by
    have := Int.mul_tdiv_add_tmod p 86400
    rw [hq, hr] at this
    omega
  have hrb := tdm_bd p 86400 (by omega)
  rw [hr] at hrb
  obtain ⟨q0, q1⟩ : -14000000000 ≤ q ∧ q ≤ 14000000000 - 1 := by omega
  obtain ⟨y, m, d, c⟩ := civ_ex q
  obtain ⟨y', m', d', c'⟩ := civ_ex (q + 1)
  have hne := civ_ne c c'
  have hDm : ∀ i : Nat, i < 1440 → ∃ h mi se wd, Mom (clampS (86400 * q + 60 * (i : Int))) y m d h mi se wd ∧ h = (i : Int) / 60 ∧ mi = (i : Int) % 60 := fun i hi => by
    rw [clamp_day q0 (by omega) (by omega) (by omega)]
    exact ⟨_, _, _, _, mom_in c (60 * i) (by omega) (by omega), by omega, by omega⟩
  have hCm : ∀ i : Nat, i < 1440 → ∃ h mi se wd, Mom (clampS (86400 * q + 60 * (i : Int) + (i : Int) % 60)) y m d h mi se wd ∧ h = (i : Int) / 60 ∧ mi = (i : Int) % 60 := fun i hi => by
    rw [show 86400 * q + 60 * (i : Int) + (i : Int) % 60 = 86400 * q + (60 * (i : Int) + (i : Int) % 60) by omega, clamp_day q0 (by omega) (by omega) (by omega)]
    have e60 : (60 * (i : Int) + (i : Int) % 60) / 60 = i := by omega
    have e36 : (60 * (i : Int) + (i : Int) % 60) / 3600 = (i : Int) / 60 := by rw [show (3600 : Int) = 60 * 60 by decide, ← Int.ediv_ediv_of_nonneg (by omega), e60]
    exact ⟨_, _, _, _, mom_in c (60 * i + i % 60) (by omega) (by omega), e36, by rw [e60]⟩
  have hD0 : FmTo x (86400 * q) 0 (dayB (lkI x) y m d) := fun W hT => by
    obtain ⟨h, mi, se, wd, a, _, _⟩ := hDm 0 (by omega)
    rw [show 86400 * q + 60 * ((0 : Nat) : Int) = 86400 * q by omega] at a
    exact format_any x _ 0 a W hT
  have hD : ∀ i : Nat, i < 1440 → FmTo x (86400 * q + 60 * (i : Int)) 0 (dayB (lkI x) y m d) := fun i hi W hT => by
    obtain ⟨h, mi, se, wd, a, _, _⟩ := hDm i hi
    exact format_any x _ 0 a W hT
  have hC : ∀ i : Nat, i < 1440 → FmTo x (86400 * q + 60 * (i : Int) + (i : Int) % 60) 1 (clB (lkI x) ((i : Int) / 60) ((i : Int) % 60)) := fun i hi W hT => by
    obtain ⟨h, mi, se, wd, a, rfl, rfl⟩ := hCm i hi
    exact format_any x _ 1 a W hT
  have hL : ∀ i : Nat, i < 1440 → ∀ W, TabPow W → Calls Tryd.prog 9 #[.string x, .int .i64 (86400 * q + 60 * (i : Int)), .int .i64 1] W fun e w' => e = .returned (.string (clB (lkI x) ((i : Int) / 60) ((i : Int) % 60))) ∧ Below W.heap.size W w' := fun i hi W hT => by
    obtain ⟨h, mi, se, wd, a, rfl, rfl⟩ := hDm i hi
    exact lformat_any x _ 1 a W hT
  have hN : FmTo x (86400 * q + 86400) 0 (dayB (lkI x) y' m' d') := fun W hT => by
    have a := mom_in c' 0 (by omega) (by omega)
    rw [show 86400 * (q + 1) + 0 = 86400 * q + 86400 by omega, ← clamp_day (q := q) (r := 86400) q0 (by omega) (by omega) (by omega)] at a
    exact format_any x _ 0 a W hT
  have hdn : (dayB (lkI x) y' m' d').toList != (dayB (lkI x) y m d).toList := by
    rw [bne, ne_list (fun e => hne (day_inj (lkI x) ⟨c'.m1, c'.m12⟩ ⟨c'.d1, by have := c'.dd; have := dim_bd y' m'; omega⟩ ⟨c.m1, c.m12⟩ ⟨c.d1, by have := c.dd; have := dim_bd y m; omega⟩ e).symm)]
    rfl
  generalize dayB (lkI x) y m d = D at *
  generalize dayB (lkI x) y' m' d' = N at *
  have hLn := fun i hi => ne_list (last_ne (lkI x) i hi)
  generalize lkI x = k at *
  have HD0 := Lib.hid hD0
  have HD := Lib.hid hD
  have HC := Lib.hid hC
  have HL := Lib.hid hL
  have HN := Lib.hid hN
  have HLn := Lib.hid hLn
  have Ht := Lib.hid ht
  have Hpq := Lib.hid hpq
  clear hD0 hD hC hL hN hLn ht hDm hCm c c' hne hq
  obtain ⟨p0, p1⟩ := hpb
  obtain ⟨r0, r1⟩ := hrb
  go_enter Tryd.func4, Tryd.ntmps4
  go_wp2_with fail
  go_at_call 7
  refine (headM_any _ Ht.out).mono ?_
  rintro e w1 ⟨rfl, hb1⟩
  obtain ⟨k1, k2, k3⟩ := hdS_later hb1 ⟨Ht.out, Nat.le_refl _, Below.refl _ _⟩
  clear hb1
  go_wp2_with fail
  go_at_call 8
  refine (FmTo.at_ HD0.out _ k1).mono ?_
  rintro e w2 ⟨rfl, hb2⟩
  obtain ⟨k1', k2', k3'⟩ := hdS_later hb2 ⟨k1, k2, k3⟩
  have K2 := Lib.hid (show HdS w w2 from ⟨k1', k2', k3'⟩)
  clear hb2 k1 k2 k3 k1' k2' k3'
  have n0 : (D.toList != D.toList) = false := by simp
  go_wp2_with fail
  go_loopw [6, 7] (fun u v wr => ∃ i : Nat, v = .int .i64 (i : Int) ∧ u = .string (lastT k i) ∧ i ≤ 1440 ∧ Hid (HdS w wr)) (fun _ v _ => (1440 - intOf v).toNat)
  case atStart => exact ⟨0, rfl, rfl, by omega, K2⟩
  case round =>
    obtain ⟨i, rfl, rfl, hi, hS⟩ := hrel
    by_cases hlt : i < 1440
    · have f1 : decide ((i : Int) < 1440) = true := decide_eq_true (by omega)
      have hC := HC.out i hlt
      have hD := HD.out i hlt
      have hL := HL.out i hlt
      have hN := HLn.out i hlt
      have hl : lastT k (i + 1) = clB k ((i : Int) / 60) ((i : Int) % 60) := rfl
      generalize clB k ((i : Int) / 60) ((i : Int) % 60) = T at *
      generalize lastT k i = U at *
      have HCi := Lib.hid hC
      have HDi := Lib.hid hD
      have HLi := Lib.hid hL
      have Hl := Lib.hid hl
      have nT : (T.toList != T.toList) = false := by simp
      clear hC hD hL hl
      go_wp2_with fail
      go_at_call 8
      refine (FmTo.at_ HCi.out _ hS.out.1).mono ?_
      rintro e w3 ⟨rfl, hb3⟩
      have hS3 := Lib.hid (hdS_later hb3 hS.out)
      clear hb3
      go_wp2_with fail
      go_at_call 8
      refine (FmTo.at_ HDi.out _ hS3.out.1).mono ?_
      rintro e w4 ⟨rfl, hb4⟩
      have hS4 := Lib.hid (hdS_later hb4 hS3.out)
      clear hb4
      go_wp2_with fail
      go_at_call 9
      refine (HLi.out _ hS4.out.1).mono ?_
      rintro e w5 ⟨rfl, hb5⟩
      have hS5 := Lib.hid (hdS_later hb5 hS4.out)
      clear hb5
      go_wp2_with fail
      go_roundw
      case rel => exact ⟨i + 1, rfl, by rw [Hl.out], by omega, hS5⟩
      case measure => simp [intOf]; omega
    · obtain rfl : i = 1440 := by omega
      have f1 : decide (((1440 : Nat) : Int) < 1440) = false := by decide
      go_wp2_with fail
      go_at_call 8
      refine (FmTo.at_ HN.out _ hS.out.1).mono ?_
      rintro e w3 ⟨rfl, hb3⟩
      have hS3 := Lib.hid (hdS_later hb3 hS.out)
      clear hb3
      go_wp2
      go_ret
      exact ⟨ret_bool hdn, hS3.out.2.2⟩
end Go.Proofs.YtmkcebngobanjaaDoor
