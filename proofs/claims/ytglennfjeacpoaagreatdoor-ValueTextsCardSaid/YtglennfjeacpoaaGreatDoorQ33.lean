/-
  Several texts put together (part 33): what the law and the program call, walked; their contracts.
-/
import Derived.Test.YtglennfjeacpoaaGreatDoorQ26
import Derived.Deep.DeepCutAuto
import Derived.Deep.CutBlock
namespace Go.Proofs.YtglennfjeacpoaaGreatDoor
open Go.RowKit
set_option linter.unusedVariables false
set_option linter.unusedSimpArgs false
theorem cvS_id {b : Nat} {w W : World} {c0 c1 c2 c3 c4 c5 c6 : Value} (h : CvS b w c0 c1 c2 c3 c4 c5 c6 W) : CvS b w c0 c1 c2 c3 c4 c5 c6 W := h
theorem assoc3 (a b c : ByteArray) : (a ++ b) ++ c = a ++ (b ++ c) := ByteArray.append_assoc
set_option maxHeartbeats 8000000 in
set_option maxRecDepth 1000000 in
theorem lformat_any (x : ByteArray) (sec st : Int) {y m d h mi se wd : Int} (a : Mom (clampS sec) y m d h mi se wd) (w : World) (ht : TabPow w) :
    Calls Tryz.prog 12 #[.string x, .int .i64 sec, .int .i64 st] w fun e w' => e = .returned (.string (fmB (lkI x) st y m d h mi)) ∧ Below w.heap.size w w' := by
  have hcb := clamp_bd sec
  obtain ⟨y0, y1, m0, m1, d0, d1, h0, h1, i0, i1, s0, s1, wd0, wd1⟩ := mom_bd a (by omega) (by omega)
  have hF := fun W => lfrom_to a W
  have hY := fun W hT => lfour_any y (by omega) (by omega) W hT
  have hM2 := fun W hT => ltwo_any m (by omega) (by omega) W hT
  have hD2 := fun W hT => ltwo_any d (by omega) (by omega) W hT
  have hH2 := fun W hT => ltwo_any h (by omega) (by omega) W hT
  have hI2 := fun W hT => ltwo_any mi (by omega) (by omega) W hT
  have hM1 := fun W hT => itoa_any m (by omega) (by omega) W hT
  have hD1 := fun W hT => itoa_any d (by omega) (by omega) W hT
  have hR := fun W hT => itoa_any (hrI h) (by unfold hrI; omega) (by unfold hrI; omega) W hT
  rw [← one_ge (n := m) (by omega)] at hM1
  rw [← one_ge (n := d) (by omega)] at hD1
  rw [← one_ge (n := hrI h) (by unfold hrI; omega)] at hR
  have sY := dgB_size (n := y) (by omega) (by omega) 4 (by omega)
  have sM1 := dgB_size (n := m) (by omega) (by omega) 1 (by omega)
  have sM2 := dgB_size (n := m) (by omega) (by omega) 2 (by omega)
  have sD1 := dgB_size (n := d) (by omega) (by omega) 1 (by omega)
  have sD2 := dgB_size (n := d) (by omega) (by omega) 2 (by omega)
  have sH2 := dgB_size (n := h) (by omega) (by omega) 2 (by omega)
  have sI2 := dgB_size (n := mi) (by omega) (by omega) 2 (by omega)
  have sR := dgB_size (n := hrI h) (by unfold hrI; omega) (by unfold hrI; omega) 1 (by omega)
  have zD := day_size (lkI x) (y := y) (m := m) (d := d) ⟨by omega, by omega⟩ ⟨m0, m1⟩ ⟨d0, d1⟩
  have zC := cl_size (lkI x) (h := h) (mi := mi) ⟨h0, by omega⟩ ⟨i0, by omega⟩
  have zB : (btB (lkI x)).size ≤ 2 := by unfold btB; split <;> decide
  have hf : fmB (lkI x) st y m d h mi = if st = 1 then clB (lkI x) h mi else if st = 2 then (dayB (lkI x) y m d ++ btB (lkI x)) ++ clB (lkI x) h mi else dayB (lkI x) y m d := rfl
  have hday : ∀ k, dayB k y m d = (if k = 0 then (((dgB m 1 ++ ⟨#[47]⟩) ++ dgB d 1) ++ ⟨#[47]⟩) ++ dgB y 4
    else if k = 1 then (((dgB d 2 ++ ⟨#[46]⟩) ++ dgB m 2) ++ ⟨#[46]⟩) ++ dgB y 4
    else if k = 2 then (((dgB d 2 ++ ⟨#[47]⟩) ++ dgB m 2) ++ ⟨#[47]⟩) ++ dgB y 4
    else (((dgB y 4 ++ ⟨#[45]⟩) ++ dgB m 2) ++ ⟨#[45]⟩) ++ dgB d 2) := fun k => rfl
  have hcl : ∀ k, clB k h mi = if k = 0 then ((dgB (hrI h) 1 ++ ⟨#[58]⟩) ++ dgB mi 2) ++ halfB h else (dgB h 2 ++ ⟨#[58]⟩) ++ dgB mi 2 := fun k => by rw [assoc3 (dgB (hrI h) 1), assoc3 (dgB h 2)]; rfl
  have hbt : ∀ k, btB k = if k = 0 then ⟨#[44, 32]⟩ else ⟨#[32]⟩ := fun k => rfl
  have hal : halfB h = if 12 ≤ h then ⟨#[32, 80, 77]⟩ else ⟨#[32, 65, 77]⟩ := rfl
  generalize halfB h = A at *
  generalize dgB y 4 = Y at *
  generalize dgB m 1 = M1 at *
  generalize dgB m 2 = M2 at *
  generalize dgB d 1 = D1 at *
  generalize dgB d 2 = D2 at *
  generalize dgB h 2 = H2 at *
  generalize dgB mi 2 = I2 at *
  generalize dgB (hrI h) 1 = R at *
  generalize hT : fmB (lkI x) st y m d h mi = T at *
  generalize hDD : dayB (lkI x) y m d = DD at *
  generalize hCC : clB (lkI x) h mi = CC at *
  generalize hBB : btB (lkI x) = BB at *
  rw [hday] at hDD
  have HTT := Lib.hid hf
  clear hf hT
  rw [hcl] at hCC
  rw [hbt] at hBB
  obtain ⟨sY0, sY1⟩ := sY
  obtain ⟨sM10, sM11⟩ := sM1
  obtain ⟨sM20, sM21⟩ := sM2
  obtain ⟨sD10, sD11⟩ := sD1
  obtain ⟨sD20, sD21⟩ := sD2
  obtain ⟨sH20, sH21⟩ := sH2
  obtain ⟨sI20, sI21⟩ := sI2
  obtain ⟨sR0, sR1⟩ := sR
  obtain ⟨zC0, zC1⟩ := zC
  have q1 : ¬ 9223372036854775807 < DD.size + BB.size := by omega
  have q2 : ¬ 9223372036854775807 < DD.size + BB.size + CC.size := by omega
  have HF := Lib.hid hF
  have HY := Lib.hid hY
  have HM2 := Lib.hid hM2
  have HD2 := Lib.hid hD2
  have HH2 := Lib.hid hH2
  have HI2 := Lib.hid hI2
  have HM1 := Lib.hid hM1
  have HD1 := Lib.hid hD1
  have HR := Lib.hid hR
  have HDD := Lib.hid hDD
  have HCC := Lib.hid hCC
  have HBB := Lib.hid hBB
  have Hal := Lib.hid hal
  have Ht := Lib.hid ht
  clear hF hY hM2 hD2 hH2 hI2 hM1 hD1 hR hDD hCC hBB hal ht hday hcl hbt a zD zC0 zC1 zB hcb y0 y1
  go_enter Tryz.func12, Tryz.ntmps12
  go_wp2_with fail
  go_at_call 43
  refine (HF.out _).mono ?_
  rintro e w1 ⟨rfl, hb1⟩
  have S1 := cvS_new (c0 := .int .i64 y) (c1 := .int .i64 m) (c2 := .int .i64 d) (c3 := .int .i64 h) (c4 := .int .i64 mi) (c5 := .int .i64 se) (c6 := .int .i64 wd) (t := 96) hb1 (Ht.out.below hb1)
  clear hb1
  have n0 : ¬ 9223372036854775807 < Y.size + 1 := by omega
  have n1 : ¬ 9223372036854775807 < Y.size + 1 + M2.size := by omega
  have n2 : ¬ 9223372036854775807 < Y.size + 1 + M2.size + 1 := by omega
  have n3 : ¬ 9223372036854775807 < Y.size + 1 + M2.size + 1 + D2.size := by omega
  go_wp2_with fail
  have HS1 := Lib.hid S1
  clear S1
  go_region_held3 (fun w' => w'.cell? ⟨w1.heap.size, 0, none⟩ = some (.int .i64 y) ∧ w'.cell? ⟨w1.heap.size, 1, none⟩ = some (.int .i64 m) ∧ w'.cell? ⟨w1.heap.size, 2, none⟩ = some (.int .i64 d) ∧ w'.cell? ⟨w1.heap.size, 3, none⟩ = some (.int .i64 h) ∧ w'.cell? ⟨w1.heap.size, 4, none⟩ = some (.int .i64 mi) ∧ w'.cell? ⟨w1.heap.size, 5, none⟩ = some (.int .i64 se) ∧ w'.cell? ⟨w1.heap.size, 6, none⟩ = some (.int .i64 wd) ∧ w1.heap.size + 1 ≤ w'.heap.size ∧ TabPow w' ∧ w.heap.size ≤ w'.heap.size ∧ Below w.heap.size w w')
    (first | (exact cvS_later (by assumption) (by assumption)) | (exact cvS_later (Below.refl _ _).drew HS1.out) | go_keep)
    (first | (go_at_call 44; (with_reducible refine (HY.out _ (by first | assumption | exact And.left (And.right (And.right (And.right (And.right (And.right (And.right (And.right (And.right (by assumption))))))))))).mono ?_); rintro e w2 ⟨rfl, hb2⟩) | (go_at_call 45; (with_reducible refine (HM2.out _ (by first | assumption | exact And.left (And.right (And.right (And.right (And.right (And.right (And.right (And.right (And.right (by assumption))))))))))).mono ?_); rintro e w2 ⟨rfl, hb2⟩) | (go_at_call 45; (with_reducible refine (HD2.out _ (by first | assumption | exact And.left (And.right (And.right (And.right (And.right (And.right (And.right (And.right (And.right (by assumption))))))))))).mono ?_); rintro e w2 ⟨rfl, hb2⟩))
  have HS2 := Lib.hid (cvS_id (b := w1.heap.size) (w := w) (W := w2) (c0 := .int .i64 y) (c1 := .int .i64 m) (c2 := .int .i64 d) (c3 := .int .i64 h) (c4 := .int .i64 mi) (c5 := .int .i64 se) (c6 := .int .i64 wd) (by assumption))
  obtain ⟨a0, a1, a2, a3, a4, a5, a6, a7, a8, a9, a10⟩ := HS2.out
  clear n0 n1 n2 n3
  have n0 : ¬ 9223372036854775807 < H2.size + 1 := by omega
  have n1 : ¬ 9223372036854775807 < H2.size + 1 + I2.size := by omega
  go_wp2_with fail
  go_region_held3 (fun w' => w'.cell? ⟨w1.heap.size, 0, none⟩ = some (.int .i64 y) ∧ w'.cell? ⟨w1.heap.size, 1, none⟩ = some (.int .i64 m) ∧ w'.cell? ⟨w1.heap.size, 2, none⟩ = some (.int .i64 d) ∧ w'.cell? ⟨w1.heap.size, 3, none⟩ = some (.int .i64 h) ∧ w'.cell? ⟨w1.heap.size, 4, none⟩ = some (.int .i64 mi) ∧ w'.cell? ⟨w1.heap.size, 5, none⟩ = some (.int .i64 se) ∧ w'.cell? ⟨w1.heap.size, 6, none⟩ = some (.int .i64 wd) ∧ w1.heap.size + 1 ≤ w'.heap.size ∧ TabPow w' ∧ w.heap.size ≤ w'.heap.size ∧ Below w.heap.size w w')
    (first | (exact cvS_later (by assumption) (by assumption)) | (exact cvS_later (Below.refl _ _).drew HS2.out) | go_keep)
    (first | (go_at_call 45; (with_reducible refine (HH2.out _ (by first | assumption | exact And.left (And.right (And.right (And.right (And.right (And.right (And.right (And.right (And.right (by assumption))))))))))).mono ?_); rintro e w3 ⟨rfl, hb3⟩) | (go_at_call 45; (with_reducible refine (HI2.out _ (by first | assumption | exact And.left (And.right (And.right (And.right (And.right (And.right (And.right (And.right (And.right (by assumption))))))))))).mono ?_); rintro e w3 ⟨rfl, hb3⟩))
  have HS3 := Lib.hid (cvS_id (b := w1.heap.size) (w := w) (W := w3) (c0 := .int .i64 y) (c1 := .int .i64 m) (c2 := .int .i64 d) (c3 := .int .i64 h) (c4 := .int .i64 mi) (c5 := .int .i64 se) (c6 := .int .i64 wd) (by assumption))
  clear a0 a1 a2 a3 a4 a5 a6 a7 a8 a9 a10
  obtain ⟨a0, a1, a2, a3, a4, a5, a6, a7, a8, a9, a10⟩ := HS3.out
  clear n0 n1
  go_upto_block 0 with fail
  go_cut [8, 9, 10] (fun u v z wx => u = .string DD ∧ v = .string CC ∧ z = .string BB ∧ Hid (Below w.heap.size w wx))
  case first =>
    cases langC x with
    | en =>
      have eD : DD = (((M1 ++ ⟨#[47]⟩) ++ D1) ++ ⟨#[47]⟩) ++ Y := by rw [← HDD.out, lk_en]; rfl
      have eC : CC = ((R ++ ⟨#[58]⟩) ++ I2) ++ A := by rw [← HCC.out, lk_en]; rfl
      have eB : BB = ⟨#[44, 32]⟩ := by rw [← HBB.out, lk_en]; rfl
      have HeD := Lib.hid eD
      have HeC := Lib.hid eC
      have HeB := Lib.hid eB
      clear eD eC eB
      have n0 : ¬ 9223372036854775807 < M1.size + 1 := by omega
      have n1 : ¬ 9223372036854775807 < M1.size + 1 + D1.size := by omega
      have n2 : ¬ 9223372036854775807 < M1.size + 1 + D1.size + 1 := by omega
      have n3 : ¬ 9223372036854775807 < M1.size + 1 + D1.size + 1 + Y.size := by omega
      by_cases c12 : 12 ≤ h
      · have f1 : decide (12 ≤ h) = true := decide_eq_true c12
        by_cases c0 : h = 12
        · skip
          as_aux_lemma =>
            have f2 : (h - 12 == 0) = true := by simp; omega
            have eR : hrI h = 12 := by unfold hrI; omega
            have eA : A = ⟨#[32, 80, 77]⟩ := by rw [Hal.out]; exact if_pos (by omega)
            have hR := HR.out
            rw [eR] at hR
            subst eA
            have HR2 := Lib.hid hR
            clear hR
            have k0 : ¬ 9223372036854775807 < R.size + 1 := by omega
            have k1 : ¬ 9223372036854775807 < R.size + 1 + I2.size := by omega
            have k2 : ¬ 9223372036854775807 < R.size + 1 + I2.size + 3 := by omega
            go_wp2_with fail
            go_region_held3 (fun w' => w'.cell? ⟨w1.heap.size, 0, none⟩ = some (.int .i64 y) ∧ w'.cell? ⟨w1.heap.size, 1, none⟩ = some (.int .i64 m) ∧ w'.cell? ⟨w1.heap.size, 2, none⟩ = some (.int .i64 d) ∧ w'.cell? ⟨w1.heap.size, 3, none⟩ = some (.int .i64 h) ∧ w'.cell? ⟨w1.heap.size, 4, none⟩ = some (.int .i64 mi) ∧ w'.cell? ⟨w1.heap.size, 5, none⟩ = some (.int .i64 se) ∧ w'.cell? ⟨w1.heap.size, 6, none⟩ = some (.int .i64 wd) ∧ w1.heap.size + 1 ≤ w'.heap.size ∧ TabPow w' ∧ w.heap.size ≤ w'.heap.size ∧ Below w.heap.size w w')
              (first | (exact cvS_later (by assumption) (by assumption)) | (exact cvS_later (Below.refl _ _).drew HS3.out) | go_keep)
              (first | (go_at_call 46; (with_reducible refine (HM1.out _ (by first | assumption | exact And.left (And.right (And.right (And.right (And.right (And.right (And.right (And.right (And.right (by assumption))))))))))).mono ?_); rintro e w4 ⟨rfl, hb4⟩) | (go_at_call 46; (with_reducible refine (HD1.out _ (by first | assumption | exact And.left (And.right (And.right (And.right (And.right (And.right (And.right (And.right (And.right (by assumption))))))))))).mono ?_); rintro e w4 ⟨rfl, hb4⟩) | (go_at_call 44; (with_reducible refine (HY.out _ (by first | assumption | exact And.left (And.right (And.right (And.right (And.right (And.right (And.right (And.right (And.right (by assumption))))))))))).mono ?_); rintro e w4 ⟨rfl, hb4⟩))
            have HS4 := Lib.hid (cvS_id (b := w1.heap.size) (w := w) (W := w4) (c0 := .int .i64 y) (c1 := .int .i64 m) (c2 := .int .i64 d) (c3 := .int .i64 h) (c4 := .int .i64 mi) (c5 := .int .i64 se) (c6 := .int .i64 wd) (by assumption))
            clear a0 a1 a2 a3 a4 a5 a6 a7 a8 a9 a10
            obtain ⟨a0, a1, a2, a3, a4, a5, a6, a7, a8, a9, a10⟩ := HS4.out
            go_wp2_with fail
            go_region_held3 (fun w' => w'.cell? ⟨w1.heap.size, 0, none⟩ = some (.int .i64 y) ∧ w'.cell? ⟨w1.heap.size, 1, none⟩ = some (.int .i64 m) ∧ w'.cell? ⟨w1.heap.size, 2, none⟩ = some (.int .i64 d) ∧ w'.cell? ⟨w1.heap.size, 3, none⟩ = some (.int .i64 h) ∧ w'.cell? ⟨w1.heap.size, 4, none⟩ = some (.int .i64 mi) ∧ w'.cell? ⟨w1.heap.size, 5, none⟩ = some (.int .i64 se) ∧ w'.cell? ⟨w1.heap.size, 6, none⟩ = some (.int .i64 wd) ∧ w1.heap.size + 1 ≤ w'.heap.size ∧ TabPow w' ∧ w.heap.size ≤ w'.heap.size ∧ Below w.heap.size w w')
              (first | (exact cvS_later (by assumption) (by assumption)) | (exact cvS_later (Below.refl _ _).drew HS4.out) | go_keep)
              (first | (go_at_call 46; (with_reducible refine (HR2.out _ (by first | assumption | exact And.left (And.right (And.right (And.right (And.right (And.right (And.right (And.right (And.right (by assumption))))))))))).mono ?_); rintro e w5 ⟨rfl, hb5⟩) | (go_at_call 45; (with_reducible refine (HI2.out _ (by first | assumption | exact And.left (And.right (And.right (And.right (And.right (And.right (And.right (And.right (And.right (by assumption))))))))))).mono ?_); rintro e w5 ⟨rfl, hb5⟩))
            go_wp2_with fail
            go_meet
            exact ⟨by rw [HeD.out], by rw [HeC.out], by rw [HeB.out], cvS_below (by assumption)⟩
        · skip
          as_aux_lemma =>
            have f2 : (h - 12 == 0) = false := by simp; omega
            have eR : hrI h = h - 12 := by unfold hrI; omega
            have eA : A = ⟨#[32, 80, 77]⟩ := by rw [Hal.out]; exact if_pos (by omega)
            have hR := HR.out
            rw [eR] at hR
            subst eA
            have HR2 := Lib.hid hR
            clear hR
            have k0 : ¬ 9223372036854775807 < R.size + 1 := by omega
            have k1 : ¬ 9223372036854775807 < R.size + 1 + I2.size := by omega
            have k2 : ¬ 9223372036854775807 < R.size + 1 + I2.size + 3 := by omega
            go_wp2_with fail
            go_region_held3 (fun w' => w'.cell? ⟨w1.heap.size, 0, none⟩ = some (.int .i64 y) ∧ w'.cell? ⟨w1.heap.size, 1, none⟩ = some (.int .i64 m) ∧ w'.cell? ⟨w1.heap.size, 2, none⟩ = some (.int .i64 d) ∧ w'.cell? ⟨w1.heap.size, 3, none⟩ = some (.int .i64 h) ∧ w'.cell? ⟨w1.heap.size, 4, none⟩ = some (.int .i64 mi) ∧ w'.cell? ⟨w1.heap.size, 5, none⟩ = some (.int .i64 se) ∧ w'.cell? ⟨w1.heap.size, 6, none⟩ = some (.int .i64 wd) ∧ w1.heap.size + 1 ≤ w'.heap.size ∧ TabPow w' ∧ w.heap.size ≤ w'.heap.size ∧ Below w.heap.size w w')
              (first | (exact cvS_later (by assumption) (by assumption)) | (exact cvS_later (Below.refl _ _).drew HS3.out) | go_keep)
              (first | (go_at_call 46; (with_reducible refine (HM1.out _ (by first | assumption | exact And.left (And.right (And.right (And.right (And.right (And.right (And.right (And.right (And.right (by assumption))))))))))).mono ?_); rintro e w4 ⟨rfl, hb4⟩) | (go_at_call 46; (with_reducible refine (HD1.out _ (by first | assumption | exact And.left (And.right (And.right (And.right (And.right (And.right (And.right (And.right (And.right (by assumption))))))))))).mono ?_); rintro e w4 ⟨rfl, hb4⟩) | (go_at_call 44; (with_reducible refine (HY.out _ (by first | assumption | exact And.left (And.right (And.right (And.right (And.right (And.right (And.right (And.right (And.right (by assumption))))))))))).mono ?_); rintro e w4 ⟨rfl, hb4⟩))
            have HS4 := Lib.hid (cvS_id (b := w1.heap.size) (w := w) (W := w4) (c0 := .int .i64 y) (c1 := .int .i64 m) (c2 := .int .i64 d) (c3 := .int .i64 h) (c4 := .int .i64 mi) (c5 := .int .i64 se) (c6 := .int .i64 wd) (by assumption))
            clear a0 a1 a2 a3 a4 a5 a6 a7 a8 a9 a10
            obtain ⟨a0, a1, a2, a3, a4, a5, a6, a7, a8, a9, a10⟩ := HS4.out
            go_wp2_with fail
            go_region_held3 (fun w' => w'.cell? ⟨w1.heap.size, 0, none⟩ = some (.int .i64 y) ∧ w'.cell? ⟨w1.heap.size, 1, none⟩ = some (.int .i64 m) ∧ w'.cell? ⟨w1.heap.size, 2, none⟩ = some (.int .i64 d) ∧ w'.cell? ⟨w1.heap.size, 3, none⟩ = some (.int .i64 h) ∧ w'.cell? ⟨w1.heap.size, 4, none⟩ = some (.int .i64 mi) ∧ w'.cell? ⟨w1.heap.size, 5, none⟩ = some (.int .i64 se) ∧ w'.cell? ⟨w1.heap.size, 6, none⟩ = some (.int .i64 wd) ∧ w1.heap.size + 1 ≤ w'.heap.size ∧ TabPow w' ∧ w.heap.size ≤ w'.heap.size ∧ Below w.heap.size w w')
              (first | (exact cvS_later (by assumption) (by assumption)) | (exact cvS_later (Below.refl _ _).drew HS4.out) | go_keep)
              (first | (go_at_call 46; (with_reducible refine (HR2.out _ (by first | assumption | exact And.left (And.right (And.right (And.right (And.right (And.right (And.right (And.right (And.right (by assumption))))))))))).mono ?_); rintro e w5 ⟨rfl, hb5⟩) | (go_at_call 45; (with_reducible refine (HI2.out _ (by first | assumption | exact And.left (And.right (And.right (And.right (And.right (And.right (And.right (And.right (And.right (by assumption))))))))))).mono ?_); rintro e w5 ⟨rfl, hb5⟩))
            go_wp2_with fail
            go_meet
            exact ⟨by rw [HeD.out], by rw [HeC.out], by rw [HeB.out], cvS_below (by assumption)⟩
      · have f1 : decide (12 ≤ h) = false := decide_eq_false c12
        by_cases c0 : h = 0
        · skip
          as_aux_lemma =>
            have f2 : (h == 0) = true := by simpa using c0
            have eR : hrI h = 12 := by unfold hrI; omega
            have eA : A = ⟨#[32, 65, 77]⟩ := by rw [Hal.out]; exact if_neg (by omega)
            have hR := HR.out
            rw [eR] at hR
            subst eA
            have HR2 := Lib.hid hR
            clear hR
            have k0 : ¬ 9223372036854775807 < R.size + 1 := by omega
            have k1 : ¬ 9223372036854775807 < R.size + 1 + I2.size := by omega
            have k2 : ¬ 9223372036854775807 < R.size + 1 + I2.size + 3 := by omega
            go_wp2_with fail
            go_region_held3 (fun w' => w'.cell? ⟨w1.heap.size, 0, none⟩ = some (.int .i64 y) ∧ w'.cell? ⟨w1.heap.size, 1, none⟩ = some (.int .i64 m) ∧ w'.cell? ⟨w1.heap.size, 2, none⟩ = some (.int .i64 d) ∧ w'.cell? ⟨w1.heap.size, 3, none⟩ = some (.int .i64 h) ∧ w'.cell? ⟨w1.heap.size, 4, none⟩ = some (.int .i64 mi) ∧ w'.cell? ⟨w1.heap.size, 5, none⟩ = some (.int .i64 se) ∧ w'.cell? ⟨w1.heap.size, 6, none⟩ = some (.int .i64 wd) ∧ w1.heap.size + 1 ≤ w'.heap.size ∧ TabPow w' ∧ w.heap.size ≤ w'.heap.size ∧ Below w.heap.size w w')
              (first | (exact cvS_later (by assumption) (by assumption)) | (exact cvS_later (Below.refl _ _).drew HS3.out) | go_keep)
              (first | (go_at_call 46; (with_reducible refine (HM1.out _ (by first | assumption | exact And.left (And.right (And.right (And.right (And.right (And.right (And.right (And.right (And.right (by assumption))))))))))).mono ?_); rintro e w4 ⟨rfl, hb4⟩) | (go_at_call 46; (with_reducible refine (HD1.out _ (by first | assumption | exact And.left (And.right (And.right (And.right (And.right (And.right (And.right (And.right (And.right (by assumption))))))))))).mono ?_); rintro e w4 ⟨rfl, hb4⟩) | (go_at_call 44; (with_reducible refine (HY.out _ (by first | assumption | exact And.left (And.right (And.right (And.right (And.right (And.right (And.right (And.right (And.right (by assumption))))))))))).mono ?_); rintro e w4 ⟨rfl, hb4⟩))
            have HS4 := Lib.hid (cvS_id (b := w1.heap.size) (w := w) (W := w4) (c0 := .int .i64 y) (c1 := .int .i64 m) (c2 := .int .i64 d) (c3 := .int .i64 h) (c4 := .int .i64 mi) (c5 := .int .i64 se) (c6 := .int .i64 wd) (by assumption))
            clear a0 a1 a2 a3 a4 a5 a6 a7 a8 a9 a10
            obtain ⟨a0, a1, a2, a3, a4, a5, a6, a7, a8, a9, a10⟩ := HS4.out
            go_wp2_with fail
            go_region_held3 (fun w' => w'.cell? ⟨w1.heap.size, 0, none⟩ = some (.int .i64 y) ∧ w'.cell? ⟨w1.heap.size, 1, none⟩ = some (.int .i64 m) ∧ w'.cell? ⟨w1.heap.size, 2, none⟩ = some (.int .i64 d) ∧ w'.cell? ⟨w1.heap.size, 3, none⟩ = some (.int .i64 h) ∧ w'.cell? ⟨w1.heap.size, 4, none⟩ = some (.int .i64 mi) ∧ w'.cell? ⟨w1.heap.size, 5, none⟩ = some (.int .i64 se) ∧ w'.cell? ⟨w1.heap.size, 6, none⟩ = some (.int .i64 wd) ∧ w1.heap.size + 1 ≤ w'.heap.size ∧ TabPow w' ∧ w.heap.size ≤ w'.heap.size ∧ Below w.heap.size w w')
              (first | (exact cvS_later (by assumption) (by assumption)) | (exact cvS_later (Below.refl _ _).drew HS4.out) | go_keep)
              (first | (go_at_call 46; (with_reducible refine (HR2.out _ (by first | assumption | exact And.left (And.right (And.right (And.right (And.right (And.right (And.right (And.right (And.right (by assumption))))))))))).mono ?_); rintro e w5 ⟨rfl, hb5⟩) | (go_at_call 45; (with_reducible refine (HI2.out _ (by first | assumption | exact And.left (And.right (And.right (And.right (And.right (And.right (And.right (And.right (And.right (by assumption))))))))))).mono ?_); rintro e w5 ⟨rfl, hb5⟩))
            go_wp2_with fail
            go_meet
            exact ⟨by rw [HeD.out], by rw [HeC.out], by rw [HeB.out], cvS_below (by assumption)⟩
        · skip
          as_aux_lemma =>
            have f2 : (h == 0) = false := by simpa using c0
            have eR : hrI h = h := by unfold hrI; omega
            have eA : A = ⟨#[32, 65, 77]⟩ := by rw [Hal.out]; exact if_neg (by omega)
            have hR := HR.out
            rw [eR] at hR
            subst eA
            have HR2 := Lib.hid hR
            clear hR
            have k0 : ¬ 9223372036854775807 < R.size + 1 := by omega
            have k1 : ¬ 9223372036854775807 < R.size + 1 + I2.size := by omega
            have k2 : ¬ 9223372036854775807 < R.size + 1 + I2.size + 3 := by omega
            go_wp2_with fail
            go_region_held3 (fun w' => w'.cell? ⟨w1.heap.size, 0, none⟩ = some (.int .i64 y) ∧ w'.cell? ⟨w1.heap.size, 1, none⟩ = some (.int .i64 m) ∧ w'.cell? ⟨w1.heap.size, 2, none⟩ = some (.int .i64 d) ∧ w'.cell? ⟨w1.heap.size, 3, none⟩ = some (.int .i64 h) ∧ w'.cell? ⟨w1.heap.size, 4, none⟩ = some (.int .i64 mi) ∧ w'.cell? ⟨w1.heap.size, 5, none⟩ = some (.int .i64 se) ∧ w'.cell? ⟨w1.heap.size, 6, none⟩ = some (.int .i64 wd) ∧ w1.heap.size + 1 ≤ w'.heap.size ∧ TabPow w' ∧ w.heap.size ≤ w'.heap.size ∧ Below w.heap.size w w')
              (first | (exact cvS_later (by assumption) (by assumption)) | (exact cvS_later (Below.refl _ _).drew HS3.out) | go_keep)
              (first | (go_at_call 46; (with_reducible refine (HM1.out _ (by first | assumption | exact And.left (And.right (And.right (And.right (And.right (And.right (And.right (And.right (And.right (by assumption))))))))))).mono ?_); rintro e w4 ⟨rfl, hb4⟩) | (go_at_call 46; (with_reducible refine (HD1.out _ (by first | assumption | exact And.left (And.right (And.right (And.right (And.right (And.right (And.right (And.right (And.right (by assumption))))))))))).mono ?_); rintro e w4 ⟨rfl, hb4⟩) | (go_at_call 44; (with_reducible refine (HY.out _ (by first | assumption | exact And.left (And.right (And.right (And.right (And.right (And.right (And.right (And.right (And.right (by assumption))))))))))).mono ?_); rintro e w4 ⟨rfl, hb4⟩))
            have HS4 := Lib.hid (cvS_id (b := w1.heap.size) (w := w) (W := w4) (c0 := .int .i64 y) (c1 := .int .i64 m) (c2 := .int .i64 d) (c3 := .int .i64 h) (c4 := .int .i64 mi) (c5 := .int .i64 se) (c6 := .int .i64 wd) (by assumption))
            clear a0 a1 a2 a3 a4 a5 a6 a7 a8 a9 a10
            obtain ⟨a0, a1, a2, a3, a4, a5, a6, a7, a8, a9, a10⟩ := HS4.out
            go_wp2_with fail
            go_region_held3 (fun w' => w'.cell? ⟨w1.heap.size, 0, none⟩ = some (.int .i64 y) ∧ w'.cell? ⟨w1.heap.size, 1, none⟩ = some (.int .i64 m) ∧ w'.cell? ⟨w1.heap.size, 2, none⟩ = some (.int .i64 d) ∧ w'.cell? ⟨w1.heap.size, 3, none⟩ = some (.int .i64 h) ∧ w'.cell? ⟨w1.heap.size, 4, none⟩ = some (.int .i64 mi) ∧ w'.cell? ⟨w1.heap.size, 5, none⟩ = some (.int .i64 se) ∧ w'.cell? ⟨w1.heap.size, 6, none⟩ = some (.int .i64 wd) ∧ w1.heap.size + 1 ≤ w'.heap.size ∧ TabPow w' ∧ w.heap.size ≤ w'.heap.size ∧ Below w.heap.size w w')
              (first | (exact cvS_later (by assumption) (by assumption)) | (exact cvS_later (Below.refl _ _).drew HS4.out) | go_keep)
              (first | (go_at_call 46; (with_reducible refine (HR2.out _ (by first | assumption | exact And.left (And.right (And.right (And.right (And.right (And.right (And.right (And.right (And.right (by assumption))))))))))).mono ?_); rintro e w5 ⟨rfl, hb5⟩) | (go_at_call 45; (with_reducible refine (HI2.out _ (by first | assumption | exact And.left (And.right (And.right (And.right (And.right (And.right (And.right (And.right (And.right (by assumption))))))))))).mono ?_); rintro e w5 ⟨rfl, hb5⟩))
            go_wp2_with fail
            go_meet
            exact ⟨by rw [HeD.out], by rw [HeC.out], by rw [HeB.out], cvS_below (by assumption)⟩
    | de =>
      as_aux_lemma =>
        have eD : DD = ((((D2) ++ ⟨#[46]⟩) ++ M2) ++ ⟨#[46]⟩) ++ Y := by rw [← HDD.out, lk_de]; rfl
        have eC : CC = (H2 ++ ⟨#[58]⟩) ++ I2 := by rw [← HCC.out, lk_de]; rfl
        have eB : BB = ⟨#[32]⟩ := by rw [← HBB.out, lk_de]; rfl
        have n0 : ¬ 9223372036854775807 < D2.size + 1 := by omega
        have n1 : ¬ 9223372036854775807 < D2.size + 1 + M2.size := by omega
        have n2 : ¬ 9223372036854775807 < D2.size + 1 + M2.size + 1 := by omega
        have n3 : ¬ 9223372036854775807 < D2.size + 1 + M2.size + 1 + Y.size := by omega
        have HeD := Lib.hid eD
        have HeC := Lib.hid eC
        have HeB := Lib.hid eB
        clear eD eC eB
        go_wp2_with fail
        go_region_held3 (fun w' => w'.cell? ⟨w1.heap.size, 0, none⟩ = some (.int .i64 y) ∧ w'.cell? ⟨w1.heap.size, 1, none⟩ = some (.int .i64 m) ∧ w'.cell? ⟨w1.heap.size, 2, none⟩ = some (.int .i64 d) ∧ w'.cell? ⟨w1.heap.size, 3, none⟩ = some (.int .i64 h) ∧ w'.cell? ⟨w1.heap.size, 4, none⟩ = some (.int .i64 mi) ∧ w'.cell? ⟨w1.heap.size, 5, none⟩ = some (.int .i64 se) ∧ w'.cell? ⟨w1.heap.size, 6, none⟩ = some (.int .i64 wd) ∧ w1.heap.size + 1 ≤ w'.heap.size ∧ TabPow w' ∧ w.heap.size ≤ w'.heap.size ∧ Below w.heap.size w w')
          (first | (exact cvS_later (by assumption) (by assumption)) | (exact cvS_later (Below.refl _ _).drew HS3.out) | go_keep)
          (first | (go_at_call 44; (with_reducible refine (HY.out _ (by first | assumption | exact And.left (And.right (And.right (And.right (And.right (And.right (And.right (And.right (And.right (by assumption))))))))))).mono ?_); rintro e w4 ⟨rfl, hb4⟩) | (go_at_call 45; (with_reducible refine (HM2.out _ (by first | assumption | exact And.left (And.right (And.right (And.right (And.right (And.right (And.right (And.right (And.right (by assumption))))))))))).mono ?_); rintro e w4 ⟨rfl, hb4⟩) | (go_at_call 45; (with_reducible refine (HD2.out _ (by first | assumption | exact And.left (And.right (And.right (And.right (And.right (And.right (And.right (And.right (And.right (by assumption))))))))))).mono ?_); rintro e w4 ⟨rfl, hb4⟩))
        go_wp2_with fail
        go_meet
        exact ⟨by rw [HeD.out], by rw [HeC.out], by rw [HeB.out], cvS_below (by assumption)⟩
    | cs =>
      as_aux_lemma =>
        have eD : DD = ((((D2) ++ ⟨#[46]⟩) ++ M2) ++ ⟨#[46]⟩) ++ Y := by rw [← HDD.out, lk_cs]; rfl
        have eC : CC = (H2 ++ ⟨#[58]⟩) ++ I2 := by rw [← HCC.out, lk_cs]; rfl
        have eB : BB = ⟨#[32]⟩ := by rw [← HBB.out, lk_cs]; rfl
        have n0 : ¬ 9223372036854775807 < D2.size + 1 := by omega
        have n1 : ¬ 9223372036854775807 < D2.size + 1 + M2.size := by omega
        have n2 : ¬ 9223372036854775807 < D2.size + 1 + M2.size + 1 := by omega
        have n3 : ¬ 9223372036854775807 < D2.size + 1 + M2.size + 1 + Y.size := by omega
        have HeD := Lib.hid eD
        have HeC := Lib.hid eC
        have HeB := Lib.hid eB
        clear eD eC eB
        go_wp2_with fail
        go_region_held3 (fun w' => w'.cell? ⟨w1.heap.size, 0, none⟩ = some (.int .i64 y) ∧ w'.cell? ⟨w1.heap.size, 1, none⟩ = some (.int .i64 m) ∧ w'.cell? ⟨w1.heap.size, 2, none⟩ = some (.int .i64 d) ∧ w'.cell? ⟨w1.heap.size, 3, none⟩ = some (.int .i64 h) ∧ w'.cell? ⟨w1.heap.size, 4, none⟩ = some (.int .i64 mi) ∧ w'.cell? ⟨w1.heap.size, 5, none⟩ = some (.int .i64 se) ∧ w'.cell? ⟨w1.heap.size, 6, none⟩ = some (.int .i64 wd) ∧ w1.heap.size + 1 ≤ w'.heap.size ∧ TabPow w' ∧ w.heap.size ≤ w'.heap.size ∧ Below w.heap.size w w')
          (first | (exact cvS_later (by assumption) (by assumption)) | (exact cvS_later (Below.refl _ _).drew HS3.out) | go_keep)
          (first | (go_at_call 44; (with_reducible refine (HY.out _ (by first | assumption | exact And.left (And.right (And.right (And.right (And.right (And.right (And.right (And.right (And.right (by assumption))))))))))).mono ?_); rintro e w4 ⟨rfl, hb4⟩) | (go_at_call 45; (with_reducible refine (HM2.out _ (by first | assumption | exact And.left (And.right (And.right (And.right (And.right (And.right (And.right (And.right (And.right (by assumption))))))))))).mono ?_); rintro e w4 ⟨rfl, hb4⟩) | (go_at_call 45; (with_reducible refine (HD2.out _ (by first | assumption | exact And.left (And.right (And.right (And.right (And.right (And.right (And.right (And.right (And.right (by assumption))))))))))).mono ?_); rintro e w4 ⟨rfl, hb4⟩))
        go_wp2_with fail
        go_meet
        exact ⟨by rw [HeD.out], by rw [HeC.out], by rw [HeB.out], cvS_below (by assumption)⟩
    | pl =>
      as_aux_lemma =>
        have eD : DD = ((((D2) ++ ⟨#[46]⟩) ++ M2) ++ ⟨#[46]⟩) ++ Y := by rw [← HDD.out, lk_pl]; rfl
        have eC : CC = (H2 ++ ⟨#[58]⟩) ++ I2 := by rw [← HCC.out, lk_pl]; rfl
        have eB : BB = ⟨#[32]⟩ := by rw [← HBB.out, lk_pl]; rfl
        have n0 : ¬ 9223372036854775807 < D2.size + 1 := by omega
        have n1 : ¬ 9223372036854775807 < D2.size + 1 + M2.size := by omega
        have n2 : ¬ 9223372036854775807 < D2.size + 1 + M2.size + 1 := by omega
        have n3 : ¬ 9223372036854775807 < D2.size + 1 + M2.size + 1 + Y.size := by omega
        have HeD := Lib.hid eD
        have HeC := Lib.hid eC
        have HeB := Lib.hid eB
        clear eD eC eB
        go_wp2_with fail
        go_region_held3 (fun w' => w'.cell? ⟨w1.heap.size, 0, none⟩ = some (.int .i64 y) ∧ w'.cell? ⟨w1.heap.size, 1, none⟩ = some (.int .i64 m) ∧ w'.cell? ⟨w1.heap.size, 2, none⟩ = some (.int .i64 d) ∧ w'.cell? ⟨w1.heap.size, 3, none⟩ = some (.int .i64 h) ∧ w'.cell? ⟨w1.heap.size, 4, none⟩ = some (.int .i64 mi) ∧ w'.cell? ⟨w1.heap.size, 5, none⟩ = some (.int .i64 se) ∧ w'.cell? ⟨w1.heap.size, 6, none⟩ = some (.int .i64 wd) ∧ w1.heap.size + 1 ≤ w'.heap.size ∧ TabPow w' ∧ w.heap.size ≤ w'.heap.size ∧ Below w.heap.size w w')
          (first | (exact cvS_later (by assumption) (by assumption)) | (exact cvS_later (Below.refl _ _).drew HS3.out) | go_keep)
          (first | (go_at_call 44; (with_reducible refine (HY.out _ (by first | assumption | exact And.left (And.right (And.right (And.right (And.right (And.right (And.right (And.right (And.right (by assumption))))))))))).mono ?_); rintro e w4 ⟨rfl, hb4⟩) | (go_at_call 45; (with_reducible refine (HM2.out _ (by first | assumption | exact And.left (And.right (And.right (And.right (And.right (And.right (And.right (And.right (And.right (by assumption))))))))))).mono ?_); rintro e w4 ⟨rfl, hb4⟩) | (go_at_call 45; (with_reducible refine (HD2.out _ (by first | assumption | exact And.left (And.right (And.right (And.right (And.right (And.right (And.right (And.right (And.right (by assumption))))))))))).mono ?_); rintro e w4 ⟨rfl, hb4⟩))
        go_wp2_with fail
        go_meet
        exact ⟨by rw [HeD.out], by rw [HeC.out], by rw [HeB.out], cvS_below (by assumption)⟩
    | ru =>
      as_aux_lemma =>
        have eD : DD = ((((D2) ++ ⟨#[46]⟩) ++ M2) ++ ⟨#[46]⟩) ++ Y := by rw [← HDD.out, lk_ru]; rfl
        have eC : CC = (H2 ++ ⟨#[58]⟩) ++ I2 := by rw [← HCC.out, lk_ru]; rfl
        have eB : BB = ⟨#[32]⟩ := by rw [← HBB.out, lk_ru]; rfl
        have n0 : ¬ 9223372036854775807 < D2.size + 1 := by omega
        have n1 : ¬ 9223372036854775807 < D2.size + 1 + M2.size := by omega
        have n2 : ¬ 9223372036854775807 < D2.size + 1 + M2.size + 1 := by omega
        have n3 : ¬ 9223372036854775807 < D2.size + 1 + M2.size + 1 + Y.size := by omega
        have HeD := Lib.hid eD
        have HeC := Lib.hid eC
        have HeB := Lib.hid eB
        clear eD eC eB
        go_wp2_with fail
        go_region_held3 (fun w' => w'.cell? ⟨w1.heap.size, 0, none⟩ = some (.int .i64 y) ∧ w'.cell? ⟨w1.heap.size, 1, none⟩ = some (.int .i64 m) ∧ w'.cell? ⟨w1.heap.size, 2, none⟩ = some (.int .i64 d) ∧ w'.cell? ⟨w1.heap.size, 3, none⟩ = some (.int .i64 h) ∧ w'.cell? ⟨w1.heap.size, 4, none⟩ = some (.int .i64 mi) ∧ w'.cell? ⟨w1.heap.size, 5, none⟩ = some (.int .i64 se) ∧ w'.cell? ⟨w1.heap.size, 6, none⟩ = some (.int .i64 wd) ∧ w1.heap.size + 1 ≤ w'.heap.size ∧ TabPow w' ∧ w.heap.size ≤ w'.heap.size ∧ Below w.heap.size w w')
          (first | (exact cvS_later (by assumption) (by assumption)) | (exact cvS_later (Below.refl _ _).drew HS3.out) | go_keep)
          (first | (go_at_call 44; (with_reducible refine (HY.out _ (by first | assumption | exact And.left (And.right (And.right (And.right (And.right (And.right (And.right (And.right (And.right (by assumption))))))))))).mono ?_); rintro e w4 ⟨rfl, hb4⟩) | (go_at_call 45; (with_reducible refine (HM2.out _ (by first | assumption | exact And.left (And.right (And.right (And.right (And.right (And.right (And.right (And.right (And.right (by assumption))))))))))).mono ?_); rintro e w4 ⟨rfl, hb4⟩) | (go_at_call 45; (with_reducible refine (HD2.out _ (by first | assumption | exact And.left (And.right (And.right (And.right (And.right (And.right (And.right (And.right (And.right (by assumption))))))))))).mono ?_); rintro e w4 ⟨rfl, hb4⟩))
        go_wp2_with fail
        go_meet
        exact ⟨by rw [HeD.out], by rw [HeC.out], by rw [HeB.out], cvS_below (by assumption)⟩
    | fr =>
      as_aux_lemma =>
        have eD : DD = ((((D2) ++ ⟨#[47]⟩) ++ M2) ++ ⟨#[47]⟩) ++ Y := by rw [← HDD.out, lk_fr]; rfl
        have eC : CC = (H2 ++ ⟨#[58]⟩) ++ I2 := by rw [← HCC.out, lk_fr]; rfl
        have eB : BB = ⟨#[32]⟩ := by rw [← HBB.out, lk_fr]; rfl
        have n0 : ¬ 9223372036854775807 < D2.size + 1 := by omega
        have n1 : ¬ 9223372036854775807 < D2.size + 1 + M2.size := by omega
        have n2 : ¬ 9223372036854775807 < D2.size + 1 + M2.size + 1 := by omega
        have n3 : ¬ 9223372036854775807 < D2.size + 1 + M2.size + 1 + Y.size := by omega
        have HeD := Lib.hid eD
        have HeC := Lib.hid eC
        have HeB := Lib.hid eB
        clear eD eC eB
        go_wp2_with fail
        go_region_held3 (fun w' => w'.cell? ⟨w1.heap.size, 0, none⟩ = some (.int .i64 y) ∧ w'.cell? ⟨w1.heap.size, 1, none⟩ = some (.int .i64 m) ∧ w'.cell? ⟨w1.heap.size, 2, none⟩ = some (.int .i64 d) ∧ w'.cell? ⟨w1.heap.size, 3, none⟩ = some (.int .i64 h) ∧ w'.cell? ⟨w1.heap.size, 4, none⟩ = some (.int .i64 mi) ∧ w'.cell? ⟨w1.heap.size, 5, none⟩ = some (.int .i64 se) ∧ w'.cell? ⟨w1.heap.size, 6, none⟩ = some (.int .i64 wd) ∧ w1.heap.size + 1 ≤ w'.heap.size ∧ TabPow w' ∧ w.heap.size ≤ w'.heap.size ∧ Below w.heap.size w w')
          (first | (exact cvS_later (by assumption) (by assumption)) | (exact cvS_later (Below.refl _ _).drew HS3.out) | go_keep)
          (first | (go_at_call 44; (with_reducible refine (HY.out _ (by first | assumption | exact And.left (And.right (And.right (And.right (And.right (And.right (And.right (And.right (And.right (by assumption))))))))))).mono ?_); rintro e w4 ⟨rfl, hb4⟩) | (go_at_call 45; (with_reducible refine (HM2.out _ (by first | assumption | exact And.left (And.right (And.right (And.right (And.right (And.right (And.right (And.right (And.right (by assumption))))))))))).mono ?_); rintro e w4 ⟨rfl, hb4⟩) | (go_at_call 45; (with_reducible refine (HD2.out _ (by first | assumption | exact And.left (And.right (And.right (And.right (And.right (And.right (And.right (And.right (And.right (by assumption))))))))))).mono ?_); rintro e w4 ⟨rfl, hb4⟩))
        go_wp2_with fail
        go_meet
        exact ⟨by rw [HeD.out], by rw [HeC.out], by rw [HeB.out], cvS_below (by assumption)⟩
    | es =>
      as_aux_lemma =>
        have eD : DD = ((((D2) ++ ⟨#[47]⟩) ++ M2) ++ ⟨#[47]⟩) ++ Y := by rw [← HDD.out, lk_es]; rfl
        have eC : CC = (H2 ++ ⟨#[58]⟩) ++ I2 := by rw [← HCC.out, lk_es]; rfl
        have eB : BB = ⟨#[32]⟩ := by rw [← HBB.out, lk_es]; rfl
        have n0 : ¬ 9223372036854775807 < D2.size + 1 := by omega
        have n1 : ¬ 9223372036854775807 < D2.size + 1 + M2.size := by omega
        have n2 : ¬ 9223372036854775807 < D2.size + 1 + M2.size + 1 := by omega
        have n3 : ¬ 9223372036854775807 < D2.size + 1 + M2.size + 1 + Y.size := by omega
        have HeD := Lib.hid eD
        have HeC := Lib.hid eC
        have HeB := Lib.hid eB
        clear eD eC eB
        go_wp2_with fail
        go_region_held3 (fun w' => w'.cell? ⟨w1.heap.size, 0, none⟩ = some (.int .i64 y) ∧ w'.cell? ⟨w1.heap.size, 1, none⟩ = some (.int .i64 m) ∧ w'.cell? ⟨w1.heap.size, 2, none⟩ = some (.int .i64 d) ∧ w'.cell? ⟨w1.heap.size, 3, none⟩ = some (.int .i64 h) ∧ w'.cell? ⟨w1.heap.size, 4, none⟩ = some (.int .i64 mi) ∧ w'.cell? ⟨w1.heap.size, 5, none⟩ = some (.int .i64 se) ∧ w'.cell? ⟨w1.heap.size, 6, none⟩ = some (.int .i64 wd) ∧ w1.heap.size + 1 ≤ w'.heap.size ∧ TabPow w' ∧ w.heap.size ≤ w'.heap.size ∧ Below w.heap.size w w')
          (first | (exact cvS_later (by assumption) (by assumption)) | (exact cvS_later (Below.refl _ _).drew HS3.out) | go_keep)
          (first | (go_at_call 44; (with_reducible refine (HY.out _ (by first | assumption | exact And.left (And.right (And.right (And.right (And.right (And.right (And.right (And.right (And.right (by assumption))))))))))).mono ?_); rintro e w4 ⟨rfl, hb4⟩) | (go_at_call 45; (with_reducible refine (HM2.out _ (by first | assumption | exact And.left (And.right (And.right (And.right (And.right (And.right (And.right (And.right (And.right (by assumption))))))))))).mono ?_); rintro e w4 ⟨rfl, hb4⟩) | (go_at_call 45; (with_reducible refine (HD2.out _ (by first | assumption | exact And.left (And.right (And.right (And.right (And.right (And.right (And.right (And.right (And.right (by assumption))))))))))).mono ?_); rintro e w4 ⟨rfl, hb4⟩))
        go_wp2_with fail
        go_meet
        exact ⟨by rw [HeD.out], by rw [HeC.out], by rw [HeB.out], cvS_below (by assumption)⟩
    | no q0 q1 q2 q3 q4 q5 q6 =>
      as_aux_lemma =>
        have eD : DD = (((Y ++ ⟨#[45]⟩) ++ M2) ++ ⟨#[45]⟩) ++ D2 := by rw [← HDD.out, lk_no q0 q1 q2 q3 q4 q5 q6]; rfl
        have eC : CC = (H2 ++ ⟨#[58]⟩) ++ I2 := by rw [← HCC.out, lk_no q0 q1 q2 q3 q4 q5 q6]; rfl
        have eB : BB = ⟨#[32]⟩ := by rw [← HBB.out, lk_no q0 q1 q2 q3 q4 q5 q6]; rfl
        have HeD := Lib.hid eD
        have HeC := Lib.hid eC
        have HeB := Lib.hid eB
        clear eD eC eB
        go_wp2_with fail
        go_meet
        exact ⟨by rw [HeD.out], by rw [HeC.out], by rw [HeB.out], cvS_below HS3.out⟩
  case rest =>
    obtain ⟨rfl, rfl, rfl, hbel⟩ := hcut
    clear a0 a1 a2 a3 a4 a5 a6 a7 a8 a9 a10
    by_cases t1 : st = 1
    · have e := HTT.out
      rw [if_pos t1] at e
      have E := Lib.hid e
      have t1' : (st == 1) = true := by simpa using t1
      clear t1 e HTT
      go_wp2
      go_ret
      exact ⟨ret_str E.out.symm, hbel.out⟩
    · have t1' : (st == 1) = false := by simpa using t1
      have e := HTT.out
      rw [if_neg t1] at e
      by_cases t2 : st = 2
      · rw [if_pos t2] at e
        have E := Lib.hid e
        have t2' : (st == 2) = true := by simpa using t2
        clear t1 t2 e HTT
        go_wp2
        go_ret
        exact ⟨ret_str E.out.symm, hbel.out⟩
      · rw [if_neg t2] at e
        have E := Lib.hid e
        have t2' : (st == 2) = false := by simpa using t2
        clear t1 t2 e HTT
        go_wp2
        go_ret
        exact ⟨ret_str E.out.symm, hbel.out⟩
end Go.Proofs.YtglennfjeacpoaaGreatDoor
