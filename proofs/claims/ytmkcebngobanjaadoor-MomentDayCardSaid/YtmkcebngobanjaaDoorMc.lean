/-
  Package moment: day.
-/
import Derived.Test.YtmkcebngobanjaaDoorMb
import Derived.Test.YtmkcebngobanjaaDoorLdm
import Derived.Deep.RegionHeld3
namespace Go.Proofs.YtmkcebngobanjaaDoor
open Go.RowKit
set_option linter.unusedVariables false
set_option linter.unusedSimpArgs false

abbrev MoS (b : Nat) (w : World) (m d : Value) (W : World) : Prop :=
  W.cell? ⟨b, 1, none⟩ = some m ∧ W.cell? ⟨b, 2, none⟩ = some d ∧ b + 1 ≤ W.heap.size ∧ TabPow W ∧ Below b w W
theorem moS_later {b : Nat} {w W W' : World} {m d : Value} (g : Below W.heap.size W W') (h : MoS b w m d W) : MoS b w m d W' := by
  obtain ⟨h1, h2, hb, ht, hB⟩ := h
  have := g.size
  exact ⟨(g.cell (p := ⟨b, 1, none⟩) hb).trans h1, (g.cell (p := ⟨b, 2, none⟩) hb).trans h2, by omega, ht.below g, hB.trans (g.mono (by omega))⟩
theorem moS_drew {b : Nat} {w W : World} {m d : Value} (h : MoS b w m d W) : MoS b w m d W.drew := moS_later (Below.refl _ _).drew h
theorem moS_below {b : Nat} {w W : World} {m d : Value} (h : MoS b w m d W) : Below b w W := h.2.2.2.2
/-- The number's text, wherever what is held is held. -/
def DigS (b : Nat) (w : World) (m d : Value) (n l : Int) (X : ByteArray) : Prop := ∀ W : World, MoS b w m d W → Calls Tryd.prog 23 #[.int .i64 n, .int .i64 l] W fun e w' => e = .returned (.string X) ∧ Below W.heap.size W w'
theorem DigS.at_ {b : Nat} {w : World} {m d : Value} {n l : Int} {X : ByteArray} (h : DigS b w m d n l X) (W : World) (hS : MoS b w m d W) : Calls Tryd.prog 23 #[.int .i64 n, .int .i64 l] W fun e w' => e = .returned (.string X) ∧ Below W.heap.size W w' := h W hS
set_option maxHeartbeats 2000000 in
theorem day_any (x : ByteArray) (y m d h mi se wd : Int) (w : World) (hy : -1000000000 ≤ y ∧ y ≤ 1000000000) (hm : 1 ≤ m ∧ m ≤ 12) (hd : 1 ≤ d ∧ d ≤ 31) (ht : TabPow w) :
    Calls Tryd.prog 13 #[.string x, .agg #[.int .i64 y, .int .i64 m, .int .i64 d, .int .i64 h, .int .i64 mi, .int .i64 se, .int .i64 wd]] w fun e w' => e = .returned (.string (dayB (lkI x) y m d)) ∧ Below w.heap.size w w' := by
  have hY := fun W hT => digits_any y 4 hy.1 hy.2 (by omega) W hT
  have sY := dgB_size hy.1 hy.2 4 (by omega)
  have hM1 : DigS w.heap.size w (.int .i64 m) (.int .i64 d) m 1 (dgB m 1) := fun W hS => digits_any m 1 (by omega) (by omega) (by omega) W hS.2.2.2.1
  have hM2 : DigS w.heap.size w (.int .i64 m) (.int .i64 d) m 2 (dgB m 2) := fun W hS => digits_any m 2 (by omega) (by omega) (by omega) W hS.2.2.2.1
  have hD1 : DigS w.heap.size w (.int .i64 m) (.int .i64 d) d 1 (dgB d 1) := fun W hS => digits_any d 1 (by omega) (by omega) (by omega) W hS.2.2.2.1
  have hD2 : DigS w.heap.size w (.int .i64 m) (.int .i64 d) d 2 (dgB d 2) := fun W hS => digits_any d 2 (by omega) (by omega) (by omega) W hS.2.2.2.1
  have sM1 := dgB_size (n := m) (by omega) (by omega) 1 (by omega)
  have sM2 := dgB_size (n := m) (by omega) (by omega) 2 (by omega)
  have sD1 := dgB_size (n := d) (by omega) (by omega) 1 (by omega)
  have sD2 := dgB_size (n := d) (by omega) (by omega) 2 (by omega)
  have hT : TabPow (w.alloc (.cells #[.int .i64 y, .int .i64 m, .int .i64 d, .int .i64 h, .int .i64 mi, .int .i64 se, .int .i64 wd] 32)) := ht.alloc _
  have HT := Lib.hid hT
  have HY := Lib.hid hY
  have hday : ∀ k, dayB k y m d = (if k = 0 then (((dgB m 1 ++ ⟨#[47]⟩) ++ dgB d 1) ++ ⟨#[47]⟩) ++ dgB y 4
    else if k = 1 then (((dgB d 2 ++ ⟨#[46]⟩) ++ dgB m 2) ++ ⟨#[46]⟩) ++ dgB y 4
    else if k = 2 then (((dgB d 2 ++ ⟨#[47]⟩) ++ dgB m 2) ++ ⟨#[47]⟩) ++ dgB y 4
    else (((dgB y 4 ++ ⟨#[45]⟩) ++ dgB m 2) ++ ⟨#[45]⟩) ++ dgB d 2) := fun k => rfl
  clear hT hY ht hy hm hd
  generalize dgB y 4 = Y at *
  generalize dgB m 1 = M1 at *
  generalize dgB m 2 = M2 at *
  generalize dgB d 1 = D1 at *
  generalize dgB d 2 = D2 at *
  obtain ⟨y0, y1⟩ := sY
  obtain ⟨m10, m11⟩ := sM1
  obtain ⟨m20, m21⟩ := sM2
  obtain ⟨d10, d11⟩ := sD1
  obtain ⟨d20, d21⟩ := sD2
  have Hday := Lib.hid hday
  have HM1 := Lib.hid hM1
  have HM2 := Lib.hid hM2
  have HD1 := Lib.hid hD1
  have HD2 := Lib.hid hD2
  clear hday hM1 hM2 hD1 hD2
  have e1 : (⟨#[47]⟩ : ByteArray).size = 1 := rfl
  have e2 : (⟨#[46]⟩ : ByteArray).size = 1 := rfl
  have e3 : (⟨#[45]⟩ : ByteArray).size = 1 := rfl
  have start : MoS w.heap.size w (.int .i64 m) (.int .i64 d) (w.alloc (.cells #[.int .i64 y, .int .i64 m, .int .i64 d, .int .i64 h, .int .i64 mi, .int .i64 se, .int .i64 wd] 32)) := by
    refine ⟨?_, ?_, by simp, HT.out, (Below.refl _ _).alloc (Nat.le_refl _) _⟩
    · go_simp
    · go_simp
  have Start := Lib.hid start
  clear start
  cases langC x with
  | en =>
    as_aux_lemma =>
      rw [lk_en, Hday.out]
      go_enter Tryd.func13, Tryd.ntmps13
      go_wp2_with fail
      go_at_call 23
      refine (HY.out _ HT.out).mono ?_
      rintro e w1 ⟨rfl, hb1⟩
      have S1 := moS_later hb1 Start.out
      obtain ⟨c1, c2, c3, c4, c5⟩ := S1
      clear hb1
      have n0 : ¬ 9223372036854775807 < M1.size + 1 := by omega
      have n1 : ¬ 9223372036854775807 < M1.size + 1 + D1.size := by omega
      have n2 : ¬ 9223372036854775807 < M1.size + 1 + D1.size + 1 := by omega
      have n3 : ¬ 9223372036854775807 < M1.size + 1 + D1.size + 1 + Y.size := by omega
      go_wp2_with fail
      go_region_held3 (fun w' => w'.cell? ⟨w.heap.size, 1, none⟩ = some (.int .i64 m) ∧ w'.cell? ⟨w.heap.size, 2, none⟩ = some (.int .i64 d) ∧ w.heap.size + 1 ≤ w'.heap.size ∧ TabPow w' ∧ Below w.heap.size w w')
        (first | (exact moS_later (by assumption) (by assumption)) | (exact moS_drew ⟨c1, c2, c3, c4, c5⟩) | go_keep)
        (first | (go_at_call 23; (with_reducible refine (DigS.at_ HM1.out _ (by assumption)).mono ?_); rintro e w5 ⟨rfl, hb5⟩) | (go_at_call 23; (with_reducible refine (DigS.at_ HD1.out _ (by assumption)).mono ?_); rintro e w5 ⟨rfl, hb5⟩))
      go_wp2
      go_ret
      exact ⟨rfl, moS_below (by assumption)⟩
  | de =>
    as_aux_lemma =>
      rw [lk_de, Hday.out]
      go_enter Tryd.func13, Tryd.ntmps13
      go_wp2_with fail
      go_at_call 23
      refine (HY.out _ HT.out).mono ?_
      rintro e w1 ⟨rfl, hb1⟩
      have S1 := moS_later hb1 Start.out
      obtain ⟨c1, c2, c3, c4, c5⟩ := S1
      clear hb1
      have n0 : ¬ 9223372036854775807 < D2.size + 1 := by omega
      have n1 : ¬ 9223372036854775807 < D2.size + 1 + M2.size := by omega
      have n2 : ¬ 9223372036854775807 < D2.size + 1 + M2.size + 1 := by omega
      have n3 : ¬ 9223372036854775807 < D2.size + 1 + M2.size + 1 + Y.size := by omega
      go_wp2_with fail
      go_region_held3 (fun w' => w'.cell? ⟨w.heap.size, 1, none⟩ = some (.int .i64 m) ∧ w'.cell? ⟨w.heap.size, 2, none⟩ = some (.int .i64 d) ∧ w.heap.size + 1 ≤ w'.heap.size ∧ TabPow w' ∧ Below w.heap.size w w')
        (first | (exact moS_later (by assumption) (by assumption)) | (exact moS_drew ⟨c1, c2, c3, c4, c5⟩) | go_keep)
        (first | (go_at_call 23; (with_reducible refine (DigS.at_ HD2.out _ (by assumption)).mono ?_); rintro e w5 ⟨rfl, hb5⟩) | (go_at_call 23; (with_reducible refine (DigS.at_ HM2.out _ (by assumption)).mono ?_); rintro e w5 ⟨rfl, hb5⟩))
      go_wp2
      go_ret
      exact ⟨rfl, moS_below (by assumption)⟩
  | cs =>
    as_aux_lemma =>
      rw [lk_cs, Hday.out]
      go_enter Tryd.func13, Tryd.ntmps13
      go_wp2_with fail
      go_at_call 23
      refine (HY.out _ HT.out).mono ?_
      rintro e w1 ⟨rfl, hb1⟩
      have S1 := moS_later hb1 Start.out
      obtain ⟨c1, c2, c3, c4, c5⟩ := S1
      clear hb1
      have n0 : ¬ 9223372036854775807 < D2.size + 1 := by omega
      have n1 : ¬ 9223372036854775807 < D2.size + 1 + M2.size := by omega
      have n2 : ¬ 9223372036854775807 < D2.size + 1 + M2.size + 1 := by omega
      have n3 : ¬ 9223372036854775807 < D2.size + 1 + M2.size + 1 + Y.size := by omega
      go_wp2_with fail
      go_region_held3 (fun w' => w'.cell? ⟨w.heap.size, 1, none⟩ = some (.int .i64 m) ∧ w'.cell? ⟨w.heap.size, 2, none⟩ = some (.int .i64 d) ∧ w.heap.size + 1 ≤ w'.heap.size ∧ TabPow w' ∧ Below w.heap.size w w')
        (first | (exact moS_later (by assumption) (by assumption)) | (exact moS_drew ⟨c1, c2, c3, c4, c5⟩) | go_keep)
        (first | (go_at_call 23; (with_reducible refine (DigS.at_ HD2.out _ (by assumption)).mono ?_); rintro e w5 ⟨rfl, hb5⟩) | (go_at_call 23; (with_reducible refine (DigS.at_ HM2.out _ (by assumption)).mono ?_); rintro e w5 ⟨rfl, hb5⟩))
      go_wp2
      go_ret
      exact ⟨rfl, moS_below (by assumption)⟩
  | pl =>
    as_aux_lemma =>
      rw [lk_pl, Hday.out]
      go_enter Tryd.func13, Tryd.ntmps13
      go_wp2_with fail
      go_at_call 23
      refine (HY.out _ HT.out).mono ?_
      rintro e w1 ⟨rfl, hb1⟩
      have S1 := moS_later hb1 Start.out
      obtain ⟨c1, c2, c3, c4, c5⟩ := S1
      clear hb1
      have n0 : ¬ 9223372036854775807 < D2.size + 1 := by omega
      have n1 : ¬ 9223372036854775807 < D2.size + 1 + M2.size := by omega
      have n2 : ¬ 9223372036854775807 < D2.size + 1 + M2.size + 1 := by omega
      have n3 : ¬ 9223372036854775807 < D2.size + 1 + M2.size + 1 + Y.size := by omega
      go_wp2_with fail
      go_region_held3 (fun w' => w'.cell? ⟨w.heap.size, 1, none⟩ = some (.int .i64 m) ∧ w'.cell? ⟨w.heap.size, 2, none⟩ = some (.int .i64 d) ∧ w.heap.size + 1 ≤ w'.heap.size ∧ TabPow w' ∧ Below w.heap.size w w')
        (first | (exact moS_later (by assumption) (by assumption)) | (exact moS_drew ⟨c1, c2, c3, c4, c5⟩) | go_keep)
        (first | (go_at_call 23; (with_reducible refine (DigS.at_ HD2.out _ (by assumption)).mono ?_); rintro e w5 ⟨rfl, hb5⟩) | (go_at_call 23; (with_reducible refine (DigS.at_ HM2.out _ (by assumption)).mono ?_); rintro e w5 ⟨rfl, hb5⟩))
      go_wp2
      go_ret
      exact ⟨rfl, moS_below (by assumption)⟩
  | ru =>
    as_aux_lemma =>
      rw [lk_ru, Hday.out]
      go_enter Tryd.func13, Tryd.ntmps13
      go_wp2_with fail
      go_at_call 23
      refine (HY.out _ HT.out).mono ?_
      rintro e w1 ⟨rfl, hb1⟩
      have S1 := moS_later hb1 Start.out
      obtain ⟨c1, c2, c3, c4, c5⟩ := S1
      clear hb1
      have n0 : ¬ 9223372036854775807 < D2.size + 1 := by omega
      have n1 : ¬ 9223372036854775807 < D2.size + 1 + M2.size := by omega
      have n2 : ¬ 9223372036854775807 < D2.size + 1 + M2.size + 1 := by omega
      have n3 : ¬ 9223372036854775807 < D2.size + 1 + M2.size + 1 + Y.size := by omega
      go_wp2_with fail
      go_region_held3 (fun w' => w'.cell? ⟨w.heap.size, 1, none⟩ = some (.int .i64 m) ∧ w'.cell? ⟨w.heap.size, 2, none⟩ = some (.int .i64 d) ∧ w.heap.size + 1 ≤ w'.heap.size ∧ TabPow w' ∧ Below w.heap.size w w')
        (first | (exact moS_later (by assumption) (by assumption)) | (exact moS_drew ⟨c1, c2, c3, c4, c5⟩) | go_keep)
        (first | (go_at_call 23; (with_reducible refine (DigS.at_ HD2.out _ (by assumption)).mono ?_); rintro e w5 ⟨rfl, hb5⟩) | (go_at_call 23; (with_reducible refine (DigS.at_ HM2.out _ (by assumption)).mono ?_); rintro e w5 ⟨rfl, hb5⟩))
      go_wp2
      go_ret
      exact ⟨rfl, moS_below (by assumption)⟩
  | fr =>
    as_aux_lemma =>
      rw [lk_fr, Hday.out]
      go_enter Tryd.func13, Tryd.ntmps13
      go_wp2_with fail
      go_at_call 23
      refine (HY.out _ HT.out).mono ?_
      rintro e w1 ⟨rfl, hb1⟩
      have S1 := moS_later hb1 Start.out
      obtain ⟨c1, c2, c3, c4, c5⟩ := S1
      clear hb1
      have n0 : ¬ 9223372036854775807 < D2.size + 1 := by omega
      have n1 : ¬ 9223372036854775807 < D2.size + 1 + M2.size := by omega
      have n2 : ¬ 9223372036854775807 < D2.size + 1 + M2.size + 1 := by omega
      have n3 : ¬ 9223372036854775807 < D2.size + 1 + M2.size + 1 + Y.size := by omega
      go_wp2_with fail
      go_region_held3 (fun w' => w'.cell? ⟨w.heap.size, 1, none⟩ = some (.int .i64 m) ∧ w'.cell? ⟨w.heap.size, 2, none⟩ = some (.int .i64 d) ∧ w.heap.size + 1 ≤ w'.heap.size ∧ TabPow w' ∧ Below w.heap.size w w')
        (first | (exact moS_later (by assumption) (by assumption)) | (exact moS_drew ⟨c1, c2, c3, c4, c5⟩) | go_keep)
        (first | (go_at_call 23; (with_reducible refine (DigS.at_ HD2.out _ (by assumption)).mono ?_); rintro e w5 ⟨rfl, hb5⟩) | (go_at_call 23; (with_reducible refine (DigS.at_ HM2.out _ (by assumption)).mono ?_); rintro e w5 ⟨rfl, hb5⟩))
      go_wp2
      go_ret
      exact ⟨rfl, moS_below (by assumption)⟩
  | es =>
    as_aux_lemma =>
      rw [lk_es, Hday.out]
      go_enter Tryd.func13, Tryd.ntmps13
      go_wp2_with fail
      go_at_call 23
      refine (HY.out _ HT.out).mono ?_
      rintro e w1 ⟨rfl, hb1⟩
      have S1 := moS_later hb1 Start.out
      obtain ⟨c1, c2, c3, c4, c5⟩ := S1
      clear hb1
      have n0 : ¬ 9223372036854775807 < D2.size + 1 := by omega
      have n1 : ¬ 9223372036854775807 < D2.size + 1 + M2.size := by omega
      have n2 : ¬ 9223372036854775807 < D2.size + 1 + M2.size + 1 := by omega
      have n3 : ¬ 9223372036854775807 < D2.size + 1 + M2.size + 1 + Y.size := by omega
      go_wp2_with fail
      go_region_held3 (fun w' => w'.cell? ⟨w.heap.size, 1, none⟩ = some (.int .i64 m) ∧ w'.cell? ⟨w.heap.size, 2, none⟩ = some (.int .i64 d) ∧ w.heap.size + 1 ≤ w'.heap.size ∧ TabPow w' ∧ Below w.heap.size w w')
        (first | (exact moS_later (by assumption) (by assumption)) | (exact moS_drew ⟨c1, c2, c3, c4, c5⟩) | go_keep)
        (first | (go_at_call 23; (with_reducible refine (DigS.at_ HD2.out _ (by assumption)).mono ?_); rintro e w5 ⟨rfl, hb5⟩) | (go_at_call 23; (with_reducible refine (DigS.at_ HM2.out _ (by assumption)).mono ?_); rintro e w5 ⟨rfl, hb5⟩))
      go_wp2
      go_ret
      exact ⟨rfl, moS_below (by assumption)⟩
  | no q0 q1 q2 q3 q4 q5 q6 =>
    as_aux_lemma =>
      rw [lk_no q0 q1 q2 q3 q4 q5 q6, Hday.out]
      go_enter Tryd.func13, Tryd.ntmps13
      go_wp2_with fail
      go_at_call 23
      refine (HY.out _ HT.out).mono ?_
      rintro e w1 ⟨rfl, hb1⟩
      have S1 := moS_later hb1 Start.out
      obtain ⟨c1, c2, c3, c4, c5⟩ := S1
      clear hb1
      have n0 : ¬ 9223372036854775807 < Y.size + 1 := by omega
      have n1 : ¬ 9223372036854775807 < Y.size + 1 + M2.size := by omega
      have n2 : ¬ 9223372036854775807 < Y.size + 1 + M2.size + 1 := by omega
      have n3 : ¬ 9223372036854775807 < Y.size + 1 + M2.size + 1 + D2.size := by omega
      go_wp2_with fail
      go_region_held3 (fun w' => w'.cell? ⟨w.heap.size, 1, none⟩ = some (.int .i64 m) ∧ w'.cell? ⟨w.heap.size, 2, none⟩ = some (.int .i64 d) ∧ w.heap.size + 1 ≤ w'.heap.size ∧ TabPow w' ∧ Below w.heap.size w w')
        (first | (exact moS_later (by assumption) (by assumption)) | (exact moS_drew ⟨c1, c2, c3, c4, c5⟩) | go_keep)
        (first | (go_at_call 23; (with_reducible refine (DigS.at_ HM2.out _ (by assumption)).mono ?_); rintro e w5 ⟨rfl, hb5⟩) | (go_at_call 23; (with_reducible refine (DigS.at_ HD2.out _ (by assumption)).mono ?_); rintro e w5 ⟨rfl, hb5⟩))
      go_wp2
      go_ret
      exact ⟨rfl, moS_below (by assumption)⟩
end Go.Proofs.YtmkcebngobanjaaDoor
