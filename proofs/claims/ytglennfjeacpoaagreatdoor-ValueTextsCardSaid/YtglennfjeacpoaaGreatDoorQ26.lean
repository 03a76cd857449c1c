/-
  Several texts put together (part 26): what the law and the program call, walked; their contracts.
-/
import Derived.Test.YtglennfjeacpoaaGreatDoorQ10
import Derived.Test.YtglennfjeacpoaaGreatDoorQ23
import Derived.Lib.ItoaNum
import Derived.Lib.AppendIntMem
import Derived.Lib.SmallJoins
import Derived.Test.YtglennfjeacpoaaGreatDoorQ24
import Derived.Test.YtglennfjeacpoaaGreatDoorQ25
import Derived.Deep.RegionHeld3
namespace Go.Proofs.YtglennfjeacpoaaGreatDoor
open Go.RowKit
theorem decDigits_digs (u : Nat) : digsB (Lib.decDigits u) = true := by
  obtain ⟨c, l, e, _⟩ := decDigits_head u
  have h := decDigits_all u
  rw [digsB, h, e]; rfl
theorem decDigits_right (u : Nat) : decRightB (Lib.decDigits u) 0 = true := by
  have hd := decDigits_digs u
  obtain ⟨c, l, e, hc, hz⟩ := decDigits_head u
  rw [e] at hd ⊢
  simp only [decRightB, hd, Bool.true_and, List.head?_cons]
  by_cases h : c = 48
  · subst h; rw [hz rfl]; rfl
  · have : (some c == some (48 : UInt8)) = false := by rw [beq_eq_false_iff_ne]; intro e; exact h (Option.some.inj e)
    rw [this]
    simp
theorem itoa_prefix (n : Int) : Lib.hasPrefix (Lib.itoa n) [45] = decide (n < 0) := by
  unfold Lib.hasPrefix Lib.itoa
  by_cases h : n < 0
  · rw [if_pos h]; simp [h]
  · rw [if_neg h]
    obtain ⟨c, l, e, hc, _⟩ := decDigits_head n.toNat
    rw [e]
    have : ¬ c = 45 := by intro h45; rw [h45] at hc; exact absurd hc (by decide)
    have h45 : ((45 : UInt8) == c) = false := by rw [beq_eq_false_iff_ne]; exact fun e => this e.symm
    simp [List.isPrefixOf, h45, h]
theorem itoa_trim (n : Int) : Lib.trimPrefix (Lib.itoa n) [45] = Lib.decDigits n.natAbs := by
  unfold Lib.trimPrefix
  rw [itoa_prefix]
  unfold Lib.itoa
  by_cases h : n < 0
  · simp [h]
  · simp [h]
    congr 1
    omega
theorem itoa_signed (n : Int) : Lib.itoa n = (if decide (n < 0) then 45 :: Lib.decDigits n.natAbs else Lib.decDigits n.natAbs) := by
  unfold Lib.itoa
  by_cases h : n < 0
  · simp [h]
  · simp [h]
    congr 1
    omega
theorem formatInt_any (n : Int) (h0 : -9223372036854775808 ≤ n) (h1 : n ≤ 9223372036854775807) (w : World) (ht : TabPow w) :
    Calls Tryz.prog 204 #[.int .i64 n, .int .i64 10] w fun e w' => e = .returned (.string ⟨(Lib.itoa n).toArray⟩) ∧ Below w.heap.size w w' := by
  refine (Tryz.strconv_FormatInt_10 n h0 h1 w ht).mono ?_
  rintro e w' ⟨he, k, os, rfl⟩
  exact ⟨he, Lib.below_grow _ w (Nat.le_refl _) k os⟩
set_option maxHeartbeats 400000 in
theorem int_any (n : Int) (h0 : -9223372036854775808 ≤ n) (h1 : n ≤ 9223372036854775807) (w : World) (ht : TabPow w) :
    Calls Tryz.prog 174 #[.int .i64 n] w fun e w' => e = .returned (.agg #[.bool (decide (n < 0)), .string ⟨(Lib.decDigits n.natAbs).toArray⟩, .int .i64 0]) ∧ Below w.heap.size w w' := by
  go_enter Tryz.func174, Tryz.ntmps174
  go_wp2_with (first | (go_at_call 204; refine (formatInt_any n h0 h1 _ (ht.alloc _)).mono ?_; rintro e w1 ⟨rfl, hb1⟩; obtain ⟨hc1, hf1⟩ := bcell hb1) | (go_at_call 90; refine (Tryz.strings_CutPrefix _ _ _).mono ?_; rintro e w2 ⟨rfl, rfl⟩))
  exact bodyPost_ret (v := .agg #[.bool (decide (n < 0)), .string ⟨(Lib.decDigits n.natAbs).toArray⟩, .int .i64 0]) (by simp [results, Tryz.results174, go_sem, itoa_prefix, itoa_trim, hc1]) rfl ⟨rfl, (((below_box hb1).setCell (p := ⟨w.heap.size, 0, none⟩) (Nat.le_refl _) _).setCell (p := ⟨w.heap.size, 1, none⟩) (Nat.le_refl _) _).setCell (p := ⟨w.heap.size, 2, none⟩) (Nat.le_refl _) _⟩
end Go.Proofs.YtglennfjeacpoaaGreatDoor

namespace Go.Proofs.YtglennfjeacpoaaGreatDoor
open Go.RowKit
set_option linter.unusedVariables false
set_option linter.unusedSimpArgs false
abbrev MoS (b : Nat) (w : World) (m d : Value) (W : World) : Prop :=
  W.cell? ⟨b, 1, none⟩ = some m ∧ W.cell? ⟨b, 2, none⟩ = some d ∧ b + 1 ≤ W.heap.size ∧ TabPow W ∧ Below b w W
theorem moS_later {b : Nat} {w W W' : World} {m d : Value} (g : Below W.heap.size W W') (h : MoS b w m d W) : MoS b w m d W' := by
  obtain ⟨h1, h2, hb, ht, hB⟩ := h
  have := g.size
  exact ⟨(g.cell (p := ⟨b, 1, none⟩) hb).trans h1, (g.cell (p := ⟨b, 2, none⟩) hb).trans h2, by omega, ht.below g, hB.trans (g.mono (by omega))⟩
theorem moS_drew {b : Nat} {w W : World} {m d : Value} (h : MoS b w m d W) : MoS b w m d W.drew := moS_later (Below.refl _ _).drew h
theorem moS_below {b : Nat} {w W : World} {m d : Value} (h : MoS b w m d W) : Below b w W := h.2.2.2.2
def DigS (b : Nat) (w : World) (m d : Value) (n l : Int) (X : ByteArray) : Prop := ∀ W : World, MoS b w m d W → Calls Tryz.prog 142 #[.int .i64 n, .int .i64 l] W fun e w' => e = .returned (.string X) ∧ Below W.heap.size W w'
theorem DigS.at_ {b : Nat} {w : World} {m d : Value} {n l : Int} {X : ByteArray} (h : DigS b w m d n l X) (W : World) (hS : MoS b w m d W) : Calls Tryz.prog 142 #[.int .i64 n, .int .i64 l] W fun e w' => e = .returned (.string X) ∧ Below W.heap.size W w' := h W hS
set_option maxHeartbeats 2000000 in
set_option maxRecDepth 1000000 in
theorem day_any (x : ByteArray) (y m d h mi se wd : Int) (w : World) (hy : -1000000000 ≤ y ∧ y ≤ 1000000000) (hm : 1 ≤ m ∧ m ≤ 12) (hd : 1 ≤ d ∧ d ≤ 31) (ht : TabPow w) :
    Calls Tryz.prog 88 #[.string x, .agg #[.int .i64 y, .int .i64 m, .int .i64 d, .int .i64 h, .int .i64 mi, .int .i64 se, .int .i64 wd]] w fun e w' => e = .returned (.string (dayB (lkI x) y m d)) ∧ Below w.heap.size w w' := by
  have hY := fun W hT => digits_any y 4 hy.1 hy.2 (by omega) W hT
  have sY := dgB_size hy.1 hy.2 4 (by omega)
  have hM1 : DigS w.heap.size w (.int .i64 m) (.int .i64 d) m 1 (dgB m 1) := fun W hS => digits_any m 1 (by omega) (by omega) (by omega) W hS.2.2.2.1
  have hM2 : DigS w.heap.size w (.int .i64 m) (.int .i64 d) m 2 (dgB m 2) := fun W hS => digits_any m 2 (by omega) (by omega) (by omega) W hS.2.2.2.1
  have hD1 : DigS w.heap.size w (.int .i64 m) (.int .i64 d) d 1 (dgB d 1) := fun W hS => digits_any d 1 (by omega) (by omega) (by omega) W hS.2.2.2.1
  have hD2 : DigS w.heap.size w (.int .i64 m) (.int .i64 d) d 2 (dgB d 2) := fun W hS => digits_any d 2 (by omega) (by omega) (by omega) W hS.2.2.2.1
  have sM1 := dgB_size (n := m) (by omega) (by omega) 1 (by omega)
  have sM2 := dgB_size (n := m) (by omega) (by omega) 2 (by omega)
  have sD1 := dgB_size (n := d) (by omega) (by omega) 1 (by omega)
  have sD2 := dgB_size (n := d) (by omega) (by omega) 2 (by omega)
  have hT : TabPow (w.alloc (.cells #[.int .i64 y, .int .i64 m, .int .i64 d, .int .i64 h, .int .i64 mi, .int .i64 se, .int .i64 wd] 96)) := ht.alloc _
  have HT := Lib.hid hT
  have HY := Lib.hid hY
  have hday : ∀ k, dayB k y m d = (if k = 0 then (((dgB m 1 ++ ⟨#[47]⟩) ++ dgB d 1) ++ ⟨#[47]⟩) ++ dgB y 4
    else if k = 1 then (((dgB d 2 ++ ⟨#[46]⟩) ++ dgB m 2) ++ ⟨#[46]⟩) ++ dgB y 4
    else if k = 2 then (((dgB d 2 ++ ⟨#[47]⟩) ++ dgB m 2) ++ ⟨#[47]⟩) ++ dgB y 4
    else (((dgB y 4 ++ ⟨#[45]⟩) ++ dgB m 2) ++ ⟨#[45]⟩) ++ dgB d 2) := fun k => rfl
  clear hT hY ht hy hm hd
  generalize dgB y 4 = Y at *
  generalize dgB m 1 = M1 at *
  generalize dgB m 2 = M2 at *
  generalize dgB d 1 = D1 at *
  generalize dgB d 2 = D2 at *
  obtain ⟨y0, y1⟩ := sY
  obtain ⟨m10, m11⟩ := sM1
  obtain ⟨m20, m21⟩ := sM2
  obtain ⟨d10, d11⟩ := sD1
  obtain ⟨d20, d21⟩ := sD2
  have Hday := Lib.hid hday
  have HM1 := Lib.hid hM1
  have HM2 := Lib.hid hM2
  have HD1 := Lib.hid hD1
  have HD2 := Lib.hid hD2
  clear hday hM1 hM2 hD1 hD2
  have e1 : (⟨#[47]⟩ : ByteArray).size = 1 := rfl
  have e2 : (⟨#[46]⟩ : ByteArray).size = 1 := rfl
  have e3 : (⟨#[45]⟩ : ByteArray).size = 1 := rfl
  have start : MoS w.heap.size w (.int .i64 m) (.int .i64 d) (w.alloc (.cells #[.int .i64 y, .int .i64 m, .int .i64 d, .int .i64 h, .int .i64 mi, .int .i64 se, .int .i64 wd] 96)) := by
    refine ⟨?_, ?_, by simp, HT.out, (Below.refl _ _).alloc (Nat.le_refl _) _⟩
    · go_simp
    · go_simp
  have Start := Lib.hid start
  clear start
  cases langC x with
  | en =>
    as_aux_lemma =>
      rw [lk_en, Hday.out]
      go_enter Tryz.func88, Tryz.ntmps88
      go_wp2_with fail
      go_at_call 142
      refine (HY.out _ HT.out).mono ?_
      rintro e w1 ⟨rfl, hb1⟩
      have S1 := moS_later hb1 Start.out
      obtain ⟨c1, c2, c3, c4, c5⟩ := S1
      clear hb1
      have n0 : ¬ 9223372036854775807 < M1.size + 1 := by omega
      have n1 : ¬ 9223372036854775807 < M1.size + 1 + D1.size := by omega
      have n2 : ¬ 9223372036854775807 < M1.size + 1 + D1.size + 1 := by omega
      have n3 : ¬ 9223372036854775807 < M1.size + 1 + D1.size + 1 + Y.size := by omega
      go_wp2_with fail
      go_region_held3 (fun w' => w'.cell? ⟨w.heap.size, 1, none⟩ = some (.int .i64 m) ∧ w'.cell? ⟨w.heap.size, 2, none⟩ = some (.int .i64 d) ∧ w.heap.size + 1 ≤ w'.heap.size ∧ TabPow w' ∧ Below w.heap.size w w')
        (first | (exact moS_later (by assumption) (by assumption)) | (exact moS_drew ⟨c1, c2, c3, c4, c5⟩) | go_keep)
        (first | (go_at_call 142; (with_reducible refine (DigS.at_ HM1.out _ (by assumption)).mono ?_); rintro e w5 ⟨rfl, hb5⟩) | (go_at_call 142; (with_reducible refine (DigS.at_ HD1.out _ (by assumption)).mono ?_); rintro e w5 ⟨rfl, hb5⟩))
      go_wp2
      go_ret
      exact ⟨rfl, moS_below (by assumption)⟩
  | de =>
    as_aux_lemma =>
      rw [lk_de, Hday.out]
      go_enter Tryz.func88, Tryz.ntmps88
      go_wp2_with fail
      go_at_call 142
      refine (HY.out _ HT.out).mono ?_
      rintro e w1 ⟨rfl, hb1⟩
      have S1 := moS_later hb1 Start.out
      obtain ⟨c1, c2, c3, c4, c5⟩ := S1
      clear hb1
      have n0 : ¬ 9223372036854775807 < D2.size + 1 := by omega
      have n1 : ¬ 9223372036854775807 < D2.size + 1 + M2.size := by omega
      have n2 : ¬ 9223372036854775807 < D2.size + 1 + M2.size + 1 := by omega
      have n3 : ¬ 9223372036854775807 < D2.size + 1 + M2.size + 1 + Y.size := by omega
      go_wp2_with fail
      go_region_held3 (fun w' => w'.cell? ⟨w.heap.size, 1, none⟩ = some (.int .i64 m) ∧ w'.cell? ⟨w.heap.size, 2, none⟩ = some (.int .i64 d) ∧ w.heap.size + 1 ≤ w'.heap.size ∧ TabPow w' ∧ Below w.heap.size w w')
        (first | (exact moS_later (by assumption) (by assumption)) | (exact moS_drew ⟨c1, c2, c3, c4, c5⟩) | go_keep)
        (first | (go_at_call 142; (with_reducible refine (DigS.at_ HD2.out _ (by assumption)).mono ?_); rintro e w5 ⟨rfl, hb5⟩) | (go_at_call 142; (with_reducible refine (DigS.at_ HM2.out _ (by assumption)).mono ?_); rintro e w5 ⟨rfl, hb5⟩))
      go_wp2
      go_ret
      exact ⟨rfl, moS_below (by assumption)⟩
  | cs =>
    as_aux_lemma =>
      rw [lk_cs, Hday.out]
      go_enter Tryz.func88, Tryz.ntmps88
      go_wp2_with fail
      go_at_call 142
      refine (HY.out _ HT.out).mono ?_
      rintro e w1 ⟨rfl, hb1⟩
      have S1 := moS_later hb1 Start.out
      obtain ⟨c1, c2, c3, c4, c5⟩ := S1
      clear hb1
      have n0 : ¬ 9223372036854775807 < D2.size + 1 := by omega
      have n1 : ¬ 9223372036854775807 < D2.size + 1 + M2.size := by omega
      have n2 : ¬ 9223372036854775807 < D2.size + 1 + M2.size + 1 := by omega
      have n3 : ¬ 9223372036854775807 < D2.size + 1 + M2.size + 1 + Y.size := by omega
      go_wp2_with fail
      go_region_held3 (fun w' => w'.cell? ⟨w.heap.size, 1, none⟩ = some (.int .i64 m) ∧ w'.cell? ⟨w.heap.size, 2, none⟩ = some (.int .i64 d) ∧ w.heap.size + 1 ≤ w'.heap.size ∧ TabPow w' ∧ Below w.heap.size w w')
        (first | (exact moS_later (by assumption) (by assumption)) | (exact moS_drew ⟨c1, c2, c3, c4, c5⟩) | go_keep)
        (first | (go_at_call 142; (with_reducible refine (DigS.at_ HD2.out _ (by assumption)).mono ?_); rintro e w5 ⟨rfl, hb5⟩) | (go_at_call 142; (with_reducible refine (DigS.at_ HM2.out _ (by assumption)).mono ?_); rintro e w5 ⟨rfl, hb5⟩))
      go_wp2
      go_ret
      exact ⟨rfl, moS_below (by assumption)⟩
  | pl =>
    as_aux_lemma =>
      rw [lk_pl, Hday.out]
      go_enter Tryz.func88, Tryz.ntmps88
      go_wp2_with fail
      go_at_call 142
      refine (HY.out _ HT.out).mono ?_
      rintro e w1 ⟨rfl, hb1⟩
      have S1 := moS_later hb1 Start.out
      obtain ⟨c1, c2, c3, c4, c5⟩ := S1
      clear hb1
      have n0 : ¬ 9223372036854775807 < D2.size + 1 := by omega
      have n1 : ¬ 9223372036854775807 < D2.size + 1 + M2.size := by omega
      have n2 : ¬ 9223372036854775807 < D2.size + 1 + M2.size + 1 := by omega
      have n3 : ¬ 9223372036854775807 < D2.size + 1 + M2.size + 1 + Y.size := by omega
      go_wp2_with fail
      go_region_held3 (fun w' => w'.cell? ⟨w.heap.size, 1, none⟩ = some (.int .i64 m) ∧ w'.cell? ⟨w.heap.size, 2, none⟩ = some (.int .i64 d) ∧ w.heap.size + 1 ≤ w'.heap.size ∧ TabPow w' ∧ Below w.heap.size w w')
        (first | (exact moS_later (by assumption) (by assumption)) | (exact moS_drew ⟨c1, c2, c3, c4, c5⟩) | go_keep)
        (first | (go_at_call 142; (with_reducible refine (DigS.at_ HD2.out _ (by assumption)).mono ?_); rintro e w5 ⟨rfl, hb5⟩) | (go_at_call 142; (with_reducible refine (DigS.at_ HM2.out _ (by assumption)).mono ?_); rintro e w5 ⟨rfl, hb5⟩))
      go_wp2
      go_ret
      exact ⟨rfl, moS_below (by assumption)⟩
  | ru =>
    as_aux_lemma =>
      rw [lk_ru, Hday.out]
      go_enter Tryz.func88, Tryz.ntmps88
      go_wp2_with fail
      go_at_call 142
      refine (HY.out _ HT.out).mono ?_
      rintro e w1 ⟨rfl, hb1⟩
      have S1 := moS_later hb1 Start.out
      obtain ⟨c1, c2, c3, c4, c5⟩ := S1
      clear hb1
      have n0 : ¬ 9223372036854775807 < D2.size + 1 := by omega
      have n1 : ¬ 9223372036854775807 < D2.size + 1 + M2.size := by omega
      have n2 : ¬ 9223372036854775807 < D2.size + 1 + M2.size + 1 := by omega
      have n3 : ¬ 9223372036854775807 < D2.size + 1 + M2.size + 1 + Y.size := by omega
      go_wp2_with fail
      go_region_held3 (fun w' => w'.cell? ⟨w.heap.size, 1, none⟩ = some (.int .i64 m) ∧ w'.cell? ⟨w.heap.size, 2, none⟩ = some (.int .i64 d) ∧ w.heap.size + 1 ≤ w'.heap.size ∧ TabPow w' ∧ Below w.heap.size w w')
        (first | (exact moS_later (by assumption) (by assumption)) | (exact moS_drew ⟨c1, c2, c3, c4, c5⟩) | go_keep)
        (first | (go_at_call 142; (with_reducible refine (DigS.at_ HD2.out _ (by assumption)).mono ?_); rintro e w5 ⟨rfl, hb5⟩) | (go_at_call 142; (with_reducible refine (DigS.at_ HM2.out _ (by assumption)).mono ?_); rintro e w5 ⟨rfl, hb5⟩))
      go_wp2
      go_ret
      exact ⟨rfl, moS_below (by assumption)⟩
  | fr =>
    as_aux_lemma =>
      rw [lk_fr, Hday.out]
      go_enter Tryz.func88, Tryz.ntmps88
      go_wp2_with fail
      go_at_call 142
      refine (HY.out _ HT.out).mono ?_
      rintro e w1 ⟨rfl, hb1⟩
      have S1 := moS_later hb1 Start.out
      obtain ⟨c1, c2, c3, c4, c5⟩ := S1
      clear hb1
      have n0 : ¬ 9223372036854775807 < D2.size + 1 := by omega
      have n1 : ¬ 9223372036854775807 < D2.size + 1 + M2.size := by omega
      have n2 : ¬ 9223372036854775807 < D2.size + 1 + M2.size + 1 := by omega
      have n3 : ¬ 9223372036854775807 < D2.size + 1 + M2.size + 1 + Y.size := by omega
      go_wp2_with fail
      go_region_held3 (fun w' => w'.cell? ⟨w.heap.size, 1, none⟩ = some (.int .i64 m) ∧ w'.cell? ⟨w.heap.size, 2, none⟩ = some (.int .i64 d) ∧ w.heap.size + 1 ≤ w'.heap.size ∧ TabPow w' ∧ Below w.heap.size w w')
        (first | (exact moS_later (by assumption) (by assumption)) | (exact moS_drew ⟨c1, c2, c3, c4, c5⟩) | go_keep)
        (first | (go_at_call 142; (with_reducible refine (DigS.at_ HD2.out _ (by assumption)).mono ?_); rintro e w5 ⟨rfl, hb5⟩) | (go_at_call 142; (with_reducible refine (DigS.at_ HM2.out _ (by assumption)).mono ?_); rintro e w5 ⟨rfl, hb5⟩))
      go_wp2
      go_ret
      exact ⟨rfl, moS_below (by assumption)⟩
  | es =>
    as_aux_lemma =>
      rw [lk_es, Hday.out]
      go_enter Tryz.func88, Tryz.ntmps88
      go_wp2_with fail
      go_at_call 142
      refine (HY.out _ HT.out).mono ?_
      rintro e w1 ⟨rfl, hb1⟩
      have S1 := moS_later hb1 Start.out
      obtain ⟨c1, c2, c3, c4, c5⟩ := S1
      clear hb1
      have n0 : ¬ 9223372036854775807 < D2.size + 1 := by omega
      have n1 : ¬ 9223372036854775807 < D2.size + 1 + M2.size := by omega
      have n2 : ¬ 9223372036854775807 < D2.size + 1 + M2.size + 1 := by omega
      have n3 : ¬ 9223372036854775807 < D2.size + 1 + M2.size + 1 + Y.size := by omega
      go_wp2_with fail
      go_region_held3 (fun w' => w'.cell? ⟨w.heap.size, 1, none⟩ = some (.int .i64 m) ∧ w'.cell? ⟨w.heap.size, 2, none⟩ = some (.int .i64 d) ∧ w.heap.size + 1 ≤ w'.heap.size ∧ TabPow w' ∧ Below w.heap.size w w')
        (first | (exact moS_later (by assumption) (by assumption)) | (exact moS_drew ⟨c1, c2, c3, c4, c5⟩) | go_keep)
        (first | (go_at_call 142; (with_reducible refine (DigS.at_ HD2.out _ (by assumption)).mono ?_); rintro e w5 ⟨rfl, hb5⟩) | (go_at_call 142; (with_reducible refine (DigS.at_ HM2.out _ (by assumption)).mono ?_); rintro e w5 ⟨rfl, hb5⟩))
      go_wp2
      go_ret
      exact ⟨rfl, moS_below (by assumption)⟩
  | no q0 q1 q2 q3 q4 q5 q6 =>
    as_aux_lemma =>
      rw [lk_no q0 q1 q2 q3 q4 q5 q6, Hday.out]
      go_enter Tryz.func88, Tryz.ntmps88
      go_wp2_with fail
      go_at_call 142
      refine (HY.out _ HT.out).mono ?_
      rintro e w1 ⟨rfl, hb1⟩
      have S1 := moS_later hb1 Start.out
      obtain ⟨c1, c2, c3, c4, c5⟩ := S1
      clear hb1
      have n0 : ¬ 9223372036854775807 < Y.size + 1 := by omega
      have n1 : ¬ 9223372036854775807 < Y.size + 1 + M2.size := by omega
      have n2 : ¬ 9223372036854775807 < Y.size + 1 + M2.size + 1 := by omega
      have n3 : ¬ 9223372036854775807 < Y.size + 1 + M2.size + 1 + D2.size := by omega
      go_wp2_with fail
      go_region_held3 (fun w' => w'.cell? ⟨w.heap.size, 1, none⟩ = some (.int .i64 m) ∧ w'.cell? ⟨w.heap.size, 2, none⟩ = some (.int .i64 d) ∧ w.heap.size + 1 ≤ w'.heap.size ∧ TabPow w' ∧ Below w.heap.size w w')
        (first | (exact moS_later (by assumption) (by assumption)) | (exact moS_drew ⟨c1, c2, c3, c4, c5⟩) | go_keep)
        (first | (go_at_call 142; (with_reducible refine (DigS.at_ HM2.out _ (by assumption)).mono ?_); rintro e w5 ⟨rfl, hb5⟩) | (go_at_call 142; (with_reducible refine (DigS.at_ HD2.out _ (by assumption)).mono ?_); rintro e w5 ⟨rfl, hb5⟩))
      go_wp2
      go_ret
      exact ⟨rfl, moS_below (by assumption)⟩
end Go.Proofs.YtglennfjeacpoaaGreatDoor

namespace Go.Proofs.YtglennfjeacpoaaGreatDoor
open Go.RowKit
set_option linter.unusedVariables false
set_option linter.unusedSimpArgs false
abbrev CkS (b : Nat) (w : World) (hv mv : Value) (W : World) : Prop :=
  W.cell? ⟨b, 3, none⟩ = some hv ∧ W.cell? ⟨b, 4, none⟩ = some mv ∧ b + 1 ≤ W.heap.size ∧ TabPow W ∧ Below b w W
theorem ckS_later {b : Nat} {w W W' : World} {m d : Value} (g : Below W.heap.size W W') (h : CkS b w m d W) : CkS b w m d W' := by
  obtain ⟨h1, h2, hb, ht, hB⟩ := h
  have := g.size
  exact ⟨(g.cell (p := ⟨b, 3, none⟩) hb).trans h1, (g.cell (p := ⟨b, 4, none⟩) hb).trans h2, by omega, ht.below g, hB.trans (g.mono (by omega))⟩
set_option maxHeartbeats 2000000 in
set_option maxRecDepth 1000000 in
theorem clock_any (x : ByteArray) (y m d h mi se wd : Int) (w : World) (hh : 0 ≤ h ∧ h ≤ 23) (hm : 0 ≤ mi ∧ mi ≤ 59) (ht : TabPow w) :
    Calls Tryz.prog 87 #[.string x, .agg #[.int .i64 y, .int .i64 m, .int .i64 d, .int .i64 h, .int .i64 mi, .int .i64 se, .int .i64 wd]] w fun e w' => e = .returned (.string (clB (lkI x) h mi)) ∧ Below w.heap.size w w' := by
  have hM := fun W hT => digits_any mi 2 (by omega) (by omega) (by omega) W hT
  have hH := fun W hT => digits_any h 2 (by omega) (by omega) (by omega) W hT
  have hR := fun W hT => digits_any ((h + 11) % 12 + 1) 1 (by omega) (by omega) (by omega) W hT
  have sM := dgB_size (n := mi) (by omega) (by omega) 2 (by omega)
  have sH := dgB_size (n := h) (by omega) (by omega) 2 (by omega)
  have sR := dgB_size (n := (h + 11) % 12 + 1) (by omega) (by omega) 1 (by omega)
  have start : CkS w.heap.size w (.int .i64 h) (.int .i64 mi) (w.alloc (.cells #[.int .i64 y, .int .i64 m, .int .i64 d, .int .i64 h, .int .i64 mi, .int .i64 se, .int .i64 wd] 96)) := by
    refine ⟨?_, ?_, by simp, ht.alloc _, (Below.refl _ _).alloc (Nat.le_refl _) _⟩
    · go_simp
    · go_simp
  have hcl : ∀ k, clB k h mi = if k = 0 then (dgB ((h + 11) % 12 + 1) 1 ++ (⟨#[58]⟩ ++ dgB mi 2)) ++ halfB h else dgB h 2 ++ (⟨#[58]⟩ ++ dgB mi 2) := fun k => rfl
  have hal : halfB h = if 12 ≤ h then ⟨#[32, 80, 77]⟩ else ⟨#[32, 65, 77]⟩ := rfl
  generalize dgB mi 2 = M at *
  generalize dgB h 2 = H at *
  generalize dgB ((h + 11) % 12 + 1) 1 = R at *
  have e58 : (⟨#[58]⟩ ++ M : ByteArray).size = 1 + M.size := by rw [ByteArray.size_append]; rfl
  have Start := Lib.hid start
  have HT := start.2.2.2.1
  have HM := Lib.hid hM
  have HH := Lib.hid hH
  have HR := Lib.hid hR
  have Hcl := Lib.hid hcl
  have Hal := Lib.hid hal
  obtain ⟨h0, h1⟩ := hh
  obtain ⟨sM0, sM1⟩ := sM
  obtain ⟨sH0, sH1⟩ := sH
  obtain ⟨sR0, sR1⟩ := sR
  have HT := Lib.hid HT
  clear start hM hH hR hcl hal ht hm
  by_cases hen : (x.toList == [101, 110]) = true
  · have hk : lkI x = 0 := by unfold lkI; rw [if_pos hen]
    obtain rfl := xM_eq hen
    by_cases h12 : 12 ≤ h
    · skip
      have hd : decide (12 ≤ h) = true := decide_eq_true h12
      have ehal : halfB h = ⟨#[32, 80, 77]⟩ := by rw [Hal.out, if_pos h12]
      have ec : clB (lkI ⟨[101, 110].toArray⟩) h mi = (R ++ (⟨#[58]⟩ ++ M)) ++ ⟨#[32, 80, 77]⟩ := by rw [hk, Hcl.out, if_pos rfl, ehal]
      rw [ec]
      clear ec ehal hen
      go_enter Tryz.func87, Tryz.ntmps87
      go_wp2_with fail
      go_at_call 142
      refine (HM.out _ HT.out).mono ?_
      rintro e w1 ⟨rfl, hb1⟩
      have S1 := ckS_later hb1 Start.out
      obtain ⟨c1, c2, c3, c4, c5⟩ := S1
      go_wp2_with fail
      go_at_call 142
      refine (HR.out _ c4).mono ?_
      rintro e w2 ⟨rfl, hb2⟩
      go_wp2
      go_ret
      exact ⟨rfl, c5.trans (hb2.mono (by omega))⟩
    · skip
      have hd : decide (12 ≤ h) = false := decide_eq_false h12
      have ehal : halfB h = ⟨#[32, 65, 77]⟩ := by rw [Hal.out, if_neg h12]
      have ec : clB (lkI ⟨[101, 110].toArray⟩) h mi = (R ++ (⟨#[58]⟩ ++ M)) ++ ⟨#[32, 65, 77]⟩ := by rw [hk, Hcl.out, if_pos rfl, ehal]
      rw [ec]
      clear ec ehal hen
      go_enter Tryz.func87, Tryz.ntmps87
      go_wp2_with fail
      go_at_call 142
      refine (HM.out _ HT.out).mono ?_
      rintro e w1 ⟨rfl, hb1⟩
      have S1 := ckS_later hb1 Start.out
      obtain ⟨c1, c2, c3, c4, c5⟩ := S1
      go_wp2_with fail
      go_at_call 142
      refine (HR.out _ c4).mono ?_
      rintro e w2 ⟨rfl, hb2⟩
      go_wp2
      go_ret
      exact ⟨rfl, c5.trans (hb2.mono (by omega))⟩
  · have hk : lkI x ≠ 0 := by
      unfold lkI
      rw [if_neg hen]
      split
      · simp
      · split <;> simp
    have hx : (x.toList != [101, 110]) = true := by simpa using hen
    have hx0 : (x.toList == [101, 110]) = false := by simpa using hen
    have ec : clB (lkI x) h mi = H ++ (⟨#[58]⟩ ++ M) := by rw [Hcl.out, if_neg hk]
    rw [ec]
    clear ec hen hk
    go_enter Tryz.func87, Tryz.ntmps87
    go_wp2_with fail
    go_at_call 142
    refine (HM.out _ HT.out).mono ?_
    rintro e w1 ⟨rfl, hb1⟩
    have S1 := ckS_later hb1 Start.out
    obtain ⟨c1, c2, c3, c4, c5⟩ := S1
    go_wp2_with fail
    go_at_call 142
    refine (HH.out _ c4).mono ?_
    rintro e w2 ⟨rfl, hb2⟩
    go_wp2
    go_ret
    exact ⟨rfl, c5.trans (hb2.mono (by omega))⟩
set_option maxHeartbeats 1000000 in
set_option maxRecDepth 1000000 in
theorem between_any (x : ByteArray) (w : World) : Calls Tryz.prog 89 #[.string x] w fun e w' => e = .returned (.string (btB (lkI x))) ∧ w' = w := by
  by_cases hen : (x.toList == [101, 110]) = true
  · have hk : lkI x = 0 := by unfold lkI; rw [if_pos hen]
    obtain rfl := xM_eq hen
    rw [hk]
    clear hk hen
    go_enter Tryz.func89, Tryz.ntmps89
    go_wp2
    go_ret
    exact ⟨rfl, rfl⟩
  · have hk : lkI x ≠ 0 := by
      unfold lkI
      rw [if_neg hen]
      split
      · simp
      · split <;> simp
    have hx : (x.toList == [101, 110]) = false := by simpa using hen
    have e : btB (lkI x) = ⟨#[32]⟩ := by unfold btB; rw [if_neg hk]
    rw [e]
    clear e hk hen
    go_enter Tryz.func89, Tryz.ntmps89
    go_wp2
    go_ret
    exact ⟨rfl, rfl⟩
end Go.Proofs.YtglennfjeacpoaaGreatDoor

namespace Go.Proofs.YtglennfjeacpoaaGreatDoor
open Go.RowKit
set_option linter.unusedVariables false
set_option linter.unusedSimpArgs false
theorem year_ex (n : Int) : ∃ y, fdB y ≤ n ∧ n < fdB (y + 1) := by
  have h1 := fd_guess n
  obtain ⟨Y, hY⟩ : ∃ Y, Y = 1970 + n * 400 / 146097 + 1 := ⟨_, rfl⟩
  rw [← hY] at h1
  have h2 : fdB (Y - 3) ≤ n := by unfold fdB; omega
  by_cases a1 : n < fdB Y
  · by_cases a2 : n < fdB (Y - 1)
    · by_cases a3 : n < fdB (Y - 2)
      · exact ⟨Y - 3, h2, by rw [show Y - 3 + 1 = Y - 2 by omega]; exact a3⟩
      · exact ⟨Y - 2, by omega, by rw [show Y - 2 + 1 = Y - 1 by omega]; exact a2⟩
    · exact ⟨Y - 1, by omega, by rw [show Y - 1 + 1 = Y by omega]; exact a1⟩
  · exact ⟨Y, by omega, h1⟩
theorem month_ex (y r : Int) (h0 : 0 ≤ r) : ∀ j : Nat, j ≤ 12 → r < cumI y (j + 1) → ∃ m, 1 ≤ m ∧ m ≤ 12 ∧ cumI y m ≤ r ∧ r < cumI y m + dimI y m
  | 0, _, h => by
    rw [show ((0 : Nat) : Int) + 1 = 1 from rfl, cum_one] at h
    omega
  | j + 1, hj, h => by
    by_cases hr : r < cumI y ((j : Int) + 1)
    · exact month_ex y r h0 j (by omega) hr
    · refine ⟨(j : Int) + 1, by omega, by omega, by omega, ?_⟩
      rw [← cum_succ y ((j : Int) + 1) (by omega) (by omega)]
      exact h
theorem civ_ex (n : Int) : ∃ y m d, Civ n y m d := by
  obtain ⟨y, h0, h1⟩ := year_ex n
  rw [fd_succ] at h1
  obtain ⟨m, m1, m2, m3, m4⟩ := month_ex y (n - fdB y) (by omega) 12 (Nat.le_refl _) (by rw [show ((12 : Nat) : Int) + 1 = 13 from rfl, cum_13]; omega)
  exact ⟨y, m, _, civ_of (left := n - fdB y - cumI y m) m1 m2 (by omega) (by omega) rfl⟩
theorem mom_ex (s : Int) : ∃ y m d h mi se wd, Mom s y m d h mi se wd := by
  obtain ⟨y, m, d, hc⟩ := civ_ex (s / 86400)
  exact ⟨y, m, d, _, _, _, _, ⟨hc, rfl, rfl, rfl, rfl⟩⟩
theorem from_to {s y m d h mi se wd : Int} (a : Mom (clampS s) y m d h mi se wd) (w : World) : Calls Tryz.prog 86 #[.int .i64 s] w fun e w' => e = .returned (.agg #[.int .i64 y, .int .i64 m, .int .i64 d, .int .i64 h, .int .i64 mi, .int .i64 se, .int .i64 wd]) ∧ Below w.heap.size w w' := by
  refine (from_any s w).mono ?_
  rintro e w' ⟨y', m', d', h', mi', se', wd', rfl, hm, hb⟩
  obtain ⟨rfl, rfl, rfl, rfl, rfl, rfl, rfl⟩ := a.uniq hm
  exact ⟨rfl, hb⟩
theorem lfrom_to {s y m d h mi se wd : Int} (a : Mom (clampS s) y m d h mi se wd) (w : World) : Calls Tryz.prog 43 #[.int .i64 s] w fun e w' => e = .returned (.agg #[.int .i64 y, .int .i64 m, .int .i64 d, .int .i64 h, .int .i64 mi, .int .i64 se, .int .i64 wd]) ∧ Below w.heap.size w w' := by
  refine (lfrom_any s w).mono ?_
  rintro e w' ⟨y', m', d', h', mi', se', wd', rfl, hm, hb⟩
  obtain ⟨rfl, rfl, rfl, rfl, rfl, rfl, rfl⟩ := a.uniq hm
  exact ⟨rfl, hb⟩
abbrev CvS (b : Nat) (w : World) (c0 c1 c2 c3 c4 c5 c6 : Value) (W : World) : Prop :=
  W.cell? ⟨b, 0, none⟩ = some c0 ∧ W.cell? ⟨b, 1, none⟩ = some c1 ∧ W.cell? ⟨b, 2, none⟩ = some c2 ∧ W.cell? ⟨b, 3, none⟩ = some c3 ∧ W.cell? ⟨b, 4, none⟩ = some c4 ∧ W.cell? ⟨b, 5, none⟩ = some c5 ∧ W.cell? ⟨b, 6, none⟩ = some c6 ∧ b + 1 ≤ W.heap.size ∧ TabPow W ∧ w.heap.size ≤ W.heap.size ∧ Below w.heap.size w W
theorem cvS_later {b : Nat} {w W W' : World} {c0 c1 c2 c3 c4 c5 c6 : Value} (g : Below W.heap.size W W') (h : CvS b w c0 c1 c2 c3 c4 c5 c6 W) : CvS b w c0 c1 c2 c3 c4 c5 c6 W' := by
  obtain ⟨h0, h1, h2, h3, h4, h5, h6, hb, ht, hz, hB⟩ := h
  have := g.size
  exact ⟨(g.cell (p := ⟨b, 0, none⟩) hb).trans h0, (g.cell (p := ⟨b, 1, none⟩) hb).trans h1, (g.cell (p := ⟨b, 2, none⟩) hb).trans h2, (g.cell (p := ⟨b, 3, none⟩) hb).trans h3, (g.cell (p := ⟨b, 4, none⟩) hb).trans h4, (g.cell (p := ⟨b, 5, none⟩) hb).trans h5, (g.cell (p := ⟨b, 6, none⟩) hb).trans h6, by omega, ht.below g, by omega, hB.trans (g.mono hz)⟩
theorem cvS_below {b : Nat} {w W : World} {c0 c1 c2 c3 c4 c5 c6 : Value} (h : CvS b w c0 c1 c2 c3 c4 c5 c6 W) : Below w.heap.size w W := h.2.2.2.2.2.2.2.2.2.2
theorem cvS_new {w w1 : World} {c0 c1 c2 c3 c4 c5 c6 : Value} {t : TypeId} (hb : Below w.heap.size w w1) (ht : TabPow w1) : CvS w1.heap.size w c0 c1 c2 c3 c4 c5 c6 (w1.alloc (.cells #[c0, c1, c2, c3, c4, c5, c6] t)) := by
  have := hb.size
  refine ⟨?_, ?_, ?_, ?_, ?_, ?_, ?_, by simp, ht.alloc _, by simp; omega, below_new hb (Nat.le_refl _) _⟩
  all_goals go_simp
set_option maxHeartbeats 4000000 in
set_option maxRecDepth 1000000 in
theorem mformat_any (x : ByteArray) (sec st : Int) {y m d h mi se wd : Int} (a : Mom (clampS sec) y m d h mi se wd) (w : World) (ht : TabPow w) :
    Calls Tryz.prog 48 #[.string x, .int .i64 sec, .int .i64 st] w fun e w' => e = .returned (.string (fmB (lkI x) st y m d h mi)) ∧ Below w.heap.size w w' := by
  have hcb := clamp_bd sec
  obtain ⟨y0, y1, m0, m1, d0, d1, h0, h1, i0, i1, s0, s1, wd0, wd1⟩ := mom_bd a (by omega) (by omega)
  have hF := fun W => from_to a W
  have hD := fun W hT => day_any x y m d h mi se wd W ⟨by omega, by omega⟩ ⟨m0, m1⟩ ⟨d0, d1⟩ hT
  have hC := fun W hT => clock_any x y m d h mi se wd W ⟨h0, by omega⟩ ⟨i0, by omega⟩ hT
  have hB := fun W => between_any x W
  have zD := day_size (lkI x) (y := y) (m := m) (d := d) ⟨by omega, by omega⟩ ⟨m0, m1⟩ ⟨d0, d1⟩
  have zC := cl_size (lkI x) (h := h) (mi := mi) ⟨h0, by omega⟩ ⟨i0, by omega⟩
  have zB : (btB (lkI x)).size ≤ 2 := by unfold btB; split <;> decide
  have hf : fmB (lkI x) st y m d h mi = if st = 1 then clB (lkI x) h mi else if st = 2 then (dayB (lkI x) y m d ++ btB (lkI x)) ++ clB (lkI x) h mi else dayB (lkI x) y m d := rfl
  rw [hf]
  clear hf a y0 y1 m0 m1 d0 d1 h0 h1 i0 i1 s0 s1 wd0 wd1 hcb
  generalize dayB (lkI x) y m d = D at *
  generalize clB (lkI x) h mi = C at *
  generalize btB (lkI x) = B at *
  have n1 : ¬ 9223372036854775807 < D.size + B.size := by omega
  have n2 : ¬ 9223372036854775807 < D.size + B.size + C.size := by omega
  have HF := Lib.hid hF
  have HD := Lib.hid hD
  have HC := Lib.hid hC
  have HB := Lib.hid hB
  have Ht := Lib.hid ht
  clear hF hD hC hB ht zD zC zB
  by_cases q1 : st = 1
  · subst q1
    rw [if_pos rfl]
    go_enter Tryz.func48, Tryz.ntmps48
    go_wp2_with fail
    go_at_call 86
    refine (HF.out _).mono ?_
    rintro e w1 ⟨rfl, hb1⟩
    have S1 := cvS_new (c0 := .int .i64 y) (c1 := .int .i64 m) (c2 := .int .i64 d) (c3 := .int .i64 h) (c4 := .int .i64 mi) (c5 := .int .i64 se) (c6 := .int .i64 wd) (t := 96) hb1 (Ht.out.below hb1)
    have HS := Lib.hid S1
    clear hb1 S1
    go_wp2_with fail
    go_at_call 87
    refine (HC.out _ HS.out.2.2.2.2.2.2.2.2.1).mono ?_
    rintro e w2 ⟨rfl, hb2⟩
    go_wp2
    go_ret
    exact ⟨rfl, cvS_below (cvS_later hb2 HS.out)⟩
  · have q1' : (st == 1) = false := by simpa using q1
    rw [if_neg q1]
    by_cases q2 : st = 2
    · subst q2
      rw [if_pos rfl]
      go_enter Tryz.func48, Tryz.ntmps48
      go_wp2_with fail
      go_at_call 86
      refine (HF.out _).mono ?_
      rintro e w1 ⟨rfl, hb1⟩
      have S1 := cvS_new (c0 := .int .i64 y) (c1 := .int .i64 m) (c2 := .int .i64 d) (c3 := .int .i64 h) (c4 := .int .i64 mi) (c5 := .int .i64 se) (c6 := .int .i64 wd) (t := 96) hb1 (Ht.out.below hb1)
      clear hb1
      go_wp2_with fail
      have HS := Lib.hid S1
      clear S1
      go_region_held3 (fun w' => w'.cell? ⟨w1.heap.size, 0, none⟩ = some (.int .i64 y) ∧ w'.cell? ⟨w1.heap.size, 1, none⟩ = some (.int .i64 m) ∧ w'.cell? ⟨w1.heap.size, 2, none⟩ = some (.int .i64 d) ∧ w'.cell? ⟨w1.heap.size, 3, none⟩ = some (.int .i64 h) ∧ w'.cell? ⟨w1.heap.size, 4, none⟩ = some (.int .i64 mi) ∧ w'.cell? ⟨w1.heap.size, 5, none⟩ = some (.int .i64 se) ∧ w'.cell? ⟨w1.heap.size, 6, none⟩ = some (.int .i64 wd) ∧ w1.heap.size + 1 ≤ w'.heap.size ∧ TabPow w' ∧ w.heap.size ≤ w'.heap.size ∧ Below w.heap.size w w')
        (first | (exact cvS_later (by assumption) (by assumption)) | (exact cvS_later (Below.refl _ _).drew HS.out) | go_keep)
        (first | (go_at_call 88; (with_reducible refine (HD.out _ (by first | assumption | exact And.left (And.right (And.right (And.right (And.right (And.right (And.right (And.right (And.right (by assumption))))))))))).mono ?_); rintro e w5 ⟨rfl, hb5⟩) | (go_at_call 87; (with_reducible refine (HC.out _ (by first | assumption | exact And.left (And.right (And.right (And.right (And.right (And.right (And.right (And.right (And.right (by assumption))))))))))).mono ?_); rintro e w5 ⟨rfl, hb5⟩) | (go_at_call 89; (with_reducible refine (HB.out _).mono ?_); rintro e w5 ⟨rfl, rfl⟩))
      go_wp2
      go_ret
      exact ⟨rfl, cvS_below (by assumption)⟩
    · have q2' : (st == 2) = false := by simpa using q2
      rw [if_neg q2]
      clear q1 q2
      go_enter Tryz.func48, Tryz.ntmps48
      go_wp2_with fail
      go_at_call 86
      refine (HF.out _).mono ?_
      rintro e w1 ⟨rfl, hb1⟩
      have S1 := cvS_new (c0 := .int .i64 y) (c1 := .int .i64 m) (c2 := .int .i64 d) (c3 := .int .i64 h) (c4 := .int .i64 mi) (c5 := .int .i64 se) (c6 := .int .i64 wd) (t := 96) hb1 (Ht.out.below hb1)
      have HS := Lib.hid S1
      clear hb1 S1
      go_wp2_with fail
      go_at_call 88
      refine (HD.out _ HS.out.2.2.2.2.2.2.2.2.1).mono ?_
      rintro e w2 ⟨rfl, hb2⟩
      go_wp2
      go_ret
      exact ⟨rfl, cvS_below (cvS_later hb2 HS.out)⟩
end Go.Proofs.YtglennfjeacpoaaGreatDoor
