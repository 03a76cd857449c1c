/-
  Package moment: each moment has a day and a time; Format.
-/
import Derived.Test.YtmkcebngobanjaaDoorMd
namespace Go.Proofs.YtmkcebngobanjaaDoor
open Go.RowKit
set_option linter.unusedVariables false
set_option linter.unusedSimpArgs false

theorem year_ex (n : Int) : ∃ y, fdB y ≤ n ∧ n < fdB (y + 1) := by
  have h1 := fd_guess n
  obtain ⟨Y, hY⟩ : ∃ Y, Y = 1970 + n * 400 / 146097 + 1 := ⟨_, rfl⟩
  rw [← hY] at h1
  have h2 : fdB (Y - 3) ≤ n := by unfold fdB; omega
  by_cases a1 : n < fdB Y
  · by_cases a2 : n < fdB (Y - 1)
    · by_cases a3 : n < fdB (Y - 2)
      · exact ⟨Y - 3, h2, by rw [show Y - 3 + 1 = Y - 2 by omega]; exact a3⟩
      · exact ⟨Y - 2, by omega, by rw [show Y - 2 + 1 = Y - 1 by omega]; exact a2⟩
    · exact ⟨Y - 1, by omega, by rw [show Y - 1 + 1 = Y by omega]; exact a1⟩
  · exact ⟨Y, by omega, h1⟩
theorem month_ex (y r : Int) (h0 : 0 ≤ r) : ∀ j : Nat, j ≤ 12 → r < cumI y (j + 1) → ∃ m, 1 ≤ m ∧ m ≤ 12 ∧ cumI y m ≤ r ∧ r < cumI y m + dimI y m
  | 0, _, h => by
    rw [show ((0 : Nat) : Int) + 1 = 1 from rfl, cum_one] at h
    omega
  | j + 1, hj, h => by
    by_cases hr : r < cumI y ((j : Int) + 1)
    · exact month_ex y r h0 j (by omega) hr
    · refine ⟨(j : Int) + 1, by omega, by omega, by omega, ?_⟩
      rw [← cum_succ y ((j : Int) + 1) (by omega) (by omega)]
      exact h
theorem civ_ex (n : Int) : ∃ y m d, Civ n y m d := by
  obtain ⟨y, h0, h1⟩ := year_ex n
  rw [fd_succ] at h1
  obtain ⟨m, m1, m2, m3, m4⟩ := month_ex y (n - fdB y) (by omega) 12 (Nat.le_refl _) (by rw [show ((12 : Nat) : Int) + 1 = 13 from rfl, cum_13]; omega)
  exact ⟨y, m, _, civ_of (left := n - fdB y - cumI y m) m1 m2 (by omega) (by omega) rfl⟩
theorem mom_ex (s : Int) : ∃ y m d h mi se wd, Mom s y m d h mi se wd := by
  obtain ⟨y, m, d, hc⟩ := civ_ex (s / 86400)
  exact ⟨y, m, d, _, _, _, _, ⟨hc, rfl, rfl, rfl, rfl⟩⟩
theorem from_to {s y m d h mi se wd : Int} (a : Mom (clampS s) y m d h mi se wd) (w : World) : Calls Tryd.prog 11 #[.int .i64 s] w fun e w' => e = .returned (.agg #[.int .i64 y, .int .i64 m, .int .i64 d, .int .i64 h, .int .i64 mi, .int .i64 se, .int .i64 wd]) ∧ Below w.heap.size w w' := by
  refine (from_any s w).mono ?_
  rintro e w' ⟨y', m', d', h', mi', se', wd', rfl, hm, hb⟩
  obtain ⟨rfl, rfl, rfl, rfl, rfl, rfl, rfl⟩ := a.uniq hm
  exact ⟨rfl, hb⟩
theorem lfrom_to {s y m d h mi se wd : Int} (a : Mom (clampS s) y m d h mi se wd) (w : World) : Calls Tryd.prog 15 #[.int .i64 s] w fun e w' => e = .returned (.agg #[.int .i64 y, .int .i64 m, .int .i64 d, .int .i64 h, .int .i64 mi, .int .i64 se, .int .i64 wd]) ∧ Below w.heap.size w w' := by
  refine (lfrom_any s w).mono ?_
  rintro e w' ⟨y', m', d', h', mi', se', wd', rfl, hm, hb⟩
  obtain ⟨rfl, rfl, rfl, rfl, rfl, rfl, rfl⟩ := a.uniq hm
  exact ⟨rfl, hb⟩

/-- The moment's parts in their box. -/
abbrev CvS (b : Nat) (w : World) (c0 c1 c2 c3 c4 c5 c6 : Value) (W : World) : Prop :=
  W.cell? ⟨b, 0, none⟩ = some c0 ∧ W.cell? ⟨b, 1, none⟩ = some c1 ∧ W.cell? ⟨b, 2, none⟩ = some c2 ∧ W.cell? ⟨b, 3, none⟩ = some c3 ∧ W.cell? ⟨b, 4, none⟩ = some c4 ∧ W.cell? ⟨b, 5, none⟩ = some c5 ∧ W.cell? ⟨b, 6, none⟩ = some c6 ∧ b + 1 ≤ W.heap.size ∧ TabPow W ∧ w.heap.size ≤ W.heap.size ∧ Below w.heap.size w W
theorem cvS_later {b : Nat} {w W W' : World} {c0 c1 c2 c3 c4 c5 c6 : Value} (g : Below W.heap.size W W') (h : CvS b w c0 c1 c2 c3 c4 c5 c6 W) : CvS b w c0 c1 c2 c3 c4 c5 c6 W' := by
  obtain ⟨h0, h1, h2, h3, h4, h5, h6, hb, ht, hz, hB⟩ := h
  have := g.size
  exact ⟨(g.cell (p := ⟨b, 0, none⟩) hb).trans h0, (g.cell (p := ⟨b, 1, none⟩) hb).trans h1, (g.cell (p := ⟨b, 2, none⟩) hb).trans h2, (g.cell (p := ⟨b, 3, none⟩) hb).trans h3, (g.cell (p := ⟨b, 4, none⟩) hb).trans h4, (g.cell (p := ⟨b, 5, none⟩) hb).trans h5, (g.cell (p := ⟨b, 6, none⟩) hb).trans h6, by omega, ht.below g, by omega, hB.trans (g.mono hz)⟩
theorem cvS_below {b : Nat} {w W : World} {c0 c1 c2 c3 c4 c5 c6 : Value} (h : CvS b w c0 c1 c2 c3 c4 c5 c6 W) : Below w.heap.size w W := h.2.2.2.2.2.2.2.2.2.2
theorem cvS_new {w w1 : World} {c0 c1 c2 c3 c4 c5 c6 : Value} {t : TypeId} (hb : Below w.heap.size w w1) (ht : TabPow w1) : CvS w1.heap.size w c0 c1 c2 c3 c4 c5 c6 (w1.alloc (.cells #[c0, c1, c2, c3, c4, c5, c6] t)) := by
  have := hb.size
  refine ⟨?_, ?_, ?_, ?_, ?_, ?_, ?_, by simp, ht.alloc _, by simp; omega, below_new hb (Nat.le_refl _) _⟩
  all_goals go_simp
set_option maxHeartbeats 4000000 in
theorem format_any (x : ByteArray) (sec st : Int) {y m d h mi se wd : Int} (a : Mom (clampS sec) y m d h mi se wd) (w : World) (ht : TabPow w) :
    Calls Tryd.prog 8 #[.string x, .int .i64 sec, .int .i64 st] w fun e w' => e = .returned (.string (fmB (lkI x) st y m d h mi)) ∧ Below w.heap.size w w' := by
  have hcb := clamp_bd sec
  obtain ⟨y0, y1, m0, m1, d0, d1, h0, h1, i0, i1, s0, s1, wd0, wd1⟩ := mom_bd a (by omega) (by omega)
  have hF := fun W => from_to a W
  have hD := fun W hT => day_any x y m d h mi se wd W ⟨by omega, by omega⟩ ⟨m0, m1⟩ ⟨d0, d1⟩ hT
  have hC := fun W hT => clock_any x y m d h mi se wd W ⟨h0, by omega⟩ ⟨i0, by omega⟩ hT
  have hB := fun W => between_any x W
  have zD := day_size (lkI x) (y := y) (m := m) (d := d) ⟨by omega, by omega⟩ ⟨m0, m1⟩ ⟨d0, d1⟩
  have zC := cl_size (lkI x) (h := h) (mi := mi) ⟨h0, by omega⟩ ⟨i0, by omega⟩
  have zB : (btB (lkI x)).size ≤ 2 := by unfold btB; split <;> decide
  have hf : fmB (lkI x) st y m d h mi = if st = 1 then clB (lkI x) h mi else if st = 2 then (dayB (lkI x) y m d ++ btB (lkI x)) ++ clB (lkI x) h mi else dayB (lkI x) y m d := rfl
  rw [hf]
  clear hf a y0 y1 m0 m1 d0 d1 h0 h1 i0 i1 s0 s1 wd0 wd1 hcb
  generalize dayB (lkI x) y m d = D at *
  generalize clB (lkI x) h mi = C at *
  generalize btB (lkI x) = B at *
  have n1 : ¬ 9223372036854775807 < D.size + B.size := by omega
  have n2 : ¬ 9223372036854775807 < D.size + B.size + C.size := by omega
  have HF := Lib.hid hF
  have HD := Lib.hid hD
  have HC := Lib.hid hC
  have HB := Lib.hid hB
  have Ht := Lib.hid ht
  clear hF hD hC hB ht zD zC zB
  by_cases q1 : st = 1
  · subst q1
    rw [if_pos rfl]
    go_enter Tryd.func8, Tryd.ntmps8
    go_wp2_with fail
    go_at_call 11
    refine (HF.out _).mono ?_
    rintro e w1 ⟨rfl, hb1⟩
    have S1 := cvS_new (c0 := .int .i64 y) (c1 := .int .i64 m) (c2 := .int .i64 d) (c3 := .int .i64 h) (c4 := .int .i64 mi) (c5 := .int .i64 se) (c6 := .int .i64 wd) (t := 32) hb1 (Ht.out.below hb1)
    have HS := Lib.hid S1
    clear hb1 S1
    go_wp2_with fail
    go_at_call 12
    refine (HC.out _ HS.out.2.2.2.2.2.2.2.2.1).mono ?_
    rintro e w2 ⟨rfl, hb2⟩
    go_wp2
    go_ret
    exact ⟨rfl, cvS_below (cvS_later hb2 HS.out)⟩
  · have q1' : (st == 1) = false := by simpa using q1
    rw [if_neg q1]
    by_cases q2 : st = 2
    · subst q2
      rw [if_pos rfl]
      go_enter Tryd.func8, Tryd.ntmps8
      go_wp2_with fail
      go_at_call 11
      refine (HF.out _).mono ?_
      rintro e w1 ⟨rfl, hb1⟩
      have S1 := cvS_new (c0 := .int .i64 y) (c1 := .int .i64 m) (c2 := .int .i64 d) (c3 := .int .i64 h) (c4 := .int .i64 mi) (c5 := .int .i64 se) (c6 := .int .i64 wd) (t := 32) hb1 (Ht.out.below hb1)
      clear hb1
      go_wp2_with fail
      have HS := Lib.hid S1
      clear S1
      go_region_held3 (fun w' => w'.cell? ⟨w1.heap.size, 0, none⟩ = some (.int .i64 y) ∧ w'.cell? ⟨w1.heap.size, 1, none⟩ = some (.int .i64 m) ∧ w'.cell? ⟨w1.heap.size, 2, none⟩ = some (.int .i64 d) ∧ w'.cell? ⟨w1.heap.size, 3, none⟩ = some (.int .i64 h) ∧ w'.cell? ⟨w1.heap.size, 4, none⟩ = some (.int .i64 mi) ∧ w'.cell? ⟨w1.heap.size, 5, none⟩ = some (.int .i64 se) ∧ w'.cell? ⟨w1.heap.size, 6, none⟩ = some (.int .i64 wd) ∧ w1.heap.size + 1 ≤ w'.heap.size ∧ TabPow w' ∧ w.heap.size ≤ w'.heap.size ∧ Below w.heap.size w w')
        (first | (exact cvS_later (by assumption) (by assumption)) | (exact cvS_later (Below.refl _ _).drew HS.out) | go_keep)
        (first | (go_at_call 13; (with_reducible refine (HD.out _ (by first | assumption | exact And.left (And.right (And.right (And.right (And.right (And.right (And.right (And.right (And.right (by assumption))))))))))).mono ?_); rintro e w5 ⟨rfl, hb5⟩) | (go_at_call 12; (with_reducible refine (HC.out _ (by first | assumption | exact And.left (And.right (And.right (And.right (And.right (And.right (And.right (And.right (And.right (by assumption))))))))))).mono ?_); rintro e w5 ⟨rfl, hb5⟩) | (go_at_call 14; (with_reducible refine (HB.out _).mono ?_); rintro e w5 ⟨rfl, rfl⟩))
      go_wp2
      go_ret
      exact ⟨rfl, cvS_below (by assumption)⟩
    · have q2' : (st == 2) = false := by simpa using q2
      rw [if_neg q2]
      clear q1 q2
      go_enter Tryd.func8, Tryd.ntmps8
      go_wp2_with fail
      go_at_call 11
      refine (HF.out _).mono ?_
      rintro e w1 ⟨rfl, hb1⟩
      have S1 := cvS_new (c0 := .int .i64 y) (c1 := .int .i64 m) (c2 := .int .i64 d) (c3 := .int .i64 h) (c4 := .int .i64 mi) (c5 := .int .i64 se) (c6 := .int .i64 wd) (t := 32) hb1 (Ht.out.below hb1)
      have HS := Lib.hid S1
      clear hb1 S1
      go_wp2_with fail
      go_at_call 13
      refine (HD.out _ HS.out.2.2.2.2.2.2.2.2.1).mono ?_
      rintro e w2 ⟨rfl, hb2⟩
      go_wp2
      go_ret
      exact ⟨rfl, cvS_below (cvS_later hb2 HS.out)⟩
end Go.Proofs.YtmkcebngobanjaaDoor
