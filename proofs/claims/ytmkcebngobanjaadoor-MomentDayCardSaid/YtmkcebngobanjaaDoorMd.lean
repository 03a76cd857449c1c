/-
  Package moment: clock, between, Format.
-/
import Derived.Test.YtmkcebngobanjaaDoorMc
namespace Go.Proofs.YtmkcebngobanjaaDoor
open Go.RowKit
set_option linter.unusedVariables false
set_option linter.unusedSimpArgs false

abbrev CkS (b : Nat) (w : World) (hv mv : Value) (W : World) : Prop :=
  W.cell? ⟨b, 3, none⟩ = some hv ∧ W.cell? ⟨b, 4, none⟩ = some mv ∧ b + 1 ≤ W.heap.size ∧ TabPow W ∧ Below b w W
theorem ckS_later {b : Nat} {w W W' : World} {m d : Value} (g : Below W.heap.size W W') (h : CkS b w m d W) : CkS b w m d W' := by
  obtain ⟨h1, h2, hb, ht, hB⟩ := h
  have := g.size
  exact ⟨(g.cell (p := ⟨b, 3, none⟩) hb).trans h1, (g.cell (p := ⟨b, 4, none⟩) hb).trans h2, by omega, ht.below g, hB.trans (g.mono (by omega))⟩
set_option maxHeartbeats 2000000 in
theorem clock_any (x : ByteArray) (y m d h mi se wd : Int) (w : World) (hh : 0 ≤ h ∧ h ≤ 23) (hm : 0 ≤ mi ∧ mi ≤ 59) (ht : TabPow w) :
    Calls Tryd.prog 12 #[.string x, .agg #[.int .i64 y, .int .i64 m, .int .i64 d, .int .i64 h, .int .i64 mi, .int .i64 se, .int .i64 wd]] w fun e w' => e = .returned (.string (clB (lkI x) h mi)) ∧ Below w.heap.size w w' := by
  have hM := fun W hT => digits_any mi 2 (by omega) (by omega) (by omega) W hT
  have hH := fun W hT => digits_any h 2 (by omega) (by omega) (by omega) W hT
  have hR := fun W hT => digits_any ((h + 11) % 12 + 1) 1 (by omega) (by omega) (by omega) W hT
  have sM := dgB_size (n := mi) (by omega) (by omega) 2 (by omega)
  have sH := dgB_size (n := h) (by omega) (by omega) 2 (by omega)
  have sR := dgB_size (n := (h + 11) % 12 + 1) (by omega) (by omega) 1 (by omega)
  have start : CkS w.heap.size w (.int .i64 h) (.int .i64 mi) (w.alloc (.cells #[.int .i64 y, .int .i64 m, .int .i64 d, .int .i64 h, .int .i64 mi, .int .i64 se, .int .i64 wd] 32)) := by
    refine ⟨?_, ?_, by simp, ht.alloc _, (Below.refl _ _).alloc (Nat.le_refl _) _⟩
    · go_simp
    · go_simp
  have hcl : ∀ k, clB k h mi = if k = 0 then (dgB ((h + 11) % 12 + 1) 1 ++ (⟨#[58]⟩ ++ dgB mi 2)) ++ halfB h else dgB h 2 ++ (⟨#[58]⟩ ++ dgB mi 2) := fun k => rfl
  have hal : halfB h = if 12 ≤ h then ⟨#[32, 80, 77]⟩ else ⟨#[32, 65, 77]⟩ := rfl
  generalize dgB mi 2 = M at *
  generalize dgB h 2 = H at *
  generalize dgB ((h + 11) % 12 + 1) 1 = R at *
  have e58 : (⟨#[58]⟩ ++ M : ByteArray).size = 1 + M.size := by rw [ByteArray.size_append]; rfl
  have Start := Lib.hid start
  have HT := start.2.2.2.1
  have HM := Lib.hid hM
  have HH := Lib.hid hH
  have HR := Lib.hid hR
  have Hcl := Lib.hid hcl
  have Hal := Lib.hid hal
  obtain ⟨h0, h1⟩ := hh
  obtain ⟨sM0, sM1⟩ := sM
  obtain ⟨sH0, sH1⟩ := sH
  obtain ⟨sR0, sR1⟩ := sR
  have HT := Lib.hid HT
  clear start hM hH hR hcl hal ht hm
  by_cases hen : (x.toList == [101, 110]) = true
  · have hk : lkI x = 0 := by unfold lkI; rw [if_pos hen]
    obtain rfl := xM_eq hen
    by_cases h12 : 12 ≤ h
    · skip
      have hd : decide (12 ≤ h) = true := decide_eq_true h12
      have ehal : halfB h = ⟨#[32, 80, 77]⟩ := by rw [Hal.out, if_pos h12]
      have ec : clB (lkI ⟨[101, 110].toArray⟩) h mi = (R ++ (⟨#[58]⟩ ++ M)) ++ ⟨#[32, 80, 77]⟩ := by rw [hk, Hcl.out, if_pos rfl, ehal]
      rw [ec]
      clear ec ehal hen
      go_enter Tryd.func12, Tryd.ntmps12
      go_wp2_with fail
      go_at_call 23
      refine (HM.out _ HT.out).mono ?_
      rintro e w1 ⟨rfl, hb1⟩
      have S1 := ckS_later hb1 Start.out
      obtain ⟨c1, c2, c3, c4, c5⟩ := S1
      go_wp2_with fail
      go_at_call 23
      refine (HR.out _ c4).mono ?_
      rintro e w2 ⟨rfl, hb2⟩
      go_wp2
      go_ret
      exact ⟨rfl, c5.trans (hb2.mono (by omega))⟩
    · skip
      have hd : decide (12 ≤ h) = false := decide_eq_false h12
      have ehal : halfB h = ⟨#[32, 65, 77]⟩ := by rw [Hal.out, if_neg h12]
      have ec : clB (lkI ⟨[101, 110].toArray⟩) h mi = (R ++ (⟨#[58]⟩ ++ M)) ++ ⟨#[32, 65, 77]⟩ := by rw [hk, Hcl.out, if_pos rfl, ehal]
      rw [ec]
      clear ec ehal hen
      go_enter Tryd.func12, Tryd.ntmps12
      go_wp2_with fail
      go_at_call 23
      refine (HM.out _ HT.out).mono ?_
      rintro e w1 ⟨rfl, hb1⟩
      have S1 := ckS_later hb1 Start.out
      obtain ⟨c1, c2, c3, c4, c5⟩ := S1
      go_wp2_with fail
      go_at_call 23
      refine (HR.out _ c4).mono ?_
      rintro e w2 ⟨rfl, hb2⟩
      go_wp2
      go_ret
      exact ⟨rfl, c5.trans (hb2.mono (by omega))⟩
  · have hk : lkI x ≠ 0 := by
      unfold lkI
      rw [if_neg hen]
      split
      · simp
      · split <;> simp
    have hx : (x.toList != [101, 110]) = true := by simpa using hen
    have hx0 : (x.toList == [101, 110]) = false := by simpa using hen
    have ec : clB (lkI x) h mi = H ++ (⟨#[58]⟩ ++ M) := by rw [Hcl.out, if_neg hk]
    rw [ec]
    clear ec hen hk
    go_enter Tryd.func12, Tryd.ntmps12
    go_wp2_with fail
    go_at_call 23
    refine (HM.out _ HT.out).mono ?_
    rintro e w1 ⟨rfl, hb1⟩
    have S1 := ckS_later hb1 Start.out
    obtain ⟨c1, c2, c3, c4, c5⟩ := S1
    go_wp2_with fail
    go_at_call 23
    refine (HH.out _ c4).mono ?_
    rintro e w2 ⟨rfl, hb2⟩
    go_wp2
    go_ret
    exact ⟨rfl, c5.trans (hb2.mono (by omega))⟩
set_option maxHeartbeats 1000000 in
theorem between_any (x : ByteArray) (w : World) : Calls Tryd.prog 14 #[.string x] w fun e w' => e = .returned (.string (btB (lkI x))) ∧ w' = w := by
  by_cases hen : (x.toList == [101, 110]) = true
  · have hk : lkI x = 0 := by unfold lkI; rw [if_pos hen]
    obtain rfl := xM_eq hen
    rw [hk]
    clear hk hen
    go_enter Tryd.func14, Tryd.ntmps14
    go_wp2
    go_ret
    exact ⟨rfl, rfl⟩
  · have hk : lkI x ≠ 0 := by
      unfold lkI
      rw [if_neg hen]
      split
      · simp
      · split <;> simp
    have hx : (x.toList == [101, 110]) = false := by simpa using hen
    have e : btB (lkI x) = ⟨#[32]⟩ := by unfold btB; rw [if_neg hk]
    rw [e]
    clear e hk hen
    go_enter Tryd.func14, Tryd.ntmps14
    go_wp2
    go_ret
    exact ⟨rfl, rfl⟩
end Go.Proofs.YtmkcebngobanjaaDoor
