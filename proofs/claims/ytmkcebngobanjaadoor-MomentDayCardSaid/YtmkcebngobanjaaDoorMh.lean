/-
  MomentParts; MomentDay.
-/
import Derived.Test.YtmkcebngobanjaaDoorMg
import Derived.IntWalk
namespace Go.Proofs.YtmkcebngobanjaaDoor
open Go.RowKit
set_option linter.unusedVariables false
set_option linter.unusedSimpArgs false

theorem fm_0 (k : Nat) (y m d h mi : Int) : fmB k 0 y m d h mi = dayB k y m d := rfl
theorem fm_1 (k : Nat) (y m d h mi : Int) : fmB k 1 y m d h mi = clB k h mi := rfl
theorem fm_2 (k : Nat) (y m d h mi : Int) : fmB k 2 y m d h mi = (dayB k y m d ++ btB k) ++ clB k h mi := rfl
theorem fm_o (k : Nat) (st y m d h mi : Int) (h1 : st ≠ 1) (h2 : st ≠ 2) : fmB k st y m d h mi = dayB k y m d := by
  unfold fmB
  rw [if_neg h1, if_neg h2]
set_option maxHeartbeats 4000000 in
theorem lawParts (x : ByteArray) (sec odd : Int) (w : World) (ht : TabPow w) : Calls Tryd.prog 6 #[.string x, .int .i64 sec, .int .i64 odd] w fun e w' => e = .returned (.bool true) ∧ Below w.heap.size w w' := by
  obtain ⟨y, m, d, h, mi, se, wd, a⟩ := mom_ex (clampS sec)
  have hcb := clamp_bd sec
  obtain ⟨y0, y1, m0, m1, d0, d1, h0, h1, i0, i1, s0, s1, wd0, wd1⟩ := mom_bd a (by omega) (by omega)
  have zD := day_size (lkI x) (y := y) (m := m) (d := d) ⟨by omega, by omega⟩ ⟨m0, m1⟩ ⟨d0, d1⟩
  have zC := cl_size (lkI x) (h := h) (mi := mi) ⟨h0, by omega⟩ ⟨i0, by omega⟩
  have hD : FmTo x sec 0 (dayB (lkI x) y m d) := fun W hT => by have := format_any x sec 0 a W hT; rw [fm_0] at this; exact this
  have hC : FmTo x sec 1 (clB (lkI x) h mi) := fun W hT => by have := format_any x sec 1 a W hT; rw [fm_1] at this; exact this
  have hB : FmTo x sec 2 ((dayB (lkI x) y m d ++ btB (lkI x)) ++ clB (lkI x) h mi) := fun W hT => by have := format_any x sec 2 a W hT; rw [fm_2] at this; exact this
  have hO : ∀ o : Int, o ≠ 1 → o ≠ 2 → FmTo x sec o (dayB (lkI x) y m d) := fun o o1 o2 W hT => by have := format_any x sec o a W hT; rw [fm_o _ _ _ _ _ _ _ o1 o2] at this; exact this
  generalize dayB (lkI x) y m d = D at *
  generalize clB (lkI x) h mi = C at *
  have n1 : ¬ 9223372036854775807 < D.size + 2 := by omega
  have n2 : ¬ 9223372036854775807 < D.size + 2 + C.size := by omega
  have n3 : ¬ 9223372036854775807 < D.size + 1 := by omega
  have n4 : ¬ 9223372036854775807 < D.size + 1 + C.size := by omega
  have HD := Lib.hid hD
  have HC := Lib.hid hC
  have Ht := Lib.hid ht
  clear a hcb y0 y1 m0 m1 d0 d1 h0 h1 i0 i1 s0 s1 wd0 wd1 zD zC hD hC ht
  obtain ⟨o, ho⟩ : ∃ o, o = if 0 ≤ odd ∧ odd ≤ 2 then odd + 3 else odd := ⟨_, rfl⟩
  have HO : Hid (FmTo x sec o D) := by
    refine hO o ?_ ?_ <;> (rw [ho]; split <;> omega)
  clear hO
  by_cases hen : (x.toList == [101, 110]) = true
  · have hk : btB (lkI x) = ⟨#[44, 32]⟩ := by
      have : lkI x = 0 := by unfold lkI; rw [if_pos hen]
      rw [this]; rfl
    rw [hk] at hB
    obtain rfl := xM_eq hen
    have HB := Lib.hid hB
    clear hB hk hen
    by_cases c0 : 0 ≤ odd
    · have c0' : decide (0 ≤ odd) = true := decide_eq_true c0
      by_cases c2 : odd ≤ 2
      · have c2' : decide (odd ≤ 2) = true := decide_eq_true c2
        rw [if_pos ⟨c0, c2⟩] at ho
        subst ho
        go_enter Tryd.func6, Tryd.ntmps6
        go_wp2_with fail
        go_at_call 7
        refine (headM_any _ Ht.out).mono ?_
        rintro e w1 ⟨rfl, hb1⟩
        obtain ⟨k1, k2, k3⟩ := hdS_later hb1 ⟨Ht.out, Nat.le_refl _, Below.refl _ _⟩
        clear hb1
        go_wp2_with fail
        go_at_call 8
        refine (FmTo.at_ HD.out _ k1).mono ?_
        rintro e w2 ⟨rfl, hb2⟩
        obtain ⟨k1', k2', k3'⟩ := hdS_later hb2 ⟨k1, k2, k3⟩
        clear hb2 k1 k2 k3
        go_wp2_with fail
        go_at_call 8
        refine (FmTo.at_ HC.out _ k1').mono ?_
        rintro e w3 ⟨rfl, hb3⟩
        obtain ⟨k1, k2, k3⟩ := hdS_later hb3 ⟨k1', k2', k3'⟩
        clear hb3 k1' k2' k3'
        go_wp2_with fail
        go_at_call 8
        refine (FmTo.at_ HB.out _ k1).mono ?_
        rintro e w4 ⟨rfl, hb4⟩
        obtain ⟨k1', k2', k3'⟩ := hdS_later hb4 ⟨k1, k2, k3⟩
        clear hb4 k1 k2 k3
        go_wp2_with fail
        go_at_call 8
        refine (FmTo.at_ HO.out _ k1').mono ?_
        rintro e w5 ⟨rfl, hb5⟩
        obtain ⟨k1, k2, k3⟩ := hdS_later hb5 ⟨k1', k2', k3'⟩
        clear hb5 k1' k2' k3'
        go_wp2
        go_ret
        exact ⟨rfl, k3⟩
      · have c2' : decide (odd ≤ 2) = false := decide_eq_false c2
        rw [if_neg (fun h => c2 h.2)] at ho
        subst ho
        go_enter Tryd.func6, Tryd.ntmps6
        go_wp2_with fail
        go_at_call 7
        refine (headM_any _ Ht.out).mono ?_
        rintro e w1 ⟨rfl, hb1⟩
        obtain ⟨k1, k2, k3⟩ := hdS_later hb1 ⟨Ht.out, Nat.le_refl _, Below.refl _ _⟩
        clear hb1
        go_wp2_with fail
        go_at_call 8
        refine (FmTo.at_ HD.out _ k1).mono ?_
        rintro e w2 ⟨rfl, hb2⟩
        obtain ⟨k1', k2', k3'⟩ := hdS_later hb2 ⟨k1, k2, k3⟩
        clear hb2 k1 k2 k3
        go_wp2_with fail
        go_at_call 8
        refine (FmTo.at_ HC.out _ k1').mono ?_
        rintro e w3 ⟨rfl, hb3⟩
        obtain ⟨k1, k2, k3⟩ := hdS_later hb3 ⟨k1', k2', k3'⟩
        clear hb3 k1' k2' k3'
        go_wp2_with fail
        go_at_call 8
        refine (FmTo.at_ HB.out _ k1).mono ?_
        rintro e w4 ⟨rfl, hb4⟩
        obtain ⟨k1', k2', k3'⟩ := hdS_later hb4 ⟨k1, k2, k3⟩
        clear hb4 k1 k2 k3
        go_wp2_with fail
        go_at_call 8
        refine (FmTo.at_ HO.out _ k1').mono ?_
        rintro e w5 ⟨rfl, hb5⟩
        obtain ⟨k1, k2, k3⟩ := hdS_later hb5 ⟨k1', k2', k3'⟩
        clear hb5 k1' k2' k3'
        go_wp2
        go_ret
        exact ⟨rfl, k3⟩
    · have c0' : decide (0 ≤ odd) = false := decide_eq_false c0
      rw [if_neg (fun h => c0 h.1)] at ho
      subst ho
      go_enter Tryd.func6, Tryd.ntmps6
      go_wp2_with fail
      go_at_call 7
      refine (headM_any _ Ht.out).mono ?_
      rintro e w1 ⟨rfl, hb1⟩
      obtain ⟨k1, k2, k3⟩ := hdS_later hb1 ⟨Ht.out, Nat.le_refl _, Below.refl _ _⟩
      clear hb1
      go_wp2_with fail
      go_at_call 8
      refine (FmTo.at_ HD.out _ k1).mono ?_
      rintro e w2 ⟨rfl, hb2⟩
      obtain ⟨k1', k2', k3'⟩ := hdS_later hb2 ⟨k1, k2, k3⟩
      clear hb2 k1 k2 k3
      go_wp2_with fail
      go_at_call 8
      refine (FmTo.at_ HC.out _ k1').mono ?_
      rintro e w3 ⟨rfl, hb3⟩
      obtain ⟨k1, k2, k3⟩ := hdS_later hb3 ⟨k1', k2', k3'⟩
      clear hb3 k1' k2' k3'
      go_wp2_with fail
      go_at_call 8
      refine (FmTo.at_ HB.out _ k1).mono ?_
      rintro e w4 ⟨rfl, hb4⟩
      obtain ⟨k1', k2', k3'⟩ := hdS_later hb4 ⟨k1, k2, k3⟩
      clear hb4 k1 k2 k3
      go_wp2_with fail
      go_at_call 8
      refine (FmTo.at_ HO.out _ k1').mono ?_
      rintro e w5 ⟨rfl, hb5⟩
      obtain ⟨k1, k2, k3⟩ := hdS_later hb5 ⟨k1', k2', k3'⟩
      clear hb5 k1' k2' k3'
      go_wp2
      go_ret
      exact ⟨rfl, k3⟩
  · have hk : btB (lkI x) = ⟨#[32]⟩ := by
      have : lkI x ≠ 0 := by
        unfold lkI
        rw [if_neg hen]
        split
        · simp
        · split <;> simp
      unfold btB
      rw [if_neg this]
    rw [hk] at hB
    have hx : (x.toList == [101, 110]) = false := by simpa using hen
    have HB := Lib.hid hB
    clear hB hk hen
    by_cases c0 : 0 ≤ odd
    · have c0' : decide (0 ≤ odd) = true := decide_eq_true c0
      by_cases c2 : odd ≤ 2
      · have c2' : decide (odd ≤ 2) = true := decide_eq_true c2
        rw [if_pos ⟨c0, c2⟩] at ho
        subst ho
        go_enter Tryd.func6, Tryd.ntmps6
        go_wp2_with fail
        go_at_call 7
        refine (headM_any _ Ht.out).mono ?_
        rintro e w1 ⟨rfl, hb1⟩
        obtain ⟨k1, k2, k3⟩ := hdS_later hb1 ⟨Ht.out, Nat.le_refl _, Below.refl _ _⟩
        clear hb1
        go_wp2_with fail
        go_at_call 8
        refine (FmTo.at_ HD.out _ k1).mono ?_
        rintro e w2 ⟨rfl, hb2⟩
        obtain ⟨k1', k2', k3'⟩ := hdS_later hb2 ⟨k1, k2, k3⟩
        clear hb2 k1 k2 k3
        go_wp2_with fail
        go_at_call 8
        refine (FmTo.at_ HC.out _ k1').mono ?_
        rintro e w3 ⟨rfl, hb3⟩
        obtain ⟨k1, k2, k3⟩ := hdS_later hb3 ⟨k1', k2', k3'⟩
        clear hb3 k1' k2' k3'
        go_wp2_with fail
        go_at_call 8
        refine (FmTo.at_ HB.out _ k1).mono ?_
        rintro e w4 ⟨rfl, hb4⟩
        obtain ⟨k1', k2', k3'⟩ := hdS_later hb4 ⟨k1, k2, k3⟩
        clear hb4 k1 k2 k3
        go_wp2_with fail
        go_at_call 8
        refine (FmTo.at_ HO.out _ k1').mono ?_
        rintro e w5 ⟨rfl, hb5⟩
        obtain ⟨k1, k2, k3⟩ := hdS_later hb5 ⟨k1', k2', k3'⟩
        clear hb5 k1' k2' k3'
        go_wp2
        go_ret
        exact ⟨rfl, k3⟩
      · have c2' : decide (odd ≤ 2) = false := decide_eq_false c2
        rw [if_neg (fun h => c2 h.2)] at ho
        subst ho
        go_enter Tryd.func6, Tryd.ntmps6
        go_wp2_with fail
        go_at_call 7
        refine (headM_any _ Ht.out).mono ?_
        rintro e w1 ⟨rfl, hb1⟩
        obtain ⟨k1, k2, k3⟩ := hdS_later hb1 ⟨Ht.out, Nat.le_refl _, Below.refl _ _⟩
        clear hb1
        go_wp2_with fail
        go_at_call 8
        refine (FmTo.at_ HD.out _ k1).mono ?_
        rintro e w2 ⟨rfl, hb2⟩
        obtain ⟨k1', k2', k3'⟩ := hdS_later hb2 ⟨k1, k2, k3⟩
        clear hb2 k1 k2 k3
        go_wp2_with fail
        go_at_call 8
        refine (FmTo.at_ HC.out _ k1').mono ?_
        rintro e w3 ⟨rfl, hb3⟩
        obtain ⟨k1, k2, k3⟩ := hdS_later hb3 ⟨k1', k2', k3'⟩
        clear hb3 k1' k2' k3'
        go_wp2_with fail
        go_at_call 8
        refine (FmTo.at_ HB.out _ k1).mono ?_
        rintro e w4 ⟨rfl, hb4⟩
        obtain ⟨k1', k2', k3'⟩ := hdS_later hb4 ⟨k1, k2, k3⟩
        clear hb4 k1 k2 k3
        go_wp2_with fail
        go_at_call 8
        refine (FmTo.at_ HO.out _ k1').mono ?_
        rintro e w5 ⟨rfl, hb5⟩
        obtain ⟨k1, k2, k3⟩ := hdS_later hb5 ⟨k1', k2', k3'⟩
        clear hb5 k1' k2' k3'
        go_wp2
        go_ret
        exact ⟨rfl, k3⟩
    · have c0' : decide (0 ≤ odd) = false := decide_eq_false c0
      rw [if_neg (fun h => c0 h.1)] at ho
      subst ho
      go_enter Tryd.func6, Tryd.ntmps6
      go_wp2_with fail
      go_at_call 7
      refine (headM_any _ Ht.out).mono ?_
      rintro e w1 ⟨rfl, hb1⟩
      obtain ⟨k1, k2, k3⟩ := hdS_later hb1 ⟨Ht.out, Nat.le_refl _, Below.refl _ _⟩
      clear hb1
      go_wp2_with fail
      go_at_call 8
      refine (FmTo.at_ HD.out _ k1).mono ?_
      rintro e w2 ⟨rfl, hb2⟩
      obtain ⟨k1', k2', k3'⟩ := hdS_later hb2 ⟨k1, k2, k3⟩
      clear hb2 k1 k2 k3
      go_wp2_with fail
      go_at_call 8
      refine (FmTo.at_ HC.out _ k1').mono ?_
      rintro e w3 ⟨rfl, hb3⟩
      obtain ⟨k1, k2, k3⟩ := hdS_later hb3 ⟨k1', k2', k3'⟩
      clear hb3 k1' k2' k3'
      go_wp2_with fail
      go_at_call 8
      refine (FmTo.at_ HB.out _ k1).mono ?_
      rintro e w4 ⟨rfl, hb4⟩
      obtain ⟨k1', k2', k3'⟩ := hdS_later hb4 ⟨k1, k2, k3⟩
      clear hb4 k1 k2 k3
      go_wp2_with fail
      go_at_call 8
      refine (FmTo.at_ HO.out _ k1').mono ?_
      rintro e w5 ⟨rfl, hb5⟩
      obtain ⟨k1, k2, k3⟩ := hdS_later hb5 ⟨k1', k2', k3'⟩
      clear hb5 k1' k2' k3'
      go_wp2
      go_ret
      exact ⟨rfl, k3⟩
end Go.Proofs.YtmkcebngobanjaaDoor
