/-
  The law's own Number.
-/
import Derived.Test.YtpblmdginlkedabScNames
import Derived.Test.YtpblmdginlkedabScMath3
import Derived.Deep.DeepCutAuto
namespace Go.Proofs.Ytpblmdginlkedab
open Go.RowKit
set_option linter.unusedVariables false

theorem bad_num (T : ByteArray) (j : Nat) (h : j < T.size) (hb : okAt T.data.toList j = false) : numB T.data.toList = false := by
  apply Bool.eq_false_iff.2
  intro hq
  have := (of_decide_eq_true hq).2.1 j (by rw [size_data]; exact h)
  rw [hb] at this
  cases this
set_option maxHeartbeats 8000000 in
theorem lnumber_any (s : ByteArray) (w : World) (hs : s.size ≤ 1000000) :
    Calls Try.prog 19 #[.string s] w fun e w' => e = .returned (.bool (lnumB s.data.toList)) ∧ w = w' := by
  obtain ⟨R, hR⟩ : ∃ R, lnumB s.data.toList = R := ⟨_, rfl⟩
  rw [hR]
  by_cases hpos : 0 < s.size
  · have hp1 : decide ((0 : Int) < (s.size : Int)) = true := by simp; omega
    have hat : at0 s.data.toList 0 = s[0] := at0_get _ 0 (by rw [size_data]; exact hpos)
    by_cases h45 : s[0] = 45
    · have h1 : ((s[0].toNat : Int) == 45) = true := by rw [h45]; rfl
      obtain ⟨T, hT⟩ : ∃ T : ByteArray, s.extract 1 s.size = T := ⟨_, rfl⟩
      have hTs : T.size ≤ 1000000 := by rw [← hT, ByteArray.size_extract]; omega
      have HR : Hid (numB T.data.toList = R) := Lib.hid (by
        rw [← hR, ← hT, extract_drop]
        unfold lnumB strip
        rw [hat, if_pos h45])
      clear hR hat h45
      go_enter Try.func19, Try.ntmps19
      go_wp2_with fail
      go_loop [3, 4] (fun c t => ∃ (j n : Nat), t = .int .i64 j ∧ c = .int .i64 n ∧ j ≤ T.size ∧ n ≤ j ∧ Hid (n = cntP T.data.toList j) ∧ Hid (∀ m, m < j → okAt T.data.toList m = true)) (fun _ t => T.size - (intOf t).toNat)
      case atStart => exact ⟨0, 0, rfl, rfl, Nat.zero_le _, Nat.le_refl _, Lib.hid rfl, Lib.hid fun m h => by omega⟩
      case round =>
        obtain ⟨j, n, rfl, rfl, hjs, hnj, hn, hok⟩ := hrel
        by_cases hlt : j < T.size
        · have hlt' : j < T.data.toList.length := by rw [size_data]; exact hlt
          have Hat := Lib.hid (at0_get T.data.toList j hlt')
          have Hnext := Lib.hid (fun (h : okAt T.data.toList j = true) => Lib.hid (show ∀ m, m < j + 1 → okAt T.data.toList m = true from fun m hm => by
            by_cases e : m = j
            · subst e; exact h
            · exact hok.out m (by omega)))
          have Hcnt : Hid (cntP T.data.toList (j + 1) = cntP T.data.toList j + if ptAt T.data.toList j = true then 1 else 0) := Lib.hid rfl
          have Hbad := Lib.hid (bad_num T j hlt)
          rw [HR.out] at Hbad
          have hq : ((T[j].toNat : Int) == 46) = decide (T[j] = 46) := by
            rw [Bool.eq_iff_iff, beq_iff_eq, decide_eq_true_iff]
            constructor
            · intro h; exact UInt8.toNat_inj.1 (by have : (46 : UInt8).toNat = 46 := rfl; omega)
            · intro h; rw [h]; rfl
          by_cases h46 : T[j] = 46
          · have h1 : ((T[j].toNat : Int) == 46) = true := by rw [hq]; simpa using h46
            have hd0 : dgB T[j] = false := by rw [h46]; decide
            have Hd0 := Lib.hid hd0
            have H46 := Lib.hid h46
            clear hq hd0 h46
            by_cases hj0 : j = 0
            · subst hj0
              obtain rfl : R = false := Hbad.out (by unfold okAt ptAt; rw [Hat.out]; rw [show dgB T.data.toList[0] = false from Hd0.out]; simp)
              go_wp2_with (go_at_call 13; refine (ldigit_any T[0] _).mono ?_; rw [Hd0.out]; rintro e w' ⟨rfl, rfl⟩)
              go_ret
              exact ⟨rfl, rfl⟩
            · have h2 : decide ((0 : Int) < (j : Int)) = true := by simp; omega
              have h2n : decide (0 < j) = true := by simp; omega
              by_cases hje : j + 1 < T.size
              · have h3 : decide ((j : Int) < (T.size : Int) - 1) = true := by simp; omega
                have Hp := Lib.hid (show ptAt T.data.toList j = true by unfold ptAt; rw [Hat.out, size_data]; exact decide_eq_true ⟨H46.out, by omega, hje⟩)
                have Ho := Lib.hid (show okAt T.data.toList j = true by unfold okAt; rw [Hp.out]; rfl)
                go_wp2_with (go_at_call 13; refine (ldigit_any T[j] _).mono ?_; rw [Hd0.out]; rintro e w' ⟨rfl, rfl⟩)
                go_round
                case rel => exact ⟨j + 1, n + 1, by go_num, by go_num, by omega, by omega, Lib.hid (by rw [Hcnt.out, if_pos Hp.out, ← hn.out]), Hnext.out Ho.out⟩
                case measure => simp [intOf]; omega
              · have h3 : decide ((j : Int) < (T.size : Int) - 1) = false := by simp; omega
                obtain rfl : R = false := Hbad.out (by unfold okAt ptAt; rw [Hat.out, size_data]; rw [show dgB T.data.toList[j] = false from Hd0.out]; simp; omega)
                go_wp2_with (go_at_call 13; refine (ldigit_any T[j] _).mono ?_; rw [Hd0.out]; rintro e w' ⟨rfl, rfl⟩)
                go_ret
                exact ⟨rfl, rfl⟩
          · have h1 : ((T[j].toNat : Int) == 46) = false := by rw [hq]; simpa using h46
            have Hp := Lib.hid (show ptAt T.data.toList j = false by unfold ptAt; rw [Hat.out]; exact decide_eq_false fun x => h46 x.1)
            clear hq h46
            cases hd : dgB T[j]
            · obtain rfl : R = false := Hbad.out (by unfold okAt; rw [Hp.out, Hat.out]; exact hd)
              have Hd := Lib.hid hd
              clear hd
              go_wp2_with (go_at_call 13; refine (ldigit_any T[j] _).mono ?_; rw [Hd.out]; rintro e w' ⟨rfl, rfl⟩)
              go_ret
              exact ⟨rfl, rfl⟩
            · have Ho := Lib.hid (show okAt T.data.toList j = true by unfold okAt; rw [Hp.out, Hat.out]; exact hd)
              have Hd := Lib.hid hd
              clear hd
              go_wp2_with (go_at_call 13; refine (ldigit_any T[j] _).mono ?_; rw [Hd.out]; rintro e w' ⟨rfl, rfl⟩)
              go_round
              case rel => exact ⟨j + 1, n, by go_num, rfl, by omega, by omega, Lib.hid (by rw [Hcnt.out, if_neg (by rw [Hp.out]; decide), ← hn.out]; rfl), Hnext.out Ho.out⟩
              case measure => simp [intOf]; omega
        · obtain rfl : j = T.size := by omega
          have Hfin := Lib.hid (show R = (decide (0 < T.size) && decide (n ≤ 1)) by
            rw [← HR.out]
            unfold numB
            rw [Bool.eq_iff_iff, Bool.and_eq_true, decide_eq_true_iff, decide_eq_true_iff, decide_eq_true_iff, size_data, ← hn.out]
            exact ⟨fun h => ⟨h.1, h.2.2⟩, fun h => ⟨h.1, hok.out, h.2⟩⟩)
          by_cases hz : 0 < T.size
          · have hz1 : decide ((0 : Int) < (T.size : Int)) = true := decide_eq_true (by omega); have hz2 : decide (0 < T.size) = true := decide_eq_true hz
            go_wp2
            go_ret
            exact ⟨ret_bool (by rw [Hfin.out, hz2]; simp; omega), rfl⟩
          · have hz0 : T.size = 0 := by omega
            have Hf2 := Lib.hid (show R = false by rw [Hfin.out, decide_eq_false hz]; rfl)
            go_wp2
            go_ret
            exact ⟨ret_bool (by rw [Hf2.out]), rfl⟩
    · have h1 : ((s[0].toNat : Int) == 45) = false := by
        apply beq_eq_false_iff_ne.2
        intro h
        exact h45 (UInt8.toNat_inj.1 (by have : (45 : UInt8).toNat = 45 := rfl; omega))
      have HR : Hid (numB s.data.toList = R) := Lib.hid (by
        rw [← hR]
        unfold lnumB strip
        rw [hat, if_neg h45])
      clear hR hat h45
      have hTs := hs
      go_enter Try.func19, Try.ntmps19
      go_wp2_with fail
      go_loop [3, 4] (fun c t => ∃ (j n : Nat), t = .int .i64 j ∧ c = .int .i64 n ∧ j ≤ s.size ∧ n ≤ j ∧ Hid (n = cntP s.data.toList j) ∧ Hid (∀ m, m < j → okAt s.data.toList m = true)) (fun _ t => s.size - (intOf t).toNat)
      case atStart => exact ⟨0, 0, rfl, rfl, Nat.zero_le _, Nat.le_refl _, Lib.hid rfl, Lib.hid fun m h => by omega⟩
      case round =>
        obtain ⟨j, n, rfl, rfl, hjs, hnj, hn, hok⟩ := hrel
        by_cases hlt : j < s.size
        · have hlt' : j < s.data.toList.length := by rw [size_data]; exact hlt
          have Hat := Lib.hid (at0_get s.data.toList j hlt')
          have Hnext := Lib.hid (fun (h : okAt s.data.toList j = true) => Lib.hid (show ∀ m, m < j + 1 → okAt s.data.toList m = true from fun m hm => by
            by_cases e : m = j
            · subst e; exact h
            · exact hok.out m (by omega)))
          have Hcnt : Hid (cntP s.data.toList (j + 1) = cntP s.data.toList j + if ptAt s.data.toList j = true then 1 else 0) := Lib.hid rfl
          have Hbad := Lib.hid (bad_num s j hlt)
          rw [HR.out] at Hbad
          have hq : ((s[j].toNat : Int) == 46) = decide (s[j] = 46) := by
            rw [Bool.eq_iff_iff, beq_iff_eq, decide_eq_true_iff]
            constructor
            · intro h; exact UInt8.toNat_inj.1 (by have : (46 : UInt8).toNat = 46 := rfl; omega)
            · intro h; rw [h]; rfl
          by_cases h46 : s[j] = 46
          · have h1 : ((s[j].toNat : Int) == 46) = true := by rw [hq]; simpa using h46
            have hd0 : dgB s[j] = false := by rw [h46]; decide
            have Hd0 := Lib.hid hd0
            have H46 := Lib.hid h46
            clear hq hd0 h46
            by_cases hj0 : j = 0
            · subst hj0
              obtain rfl : R = false := Hbad.out (by unfold okAt ptAt; rw [Hat.out]; rw [show dgB s.data.toList[0] = false from Hd0.out]; simp)
              go_wp2_with (go_at_call 13; refine (ldigit_any s[0] _).mono ?_; rw [Hd0.out]; rintro e w' ⟨rfl, rfl⟩)
              go_ret
              exact ⟨rfl, rfl⟩
            · have h2 : decide ((0 : Int) < (j : Int)) = true := by simp; omega
              have h2n : decide (0 < j) = true := by simp; omega
              by_cases hje : j + 1 < s.size
              · have h3 : decide ((j : Int) < (s.size : Int) - 1) = true := by simp; omega
                have Hp := Lib.hid (show ptAt s.data.toList j = true by unfold ptAt; rw [Hat.out, size_data]; exact decide_eq_true ⟨H46.out, by omega, hje⟩)
                have Ho := Lib.hid (show okAt s.data.toList j = true by unfold okAt; rw [Hp.out]; rfl)
                go_wp2_with (go_at_call 13; refine (ldigit_any s[j] _).mono ?_; rw [Hd0.out]; rintro e w' ⟨rfl, rfl⟩)
                go_round
                case rel => exact ⟨j + 1, n + 1, by go_num, by go_num, by omega, by omega, Lib.hid (by rw [Hcnt.out, if_pos Hp.out, ← hn.out]), Hnext.out Ho.out⟩
                case measure => simp [intOf]; omega
              · have h3 : decide ((j : Int) < (s.size : Int) - 1) = false := by simp; omega
                obtain rfl : R = false := Hbad.out (by unfold okAt ptAt; rw [Hat.out, size_data]; rw [show dgB s.data.toList[j] = false from Hd0.out]; simp; omega)
                go_wp2_with (go_at_call 13; refine (ldigit_any s[j] _).mono ?_; rw [Hd0.out]; rintro e w' ⟨rfl, rfl⟩)
                go_ret
                exact ⟨rfl, rfl⟩
          · have h1 : ((s[j].toNat : Int) == 46) = false := by rw [hq]; simpa using h46
            have Hp := Lib.hid (show ptAt s.data.toList j = false by unfold ptAt; rw [Hat.out]; exact decide_eq_false fun x => h46 x.1)
            clear hq h46
            cases hd : dgB s[j]
            · obtain rfl : R = false := Hbad.out (by unfold okAt; rw [Hp.out, Hat.out]; exact hd)
              have Hd := Lib.hid hd
              clear hd
              go_wp2_with (go_at_call 13; refine (ldigit_any s[j] _).mono ?_; rw [Hd.out]; rintro e w' ⟨rfl, rfl⟩)
              go_ret
              exact ⟨rfl, rfl⟩
            · have Ho := Lib.hid (show okAt s.data.toList j = true by unfold okAt; rw [Hp.out, Hat.out]; exact hd)
              have Hd := Lib.hid hd
              clear hd
              go_wp2_with (go_at_call 13; refine (ldigit_any s[j] _).mono ?_; rw [Hd.out]; rintro e w' ⟨rfl, rfl⟩)
              go_round
              case rel => exact ⟨j + 1, n, by go_num, rfl, by omega, by omega, Lib.hid (by rw [Hcnt.out, if_neg (by rw [Hp.out]; decide), ← hn.out]; rfl), Hnext.out Ho.out⟩
              case measure => simp [intOf]; omega
        · obtain rfl : j = s.size := by omega
          have Hfin := Lib.hid (show R = (decide (0 < s.size) && decide (n ≤ 1)) by
            rw [← HR.out]
            unfold numB
            rw [Bool.eq_iff_iff, Bool.and_eq_true, decide_eq_true_iff, decide_eq_true_iff, decide_eq_true_iff, size_data, ← hn.out]
            exact ⟨fun h => ⟨h.1, h.2.2⟩, fun h => ⟨h.1, hok.out, h.2⟩⟩)
          by_cases hz : 0 < s.size
          · have hz1 : decide ((0 : Int) < (s.size : Int)) = true := decide_eq_true (by omega); have hz2 : decide (0 < s.size) = true := decide_eq_true hz
            go_wp2
            go_ret
            exact ⟨ret_bool (by rw [Hfin.out, hz2]; simp; omega), rfl⟩
          · have hz0 : s.size = 0 := by omega
            have Hf2 := Lib.hid (show R = false by rw [Hfin.out, decide_eq_false hz]; rfl)
            go_wp2
            go_ret
            exact ⟨ret_bool (by rw [Hf2.out]), rfl⟩
  · have hp1 : decide ((0 : Int) < (s.size : Int)) = false := decide_eq_false (by omega)
    have hp2 : decide (0 < s.size) = false := decide_eq_false hpos
    obtain rfl : R = false := by
      rw [← hR]
      have : s.data.toList = [] := List.eq_nil_of_length_eq_zero (by rw [size_data]; omega)
      rw [this]
      decide
    have hz : s.size = 0 := by omega
    clear hR
    go_enter Try.func19, Try.ntmps19
    go_wp2_with fail
    go_loop [3, 4] (fun c t => t = .int .i64 0 ∧ c = .int .i64 0) (fun _ t => 0)
    case atStart => exact ⟨rfl, rfl⟩
    case round =>
      obtain ⟨rfl, rfl⟩ := hrel
      go_wp2
      go_ret
      exact ⟨rfl, rfl⟩
end Go.Proofs.Ytpblmdginlkedab
