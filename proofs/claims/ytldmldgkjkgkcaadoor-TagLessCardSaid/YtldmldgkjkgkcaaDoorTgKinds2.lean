/-
  Package tag: which part has which form: regions and variants.
-/
import Derived.Test.YtldmldgkjkgkcaaDoorTgKinds
namespace Go.Proofs.YtldmldgkjkgkcaaDoor
open Go.RowKit
set_option linter.unusedVariables false
set_option linter.unusedSimpArgs false

theorem isRegion_any (s : ByteArray) (w : World) (hs : s.size ≤ maxLen) : Calls Tryd.prog 21 #[.string s] w fun e w' => e = .returned (.bool (regionB s.data.toList)) ∧ w' = w := by
  have hs' := hs
  unfold maxLen at hs'
  by_cases h : s.size = 2
  · cases hp : s.data.toList.all letB
    all_goals
      have Hp := Lib.hid hp
      clear hp
      have n3 : ¬ (s.size : Int) = 3 := by omega
      go_enter Tryd.func21, Tryd.ntmps21
      go_wp2_with (go_at_call 29; refine (isMadeOf_any s _ letB _ hs enters_letter isLetter_any).mono ?_; rw [Hp.out]; rintro e w' ⟨rfl, rfl⟩)
      go_ret
      refine ⟨retB ?_, rfl⟩
      simp only [regionB, Hp.out]
      simp [h]
  · by_cases h3 : s.size = 3
    · go_enter Tryd.func21, Tryd.ntmps21
      go_wp2_with (go_at_call 29; refine (isMadeOf_any s _ digTB _ hs enters_digit isDigit_any).mono ?_; rintro e w' ⟨rfl, rfl⟩)
      go_ret
      refine ⟨retB ?_, rfl⟩
      simp [regionB, h3]
    · have n2 : ¬ (s.size : Int) = 2 := by omega
      have n3 : ¬ (s.size : Int) = 3 := by omega
      go_enter Tryd.func21, Tryd.ntmps21
      go_wp2_with fail
      go_ret
      refine ⟨retB ?_, rfl⟩
      simp [regionB, h, h3]

theorem headD_get (s : ByteArray) (h : 0 < s.size) : s.data.toList.headD 0 = s[0] := by
  cases s with | mk d => cases d with | mk l => cases l with
    | nil => simp [ByteArray.size] at h
    | cons a r => rfl
theorem isVariant_any (s : ByteArray) (w : World) (hs : s.size ≤ maxLen) : Calls Tryd.prog 22 #[.string s] w fun e w' => e = .returned (.bool (variantB s.data.toList)) ∧ w' = w := by
  have hs' := hs
  unfold maxLen at hs'
  by_cases h : s.size = 4
  · have h0 : 0 < s.size := by omega
    cases hp : digTB s[0]
    · have Hp := Lib.hid hp
      have Hd := Lib.hid (headD_get s h0)
      clear hp
      go_enter Tryd.func22, Tryd.ntmps22
      go_wp2_with (go_at_call 38; refine (isDigit_any s[0] _).mono ?_; rw [Hp.out]; rintro e w' ⟨rfl, rfl⟩)
      go_ret
      refine ⟨retB ?_, rfl⟩
      simp only [variantB, Hd.out, Hp.out]
      simp [h]
    · have Hp := Lib.hid hp
      have Hd := Lib.hid (headD_get s h0)
      clear hp
      go_enter Tryd.func22, Tryd.ntmps22
      go_wp2_with (first
        | (go_at_call 38; refine (isDigit_any s[0] _).mono ?_; rw [Hp.out]; rintro e w' ⟨rfl, rfl⟩)
        | (go_at_call 29; refine (isMadeOf_any s _ letDigB _ hs enters_letdig isLetterOrDigit_any).mono ?_; rintro e w' ⟨rfl, rfl⟩))
      go_ret
      refine ⟨retB ?_, rfl⟩
      simp only [variantB, Hd.out, Hp.out]
      simp [h]
  · have n4 : ¬ (s.size : Int) = 4 := by omega
    by_cases hlo : 4 ≤ s.size
    · by_cases hhi : s.size ≤ 8
      · go_enter Tryd.func22, Tryd.ntmps22
        go_wp2_with (go_at_call 29; refine (isMadeOf_any s _ letDigB _ hs enters_letdig isLetterOrDigit_any).mono ?_; rintro e w' ⟨rfl, rfl⟩)
        go_ret
        refine ⟨retB ?_, rfl⟩
        simp [variantB, h, hlo, hhi]
      · go_enter Tryd.func22, Tryd.ntmps22
        go_wp2_with fail
        go_ret
        refine ⟨retB ?_, rfl⟩
        simp [variantB, h, hlo, hhi]
    · go_enter Tryd.func22, Tryd.ntmps22
      go_wp2_with fail
      go_ret
      refine ⟨retB ?_, rfl⟩
      simp [variantB, h, hlo]
end Go.Proofs.YtldmldgkjkgkcaaDoor
