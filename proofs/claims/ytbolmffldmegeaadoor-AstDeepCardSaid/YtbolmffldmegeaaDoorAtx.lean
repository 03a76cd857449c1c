/-
  Package ast: isText, isMark, isNumber.
-/
import Derived.Test.YtbolmffldmegeaaDoorAsm
import Derived.Test.YtbolmffldmegeaaDoorShelf
import Derived.Test.YtbolmffldmegeaaDoorSc5
namespace Go.Proofs.YtbolmffldmegeaaDoor
open Go.RowKit
set_option linter.unusedVariables false

/-- utf8's tables lie in memory. -/
def TabU (w : World) : Prop := Lib.Utf8Tabs 0 1 w
theorem contains_index : ∀ (l : List UInt8) (c : UInt8), decide (0 ≤ Lib.indexByte l c) = l.contains c
  | [], c => by simp [Lib.indexByte]
  | x :: l, c => by
    have ih := contains_index l c
    rw [Lib.indexByte, List.contains_cons]
    by_cases h : x = c
    · subst h; simp
    · have h1 : (x == c) = false := by simpa using h
      have h2 : (c == x) = false := by simpa using fun e : c = x => h e.symm
      rw [h1, h2, Bool.false_or, ← ih]
      simp only [Bool.false_eq_true, if_false]
      by_cases h3 : Lib.indexByte l c = -1
      · rw [h3]; decide
      · have : (Lib.indexByte l c == -1) = false := by simpa using h3
        rw [this]
        simp only [Bool.false_eq_true, if_false]
        rw [decide_eq_decide]
        omega
set_option maxHeartbeats 1000000 in
theorem isText_any (s : ByteArray) (w : World) (hs : s.size ≤ 8000000) (hT : TabU w) :
    Calls Tryd.prog 24 #[.string s] w fun e w' => e = .returned (.bool (textB s)) ∧ Below w.heap.size w w' := by
  have hV := Tryd.utf8_ValidString s w (by omega) hT
  have hC := fun W => Tryd.strings_Contains_one s 13 W
  have hcc := contains_index s.data.toList 13
  unfold textB validB
  rw [← hcc]
  cases hv : Lib.validD s.data.toList
  · rw [hv] at hV
    clear hv hcc hC
    go_enter Tryd.func24, Tryd.ntmps24
    go_wp2_with (go_at_call 37; refine hV.mono ?_; rintro e w' ⟨rfl, hb⟩)
    go_ret
    exact ⟨rfl, hb⟩
  · rw [hv] at hV
    clear hv hcc
    generalize decide (0 ≤ Lib.indexByte s.data.toList 13) = q at hC ⊢
    go_enter Tryd.func24, Tryd.ntmps24
    go_wp2_with (first | (go_at_call 37; refine hV.mono ?_; rintro e w' ⟨rfl, hb⟩) | (go_at_call 38; refine (hC _).mono ?_; rintro e w' ⟨rfl, rfl⟩))
    go_ret
    exact ⟨by cases q <;> rfl, hb⟩
end Go.Proofs.YtbolmffldmegeaaDoor
