/-
  Package tell: a code's word (by bin/gen_tea.py).
-/
import Derived.Test.YtgdkpamlkpncgabGreatDoorBx
namespace Go.Proofs.YtgdkpamlkpncgabGreatDoor
open Go.RowKit
set_option linter.unusedVariables false
set_option linter.unusedSimpArgs false

/-- A code's word. -/
def wordB (c : Int) : ByteArray :=
  if c = 1 then ⟨#[118, 97, 114]⟩
  else if c = 2 then ⟨#[109, 101, 115, 115, 97, 103, 101]⟩
  else if c = 3 then ⟨#[116, 101, 114, 109]⟩
  else if c = 4 then ⟨#[118, 97, 108, 117, 101]⟩
  else if c = 5 then ⟨#[102, 117, 110, 99]⟩
  else if c = 6 then ⟨#[97, 114, 103]⟩
  else if c = 7 then ⟨#[99, 121, 99, 108, 105, 99]⟩
  else if c = 8 then ⟨#[109, 97, 110, 121]⟩
  else if c = 9 then ⟨#[108, 111, 110, 103]⟩
  else ⟨#[]⟩
theorem word_out (c : Int) (h : c < 1 ∨ 9 < c) : wordB c = ⟨#[]⟩ := by
  unfold wordB
  repeat rw [if_neg (by omega)]
set_option maxHeartbeats 2000000 in
set_option maxRecDepth 100000 in
theorem tword_any (c : Int) (w : World) : Calls Tryz.prog 5 #[.int .i64 c] w fun e w' => e = .returned (.string (wordB c)) ∧ Below w.heap.size w w' := by
  by_cases h1 : c < 1
  · have b1 : decide (c < 1) = true := decide_eq_true h1
    rw [word_out c (Or.inl h1)]
    go_enter Tryz.func5, Tryz.ntmps5
    go_wp2
    go_ret
    exact ⟨rfl, (by repeat' first | with_reducible exact Below.refl _ _ | with_reducible apply Below.drew | with_reducible apply Below.setCell | with_reducible apply Below.alloc | exact Nat.le_refl _ | (simp; done))⟩
  · have b1 : decide (c < 1) = false := decide_eq_false h1
    by_cases h9 : 9 < c
    · have b2 : decide (9 < c) = true := decide_eq_true h9
      rw [word_out c (Or.inr h9)]
      go_enter Tryz.func5, Tryz.ntmps5
      go_wp2
      go_ret
      exact ⟨rfl, (by repeat' first | with_reducible exact Below.refl _ _ | with_reducible apply Below.drew | with_reducible apply Below.setCell | with_reducible apply Below.alloc | exact Nat.le_refl _ | (simp; done))⟩
    · obtain h : c = 1 ∨ c = 2 ∨ c = 3 ∨ c = 4 ∨ c = 5 ∨ c = 6 ∨ c = 7 ∨ c = 8 ∨ c = 9 := by omega
      clear h1 h9 b1
      rcases h with rfl | rfl | rfl | rfl | rfl | rfl | rfl | rfl | rfl
      · have hw : wordB 1 = ⟨#[118, 97, 114]⟩ := by rfl
        rw [hw]
        go_enter Tryz.func5, Tryz.ntmps5
        go_wp2
        go_ret
        exact ⟨rfl, (by repeat' first | with_reducible exact Below.refl _ _ | with_reducible apply Below.drew | with_reducible apply Below.setCell | with_reducible apply Below.alloc | exact Nat.le_refl _ | (simp; done))⟩
      · have hw : wordB 2 = ⟨#[109, 101, 115, 115, 97, 103, 101]⟩ := by rfl
        rw [hw]
        go_enter Tryz.func5, Tryz.ntmps5
        go_wp2
        go_ret
        exact ⟨rfl, (by repeat' first | with_reducible exact Below.refl _ _ | with_reducible apply Below.drew | with_reducible apply Below.setCell | with_reducible apply Below.alloc | exact Nat.le_refl _ | (simp; done))⟩
      · have hw : wordB 3 = ⟨#[116, 101, 114, 109]⟩ := by rfl
        rw [hw]
        go_enter Tryz.func5, Tryz.ntmps5
        go_wp2
        go_ret
        exact ⟨rfl, (by repeat' first | with_reducible exact Below.refl _ _ | with_reducible apply Below.drew | with_reducible apply Below.setCell | with_reducible apply Below.alloc | exact Nat.le_refl _ | (simp; done))⟩
      · have hw : wordB 4 = ⟨#[118, 97, 108, 117, 101]⟩ := by rfl
        rw [hw]
        go_enter Tryz.func5, Tryz.ntmps5
        go_wp2
        go_ret
        exact ⟨rfl, (by repeat' first | with_reducible exact Below.refl _ _ | with_reducible apply Below.drew | with_reducible apply Below.setCell | with_reducible apply Below.alloc | exact Nat.le_refl _ | (simp; done))⟩
      · have hw : wordB 5 = ⟨#[102, 117, 110, 99]⟩ := by rfl
        rw [hw]
        go_enter Tryz.func5, Tryz.ntmps5
        go_wp2
        go_ret
        exact ⟨rfl, (by repeat' first | with_reducible exact Below.refl _ _ | with_reducible apply Below.drew | with_reducible apply Below.setCell | with_reducible apply Below.alloc | exact Nat.le_refl _ | (simp; done))⟩
      · have hw : wordB 6 = ⟨#[97, 114, 103]⟩ := by rfl
        rw [hw]
        go_enter Tryz.func5, Tryz.ntmps5
        go_wp2
        go_ret
        exact ⟨rfl, (by repeat' first | with_reducible exact Below.refl _ _ | with_reducible apply Below.drew | with_reducible apply Below.setCell | with_reducible apply Below.alloc | exact Nat.le_refl _ | (simp; done))⟩
      · have hw : wordB 7 = ⟨#[99, 121, 99, 108, 105, 99]⟩ := by rfl
        rw [hw]
        go_enter Tryz.func5, Tryz.ntmps5
        go_wp2
        go_ret
        exact ⟨rfl, (by repeat' first | with_reducible exact Below.refl _ _ | with_reducible apply Below.drew | with_reducible apply Below.setCell | with_reducible apply Below.alloc | exact Nat.le_refl _ | (simp; done))⟩
      · have hw : wordB 8 = ⟨#[109, 97, 110, 121]⟩ := by rfl
        rw [hw]
        go_enter Tryz.func5, Tryz.ntmps5
        go_wp2
        go_ret
        exact ⟨rfl, (by repeat' first | with_reducible exact Below.refl _ _ | with_reducible apply Below.drew | with_reducible apply Below.setCell | with_reducible apply Below.alloc | exact Nat.le_refl _ | (simp; done))⟩
      · have hw : wordB 9 = ⟨#[108, 111, 110, 103]⟩ := by rfl
        rw [hw]
        go_enter Tryz.func5, Tryz.ntmps5
        go_wp2
        go_ret
        exact ⟨rfl, (by repeat' first | with_reducible exact Below.refl _ _ | with_reducible apply Below.drew | with_reducible apply Below.setCell | with_reducible apply Below.alloc | exact Nat.le_refl _ | (simp; done))⟩
set_option maxHeartbeats 2000000 in
set_option maxRecDepth 100000 in
theorem lword_any (c : Int) (w : World) : Calls Tryz.prog 6 #[.int .i64 c] w fun e w' => e = .returned (.string (wordB c)) ∧ Below w.heap.size w w' := by
  by_cases h1 : c < 1
  · have b1 : decide (c < 1) = true := decide_eq_true h1
    rw [word_out c (Or.inl h1)]
    go_enter Tryz.func6, Tryz.ntmps6
    go_wp2
    go_ret
    exact ⟨rfl, (by repeat' first | with_reducible exact Below.refl _ _ | with_reducible apply Below.drew | with_reducible apply Below.setCell | with_reducible apply Below.alloc | exact Nat.le_refl _ | (simp; done))⟩
  · have b1 : decide (c < 1) = false := decide_eq_false h1
    by_cases h9 : 9 < c
    · have b2 : decide (9 < c) = true := decide_eq_true h9
      rw [word_out c (Or.inr h9)]
      go_enter Tryz.func6, Tryz.ntmps6
      go_wp2
      go_ret
      exact ⟨rfl, (by repeat' first | with_reducible exact Below.refl _ _ | with_reducible apply Below.drew | with_reducible apply Below.setCell | with_reducible apply Below.alloc | exact Nat.le_refl _ | (simp; done))⟩
    · obtain h : c = 1 ∨ c = 2 ∨ c = 3 ∨ c = 4 ∨ c = 5 ∨ c = 6 ∨ c = 7 ∨ c = 8 ∨ c = 9 := by omega
      clear h1 h9 b1
      rcases h with rfl | rfl | rfl | rfl | rfl | rfl | rfl | rfl | rfl
      · have hw : wordB 1 = ⟨#[118, 97, 114]⟩ := by rfl
        rw [hw]
        go_enter Tryz.func6, Tryz.ntmps6
        go_wp2
        go_ret
        exact ⟨rfl, (by repeat' first | with_reducible exact Below.refl _ _ | with_reducible apply Below.drew | with_reducible apply Below.setCell | with_reducible apply Below.alloc | exact Nat.le_refl _ | (simp; done))⟩
      · have hw : wordB 2 = ⟨#[109, 101, 115, 115, 97, 103, 101]⟩ := by rfl
        rw [hw]
        go_enter Tryz.func6, Tryz.ntmps6
        go_wp2
        go_ret
        exact ⟨rfl, (by repeat' first | with_reducible exact Below.refl _ _ | with_reducible apply Below.drew | with_reducible apply Below.setCell | with_reducible apply Below.alloc | exact Nat.le_refl _ | (simp; done))⟩
      · have hw : wordB 3 = ⟨#[116, 101, 114, 109]⟩ := by rfl
        rw [hw]
        go_enter Tryz.func6, Tryz.ntmps6
        go_wp2
        go_ret
        exact ⟨rfl, (by repeat' first | with_reducible exact Below.refl _ _ | with_reducible apply Below.drew | with_reducible apply Below.setCell | with_reducible apply Below.alloc | exact Nat.le_refl _ | (simp; done))⟩
      · have hw : wordB 4 = ⟨#[118, 97, 108, 117, 101]⟩ := by rfl
        rw [hw]
        go_enter Tryz.func6, Tryz.ntmps6
        go_wp2
        go_ret
        exact ⟨rfl, (by repeat' first | with_reducible exact Below.refl _ _ | with_reducible apply Below.drew | with_reducible apply Below.setCell | with_reducible apply Below.alloc | exact Nat.le_refl _ | (simp; done))⟩
      · have hw : wordB 5 = ⟨#[102, 117, 110, 99]⟩ := by rfl
        rw [hw]
        go_enter Tryz.func6, Tryz.ntmps6
        go_wp2
        go_ret
        exact ⟨rfl, (by repeat' first | with_reducible exact Below.refl _ _ | with_reducible apply Below.drew | with_reducible apply Below.setCell | with_reducible apply Below.alloc | exact Nat.le_refl _ | (simp; done))⟩
      · have hw : wordB 6 = ⟨#[97, 114, 103]⟩ := by rfl
        rw [hw]
        go_enter Tryz.func6, Tryz.ntmps6
        go_wp2
        go_ret
        exact ⟨rfl, (by repeat' first | with_reducible exact Below.refl _ _ | with_reducible apply Below.drew | with_reducible apply Below.setCell | with_reducible apply Below.alloc | exact Nat.le_refl _ | (simp; done))⟩
      · have hw : wordB 7 = ⟨#[99, 121, 99, 108, 105, 99]⟩ := by rfl
        rw [hw]
        go_enter Tryz.func6, Tryz.ntmps6
        go_wp2
        go_ret
        exact ⟨rfl, (by repeat' first | with_reducible exact Below.refl _ _ | with_reducible apply Below.drew | with_reducible apply Below.setCell | with_reducible apply Below.alloc | exact Nat.le_refl _ | (simp; done))⟩
      · have hw : wordB 8 = ⟨#[109, 97, 110, 121]⟩ := by rfl
        rw [hw]
        go_enter Tryz.func6, Tryz.ntmps6
        go_wp2
        go_ret
        exact ⟨rfl, (by repeat' first | with_reducible exact Below.refl _ _ | with_reducible apply Below.drew | with_reducible apply Below.setCell | with_reducible apply Below.alloc | exact Nat.le_refl _ | (simp; done))⟩
      · have hw : wordB 9 = ⟨#[108, 111, 110, 103]⟩ := by rfl
        rw [hw]
        go_enter Tryz.func6, Tryz.ntmps6
        go_wp2
        go_ret
        exact ⟨rfl, (by repeat' first | with_reducible exact Below.refl _ _ | with_reducible apply Below.drew | with_reducible apply Below.setCell | with_reducible apply Below.alloc | exact Nat.le_refl _ | (simp; done))⟩
end Go.Proofs.YtgdkpamlkpncgabGreatDoor
