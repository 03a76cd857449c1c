/-
  The law's head; PluralWords: each category's word.
-/
import Derived.Test.YtmkcebngobanjabDoorPl6
namespace Go.Proofs.YtmkcebngobanjabDoor
open Go.RowKit
set_option linter.unusedVariables false

theorem num_any (s : ByteArray) (k : Int) (w : World) : Calls Tryd.prog 16 #[.string s, .int .i64 k] w fun e w' => e = .returned (.agg #[.bool false, .string s, .int .i64 k]) ∧ Below w.heap.size w w' := by
  go_enter Tryd.func16, Tryd.ntmps16
  go_wp2
  exact bodyPost_ret (v := .agg #[.bool false, .string s, .int .i64 k]) (by simp [results, Tryd.results16, go_sem]) rfl ⟨rfl, (Below.refl _ _).alloc (Nat.le_refl _) _⟩
theorem of_pl22 (w : World) : Calls Tryd.prog 9 #[.string ⟨#[112, 108]⟩, .agg #[.bool false, .string ⟨#[50, 50]⟩, .int .i64 0]] w fun e w' => e = .returned (.int .i64 4) ∧ Below w.heap.size w w' := by
  refine (of_gives ⟨#[112, 108]⟩ cPl (fun w => (count_pl w).first) false ⟨#[50, 50]⟩ 0 w ⟨by decide, by decide, by decide⟩).mono ?_
  rintro e w' ⟨rfl, hb⟩
  exact ⟨ret_int (by decide +kernel), hb⟩
theorem of_pl12 (w : World) : Calls Tryd.prog 9 #[.string ⟨#[112, 108]⟩, .agg #[.bool false, .string ⟨#[49, 50]⟩, .int .i64 0]] w fun e w' => e = .returned (.int .i64 5) ∧ Below w.heap.size w w' := by
  refine (of_gives ⟨#[112, 108]⟩ cPl (fun w => (count_pl w).first) false ⟨#[49, 50]⟩ 0 w ⟨by decide, by decide, by decide⟩).mono ?_
  rintro e w' ⟨rfl, hb⟩
  exact ⟨ret_int (by decide +kernel), hb⟩
theorem of_pl10 (w : World) : Calls Tryd.prog 9 #[.string ⟨#[112, 108]⟩, .agg #[.bool false, .string ⟨#[49, 48]⟩, .int .i64 1]] w fun e w' => e = .returned (.int .i64 0) ∧ Below w.heap.size w w' := by
  refine (of_gives ⟨#[112, 108]⟩ cPl (fun w => (count_pl w).first) false ⟨#[49, 48]⟩ 1 w ⟨by decide, by decide, by decide⟩).mono ?_
  rintro e w' ⟨rfl, hb⟩
  exact ⟨ret_int (by decide +kernel), hb⟩
theorem rank_en23 (w : World) : Calls Tryd.prog 11 #[.string ⟨#[101, 110]⟩, .agg #[.bool false, .string ⟨#[50, 51]⟩, .int .i64 0]] w fun e w' => e = .returned (.int .i64 4) ∧ Below w.heap.size w w' := by
  refine (rank_gives ⟨#[101, 110]⟩ rEn (fun w => (rank_en w).first) false ⟨#[50, 51]⟩ 0 w ⟨by decide, by decide, by decide⟩).mono ?_
  rintro e w' ⟨rfl, hb⟩
  exact ⟨ret_int (by decide +kernel), hb⟩
set_option maxHeartbeats 2000000 in
theorem head_any (w : World) : Calls Tryd.prog 7 #[] w fun e w' => e = .returned (.bool true) ∧ Below w.heap.size w w' := by
  have L := Nat.le_refl w.heap.size
  go_enter Tryd.func7, Tryd.ntmps7
  go_wp2_with fail
  go_at_call 16
  refine (num_any _ _ _).mono ?_
  rintro e w1 ⟨rfl, h1⟩
  go_wp2_with fail
  go_at_call 9
  refine (of_pl22 _).mono ?_
  rintro e w2 ⟨rfl, h2⟩
  go_wp2_with fail
  go_at_call 16
  refine (num_any _ _ _).mono ?_
  rintro e w3 ⟨rfl, h3⟩
  go_wp2_with fail
  go_at_call 9
  refine (of_pl12 _).mono ?_
  rintro e w4 ⟨rfl, h4⟩
  go_wp2_with fail
  go_at_call 16
  refine (num_any _ _ _).mono ?_
  rintro e w5 ⟨rfl, h5⟩
  go_wp2_with fail
  go_at_call 9
  refine (of_pl10 _).mono ?_
  rintro e w6 ⟨rfl, h6⟩
  go_wp2_with fail
  go_at_call 16
  refine (num_any _ _ _).mono ?_
  rintro e w7 ⟨rfl, h7⟩
  go_wp2_with fail
  go_at_call 11
  refine (rank_en23 _).mono ?_
  rintro e w8 ⟨rfl, h8⟩
  go_wp2
  go_ret
  exact ⟨rfl, below_then (below_then (below_then (below_then (below_then (below_then (below_then h1 L h2) L h3) L h4) L h5) L h6) L h7) L h8⟩

set_option maxHeartbeats 2000000 in
theorem lawWords (c : Int) (w : World) : Calls Tryd.prog 5 #[.int .i64 c] w fun e w' => e = .returned (.bool true) ∧ Below w.heap.size w w' := by
  have L := Nat.le_refl w.heap.size
  by_cases h0 : c < 0
  · have h0' : decide (0 ≤ c) = false := decide_eq_false (by omega)
    go_enter Tryd.func5, Tryd.ntmps5
    go_wp2_with (first | (go_at_call 7; refine (head_any _).mono ?_; rintro e w1 ⟨rfl, h1⟩) | (go_at_call 15; refine (word_no _ _ (.inl h0)).mono ?_; rintro e w2 ⟨rfl, h2⟩))
    go_ret
    exact ⟨rfl, below_then h1 L h2⟩
  by_cases h5 : 5 < c
  · go_enter Tryd.func5, Tryd.ntmps5
    go_wp2_with (first | (go_at_call 7; refine (head_any _).mono ?_; rintro e w1 ⟨rfl, h1⟩) | (go_at_call 15; refine (word_no _ _ (.inr h5)).mono ?_; rintro e w2 ⟨rfl, h2⟩))
    go_ret
    exact ⟨rfl, below_then h1 L h2⟩
  have : c = 0 ∨ c = 1 ∨ c = 2 ∨ c = 3 ∨ c = 4 ∨ c = 5 := by omega
  clear h0 h5
  rcases this with rfl | rfl | rfl | rfl | rfl | rfl
  all_goals
    go_enter Tryd.func5, Tryd.ntmps5
    go_wp2_with (first | (go_at_call 7; refine (head_any _).mono ?_; rintro e w1 ⟨rfl, h1⟩) | (go_at_call 15; refine (word_any _ _ (by omega) (by omega)).mono ?_; rintro e w2 ⟨rfl, h2⟩))
    go_ret
    exact ⟨rfl, below_then (below_new h1 L _) L h2⟩
end Go.Proofs.YtmkcebngobanjabDoor
