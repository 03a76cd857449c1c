/-
  The law's own Rank, language by language.
-/
import Derived.Test.YtmkcebngobanjabDoorPlL
namespace Go.Proofs.YtmkcebngobanjabDoor
open Go.RowKit
set_option linter.unusedVariables false

set_option maxHeartbeats 8000000 in
set_option maxRecDepth 100000 in
theorem lrank_fr (n : Bool) (s : ByteArray) (k : Nat) (l : Int) (mo wh : Bool) (w : World) (hP : PartsTo n s k l mo wh) (h0 : 0 ≤ l) (h1 : l ≤ 99) :
    Calls Tryd.prog 12 #[.string ⟨#[102, 114]⟩, .agg #[.bool n, .string s, .int .i64 k]] w fun e w' => e = .returned (.int .i64 (SFr l mo wh)) ∧ Below w.heap.size w w' := by
  have HP := Lib.hid hP
  clear hP
  go_enter Tryd.func12, Tryd.ntmps12
  go_wp2_with fail
  go_at_call 20
  refine (HP.out _).mono ?_
  rintro e w1 ⟨rfl, hb1⟩
  have HB := Lib.hid (below_box hb1)
  clear hb1
  by_cases hl : l = 1
  · subst hl
    cases mo
    all_goals cases wh
    all_goals
      go_wp2
      go_ret
      exact ⟨ret_int (by simp [SFr]), HB.out⟩
  · have q : (l == 1) = false := by simpa using hl
    have E := Lib.hid (show ∀ mo wh, SFr l mo wh = 0 from fun mo wh => by unfold SFr; rw [if_neg (fun h => hl h.2.2)])
    cases mo
    all_goals cases wh
    all_goals
      go_wp2
      go_ret
      exact ⟨ret_int (by rw [E.out]), HB.out⟩

set_option maxHeartbeats 8000000 in
set_option maxRecDepth 100000 in
theorem lrank_en (n : Bool) (s : ByteArray) (k : Nat) (l : Int) (mo wh : Bool) (w : World) (hP : PartsTo n s k l mo wh) (h0 : 0 ≤ l) (h1 : l ≤ 99) :
    Calls Tryd.prog 12 #[.string ⟨#[101, 110]⟩, .agg #[.bool n, .string s, .int .i64 k]] w fun e w' => e = .returned (.int .i64 (SEn l mo wh)) ∧ Below w.heap.size w w' := by
  have HP := Lib.hid hP
  clear hP
  go_enter Tryd.func12, Tryd.ntmps12
  go_wp2_with fail
  go_at_call 20
  refine (HP.out _).mono ?_
  rintro e w1 ⟨rfl, hb1⟩
  have HB := Lib.hid (below_box hb1)
  clear hb1
  cases wh
  · have E := Lib.hid (show SEn l mo false = 0 by unfold SEn; rw [if_pos (.inl rfl)])
    go_wp2
    go_ret
    exact ⟨ret_int (by rw [E.out]), HB.out⟩
  by_cases h13 : 11 ≤ l ∧ l ≤ 13
  · obtain ⟨g1, g2⟩ := h13
    have E := Lib.hid (show SEn l mo true = 0 by unfold SEn; rw [if_pos (.inr ⟨g1, g2⟩)])
    go_wp2
    go_ret
    exact ⟨ret_int (by rw [E.out]), HB.out⟩
  have hs : SEn l mo true = if l % 10 = 1 then 2 else if l % 10 = 2 then 3 else if l % 10 = 3 then 4 else 0 := by
    unfold SEn
    rw [if_neg (by rintro (h | h); cases h; exact h13 h)]
  have hc : (¬ 11 ≤ l) ∨ (11 ≤ l ∧ ¬ l ≤ 13) := by omega
  have HS := Lib.hid hs
  clear hs h13
  rcases hc with g1 | ⟨g1, g2⟩
  all_goals
    by_cases m1 : l % 10 = 1
    · have E := Lib.hid (show SEn l mo true = 2 by rw [HS.out, if_pos m1])
      have q1 : (l % 10 == 1) = true := by simpa using m1
      clear m1
      go_wp2
      go_ret
      exact ⟨ret_int (by rw [E.out]), HB.out⟩
    have q1 : (l % 10 == 1) = false := by simpa using m1
    by_cases m2 : l % 10 = 2
    · have E := Lib.hid (show SEn l mo true = 3 by rw [HS.out, if_neg m1, if_pos m2])
      have q2 : (l % 10 == 2) = true := by simpa using m2
      clear m1 m2
      go_wp2
      go_ret
      exact ⟨ret_int (by rw [E.out]), HB.out⟩
    have q2 : (l % 10 == 2) = false := by simpa using m2
    by_cases m3 : l % 10 = 3
    · have E := Lib.hid (show SEn l mo true = 4 by rw [HS.out, if_neg m1, if_neg m2, if_pos m3])
      have q3 : (l % 10 == 3) = true := by simpa using m3
      clear m1 m2 m3
      go_wp2
      go_ret
      exact ⟨ret_int (by rw [E.out]), HB.out⟩
    have q3 : (l % 10 == 3) = false := by simpa using m3
    have E := Lib.hid (show SEn l mo true = 0 by rw [HS.out, if_neg m1, if_neg m2, if_neg m3])
    clear m1 m2 m3
    go_wp2
    go_ret
    exact ⟨ret_int (by rw [E.out]), HB.out⟩

set_option maxHeartbeats 8000000 in
set_option maxRecDepth 100000 in
theorem lrank_no (x : ByteArray) (n : Bool) (s : ByteArray) (k : Nat) (l : Int) (mo wh : Bool) (w : World) (hP : PartsTo n s k l mo wh) (h0 : 0 ≤ l) (h1 : l ≤ 99) (q4 : (x.toList == [102, 114]) = false) (q0 : (x.toList == [101, 110]) = false) (r0 : (x.toList != [101, 110]) = true) :
    Calls Tryd.prog 12 #[.string x, .agg #[.bool n, .string s, .int .i64 k]] w fun e w' => e = .returned (.int .i64 (0)) ∧ Below w.heap.size w w' := by
  have HP := Lib.hid hP
  clear hP
  go_enter Tryd.func12, Tryd.ntmps12
  go_wp2_with fail
  go_at_call 20
  refine (HP.out _).mono ?_
  rintro e w1 ⟨rfl, hb1⟩
  have HB := Lib.hid (below_box hb1)
  clear hb1
  go_wp2
  all_goals
    go_ret
    exact ⟨rfl, HB.out⟩
end Go.Proofs.YtmkcebngobanjabDoor
