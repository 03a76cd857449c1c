/-
  The law's parts: the last two digits ahead of the point, whether there are more that aren't noughts, and whether all behind it are noughts.
-/
import Derived.Test.YtmkcebngobanjabDoorFixOf
import Derived.Test.YtmkcebngobanjabDoorPlNum
namespace Go.Proofs.YtmkcebngobanjabDoor
open Go.RowKit
set_option linter.unusedVariables false

def moreJ (A : Nat → Int) : Nat → Bool
  | 0 => false
  | j + 1 => moreJ A j || (decide (j < 98) && decide (0 < A j))
def wholeJ (A : Nat → Int) : Nat → Bool
  | 0 => true
  | j + 1 => wholeJ A j && (decide (j < 100) || decide (A j = 0))
theorem intAgg (w : World) : (isAgg 3).run Tryd.prog w = .ok false w := by kernel_rfl
theorem run_index_row (w : World) (A : Nat → Int) (j : Nat) (hj : j < 200) : (Instr.index 55 (.agg (row 200 A)) (.int .i64 j)).run Tryd.prog w = .ok (.int .i64 (A j)) w := by
  have hin : (0 : Int) ≤ (j : Int) ∧ (j : Int) < ((200 : Nat) : Int) := by omega
  simp [Instr.index, asIntOf, run_underlying fixUnder, Sem.run_bind, run_part_row w _ 200 A j hj (intAgg w), hin, Result.andThen_ok]
  intro h
  omega
set_option maxHeartbeats 4000000 in
set_option maxRecDepth 100000 in
theorem parts_any (n : Bool) (s : ByteArray) (k : Nat) (w : World) (hk : k ≤ s.size) (h1 : s.size - k ≤ 100) (h2 : k ≤ 100) (hd : s.data.toList.all digB = true) :
    Calls Tryd.prog 20 #[.agg #[.bool n, .string s, .int .i64 k]] w fun e w' => e = .returned (.tuple #[.int .i64 (10 * fixF s.data.toList k 98 + fixF s.data.toList k 99), .bool (moreJ (fixF s.data.toList k) 200), .bool (wholeJ (fixF s.data.toList k) 200)]) ∧ Below w.heap.size w w' := by
  have hO := fun W => of_any n s k W hk h1 h2 hd
  have hA := fixF_digs s.data.toList k hd
  generalize fixF s.data.toList k = A at *
  have HO := Lib.hid hO
  have HA := Lib.hid hA
  clear hO hA hd
  have hrs := row_size 200
  have hz := fixZero
  go_enter Tryd.func20, Tryd.ntmps20
  go_wp2_with fail
  go_at_call 33
  refine (HO.out _).mono ?_
  rintro e w1 ⟨rfl, hb1⟩
  go_wp2_with fail
  rw [fix_storeNew _ _ _ _ _ (by simp)]
  simp only [Result.andThen]
  rw [Oper.upon_skip]
  have hrow := RowF.new w1 A 55
  have HB := Lib.hid (below_new (below_box hb1) (Nat.le_refl _) (.cells (row 200 A) 55))
  clear hb1
  go_wp2_with fail
  refine wp_fix_load _ rfl _ rfl _ hrow ?_
  go_wp2_with fail
  have Hrow := Lib.hid hrow
  clear hrow
  go_loop [6, 7, 8, 9, 13] (fun m wh _ _ t => ∃ (j : Nat) (bm bw : Bool), t = .int .i64 j ∧ m = .bool bm ∧ wh = .bool bw ∧ j ≤ 200 ∧ Hid (bm = moreJ A j) ∧ Hid (bw = wholeJ A j)) (fun _ _ _ _ t => 200 - (intOf t).toNat)
  case atStart => exact ⟨0, false, true, rfl, rfl, rfl, by omega, Lib.hid rfl, Lib.hid rfl⟩
  case round =>
    obtain ⟨j, bm, bw, rfl, rfl, rfl, hj, hm, hw⟩ := hrel
    by_cases hlt : j < 200
    · have hix := fun w => run_index_row w A j hlt
      have hp := HA.out j
      have Hm : Hid (moreJ A (j + 1) = (bm || (decide (j < 98) && decide (0 < A j)))) := Lib.hid (by rw [hm.out]; rfl)
      have Hw : Hid (wholeJ A (j + 1) = (bw && (decide (j < 100) || decide (A j = 0)))) := Lib.hid (by rw [hw.out]; rfl)
      generalize A j = x at *
      by_cases hx : x = 0
      · subst hx
        have d1 : decide ((0 : Int) < 0) = false := by decide
        by_cases h98 : j < 98
        all_goals by_cases h100 : j < 100
        all_goals cases bm
        all_goals cases bw
        all_goals first | omega | skip
        all_goals
          first
          | (have e1 : decide ((j : Int) < 98) = true := decide_eq_true (by omega))
          | (have e1 : decide ((j : Int) < 98) = false := decide_eq_false (by omega))
        all_goals
          first
          | (have e2 : decide ((j : Int) < 100) = true := decide_eq_true (by omega))
          | (have e2 : decide ((j : Int) < 100) = false := decide_eq_false (by omega))
        all_goals
          go_wp2
          go_round
          case rel => exact ⟨j + 1, _, _, by go_num, rfl, rfl, by omega, Lib.hid (by rw [Hm.out]; simp [h98]), Lib.hid (by rw [Hw.out]; simp [h100])⟩
          case measure => simp [intOf]; omega
      · have hx1 : 0 < x := by omega
        have d1 : decide ((0 : Int) < x) = true := decide_eq_true hx1
        have d2 : (x == 0) = false := by simpa using hx
        clear hx
        by_cases h98 : j < 98
        all_goals by_cases h100 : j < 100
        all_goals cases bm
        all_goals cases bw
        all_goals first | omega | skip
        all_goals
          first
          | (have e1 : decide ((j : Int) < 98) = true := decide_eq_true (by omega))
          | (have e1 : decide ((j : Int) < 98) = false := decide_eq_false (by omega))
        all_goals
          first
          | (have e2 : decide ((j : Int) < 100) = true := decide_eq_true (by omega))
          | (have e2 : decide ((j : Int) < 100) = false := decide_eq_false (by omega))
        all_goals
          go_wp2
          go_round
          case rel => exact ⟨j + 1, _, _, by go_num, rfl, rfl, by omega, Lib.hid (by rw [Hm.out]; simp [h98, hx1]), Lib.hid (by rw [Hw.out]; simp [h100]; try omega)⟩
          case measure => simp [intOf]; omega
    · obtain rfl : j = 200 := by omega
      have q98 := (Hrow.out 98 (by omega)).1
      have q99 := (Hrow.out 99 (by omega)).1
      have p98 := HA.out 98
      have p99 := HA.out 99
      go_wp2
      go_ret3
      exact ⟨by rw [← hm.out, ← hw.out]; rfl, HB.out⟩
end Go.Proofs.YtmkcebngobanjabDoor
