/-
  The law's own Of and Rank, language by language.
-/
import Derived.Test.YtmkcebngobanjabDoorPlM
import Derived.Deep.DeepCutAuto
namespace Go.Proofs.YtmkcebngobanjabDoor
open Go.RowKit
set_option linter.unusedVariables false

def fewB (l : Int) : Bool := decide (2 ≤ l % 10) && decide (l % 10 ≤ 4) && (decide (l < 12) || decide (14 < l))
def LEn (l : Int) (mo wh fw : Bool) (k : Nat) : Int := if k = 0 ∧ mo = false ∧ l = 1 then 2 else 0
def LFr (l : Int) (mo wh fw : Bool) (k : Nat) : Int := if mo = false ∧ l ≤ 1 then 2 else 0
def LEs (l : Int) (mo wh fw : Bool) (k : Nat) : Int := if wh = true ∧ mo = false ∧ l = 1 then 2 else 0
def LPl (l : Int) (mo wh fw : Bool) (k : Nat) : Int := if 0 < k then 0 else if mo = false ∧ l = 1 then 2 else if fw = true then 4 else 5
def LRu (l : Int) (mo wh fw : Bool) (k : Nat) : Int := if 0 < k then 0 else if l % 10 = 1 ∧ l ≠ 11 then 2 else if fw = true then 4 else 5
def LCs (l : Int) (mo wh fw : Bool) (k : Nat) : Int := if 0 < k then 5 else if mo = false ∧ l = 1 then 2 else if mo = false ∧ 2 ≤ l ∧ l ≤ 4 then 4 else 0
def LAr (l : Int) (mo wh fw : Bool) (k : Nat) : Int := if wh = false then 0 else if mo = false ∧ l ≤ 2 then l + 1 else if 3 ≤ l ∧ l ≤ 10 then 4 else if 11 ≤ l then 5 else 0
def SFr (l : Int) (mo wh : Bool) : Int := if wh = true ∧ mo = false ∧ l = 1 then 2 else 0
def SEn (l : Int) (mo wh : Bool) : Int := if wh = false ∨ (11 ≤ l ∧ l ≤ 13) then 0 else if l % 10 = 1 then 2 else if l % 10 = 2 then 3 else if l % 10 = 3 then 4 else 0
/-- What parts tells of a number, wherever. -/
def PartsTo (n : Bool) (s : ByteArray) (k : Nat) (l : Int) (mo wh : Bool) : Prop := ∀ W : World, Calls Tryd.prog 20 #[.agg #[.bool n, .string s, .int .i64 k]] W fun e w' => e = .returned (.tuple #[.int .i64 l, .bool mo, .bool wh]) ∧ Below W.heap.size W w'

set_option maxHeartbeats 16000000 in
set_option maxRecDepth 1000000 in
theorem lof_en (n : Bool) (s : ByteArray) (k : Nat) (l : Int) (mo wh : Bool) (w : World) (hP : PartsTo n s k l mo wh) (h0 : 0 ≤ l) (h1 : l ≤ 99) :
    Calls Tryd.prog 10 #[.string ⟨#[101, 110]⟩, .agg #[.bool n, .string s, .int .i64 k]] w fun e w' => e = .returned (.int .i64 (LEn l mo wh (fewB l) k)) ∧ Below w.heap.size w w' := by
  have HP := Lib.hid hP
  clear hP
  go_enter Tryd.func10, Tryd.ntmps10
  go_wp2_with fail
  go_at_call 20
  refine (HP.out _).mono ?_
  rintro e w1 ⟨rfl, hb1⟩
  obtain ⟨hc1, hf1⟩ := bcell hb1
  have HB := Lib.hid (below_box hb1)
  go_upto_region 3 with fail
  go_cut [9] (fun v wx => v = .bool (fewB l) ∧ wx = w1)
  case first =>
    by_cases a1 : 2 ≤ l % 10
    · by_cases a2 : l % 10 ≤ 4
      · by_cases a3 : l < 12
        · have E := Lib.hid (show fewB l = true by unfold fewB; simp [a1, a2, a3])
          have b1 : decide (2 ≤ l % 10) = true := decide_eq_true a1
          have b2 : decide (l % 10 ≤ 4) = true := decide_eq_true a2
          have b3 : decide (l < 12) = true := decide_eq_true a3
          go_wp2_with fail
          go_meet
          exact ⟨by rw [E.out], rfl⟩
        · by_cases a4 : 14 < l
          · have E := Lib.hid (show fewB l = true by unfold fewB; simp [a1, a2, a4])
            have b1 : decide (2 ≤ l % 10) = true := decide_eq_true a1
            have b2 : decide (l % 10 ≤ 4) = true := decide_eq_true a2
            have b3 : decide (l < 12) = false := decide_eq_false a3
            have b4 : decide (14 < l) = true := decide_eq_true a4
            go_wp2_with fail
            go_meet
            exact ⟨by rw [E.out], rfl⟩
          · have E := Lib.hid (show fewB l = false by unfold fewB; simp [a3, a4])
            have b1 : decide (2 ≤ l % 10) = true := decide_eq_true a1
            have b2 : decide (l % 10 ≤ 4) = true := decide_eq_true a2
            have b3 : decide (l < 12) = false := decide_eq_false a3
            have b4 : decide (14 < l) = false := decide_eq_false a4
            go_wp2_with fail
            go_meet
            exact ⟨by rw [E.out], rfl⟩
      · have E := Lib.hid (show fewB l = false by unfold fewB; simp [a2])
        have b1 : decide (2 ≤ l % 10) = true := decide_eq_true a1
        have b2 : decide (l % 10 ≤ 4) = false := decide_eq_false a2
        go_wp2_with fail
        go_meet
        exact ⟨by rw [E.out], rfl⟩
    · have E := Lib.hid (show fewB l = false by unfold fewB; simp [a1])
      have b1 : decide (2 ≤ l % 10) = false := decide_eq_false a1
      go_wp2_with fail
      go_meet
      exact ⟨by rw [E.out], rfl⟩
  case rest =>
    obtain ⟨rfl, rfl⟩ := hcut
    generalize hfw : fewB l = fw
    have Hfw := Lib.hid hfw
    clear hfw
    cases mo
    all_goals by_cases hk : k = 0
    all_goals first | subst hk | (have k1 : decide ((0 : Int) < (k : Int)) = true := decide_eq_true (by omega); have k2 : ((k : Int) == 0) = false := by simp; omega)
    all_goals
      go_wp2
      all_goals
        go_ret
        refine ⟨ret_int ?_, HB.out⟩
        rw [Hfw.out]
        simp only [LEn]
        clear HB hb1 hc1 hf1 HP
        repeat' split
        all_goals first | rfl | omega | (exfalso; simp_all; done) | (exfalso; simp_all; omega) | (simp_all; done) | (simp_all; omega)


set_option maxHeartbeats 16000000 in
set_option maxRecDepth 1000000 in
theorem lof_de (n : Bool) (s : ByteArray) (k : Nat) (l : Int) (mo wh : Bool) (w : World) (hP : PartsTo n s k l mo wh) (h0 : 0 ≤ l) (h1 : l ≤ 99) :
    Calls Tryd.prog 10 #[.string ⟨#[100, 101]⟩, .agg #[.bool n, .string s, .int .i64 k]] w fun e w' => e = .returned (.int .i64 (LEn l mo wh (fewB l) k)) ∧ Below w.heap.size w w' := by
  have HP := Lib.hid hP
  clear hP
  go_enter Tryd.func10, Tryd.ntmps10
  go_wp2_with fail
  go_at_call 20
  refine (HP.out _).mono ?_
  rintro e w1 ⟨rfl, hb1⟩
  obtain ⟨hc1, hf1⟩ := bcell hb1
  have HB := Lib.hid (below_box hb1)
  go_upto_region 3 with fail
  go_cut [9] (fun v wx => v = .bool (fewB l) ∧ wx = w1)
  case first =>
    by_cases a1 : 2 ≤ l % 10
    · by_cases a2 : l % 10 ≤ 4
      · by_cases a3 : l < 12
        · have E := Lib.hid (show fewB l = true by unfold fewB; simp [a1, a2, a3])
          have b1 : decide (2 ≤ l % 10) = true := decide_eq_true a1
          have b2 : decide (l % 10 ≤ 4) = true := decide_eq_true a2
          have b3 : decide (l < 12) = true := decide_eq_true a3
          go_wp2_with fail
          go_meet
          exact ⟨by rw [E.out], rfl⟩
        · by_cases a4 : 14 < l
          · have E := Lib.hid (show fewB l = true by unfold fewB; simp [a1, a2, a4])
            have b1 : decide (2 ≤ l % 10) = true := decide_eq_true a1
            have b2 : decide (l % 10 ≤ 4) = true := decide_eq_true a2
            have b3 : decide (l < 12) = false := decide_eq_false a3
            have b4 : decide (14 < l) = true := decide_eq_true a4
            go_wp2_with fail
            go_meet
            exact ⟨by rw [E.out], rfl⟩
          · have E := Lib.hid (show fewB l = false by unfold fewB; simp [a3, a4])
            have b1 : decide (2 ≤ l % 10) = true := decide_eq_true a1
            have b2 : decide (l % 10 ≤ 4) = true := decide_eq_true a2
            have b3 : decide (l < 12) = false := decide_eq_false a3
            have b4 : decide (14 < l) = false := decide_eq_false a4
            go_wp2_with fail
            go_meet
            exact ⟨by rw [E.out], rfl⟩
      · have E := Lib.hid (show fewB l = false by unfold fewB; simp [a2])
        have b1 : decide (2 ≤ l % 10) = true := decide_eq_true a1
        have b2 : decide (l % 10 ≤ 4) = false := decide_eq_false a2
        go_wp2_with fail
        go_meet
        exact ⟨by rw [E.out], rfl⟩
    · have E := Lib.hid (show fewB l = false by unfold fewB; simp [a1])
      have b1 : decide (2 ≤ l % 10) = false := decide_eq_false a1
      go_wp2_with fail
      go_meet
      exact ⟨by rw [E.out], rfl⟩
  case rest =>
    obtain ⟨rfl, rfl⟩ := hcut
    generalize hfw : fewB l = fw
    have Hfw := Lib.hid hfw
    clear hfw
    cases mo
    all_goals by_cases hk : k = 0
    all_goals first | subst hk | (have k1 : decide ((0 : Int) < (k : Int)) = true := decide_eq_true (by omega); have k2 : ((k : Int) == 0) = false := by simp; omega)
    all_goals
      go_wp2
      all_goals
        go_ret
        refine ⟨ret_int ?_, HB.out⟩
        rw [Hfw.out]
        simp only [LEn]
        clear HB hb1 hc1 hf1 HP
        repeat' split
        all_goals first | rfl | omega | (exfalso; simp_all; done) | (exfalso; simp_all; omega) | (simp_all; done) | (simp_all; omega)


set_option maxHeartbeats 16000000 in
set_option maxRecDepth 1000000 in
theorem lof_nl (n : Bool) (s : ByteArray) (k : Nat) (l : Int) (mo wh : Bool) (w : World) (hP : PartsTo n s k l mo wh) (h0 : 0 ≤ l) (h1 : l ≤ 99) :
    Calls Tryd.prog 10 #[.string ⟨#[110, 108]⟩, .agg #[.bool n, .string s, .int .i64 k]] w fun e w' => e = .returned (.int .i64 (LEn l mo wh (fewB l) k)) ∧ Below w.heap.size w w' := by
  have HP := Lib.hid hP
  clear hP
  go_enter Tryd.func10, Tryd.ntmps10
  go_wp2_with fail
  go_at_call 20
  refine (HP.out _).mono ?_
  rintro e w1 ⟨rfl, hb1⟩
  obtain ⟨hc1, hf1⟩ := bcell hb1
  have HB := Lib.hid (below_box hb1)
  go_upto_region 3 with fail
  go_cut [9] (fun v wx => v = .bool (fewB l) ∧ wx = w1)
  case first =>
    by_cases a1 : 2 ≤ l % 10
    · by_cases a2 : l % 10 ≤ 4
      · by_cases a3 : l < 12
        · have E := Lib.hid (show fewB l = true by unfold fewB; simp [a1, a2, a3])
          have b1 : decide (2 ≤ l % 10) = true := decide_eq_true a1
          have b2 : decide (l % 10 ≤ 4) = true := decide_eq_true a2
          have b3 : decide (l < 12) = true := decide_eq_true a3
          go_wp2_with fail
          go_meet
          exact ⟨by rw [E.out], rfl⟩
        · by_cases a4 : 14 < l
          · have E := Lib.hid (show fewB l = true by unfold fewB; simp [a1, a2, a4])
            have b1 : decide (2 ≤ l % 10) = true := decide_eq_true a1
            have b2 : decide (l % 10 ≤ 4) = true := decide_eq_true a2
            have b3 : decide (l < 12) = false := decide_eq_false a3
            have b4 : decide (14 < l) = true := decide_eq_true a4
            go_wp2_with fail
            go_meet
            exact ⟨by rw [E.out], rfl⟩
          · have E := Lib.hid (show fewB l = false by unfold fewB; simp [a3, a4])
            have b1 : decide (2 ≤ l % 10) = true := decide_eq_true a1
            have b2 : decide (l % 10 ≤ 4) = true := decide_eq_true a2
            have b3 : decide (l < 12) = false := decide_eq_false a3
            have b4 : decide (14 < l) = false := decide_eq_false a4
            go_wp2_with fail
            go_meet
            exact ⟨by rw [E.out], rfl⟩
      · have E := Lib.hid (show fewB l = false by unfold fewB; simp [a2])
        have b1 : decide (2 ≤ l % 10) = true := decide_eq_true a1
        have b2 : decide (l % 10 ≤ 4) = false := decide_eq_false a2
        go_wp2_with fail
        go_meet
        exact ⟨by rw [E.out], rfl⟩
    · have E := Lib.hid (show fewB l = false by unfold fewB; simp [a1])
      have b1 : decide (2 ≤ l % 10) = false := decide_eq_false a1
      go_wp2_with fail
      go_meet
      exact ⟨by rw [E.out], rfl⟩
  case rest =>
    obtain ⟨rfl, rfl⟩ := hcut
    generalize hfw : fewB l = fw
    have Hfw := Lib.hid hfw
    clear hfw
    cases mo
    all_goals by_cases hk : k = 0
    all_goals first | subst hk | (have k1 : decide ((0 : Int) < (k : Int)) = true := decide_eq_true (by omega); have k2 : ((k : Int) == 0) = false := by simp; omega)
    all_goals
      go_wp2
      all_goals
        go_ret
        refine ⟨ret_int ?_, HB.out⟩
        rw [Hfw.out]
        simp only [LEn]
        clear HB hb1 hc1 hf1 HP
        repeat' split
        all_goals first | rfl | omega | (exfalso; simp_all; done) | (exfalso; simp_all; omega) | (simp_all; done) | (simp_all; omega)


set_option maxHeartbeats 16000000 in
set_option maxRecDepth 1000000 in
theorem lof_sv (n : Bool) (s : ByteArray) (k : Nat) (l : Int) (mo wh : Bool) (w : World) (hP : PartsTo n s k l mo wh) (h0 : 0 ≤ l) (h1 : l ≤ 99) :
    Calls Tryd.prog 10 #[.string ⟨#[115, 118]⟩, .agg #[.bool n, .string s, .int .i64 k]] w fun e w' => e = .returned (.int .i64 (LEn l mo wh (fewB l) k)) ∧ Below w.heap.size w w' := by
  have HP := Lib.hid hP
  clear hP
  go_enter Tryd.func10, Tryd.ntmps10
  go_wp2_with fail
  go_at_call 20
  refine (HP.out _).mono ?_
  rintro e w1 ⟨rfl, hb1⟩
  obtain ⟨hc1, hf1⟩ := bcell hb1
  have HB := Lib.hid (below_box hb1)
  go_upto_region 3 with fail
  go_cut [9] (fun v wx => v = .bool (fewB l) ∧ wx = w1)
  case first =>
    by_cases a1 : 2 ≤ l % 10
    · by_cases a2 : l % 10 ≤ 4
      · by_cases a3 : l < 12
        · have E := Lib.hid (show fewB l = true by unfold fewB; simp [a1, a2, a3])
          have b1 : decide (2 ≤ l % 10) = true := decide_eq_true a1
          have b2 : decide (l % 10 ≤ 4) = true := decide_eq_true a2
          have b3 : decide (l < 12) = true := decide_eq_true a3
          go_wp2_with fail
          go_meet
          exact ⟨by rw [E.out], rfl⟩
        · by_cases a4 : 14 < l
          · have E := Lib.hid (show fewB l = true by unfold fewB; simp [a1, a2, a4])
            have b1 : decide (2 ≤ l % 10) = true := decide_eq_true a1
            have b2 : decide (l % 10 ≤ 4) = true := decide_eq_true a2
            have b3 : decide (l < 12) = false := decide_eq_false a3
            have b4 : decide (14 < l) = true := decide_eq_true a4
            go_wp2_with fail
            go_meet
            exact ⟨by rw [E.out], rfl⟩
          · have E := Lib.hid (show fewB l = false by unfold fewB; simp [a3, a4])
            have b1 : decide (2 ≤ l % 10) = true := decide_eq_true a1
            have b2 : decide (l % 10 ≤ 4) = true := decide_eq_true a2
            have b3 : decide (l < 12) = false := decide_eq_false a3
            have b4 : decide (14 < l) = false := decide_eq_false a4
            go_wp2_with fail
            go_meet
            exact ⟨by rw [E.out], rfl⟩
      · have E := Lib.hid (show fewB l = false by unfold fewB; simp [a2])
        have b1 : decide (2 ≤ l % 10) = true := decide_eq_true a1
        have b2 : decide (l % 10 ≤ 4) = false := decide_eq_false a2
        go_wp2_with fail
        go_meet
        exact ⟨by rw [E.out], rfl⟩
    · have E := Lib.hid (show fewB l = false by unfold fewB; simp [a1])
      have b1 : decide (2 ≤ l % 10) = false := decide_eq_false a1
      go_wp2_with fail
      go_meet
      exact ⟨by rw [E.out], rfl⟩
  case rest =>
    obtain ⟨rfl, rfl⟩ := hcut
    generalize hfw : fewB l = fw
    have Hfw := Lib.hid hfw
    clear hfw
    cases mo
    all_goals by_cases hk : k = 0
    all_goals first | subst hk | (have k1 : decide ((0 : Int) < (k : Int)) = true := decide_eq_true (by omega); have k2 : ((k : Int) == 0) = false := by simp; omega)
    all_goals
      go_wp2
      all_goals
        go_ret
        refine ⟨ret_int ?_, HB.out⟩
        rw [Hfw.out]
        simp only [LEn]
        clear HB hb1 hc1 hf1 HP
        repeat' split
        all_goals first | rfl | omega | (exfalso; simp_all; done) | (exfalso; simp_all; omega) | (simp_all; done) | (simp_all; omega)


set_option maxHeartbeats 16000000 in
set_option maxRecDepth 1000000 in
theorem lof_fr (n : Bool) (s : ByteArray) (k : Nat) (l : Int) (mo wh : Bool) (w : World) (hP : PartsTo n s k l mo wh) (h0 : 0 ≤ l) (h1 : l ≤ 99) :
    Calls Tryd.prog 10 #[.string ⟨#[102, 114]⟩, .agg #[.bool n, .string s, .int .i64 k]] w fun e w' => e = .returned (.int .i64 (LFr l mo wh (fewB l) k)) ∧ Below w.heap.size w w' := by
  have HP := Lib.hid hP
  clear hP
  go_enter Tryd.func10, Tryd.ntmps10
  go_wp2_with fail
  go_at_call 20
  refine (HP.out _).mono ?_
  rintro e w1 ⟨rfl, hb1⟩
  obtain ⟨hc1, hf1⟩ := bcell hb1
  have HB := Lib.hid (below_box hb1)
  go_upto_region 3 with fail
  go_cut [9] (fun v wx => v = .bool (fewB l) ∧ wx = w1)
  case first =>
    by_cases a1 : 2 ≤ l % 10
    · by_cases a2 : l % 10 ≤ 4
      · by_cases a3 : l < 12
        · have E := Lib.hid (show fewB l = true by unfold fewB; simp [a1, a2, a3])
          have b1 : decide (2 ≤ l % 10) = true := decide_eq_true a1
          have b2 : decide (l % 10 ≤ 4) = true := decide_eq_true a2
          have b3 : decide (l < 12) = true := decide_eq_true a3
          go_wp2_with fail
          go_meet
          exact ⟨by rw [E.out], rfl⟩
        · by_cases a4 : 14 < l
          · have E := Lib.hid (show fewB l = true by unfold fewB; simp [a1, a2, a4])
            have b1 : decide (2 ≤ l % 10) = true := decide_eq_true a1
            have b2 : decide (l % 10 ≤ 4) = true := decide_eq_true a2
            have b3 : decide (l < 12) = false := decide_eq_false a3
            have b4 : decide (14 < l) = true := decide_eq_true a4
            go_wp2_with fail
            go_meet
            exact ⟨by rw [E.out], rfl⟩
          · have E := Lib.hid (show fewB l = false by unfold fewB; simp [a3, a4])
            have b1 : decide (2 ≤ l % 10) = true := decide_eq_true a1
            have b2 : decide (l % 10 ≤ 4) = true := decide_eq_true a2
            have b3 : decide (l < 12) = false := decide_eq_false a3
            have b4 : decide (14 < l) = false := decide_eq_false a4
            go_wp2_with fail
            go_meet
            exact ⟨by rw [E.out], rfl⟩
      · have E := Lib.hid (show fewB l = false by unfold fewB; simp [a2])
        have b1 : decide (2 ≤ l % 10) = true := decide_eq_true a1
        have b2 : decide (l % 10 ≤ 4) = false := decide_eq_false a2
        go_wp2_with fail
        go_meet
        exact ⟨by rw [E.out], rfl⟩
    · have E := Lib.hid (show fewB l = false by unfold fewB; simp [a1])
      have b1 : decide (2 ≤ l % 10) = false := decide_eq_false a1
      go_wp2_with fail
      go_meet
      exact ⟨by rw [E.out], rfl⟩
  case rest =>
    obtain ⟨rfl, rfl⟩ := hcut
    generalize hfw : fewB l = fw
    have Hfw := Lib.hid hfw
    clear hfw
    cases mo
    all_goals
      go_wp2
      all_goals
        go_ret
        refine ⟨ret_int ?_, HB.out⟩
        rw [Hfw.out]
        simp only [LFr]
        clear HB hb1 hc1 hf1 HP
        repeat' split
        all_goals first | rfl | omega | (exfalso; simp_all; done) | (exfalso; simp_all; omega) | (simp_all; done) | (simp_all; omega)


set_option maxHeartbeats 16000000 in
set_option maxRecDepth 1000000 in
theorem lof_es (n : Bool) (s : ByteArray) (k : Nat) (l : Int) (mo wh : Bool) (w : World) (hP : PartsTo n s k l mo wh) (h0 : 0 ≤ l) (h1 : l ≤ 99) :
    Calls Tryd.prog 10 #[.string ⟨#[101, 115]⟩, .agg #[.bool n, .string s, .int .i64 k]] w fun e w' => e = .returned (.int .i64 (LEs l mo wh (fewB l) k)) ∧ Below w.heap.size w w' := by
  have HP := Lib.hid hP
  clear hP
  go_enter Tryd.func10, Tryd.ntmps10
  go_wp2_with fail
  go_at_call 20
  refine (HP.out _).mono ?_
  rintro e w1 ⟨rfl, hb1⟩
  obtain ⟨hc1, hf1⟩ := bcell hb1
  have HB := Lib.hid (below_box hb1)
  go_upto_region 3 with fail
  go_cut [9] (fun v wx => v = .bool (fewB l) ∧ wx = w1)
  case first =>
    by_cases a1 : 2 ≤ l % 10
    · by_cases a2 : l % 10 ≤ 4
      · by_cases a3 : l < 12
        · have E := Lib.hid (show fewB l = true by unfold fewB; simp [a1, a2, a3])
          have b1 : decide (2 ≤ l % 10) = true := decide_eq_true a1
          have b2 : decide (l % 10 ≤ 4) = true := decide_eq_true a2
          have b3 : decide (l < 12) = true := decide_eq_true a3
          go_wp2_with fail
          go_meet
          exact ⟨by rw [E.out], rfl⟩
        · by_cases a4 : 14 < l
          · have E := Lib.hid (show fewB l = true by unfold fewB; simp [a1, a2, a4])
            have b1 : decide (2 ≤ l % 10) = true := decide_eq_true a1
            have b2 : decide (l % 10 ≤ 4) = true := decide_eq_true a2
            have b3 : decide (l < 12) = false := decide_eq_false a3
            have b4 : decide (14 < l) = true := decide_eq_true a4
            go_wp2_with fail
            go_meet
            exact ⟨by rw [E.out], rfl⟩
          · have E := Lib.hid (show fewB l = false by unfold fewB; simp [a3, a4])
            have b1 : decide (2 ≤ l % 10) = true := decide_eq_true a1
            have b2 : decide (l % 10 ≤ 4) = true := decide_eq_true a2
            have b3 : decide (l < 12) = false := decide_eq_false a3
            have b4 : decide (14 < l) = false := decide_eq_false a4
            go_wp2_with fail
            go_meet
            exact ⟨by rw [E.out], rfl⟩
      · have E := Lib.hid (show fewB l = false by unfold fewB; simp [a2])
        have b1 : decide (2 ≤ l % 10) = true := decide_eq_true a1
        have b2 : decide (l % 10 ≤ 4) = false := decide_eq_false a2
        go_wp2_with fail
        go_meet
        exact ⟨by rw [E.out], rfl⟩
    · have E := Lib.hid (show fewB l = false by unfold fewB; simp [a1])
      have b1 : decide (2 ≤ l % 10) = false := decide_eq_false a1
      go_wp2_with fail
      go_meet
      exact ⟨by rw [E.out], rfl⟩
  case rest =>
    obtain ⟨rfl, rfl⟩ := hcut
    generalize hfw : fewB l = fw
    have Hfw := Lib.hid hfw
    clear hfw
    cases mo
    all_goals cases wh
    all_goals
      go_wp2
      all_goals
        go_ret
        refine ⟨ret_int ?_, HB.out⟩
        rw [Hfw.out]
        simp only [LEs]
        clear HB hb1 hc1 hf1 HP
        repeat' split
        all_goals first | rfl | omega | (exfalso; simp_all; done) | (exfalso; simp_all; omega) | (simp_all; done) | (simp_all; omega)


set_option maxHeartbeats 16000000 in
set_option maxRecDepth 1000000 in
theorem lof_pl (n : Bool) (s : ByteArray) (k : Nat) (l : Int) (mo wh : Bool) (w : World) (hP : PartsTo n s k l mo wh) (h0 : 0 ≤ l) (h1 : l ≤ 99) :
    Calls Tryd.prog 10 #[.string ⟨#[112, 108]⟩, .agg #[.bool n, .string s, .int .i64 k]] w fun e w' => e = .returned (.int .i64 (LPl l mo wh (fewB l) k)) ∧ Below w.heap.size w w' := by
  have HP := Lib.hid hP
  clear hP
  go_enter Tryd.func10, Tryd.ntmps10
  go_wp2_with fail
  go_at_call 20
  refine (HP.out _).mono ?_
  rintro e w1 ⟨rfl, hb1⟩
  obtain ⟨hc1, hf1⟩ := bcell hb1
  have HB := Lib.hid (below_box hb1)
  go_upto_region 3 with fail
  go_cut [9] (fun v wx => v = .bool (fewB l) ∧ wx = w1)
  case first =>
    by_cases a1 : 2 ≤ l % 10
    · by_cases a2 : l % 10 ≤ 4
      · by_cases a3 : l < 12
        · have E := Lib.hid (show fewB l = true by unfold fewB; simp [a1, a2, a3])
          have b1 : decide (2 ≤ l % 10) = true := decide_eq_true a1
          have b2 : decide (l % 10 ≤ 4) = true := decide_eq_true a2
          have b3 : decide (l < 12) = true := decide_eq_true a3
          go_wp2_with fail
          go_meet
          exact ⟨by rw [E.out], rfl⟩
        · by_cases a4 : 14 < l
          · have E := Lib.hid (show fewB l = true by unfold fewB; simp [a1, a2, a4])
            have b1 : decide (2 ≤ l % 10) = true := decide_eq_true a1
            have b2 : decide (l % 10 ≤ 4) = true := decide_eq_true a2
            have b3 : decide (l < 12) = false := decide_eq_false a3
            have b4 : decide (14 < l) = true := decide_eq_true a4
            go_wp2_with fail
            go_meet
            exact ⟨by rw [E.out], rfl⟩
          · have E := Lib.hid (show fewB l = false by unfold fewB; simp [a3, a4])
            have b1 : decide (2 ≤ l % 10) = true := decide_eq_true a1
            have b2 : decide (l % 10 ≤ 4) = true := decide_eq_true a2
            have b3 : decide (l < 12) = false := decide_eq_false a3
            have b4 : decide (14 < l) = false := decide_eq_false a4
            go_wp2_with fail
            go_meet
            exact ⟨by rw [E.out], rfl⟩
      · have E := Lib.hid (show fewB l = false by unfold fewB; simp [a2])
        have b1 : decide (2 ≤ l % 10) = true := decide_eq_true a1
        have b2 : decide (l % 10 ≤ 4) = false := decide_eq_false a2
        go_wp2_with fail
        go_meet
        exact ⟨by rw [E.out], rfl⟩
    · have E := Lib.hid (show fewB l = false by unfold fewB; simp [a1])
      have b1 : decide (2 ≤ l % 10) = false := decide_eq_false a1
      go_wp2_with fail
      go_meet
      exact ⟨by rw [E.out], rfl⟩
  case rest =>
    obtain ⟨rfl, rfl⟩ := hcut
    generalize hfw : fewB l = fw
    have Hfw := Lib.hid hfw
    clear hfw
    cases mo
    all_goals cases fw
    all_goals by_cases hk : k = 0
    all_goals first | subst hk | (have k1 : decide ((0 : Int) < (k : Int)) = true := decide_eq_true (by omega); have k2 : ((k : Int) == 0) = false := by simp; omega)
    all_goals
      go_wp2
      all_goals
        go_ret
        refine ⟨ret_int ?_, HB.out⟩
        rw [Hfw.out]
        simp only [LPl]
        clear HB hb1 hc1 hf1 HP
        repeat' split
        all_goals first | rfl | omega | (exfalso; simp_all; done) | (exfalso; simp_all; omega) | (simp_all; done) | (simp_all; omega)


set_option maxHeartbeats 16000000 in
set_option maxRecDepth 1000000 in
theorem lof_ru (n : Bool) (s : ByteArray) (k : Nat) (l : Int) (mo wh : Bool) (w : World) (hP : PartsTo n s k l mo wh) (h0 : 0 ≤ l) (h1 : l ≤ 99) :
    Calls Tryd.prog 10 #[.string ⟨#[114, 117]⟩, .agg #[.bool n, .string s, .int .i64 k]] w fun e w' => e = .returned (.int .i64 (LRu l mo wh (fewB l) k)) ∧ Below w.heap.size w w' := by
  have HP := Lib.hid hP
  clear hP
  go_enter Tryd.func10, Tryd.ntmps10
  go_wp2_with fail
  go_at_call 20
  refine (HP.out _).mono ?_
  rintro e w1 ⟨rfl, hb1⟩
  obtain ⟨hc1, hf1⟩ := bcell hb1
  have HB := Lib.hid (below_box hb1)
  go_upto_region 3 with fail
  go_cut [9] (fun v wx => v = .bool (fewB l) ∧ wx = w1)
  case first =>
    by_cases a1 : 2 ≤ l % 10
    · by_cases a2 : l % 10 ≤ 4
      · by_cases a3 : l < 12
        · have E := Lib.hid (show fewB l = true by unfold fewB; simp [a1, a2, a3])
          have b1 : decide (2 ≤ l % 10) = true := decide_eq_true a1
          have b2 : decide (l % 10 ≤ 4) = true := decide_eq_true a2
          have b3 : decide (l < 12) = true := decide_eq_true a3
          go_wp2_with fail
          go_meet
          exact ⟨by rw [E.out], rfl⟩
        · by_cases a4 : 14 < l
          · have E := Lib.hid (show fewB l = true by unfold fewB; simp [a1, a2, a4])
            have b1 : decide (2 ≤ l % 10) = true := decide_eq_true a1
            have b2 : decide (l % 10 ≤ 4) = true := decide_eq_true a2
            have b3 : decide (l < 12) = false := decide_eq_false a3
            have b4 : decide (14 < l) = true := decide_eq_true a4
            go_wp2_with fail
            go_meet
            exact ⟨by rw [E.out], rfl⟩
          · have E := Lib.hid (show fewB l = false by unfold fewB; simp [a3, a4])
            have b1 : decide (2 ≤ l % 10) = true := decide_eq_true a1
            have b2 : decide (l % 10 ≤ 4) = true := decide_eq_true a2
            have b3 : decide (l < 12) = false := decide_eq_false a3
            have b4 : decide (14 < l) = false := decide_eq_false a4
            go_wp2_with fail
            go_meet
            exact ⟨by rw [E.out], rfl⟩
      · have E := Lib.hid (show fewB l = false by unfold fewB; simp [a2])
        have b1 : decide (2 ≤ l % 10) = true := decide_eq_true a1
        have b2 : decide (l % 10 ≤ 4) = false := decide_eq_false a2
        go_wp2_with fail
        go_meet
        exact ⟨by rw [E.out], rfl⟩
    · have E := Lib.hid (show fewB l = false by unfold fewB; simp [a1])
      have b1 : decide (2 ≤ l % 10) = false := decide_eq_false a1
      go_wp2_with fail
      go_meet
      exact ⟨by rw [E.out], rfl⟩
  case rest =>
    obtain ⟨rfl, rfl⟩ := hcut
    generalize hfw : fewB l = fw
    have Hfw := Lib.hid hfw
    clear hfw
    cases mo
    all_goals cases fw
    all_goals by_cases hk : k = 0
    all_goals first | subst hk | (have k1 : decide ((0 : Int) < (k : Int)) = true := decide_eq_true (by omega); have k2 : ((k : Int) == 0) = false := by simp; omega)
    all_goals
      go_wp2
      all_goals
        go_ret
        refine ⟨ret_int ?_, HB.out⟩
        rw [Hfw.out]
        simp only [LRu]
        clear HB hb1 hc1 hf1 HP
        repeat' split
        all_goals first | rfl | omega | (exfalso; simp_all; done) | (exfalso; simp_all; omega) | (simp_all; done) | (simp_all; omega)


set_option maxHeartbeats 16000000 in
set_option maxRecDepth 1000000 in
theorem lof_cs (n : Bool) (s : ByteArray) (k : Nat) (l : Int) (mo wh : Bool) (w : World) (hP : PartsTo n s k l mo wh) (h0 : 0 ≤ l) (h1 : l ≤ 99) :
    Calls Tryd.prog 10 #[.string ⟨#[99, 115]⟩, .agg #[.bool n, .string s, .int .i64 k]] w fun e w' => e = .returned (.int .i64 (LCs l mo wh (fewB l) k)) ∧ Below w.heap.size w w' := by
  have HP := Lib.hid hP
  clear hP
  go_enter Tryd.func10, Tryd.ntmps10
  go_wp2_with fail
  go_at_call 20
  refine (HP.out _).mono ?_
  rintro e w1 ⟨rfl, hb1⟩
  obtain ⟨hc1, hf1⟩ := bcell hb1
  have HB := Lib.hid (below_box hb1)
  go_upto_region 3 with fail
  go_cut [9] (fun v wx => v = .bool (fewB l) ∧ wx = w1)
  case first =>
    by_cases a1 : 2 ≤ l % 10
    · by_cases a2 : l % 10 ≤ 4
      · by_cases a3 : l < 12
        · have E := Lib.hid (show fewB l = true by unfold fewB; simp [a1, a2, a3])
          have b1 : decide (2 ≤ l % 10) = true := decide_eq_true a1
          have b2 : decide (l % 10 ≤ 4) = true := decide_eq_true a2
          have b3 : decide (l < 12) = true := decide_eq_true a3
          go_wp2_with fail
          go_meet
          exact ⟨by rw [E.out], rfl⟩
        · by_cases a4 : 14 < l
          · have E := Lib.hid (show fewB l = true by unfold fewB; simp [a1, a2, a4])
            have b1 : decide (2 ≤ l % 10) = true := decide_eq_true a1
            have b2 : decide (l % 10 ≤ 4) = true := decide_eq_true a2
            have b3 : decide (l < 12) = false := decide_eq_false a3
            have b4 : decide (14 < l) = true := decide_eq_true a4
            go_wp2_with fail
            go_meet
            exact ⟨by rw [E.out], rfl⟩
          · have E := Lib.hid (show fewB l = false by unfold fewB; simp [a3, a4])
            have b1 : decide (2 ≤ l % 10) = true := decide_eq_true a1
            have b2 : decide (l % 10 ≤ 4) = true := decide_eq_true a2
            have b3 : decide (l < 12) = false := decide_eq_false a3
            have b4 : decide (14 < l) = false := decide_eq_false a4
            go_wp2_with fail
            go_meet
            exact ⟨by rw [E.out], rfl⟩
      · have E := Lib.hid (show fewB l = false by unfold fewB; simp [a2])
        have b1 : decide (2 ≤ l % 10) = true := decide_eq_true a1
        have b2 : decide (l % 10 ≤ 4) = false := decide_eq_false a2
        go_wp2_with fail
        go_meet
        exact ⟨by rw [E.out], rfl⟩
    · have E := Lib.hid (show fewB l = false by unfold fewB; simp [a1])
      have b1 : decide (2 ≤ l % 10) = false := decide_eq_false a1
      go_wp2_with fail
      go_meet
      exact ⟨by rw [E.out], rfl⟩
  case rest =>
    obtain ⟨rfl, rfl⟩ := hcut
    generalize hfw : fewB l = fw
    have Hfw := Lib.hid hfw
    clear hfw
    cases mo
    all_goals by_cases hk : k = 0
    all_goals first | subst hk | (have k1 : decide ((0 : Int) < (k : Int)) = true := decide_eq_true (by omega); have k2 : ((k : Int) == 0) = false := by simp; omega)
    all_goals
      go_wp2
      all_goals
        go_ret
        refine ⟨ret_int ?_, HB.out⟩
        rw [Hfw.out]
        simp only [LCs]
        clear HB hb1 hc1 hf1 HP
        repeat' split
        all_goals first | rfl | omega | (exfalso; simp_all; done) | (exfalso; simp_all; omega) | (simp_all; done) | (simp_all; omega)


set_option maxHeartbeats 16000000 in
set_option maxRecDepth 1000000 in
theorem lof_ar (n : Bool) (s : ByteArray) (k : Nat) (l : Int) (mo wh : Bool) (w : World) (hP : PartsTo n s k l mo wh) (h0 : 0 ≤ l) (h1 : l ≤ 99) :
    Calls Tryd.prog 10 #[.string ⟨#[97, 114]⟩, .agg #[.bool n, .string s, .int .i64 k]] w fun e w' => e = .returned (.int .i64 (LAr l mo wh (fewB l) k)) ∧ Below w.heap.size w w' := by
  have HP := Lib.hid hP
  clear hP
  go_enter Tryd.func10, Tryd.ntmps10
  go_wp2_with fail
  go_at_call 20
  refine (HP.out _).mono ?_
  rintro e w1 ⟨rfl, hb1⟩
  obtain ⟨hc1, hf1⟩ := bcell hb1
  have HB := Lib.hid (below_box hb1)
  go_upto_region 3 with fail
  go_cut [9] (fun v wx => v = .bool (fewB l) ∧ wx = w1)
  case first =>
    by_cases a1 : 2 ≤ l % 10
    · by_cases a2 : l % 10 ≤ 4
      · by_cases a3 : l < 12
        · have E := Lib.hid (show fewB l = true by unfold fewB; simp [a1, a2, a3])
          have b1 : decide (2 ≤ l % 10) = true := decide_eq_true a1
          have b2 : decide (l % 10 ≤ 4) = true := decide_eq_true a2
          have b3 : decide (l < 12) = true := decide_eq_true a3
          go_wp2_with fail
          go_meet
          exact ⟨by rw [E.out], rfl⟩
        · by_cases a4 : 14 < l
          · have E := Lib.hid (show fewB l = true by unfold fewB; simp [a1, a2, a4])
            have b1 : decide (2 ≤ l % 10) = true := decide_eq_true a1
            have b2 : decide (l % 10 ≤ 4) = true := decide_eq_true a2
            have b3 : decide (l < 12) = false := decide_eq_false a3
            have b4 : decide (14 < l) = true := decide_eq_true a4
            go_wp2_with fail
            go_meet
            exact ⟨by rw [E.out], rfl⟩
          · have E := Lib.hid (show fewB l = false by unfold fewB; simp [a3, a4])
            have b1 : decide (2 ≤ l % 10) = true := decide_eq_true a1
            have b2 : decide (l % 10 ≤ 4) = true := decide_eq_true a2
            have b3 : decide (l < 12) = false := decide_eq_false a3
            have b4 : decide (14 < l) = false := decide_eq_false a4
            go_wp2_with fail
            go_meet
            exact ⟨by rw [E.out], rfl⟩
      · have E := Lib.hid (show fewB l = false by unfold fewB; simp [a2])
        have b1 : decide (2 ≤ l % 10) = true := decide_eq_true a1
        have b2 : decide (l % 10 ≤ 4) = false := decide_eq_false a2
        go_wp2_with fail
        go_meet
        exact ⟨by rw [E.out], rfl⟩
    · have E := Lib.hid (show fewB l = false by unfold fewB; simp [a1])
      have b1 : decide (2 ≤ l % 10) = false := decide_eq_false a1
      go_wp2_with fail
      go_meet
      exact ⟨by rw [E.out], rfl⟩
  case rest =>
    obtain ⟨rfl, rfl⟩ := hcut
    generalize hfw : fewB l = fw
    have Hfw := Lib.hid hfw
    clear hfw
    cases wh
    · cases mo
      all_goals
        go_wp2
        all_goals
          go_ret
          refine ⟨ret_int ?_, HB.out⟩
          rw [Hfw.out]
          simp only [LAr]
          clear HB hb1 hc1 hf1 HP
          repeat' split
          all_goals first | rfl | omega | (exfalso; simp_all; done) | (exfalso; simp_all; omega) | (simp_all; done) | (simp_all; omega)
  
    · cases mo
      · by_cases h2 : l ≤ 2
        · have : l = 0 ∨ l = 1 ∨ l = 2 := by omega
          clear h2 hc1 hf1
          rcases this with rfl | rfl | rfl
          all_goals
            go_wp2
            go_ret
            exact ⟨ret_int (by simp [LAr]), below_new HB.out (Nat.le_refl _) _⟩
        · skip
          all_goals
            go_wp2
            all_goals
              go_ret
              refine ⟨ret_int ?_, HB.out⟩
              rw [Hfw.out]
              simp only [LAr]
              clear HB hb1 hc1 hf1 HP
              repeat' split
              all_goals first | rfl | omega | (exfalso; simp_all; done) | (exfalso; simp_all; omega) | (simp_all; done) | (simp_all; omega)
      
      · skip
        all_goals
          go_wp2
          all_goals
            go_ret
            refine ⟨ret_int ?_, HB.out⟩
            rw [Hfw.out]
            simp only [LAr]
            clear HB hb1 hc1 hf1 HP
            repeat' split
            all_goals first | rfl | omega | (exfalso; simp_all; done) | (exfalso; simp_all; omega) | (simp_all; done) | (simp_all; omega)
    

set_option maxHeartbeats 16000000 in
set_option maxRecDepth 1000000 in
theorem lof_no (x : ByteArray) (n : Bool) (s : ByteArray) (k : Nat) (l : Int) (mo wh : Bool) (w : World) (hP : PartsTo n s k l mo wh) (h0 : 0 ≤ l) (h1 : l ≤ 99) (q0 : (x.toList == [101, 110]) = false) (q1 : (x.toList == [100, 101]) = false) (q2 : (x.toList == [110, 108]) = false) (q3 : (x.toList == [115, 118]) = false) (q4 : (x.toList == [102, 114]) = false) (q5 : (x.toList == [101, 115]) = false) (q6 : (x.toList == [112, 108]) = false) (q7 : (x.toList == [114, 117]) = false) (q8 : (x.toList == [99, 115]) = false) (q9 : (x.toList == [97, 114]) = false) :
    Calls Tryd.prog 10 #[.string x, .agg #[.bool n, .string s, .int .i64 k]] w fun e w' => e = .returned (.int .i64 (0)) ∧ Below w.heap.size w w' := by
  have HP := Lib.hid hP
  clear hP
  go_enter Tryd.func10, Tryd.ntmps10
  go_wp2_with fail
  go_at_call 20
  refine (HP.out _).mono ?_
  rintro e w1 ⟨rfl, hb1⟩
  obtain ⟨hc1, hf1⟩ := bcell hb1
  have HB := Lib.hid (below_box hb1)
  go_upto_region 3 with fail
  go_cut [9] (fun v wx => v = .bool (fewB l) ∧ wx = w1)
  case first =>
    by_cases a1 : 2 ≤ l % 10
    · by_cases a2 : l % 10 ≤ 4
      · by_cases a3 : l < 12
        · have E := Lib.hid (show fewB l = true by unfold fewB; simp [a1, a2, a3])
          have b1 : decide (2 ≤ l % 10) = true := decide_eq_true a1
          have b2 : decide (l % 10 ≤ 4) = true := decide_eq_true a2
          have b3 : decide (l < 12) = true := decide_eq_true a3
          go_wp2_with fail
          go_meet
          exact ⟨by rw [E.out], rfl⟩
        · by_cases a4 : 14 < l
          · have E := Lib.hid (show fewB l = true by unfold fewB; simp [a1, a2, a4])
            have b1 : decide (2 ≤ l % 10) = true := decide_eq_true a1
            have b2 : decide (l % 10 ≤ 4) = true := decide_eq_true a2
            have b3 : decide (l < 12) = false := decide_eq_false a3
            have b4 : decide (14 < l) = true := decide_eq_true a4
            go_wp2_with fail
            go_meet
            exact ⟨by rw [E.out], rfl⟩
          · have E := Lib.hid (show fewB l = false by unfold fewB; simp [a3, a4])
            have b1 : decide (2 ≤ l % 10) = true := decide_eq_true a1
            have b2 : decide (l % 10 ≤ 4) = true := decide_eq_true a2
            have b3 : decide (l < 12) = false := decide_eq_false a3
            have b4 : decide (14 < l) = false := decide_eq_false a4
            go_wp2_with fail
            go_meet
            exact ⟨by rw [E.out], rfl⟩
      · have E := Lib.hid (show fewB l = false by unfold fewB; simp [a2])
        have b1 : decide (2 ≤ l % 10) = true := decide_eq_true a1
        have b2 : decide (l % 10 ≤ 4) = false := decide_eq_false a2
        go_wp2_with fail
        go_meet
        exact ⟨by rw [E.out], rfl⟩
    · have E := Lib.hid (show fewB l = false by unfold fewB; simp [a1])
      have b1 : decide (2 ≤ l % 10) = false := decide_eq_false a1
      go_wp2_with fail
      go_meet
      exact ⟨by rw [E.out], rfl⟩
  case rest =>
    obtain ⟨rfl, rfl⟩ := hcut
    generalize hfw : fewB l = fw
    have Hfw := Lib.hid hfw
    clear hfw
    all_goals
      go_wp2
      all_goals
        go_ret
        exact ⟨rfl, HB.out⟩


end Go.Proofs.YtmkcebngobanjabDoor
