import Derived.Test.YtjgfijpgoffmlabDoorFix
namespace Go.Proofs.YtjgfijpgoffmlabDoor
open Go.RowKit


set_option maxHeartbeats 2000000 in
set_option maxRecDepth 100000 in
theorem less_any (A B : Nat → Int) (w : World) :
    Calls Tryd.prog 17 #[.agg (row 200 A), .agg (row 200 B)] w fun e w' => e = .returned (.int .i64 (lexF A B 0 200)) ∧ Below w.heap.size w w' := by
  have hrs := row_size 200
  go_enter Tryd.func17, Tryd.ntmps17
  go_wp2
  go_loopw [6] (fun i wr => ∃ j f : Nat, j + f = 200 ∧ i = .int .i64 j ∧ lexF A B j f = lexF A B 0 200 ∧ RowF wr w.heap.size A ∧ RowF wr (w.heap.size + 1) B ∧ Below w.heap.size w wr) (fun i _ => 200 - (intOf i).toNat)
  case atStart =>
    refine ⟨0, 200, rfl, rfl, rfl, ?_, ?_, ?_⟩
    · exact (RowF.new w A 31).alloc (by simp) _
    · have := RowF.new (w.alloc (.cells (row 200 A) 31)) B 31
      simpa using this
    · exact ((Below.refl _ _).alloc (Nat.le_refl _) _).alloc (by simp) _
  case round =>
    obtain ⟨j, f, hjf, rfl, hl, hA, hB, hb⟩ := hrel
    cases f with
    | zero =>
      obtain rfl : j = 200 := by omega
      have h0 : lexF A B 0 200 = 0 := by rw [← hl]; rfl
      clear hl
      go_wp2
      go_ret
      exact ⟨rfl, hb⟩
    | succ f =>
      have hj : j < 200 := by omega
      have hj' : (j : Int) < 200 := by omega
      obtain ⟨ca, -⟩ := hA j hj
      obtain ⟨cb, -⟩ := hB j hj
      have hcl : lexF A B j (f + 1) = if A j < B j then -1 else if B j < A j then 1 else lexF A B (j + 1) f := rfl
      rw [hcl] at hl
      have HA := Lib.hid hA
      have HB := Lib.hid hB
      have Hl := Lib.hid hl
      clear hA hB hl hcl
      by_cases h1 : A j < B j
      · have hv := Hl.out
        rw [if_pos h1] at hv
        have d1 : decide (A j < B j) = true := decide_eq_true h1
        have Hv := Lib.hid hv
        clear hv
        go_wp2_with fail
        go_region
        go_wp2
        go_ret
        exact ⟨by rw [← Hv.out]; rfl, by first | exact hb.drew | exact hb.drew.drew⟩
      · have d1 : decide (A j < B j) = false := decide_eq_false h1
        by_cases h2 : B j < A j
        · have hv := Hl.out
          rw [if_neg h1, if_pos h2] at hv
          have d2 : decide (A j > B j) = true := decide_eq_true h2
          have d3 : decide (B j < A j) = true := decide_eq_true h2
          have Hv := Lib.hid hv
          clear hv
          go_wp2_with fail
          go_region
          go_wp2_with fail
          go_region
          go_wp2
          go_ret
          exact ⟨by rw [← Hv.out]; rfl, by first | exact hb.drew.drew | exact hb.drew⟩
        · have hv := Hl.out
          rw [if_neg h1, if_neg h2] at hv
          have d2 : decide (A j > B j) = false := decide_eq_false h2
          have d3 : decide (B j < A j) = false := decide_eq_false h2
          have Hv := Lib.hid hv
          clear hv
          go_wp2_with fail
          go_region
          go_wp2_with fail
          go_region
          go_wp2
          go_roundw
          case rel => exact ⟨j + 1, f, by omega, by go_num, Hv.out, HA.out.drew.drew, HB.out.drew.drew, hb.drew.drew⟩
          case measure => simp [intOf]; omega
end Go.Proofs.YtjgfijpgoffmlabDoor
