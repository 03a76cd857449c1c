/-
  Several texts put together (part 8): what the law and the program call, walked; their contracts.
-/
import Derived.Test.YtamghpleajbonaaGreatDoorQ3
namespace Go.Proofs.YtamghpleajbonaaGreatDoor
open Go.RowKit
set_option maxHeartbeats 1000000 in
theorem behind_sp (s : ByteArray) (i : Int) (w : World) (hs : s.size ≤ 9223372036854775807) :
    Calls Tryz.prog 58 #[.string s, .int .i64 i, .func (.func 59) #[] #[]] w fun e w' => e = .returned (.int .i64 (behI spB s.data.toList i)) ∧ w = w' := by
  have HN := Lib.hid tells_space
  by_cases h0 : i < 0
  · have e : behI spB s.data.toList i = i := by unfold behI; rw [if_pos h0]
    have E := Lib.hid e
    clear e
    go_enter Tryz.func58, Tryz.ntmps58
    go_wp2_with fail
    go_loop [1] (fun t => t = .int .i64 i) (fun _ => 0)
    case atStart => rfl
    case round =>
      subst hrel
      go_wp2_with fail
      go_at_call 76
      refine (within_no _ _ _ (.inl h0)).mono ?_
      rintro e w' ⟨rfl, rfl⟩
      go_wp2_with fail
      go_ret
      exact ⟨ret_int E.out.symm, rfl⟩
  · obtain ⟨k, rfl⟩ : ∃ k : Nat, i = (k : Int) := ⟨i.toNat, by omega⟩
    obtain ⟨B, hB⟩ : ∃ B, behN spB s.data.toList k = B := ⟨_, rfl⟩
    have e : behI spB s.data.toList (k : Int) = (B : Int) := by unfold behI; rw [if_neg h0, Int.toNat_natCast, hB]
    have E := Lib.hid e
    have HB := Lib.hid hB
    clear e hB h0
    go_enter Tryz.func58, Tryz.ntmps58
    go_wp2_with fail
    go_loop [1] (fun t => ∃ j : Nat, t = .int .i64 j ∧ Hid (behN spB s.data.toList j = B)) (fun t => s.size - (intOf t).toNat)
    case atStart => exact ⟨k, rfl, HB⟩
    case round =>
      obtain ⟨j, rfl, hj⟩ := hrel
      by_cases hlt : j < s.size
      · have hlt' : j < s.data.toList.length := by rw [size_data]; exact hlt
        have hi0 : (0 : Int) ≤ (j : Int) := by omega
        have hi1 : (j : Int) < (s.size : Int) := by omega
        cases hp : spB s[j]
        · have hno := Lib.hid (behN_no spB s.data.toList j hlt' hp)
          have Hp := Lib.hid hp
          clear hp
          go_wp2_with fail
          go_at_call 76
          refine (within_yes _ _ _ hi0 hi1).mono ?_
          rintro e w' ⟨rfl, rfl⟩
          go_wp2_with fail
          go_at_call 59
          refine (HN.out s[j] _).mono ?_
          rw [Hp.out]
          rintro e w' ⟨rfl, rfl⟩
          go_wp2_with fail
          go_ret
          exact ⟨ret_int (by rw [E.out, ← hj.out, hno.out]), rfl⟩
        · have hyes := Lib.hid (behN_yes spB s.data.toList j hlt' hp)
          have Hp := Lib.hid hp
          clear hp
          go_wp2_with fail
          go_at_call 76
          refine (within_yes _ _ _ hi0 hi1).mono ?_
          rintro e w' ⟨rfl, rfl⟩
          go_wp2_with fail
          go_at_call 59
          refine (HN.out s[j] _).mono ?_
          rw [Hp.out]
          rintro e w' ⟨rfl, rfl⟩
          go_wp2_with fail
          go_round
          case rel => exact ⟨j + 1, by go_num, Lib.hid (by rw [hyes.out, hj.out])⟩
          case measure => simp [intOf]; omega
      · have hend := Lib.hid (behN_end spB s.data.toList j (by rw [size_data]; omega))
        go_wp2_with fail
        go_at_call 76
        refine (within_no _ _ _ (.inr (by omega))).mono ?_
        rintro e w' ⟨rfl, rfl⟩
        go_wp2_with fail
        go_ret
        exact ⟨ret_int (by rw [E.out, ← hj.out, hend.out]), rfl⟩
set_option maxHeartbeats 1000000 in
theorem behind_bl (s : ByteArray) (i : Int) (w : World) (hs : s.size ≤ 9223372036854775807) :
    Calls Tryz.prog 58 #[.string s, .int .i64 i, .func (.func 107) #[] #[]] w fun e w' => e = .returned (.int .i64 (behI blB s.data.toList i)) ∧ w = w' := by
  have HN := Lib.hid tells_blank
  by_cases h0 : i < 0
  · have e : behI blB s.data.toList i = i := by unfold behI; rw [if_pos h0]
    have E := Lib.hid e
    clear e
    go_enter Tryz.func58, Tryz.ntmps58
    go_wp2_with fail
    go_loop [1] (fun t => t = .int .i64 i) (fun _ => 0)
    case atStart => rfl
    case round =>
      subst hrel
      go_wp2_with fail
      go_at_call 76
      refine (within_no _ _ _ (.inl h0)).mono ?_
      rintro e w' ⟨rfl, rfl⟩
      go_wp2_with fail
      go_ret
      exact ⟨ret_int E.out.symm, rfl⟩
  · obtain ⟨k, rfl⟩ : ∃ k : Nat, i = (k : Int) := ⟨i.toNat, by omega⟩
    obtain ⟨B, hB⟩ : ∃ B, behN blB s.data.toList k = B := ⟨_, rfl⟩
    have e : behI blB s.data.toList (k : Int) = (B : Int) := by unfold behI; rw [if_neg h0, Int.toNat_natCast, hB]
    have E := Lib.hid e
    have HB := Lib.hid hB
    clear e hB h0
    go_enter Tryz.func58, Tryz.ntmps58
    go_wp2_with fail
    go_loop [1] (fun t => ∃ j : Nat, t = .int .i64 j ∧ Hid (behN blB s.data.toList j = B)) (fun t => s.size - (intOf t).toNat)
    case atStart => exact ⟨k, rfl, HB⟩
    case round =>
      obtain ⟨j, rfl, hj⟩ := hrel
      by_cases hlt : j < s.size
      · have hlt' : j < s.data.toList.length := by rw [size_data]; exact hlt
        have hi0 : (0 : Int) ≤ (j : Int) := by omega
        have hi1 : (j : Int) < (s.size : Int) := by omega
        cases hp : blB s[j]
        · have hno := Lib.hid (behN_no blB s.data.toList j hlt' hp)
          have Hp := Lib.hid hp
          clear hp
          go_wp2_with fail
          go_at_call 76
          refine (within_yes _ _ _ hi0 hi1).mono ?_
          rintro e w' ⟨rfl, rfl⟩
          go_wp2_with fail
          go_at_call 107
          refine (HN.out s[j] _).mono ?_
          rw [Hp.out]
          rintro e w' ⟨rfl, rfl⟩
          go_wp2_with fail
          go_ret
          exact ⟨ret_int (by rw [E.out, ← hj.out, hno.out]), rfl⟩
        · have hyes := Lib.hid (behN_yes blB s.data.toList j hlt' hp)
          have Hp := Lib.hid hp
          clear hp
          go_wp2_with fail
          go_at_call 76
          refine (within_yes _ _ _ hi0 hi1).mono ?_
          rintro e w' ⟨rfl, rfl⟩
          go_wp2_with fail
          go_at_call 107
          refine (HN.out s[j] _).mono ?_
          rw [Hp.out]
          rintro e w' ⟨rfl, rfl⟩
          go_wp2_with fail
          go_round
          case rel => exact ⟨j + 1, by go_num, Lib.hid (by rw [hyes.out, hj.out])⟩
          case measure => simp [intOf]; omega
      · have hend := Lib.hid (behN_end blB s.data.toList j (by rw [size_data]; omega))
        go_wp2_with fail
        go_at_call 76
        refine (within_no _ _ _ (.inr (by omega))).mono ?_
        rintro e w' ⟨rfl, rfl⟩
        go_wp2_with fail
        go_ret
        exact ⟨ret_int (by rw [E.out, ← hj.out, hend.out]), rfl⟩
set_option maxHeartbeats 1000000 in
theorem behind_na (s : ByteArray) (i : Int) (w : World) (hs : s.size ≤ 9223372036854775807) :
    Calls Tryz.prog 58 #[.string s, .int .i64 i, .func (.func 93) #[] #[]] w fun e w' => e = .returned (.int .i64 (behI naB s.data.toList i)) ∧ w = w' := by
  have HN := Lib.hid tells_name
  by_cases h0 : i < 0
  · have e : behI naB s.data.toList i = i := by unfold behI; rw [if_pos h0]
    have E := Lib.hid e
    clear e
    go_enter Tryz.func58, Tryz.ntmps58
    go_wp2_with fail
    go_loop [1] (fun t => t = .int .i64 i) (fun _ => 0)
    case atStart => rfl
    case round =>
      subst hrel
      go_wp2_with fail
      go_at_call 76
      refine (within_no _ _ _ (.inl h0)).mono ?_
      rintro e w' ⟨rfl, rfl⟩
      go_wp2_with fail
      go_ret
      exact ⟨ret_int E.out.symm, rfl⟩
  · obtain ⟨k, rfl⟩ : ∃ k : Nat, i = (k : Int) := ⟨i.toNat, by omega⟩
    obtain ⟨B, hB⟩ : ∃ B, behN naB s.data.toList k = B := ⟨_, rfl⟩
    have e : behI naB s.data.toList (k : Int) = (B : Int) := by unfold behI; rw [if_neg h0, Int.toNat_natCast, hB]
    have E := Lib.hid e
    have HB := Lib.hid hB
    clear e hB h0
    go_enter Tryz.func58, Tryz.ntmps58
    go_wp2_with fail
    go_loop [1] (fun t => ∃ j : Nat, t = .int .i64 j ∧ Hid (behN naB s.data.toList j = B)) (fun t => s.size - (intOf t).toNat)
    case atStart => exact ⟨k, rfl, HB⟩
    case round =>
      obtain ⟨j, rfl, hj⟩ := hrel
      by_cases hlt : j < s.size
      · have hlt' : j < s.data.toList.length := by rw [size_data]; exact hlt
        have hi0 : (0 : Int) ≤ (j : Int) := by omega
        have hi1 : (j : Int) < (s.size : Int) := by omega
        cases hp : naB s[j]
        · have hno := Lib.hid (behN_no naB s.data.toList j hlt' hp)
          have Hp := Lib.hid hp
          clear hp
          go_wp2_with fail
          go_at_call 76
          refine (within_yes _ _ _ hi0 hi1).mono ?_
          rintro e w' ⟨rfl, rfl⟩
          go_wp2_with fail
          go_at_call 93
          refine (HN.out s[j] _).mono ?_
          rw [Hp.out]
          rintro e w' ⟨rfl, rfl⟩
          go_wp2_with fail
          go_ret
          exact ⟨ret_int (by rw [E.out, ← hj.out, hno.out]), rfl⟩
        · have hyes := Lib.hid (behN_yes naB s.data.toList j hlt' hp)
          have Hp := Lib.hid hp
          clear hp
          go_wp2_with fail
          go_at_call 76
          refine (within_yes _ _ _ hi0 hi1).mono ?_
          rintro e w' ⟨rfl, rfl⟩
          go_wp2_with fail
          go_at_call 93
          refine (HN.out s[j] _).mono ?_
          rw [Hp.out]
          rintro e w' ⟨rfl, rfl⟩
          go_wp2_with fail
          go_round
          case rel => exact ⟨j + 1, by go_num, Lib.hid (by rw [hyes.out, hj.out])⟩
          case measure => simp [intOf]; omega
      · have hend := Lib.hid (behN_end naB s.data.toList j (by rw [size_data]; omega))
        go_wp2_with fail
        go_at_call 76
        refine (within_no _ _ _ (.inr (by omega))).mono ?_
        rintro e w' ⟨rfl, rfl⟩
        go_wp2_with fail
        go_ret
        exact ⟨ret_int (by rw [E.out, ← hj.out, hend.out]), rfl⟩
set_option maxHeartbeats 1000000 in
theorem behind_dg (s : ByteArray) (i : Int) (w : World) (hs : s.size ≤ 9223372036854775807) :
    Calls Tryz.prog 58 #[.string s, .int .i64 i, .func (.func 94) #[] #[]] w fun e w' => e = .returned (.int .i64 (behI dgB s.data.toList i)) ∧ w = w' := by
  have HN := Lib.hid tells_digit
  by_cases h0 : i < 0
  · have e : behI dgB s.data.toList i = i := by unfold behI; rw [if_pos h0]
    have E := Lib.hid e
    clear e
    go_enter Tryz.func58, Tryz.ntmps58
    go_wp2_with fail
    go_loop [1] (fun t => t = .int .i64 i) (fun _ => 0)
    case atStart => rfl
    case round =>
      subst hrel
      go_wp2_with fail
      go_at_call 76
      refine (within_no _ _ _ (.inl h0)).mono ?_
      rintro e w' ⟨rfl, rfl⟩
      go_wp2_with fail
      go_ret
      exact ⟨ret_int E.out.symm, rfl⟩
  · obtain ⟨k, rfl⟩ : ∃ k : Nat, i = (k : Int) := ⟨i.toNat, by omega⟩
    obtain ⟨B, hB⟩ : ∃ B, behN dgB s.data.toList k = B := ⟨_, rfl⟩
    have e : behI dgB s.data.toList (k : Int) = (B : Int) := by unfold behI; rw [if_neg h0, Int.toNat_natCast, hB]
    have E := Lib.hid e
    have HB := Lib.hid hB
    clear e hB h0
    go_enter Tryz.func58, Tryz.ntmps58
    go_wp2_with fail
    go_loop [1] (fun t => ∃ j : Nat, t = .int .i64 j ∧ Hid (behN dgB s.data.toList j = B)) (fun t => s.size - (intOf t).toNat)
    case atStart => exact ⟨k, rfl, HB⟩
    case round =>
      obtain ⟨j, rfl, hj⟩ := hrel
      by_cases hlt : j < s.size
      · have hlt' : j < s.data.toList.length := by rw [size_data]; exact hlt
        have hi0 : (0 : Int) ≤ (j : Int) := by omega
        have hi1 : (j : Int) < (s.size : Int) := by omega
        cases hp : dgB s[j]
        · have hno := Lib.hid (behN_no dgB s.data.toList j hlt' hp)
          have Hp := Lib.hid hp
          clear hp
          go_wp2_with fail
          go_at_call 76
          refine (within_yes _ _ _ hi0 hi1).mono ?_
          rintro e w' ⟨rfl, rfl⟩
          go_wp2_with fail
          go_at_call 94
          refine (HN.out s[j] _).mono ?_
          rw [Hp.out]
          rintro e w' ⟨rfl, rfl⟩
          go_wp2_with fail
          go_ret
          exact ⟨ret_int (by rw [E.out, ← hj.out, hno.out]), rfl⟩
        · have hyes := Lib.hid (behN_yes dgB s.data.toList j hlt' hp)
          have Hp := Lib.hid hp
          clear hp
          go_wp2_with fail
          go_at_call 76
          refine (within_yes _ _ _ hi0 hi1).mono ?_
          rintro e w' ⟨rfl, rfl⟩
          go_wp2_with fail
          go_at_call 94
          refine (HN.out s[j] _).mono ?_
          rw [Hp.out]
          rintro e w' ⟨rfl, rfl⟩
          go_wp2_with fail
          go_round
          case rel => exact ⟨j + 1, by go_num, Lib.hid (by rw [hyes.out, hj.out])⟩
          case measure => simp [intOf]; omega
      · have hend := Lib.hid (behN_end dgB s.data.toList j (by rw [size_data]; omega))
        go_wp2_with fail
        go_at_call 76
        refine (within_no _ _ _ (.inr (by omega))).mono ?_
        rintro e w' ⟨rfl, rfl⟩
        go_wp2_with fail
        go_ret
        exact ⟨ret_int (by rw [E.out, ← hj.out, hend.out]), rfl⟩
set_option maxHeartbeats 1000000 in
theorem behind_bi (s : ByteArray) (i : Int) (w : World) (hs : s.size ≤ 9223372036854775807) :
    Calls Tryz.prog 58 #[.string s, .int .i64 i, .func (.func 153) #[] #[]] w fun e w' => e = .returned (.int .i64 (behI biB s.data.toList i)) ∧ w = w' := by
  have HN := Lib.hid tells_big
  by_cases h0 : i < 0
  · have e : behI biB s.data.toList i = i := by unfold behI; rw [if_pos h0]
    have E := Lib.hid e
    clear e
    go_enter Tryz.func58, Tryz.ntmps58
    go_wp2_with fail
    go_loop [1] (fun t => t = .int .i64 i) (fun _ => 0)
    case atStart => rfl
    case round =>
      subst hrel
      go_wp2_with fail
      go_at_call 76
      refine (within_no _ _ _ (.inl h0)).mono ?_
      rintro e w' ⟨rfl, rfl⟩
      go_wp2_with fail
      go_ret
      exact ⟨ret_int E.out.symm, rfl⟩
  · obtain ⟨k, rfl⟩ : ∃ k : Nat, i = (k : Int) := ⟨i.toNat, by omega⟩
    obtain ⟨B, hB⟩ : ∃ B, behN biB s.data.toList k = B := ⟨_, rfl⟩
    have e : behI biB s.data.toList (k : Int) = (B : Int) := by unfold behI; rw [if_neg h0, Int.toNat_natCast, hB]
    have E := Lib.hid e
    have HB := Lib.hid hB
    clear e hB h0
    go_enter Tryz.func58, Tryz.ntmps58
    go_wp2_with fail
    go_loop [1] (fun t => ∃ j : Nat, t = .int .i64 j ∧ Hid (behN biB s.data.toList j = B)) (fun t => s.size - (intOf t).toNat)
    case atStart => exact ⟨k, rfl, HB⟩
    case round =>
      obtain ⟨j, rfl, hj⟩ := hrel
      by_cases hlt : j < s.size
      · have hlt' : j < s.data.toList.length := by rw [size_data]; exact hlt
        have hi0 : (0 : Int) ≤ (j : Int) := by omega
        have hi1 : (j : Int) < (s.size : Int) := by omega
        cases hp : biB s[j]
        · have hno := Lib.hid (behN_no biB s.data.toList j hlt' hp)
          have Hp := Lib.hid hp
          clear hp
          go_wp2_with fail
          go_at_call 76
          refine (within_yes _ _ _ hi0 hi1).mono ?_
          rintro e w' ⟨rfl, rfl⟩
          go_wp2_with fail
          go_at_call 153
          refine (HN.out s[j] _).mono ?_
          rw [Hp.out]
          rintro e w' ⟨rfl, rfl⟩
          go_wp2_with fail
          go_ret
          exact ⟨ret_int (by rw [E.out, ← hj.out, hno.out]), rfl⟩
        · have hyes := Lib.hid (behN_yes biB s.data.toList j hlt' hp)
          have Hp := Lib.hid hp
          clear hp
          go_wp2_with fail
          go_at_call 76
          refine (within_yes _ _ _ hi0 hi1).mono ?_
          rintro e w' ⟨rfl, rfl⟩
          go_wp2_with fail
          go_at_call 153
          refine (HN.out s[j] _).mono ?_
          rw [Hp.out]
          rintro e w' ⟨rfl, rfl⟩
          go_wp2_with fail
          go_round
          case rel => exact ⟨j + 1, by go_num, Lib.hid (by rw [hyes.out, hj.out])⟩
          case measure => simp [intOf]; omega
      · have hend := Lib.hid (behN_end biB s.data.toList j (by rw [size_data]; omega))
        go_wp2_with fail
        go_at_call 76
        refine (within_no _ _ _ (.inr (by omega))).mono ?_
        rintro e w' ⟨rfl, rfl⟩
        go_wp2_with fail
        go_ret
        exact ⟨ret_int (by rw [E.out, ← hj.out, hend.out]), rfl⟩
end Go.Proofs.YtamghpleajbonaaGreatDoor
