/-
  Several texts put together (part 2): what the law and the program call, walked; their contracts.
-/
import Derived.Test.YtdoambpiafkmmaaGreatDoorQ1
namespace Go.Proofs.YtdoambpiafkmmaaGreatDoor
open Go.RowKit
set_option maxHeartbeats 1000000 in
theorem behind_sp (s : ByteArray) (i : Int) (w : World) (hs : s.size ≤ 9223372036854775807) :
    Calls Tryz.prog 73 #[.string s, .int .i64 i, .func (.func 81) #[] #[]] w fun e w' => e = .returned (.int .i64 (behI spB s.data.toList i)) ∧ w = w' := by
  have HN := Lib.hid tells_space
  by_cases h0 : i < 0
  · have e : behI spB s.data.toList i = i := by unfold behI; rw [if_pos h0]
    have E := Lib.hid e
    clear e
    go_enter Tryz.func73, Tryz.ntmps73
    go_wp2_with fail
    go_loop [1] (fun t => t = .int .i64 i) (fun _ => 0)
    case atStart => rfl
    case round =>
      subst hrel
      go_wp2_with fail
      go_at_call 100
      refine (within_no _ _ _ (.inl h0)).mono ?_
      rintro e w' ⟨rfl, rfl⟩
      go_wp2_with fail
      go_ret
      exact ⟨ret_int E.out.symm, rfl⟩
  · obtain ⟨k, rfl⟩ : ∃ k : Nat, i = (k : Int) := ⟨i.toNat, by omega⟩
    obtain ⟨B, hB⟩ : ∃ B, behN spB s.data.toList k = B := ⟨_, rfl⟩
    have e : behI spB s.data.toList (k : Int) = (B : Int) := by unfold behI; rw [if_neg h0, Int.toNat_natCast, hB]
    have E := Lib.hid e
    have HB := Lib.hid hB
    clear e hB h0
    go_enter Tryz.func73, Tryz.ntmps73
    go_wp2_with fail
    go_loop [1] (fun t => ∃ j : Nat, t = .int .i64 j ∧ Hid (behN spB s.data.toList j = B)) (fun t => s.size - (intOf t).toNat)
    case atStart => exact ⟨k, rfl, HB⟩
    case round =>
      obtain ⟨j, rfl, hj⟩ := hrel
      by_cases hlt : j < s.size
      · have hlt' : j < s.data.toList.length := by rw [size_data]; exact hlt
        have hi0 : (0 : Int) ≤ (j : Int) := by omega
        have hi1 : (j : Int) < (s.size : Int) := by omega
        cases hp : spB s[j]
        · have hno := Lib.hid (behN_no spB s.data.toList j hlt' hp)
          have Hp := Lib.hid hp
          clear hp
          go_wp2_with fail
          go_at_call 100
          refine (within_yes _ _ _ hi0 hi1).mono ?_
          rintro e w' ⟨rfl, rfl⟩
          go_wp2_with fail
          go_at_call 81
          refine (HN.out s[j] _).mono ?_
          rw [Hp.out]
          rintro e w' ⟨rfl, rfl⟩
          go_wp2_with fail
          go_ret
          exact ⟨ret_int (by rw [E.out, ← hj.out, hno.out]), rfl⟩
        · have hyes := Lib.hid (behN_yes spB s.data.toList j hlt' hp)
          have Hp := Lib.hid hp
          clear hp
          go_wp2_with fail
          go_at_call 100
          refine (within_yes _ _ _ hi0 hi1).mono ?_
          rintro e w' ⟨rfl, rfl⟩
          go_wp2_with fail
          go_at_call 81
          refine (HN.out s[j] _).mono ?_
          rw [Hp.out]
          rintro e w' ⟨rfl, rfl⟩
          go_wp2_with fail
          go_round
          case rel => exact ⟨j + 1, by go_num, Lib.hid (by rw [hyes.out, hj.out])⟩
          case measure => simp [intOf]; omega
      · have hend := Lib.hid (behN_end spB s.data.toList j (by rw [size_data]; omega))
        go_wp2_with fail
        go_at_call 100
        refine (within_no _ _ _ (.inr (by omega))).mono ?_
        rintro e w' ⟨rfl, rfl⟩
        go_wp2_with fail
        go_ret
        exact ⟨ret_int (by rw [E.out, ← hj.out, hend.out]), rfl⟩
set_option maxHeartbeats 1000000 in
theorem behind_bl (s : ByteArray) (i : Int) (w : World) (hs : s.size ≤ 9223372036854775807) :
    Calls Tryz.prog 73 #[.string s, .int .i64 i, .func (.func 74) #[] #[]] w fun e w' => e = .returned (.int .i64 (behI blB s.data.toList i)) ∧ w = w' := by
  have HN := Lib.hid tells_blank
  by_cases h0 : i < 0
  · have e : behI blB s.data.toList i = i := by unfold behI; rw [if_pos h0]
    have E := Lib.hid e
    clear e
    go_enter Tryz.func73, Tryz.ntmps73
    go_wp2_with fail
    go_loop [1] (fun t => t = .int .i64 i) (fun _ => 0)
    case atStart => rfl
    case round =>
      subst hrel
      go_wp2_with fail
      go_at_call 100
      refine (within_no _ _ _ (.inl h0)).mono ?_
      rintro e w' ⟨rfl, rfl⟩
      go_wp2_with fail
      go_ret
      exact ⟨ret_int E.out.symm, rfl⟩
  · obtain ⟨k, rfl⟩ : ∃ k : Nat, i = (k : Int) := ⟨i.toNat, by omega⟩
    obtain ⟨B, hB⟩ : ∃ B, behN blB s.data.toList k = B := ⟨_, rfl⟩
    have e : behI blB s.data.toList (k : Int) = (B : Int) := by unfold behI; rw [if_neg h0, Int.toNat_natCast, hB]
    have E := Lib.hid e
    have HB := Lib.hid hB
    clear e hB h0
    go_enter Tryz.func73, Tryz.ntmps73
    go_wp2_with fail
    go_loop [1] (fun t => ∃ j : Nat, t = .int .i64 j ∧ Hid (behN blB s.data.toList j = B)) (fun t => s.size - (intOf t).toNat)
    case atStart => exact ⟨k, rfl, HB⟩
    case round =>
      obtain ⟨j, rfl, hj⟩ := hrel
      by_cases hlt : j < s.size
      · have hlt' : j < s.data.toList.length := by rw [size_data]; exact hlt
        have hi0 : (0 : Int) ≤ (j : Int) := by omega
        have hi1 : (j : Int) < (s.size : Int) := by omega
        cases hp : blB s[j]
        · have hno := Lib.hid (behN_no blB s.data.toList j hlt' hp)
          have Hp := Lib.hid hp
          clear hp
          go_wp2_with fail
          go_at_call 100
          refine (within_yes _ _ _ hi0 hi1).mono ?_
          rintro e w' ⟨rfl, rfl⟩
          go_wp2_with fail
          go_at_call 74
          refine (HN.out s[j] _).mono ?_
          rw [Hp.out]
          rintro e w' ⟨rfl, rfl⟩
          go_wp2_with fail
          go_ret
          exact ⟨ret_int (by rw [E.out, ← hj.out, hno.out]), rfl⟩
        · have hyes := Lib.hid (behN_yes blB s.data.toList j hlt' hp)
          have Hp := Lib.hid hp
          clear hp
          go_wp2_with fail
          go_at_call 100
          refine (within_yes _ _ _ hi0 hi1).mono ?_
          rintro e w' ⟨rfl, rfl⟩
          go_wp2_with fail
          go_at_call 74
          refine (HN.out s[j] _).mono ?_
          rw [Hp.out]
          rintro e w' ⟨rfl, rfl⟩
          go_wp2_with fail
          go_round
          case rel => exact ⟨j + 1, by go_num, Lib.hid (by rw [hyes.out, hj.out])⟩
          case measure => simp [intOf]; omega
      · have hend := Lib.hid (behN_end blB s.data.toList j (by rw [size_data]; omega))
        go_wp2_with fail
        go_at_call 100
        refine (within_no _ _ _ (.inr (by omega))).mono ?_
        rintro e w' ⟨rfl, rfl⟩
        go_wp2_with fail
        go_ret
        exact ⟨ret_int (by rw [E.out, ← hj.out, hend.out]), rfl⟩
set_option maxHeartbeats 1000000 in
theorem behind_na (s : ByteArray) (i : Int) (w : World) (hs : s.size ≤ 9223372036854775807) :
    Calls Tryz.prog 73 #[.string s, .int .i64 i, .func (.func 132) #[] #[]] w fun e w' => e = .returned (.int .i64 (behI naB s.data.toList i)) ∧ w = w' := by
  have HN := Lib.hid tells_name
  by_cases h0 : i < 0
  · have e : behI naB s.data.toList i = i := by unfold behI; rw [if_pos h0]
    have E := Lib.hid e
    clear e
    go_enter Tryz.func73, Tryz.ntmps73
    go_wp2_with fail
    go_loop [1] (fun t => t = .int .i64 i) (fun _ => 0)
    case atStart => rfl
    case round =>
      subst hrel
      go_wp2_with fail
      go_at_call 100
      refine (within_no _ _ _ (.inl h0)).mono ?_
      rintro e w' ⟨rfl, rfl⟩
      go_wp2_with fail
      go_ret
      exact ⟨ret_int E.out.symm, rfl⟩
  · obtain ⟨k, rfl⟩ : ∃ k : Nat, i = (k : Int) := ⟨i.toNat, by omega⟩
    obtain ⟨B, hB⟩ : ∃ B, behN naB s.data.toList k = B := ⟨_, rfl⟩
    have e : behI naB s.data.toList (k : Int) = (B : Int) := by unfold behI; rw [if_neg h0, Int.toNat_natCast, hB]
    have E := Lib.hid e
    have HB := Lib.hid hB
    clear e hB h0
    go_enter Tryz.func73, Tryz.ntmps73
    go_wp2_with fail
    go_loop [1] (fun t => ∃ j : Nat, t = .int .i64 j ∧ Hid (behN naB s.data.toList j = B)) (fun t => s.size - (intOf t).toNat)
    case atStart => exact ⟨k, rfl, HB⟩
    case round =>
      obtain ⟨j, rfl, hj⟩ := hrel
      by_cases hlt : j < s.size
      · have hlt' : j < s.data.toList.length := by rw [size_data]; exact hlt
        have hi0 : (0 : Int) ≤ (j : Int) := by omega
        have hi1 : (j : Int) < (s.size : Int) := by omega
        cases hp : naB s[j]
        · have hno := Lib.hid (behN_no naB s.data.toList j hlt' hp)
          have Hp := Lib.hid hp
          clear hp
          go_wp2_with fail
          go_at_call 100
          refine (within_yes _ _ _ hi0 hi1).mono ?_
          rintro e w' ⟨rfl, rfl⟩
          go_wp2_with fail
          go_at_call 132
          refine (HN.out s[j] _).mono ?_
          rw [Hp.out]
          rintro e w' ⟨rfl, rfl⟩
          go_wp2_with fail
          go_ret
          exact ⟨ret_int (by rw [E.out, ← hj.out, hno.out]), rfl⟩
        · have hyes := Lib.hid (behN_yes naB s.data.toList j hlt' hp)
          have Hp := Lib.hid hp
          clear hp
          go_wp2_with fail
          go_at_call 100
          refine (within_yes _ _ _ hi0 hi1).mono ?_
          rintro e w' ⟨rfl, rfl⟩
          go_wp2_with fail
          go_at_call 132
          refine (HN.out s[j] _).mono ?_
          rw [Hp.out]
          rintro e w' ⟨rfl, rfl⟩
          go_wp2_with fail
          go_round
          case rel => exact ⟨j + 1, by go_num, Lib.hid (by rw [hyes.out, hj.out])⟩
          case measure => simp [intOf]; omega
      · have hend := Lib.hid (behN_end naB s.data.toList j (by rw [size_data]; omega))
        go_wp2_with fail
        go_at_call 100
        refine (within_no _ _ _ (.inr (by omega))).mono ?_
        rintro e w' ⟨rfl, rfl⟩
        go_wp2_with fail
        go_ret
        exact ⟨ret_int (by rw [E.out, ← hj.out, hend.out]), rfl⟩
set_option maxHeartbeats 1000000 in
theorem behind_dg (s : ByteArray) (i : Int) (w : World) (hs : s.size ≤ 9223372036854775807) :
    Calls Tryz.prog 73 #[.string s, .int .i64 i, .func (.func 129) #[] #[]] w fun e w' => e = .returned (.int .i64 (behI dgB s.data.toList i)) ∧ w = w' := by
  have HN := Lib.hid tells_digit
  by_cases h0 : i < 0
  · have e : behI dgB s.data.toList i = i := by unfold behI; rw [if_pos h0]
    have E := Lib.hid e
    clear e
    go_enter Tryz.func73, Tryz.ntmps73
    go_wp2_with fail
    go_loop [1] (fun t => t = .int .i64 i) (fun _ => 0)
    case atStart => rfl
    case round =>
      subst hrel
      go_wp2_with fail
      go_at_call 100
      refine (within_no _ _ _ (.inl h0)).mono ?_
      rintro e w' ⟨rfl, rfl⟩
      go_wp2_with fail
      go_ret
      exact ⟨ret_int E.out.symm, rfl⟩
  · obtain ⟨k, rfl⟩ : ∃ k : Nat, i = (k : Int) := ⟨i.toNat, by omega⟩
    obtain ⟨B, hB⟩ : ∃ B, behN dgB s.data.toList k = B := ⟨_, rfl⟩
    have e : behI dgB s.data.toList (k : Int) = (B : Int) := by unfold behI; rw [if_neg h0, Int.toNat_natCast, hB]
    have E := Lib.hid e
    have HB := Lib.hid hB
    clear e hB h0
    go_enter Tryz.func73, Tryz.ntmps73
    go_wp2_with fail
    go_loop [1] (fun t => ∃ j : Nat, t = .int .i64 j ∧ Hid (behN dgB s.data.toList j = B)) (fun t => s.size - (intOf t).toNat)
    case atStart => exact ⟨k, rfl, HB⟩
    case round =>
      obtain ⟨j, rfl, hj⟩ := hrel
      by_cases hlt : j < s.size
      · have hlt' : j < s.data.toList.length := by rw [size_data]; exact hlt
        have hi0 : (0 : Int) ≤ (j : Int) := by omega
        have hi1 : (j : Int) < (s.size : Int) := by omega
        cases hp : dgB s[j]
        · have hno := Lib.hid (behN_no dgB s.data.toList j hlt' hp)
          have Hp := Lib.hid hp
          clear hp
          go_wp2_with fail
          go_at_call 100
          refine (within_yes _ _ _ hi0 hi1).mono ?_
          rintro e w' ⟨rfl, rfl⟩
          go_wp2_with fail
          go_at_call 129
          refine (HN.out s[j] _).mono ?_
          rw [Hp.out]
          rintro e w' ⟨rfl, rfl⟩
          go_wp2_with fail
          go_ret
          exact ⟨ret_int (by rw [E.out, ← hj.out, hno.out]), rfl⟩
        · have hyes := Lib.hid (behN_yes dgB s.data.toList j hlt' hp)
          have Hp := Lib.hid hp
          clear hp
          go_wp2_with fail
          go_at_call 100
          refine (within_yes _ _ _ hi0 hi1).mono ?_
          rintro e w' ⟨rfl, rfl⟩
          go_wp2_with fail
          go_at_call 129
          refine (HN.out s[j] _).mono ?_
          rw [Hp.out]
          rintro e w' ⟨rfl, rfl⟩
          go_wp2_with fail
          go_round
          case rel => exact ⟨j + 1, by go_num, Lib.hid (by rw [hyes.out, hj.out])⟩
          case measure => simp [intOf]; omega
      · have hend := Lib.hid (behN_end dgB s.data.toList j (by rw [size_data]; omega))
        go_wp2_with fail
        go_at_call 100
        refine (within_no _ _ _ (.inr (by omega))).mono ?_
        rintro e w' ⟨rfl, rfl⟩
        go_wp2_with fail
        go_ret
        exact ⟨ret_int (by rw [E.out, ← hj.out, hend.out]), rfl⟩
set_option maxHeartbeats 1000000 in
theorem behind_bi (s : ByteArray) (i : Int) (w : World) (hs : s.size ≤ 9223372036854775807) :
    Calls Tryz.prog 73 #[.string s, .int .i64 i, .func (.func 127) #[] #[]] w fun e w' => e = .returned (.int .i64 (behI biB s.data.toList i)) ∧ w = w' := by
  have HN := Lib.hid tells_big
  by_cases h0 : i < 0
  · have e : behI biB s.data.toList i = i := by unfold behI; rw [if_pos h0]
    have E := Lib.hid e
    clear e
    go_enter Tryz.func73, Tryz.ntmps73
    go_wp2_with fail
    go_loop [1] (fun t => t = .int .i64 i) (fun _ => 0)
    case atStart => rfl
    case round =>
      subst hrel
      go_wp2_with fail
      go_at_call 100
      refine (within_no _ _ _ (.inl h0)).mono ?_
      rintro e w' ⟨rfl, rfl⟩
      go_wp2_with fail
      go_ret
      exact ⟨ret_int E.out.symm, rfl⟩
  · obtain ⟨k, rfl⟩ : ∃ k : Nat, i = (k : Int) := ⟨i.toNat, by omega⟩
    obtain ⟨B, hB⟩ : ∃ B, behN biB s.data.toList k = B := ⟨_, rfl⟩
    have e : behI biB s.data.toList (k : Int) = (B : Int) := by unfold behI; rw [if_neg h0, Int.toNat_natCast, hB]
    have E := Lib.hid e
    have HB := Lib.hid hB
    clear e hB h0
    go_enter Tryz.func73, Tryz.ntmps73
    go_wp2_with fail
    go_loop [1] (fun t => ∃ j : Nat, t = .int .i64 j ∧ Hid (behN biB s.data.toList j = B)) (fun t => s.size - (intOf t).toNat)
    case atStart => exact ⟨k, rfl, HB⟩
    case round =>
      obtain ⟨j, rfl, hj⟩ := hrel
      by_cases hlt : j < s.size
      · have hlt' : j < s.data.toList.length := by rw [size_data]; exact hlt
        have hi0 : (0 : Int) ≤ (j : Int) := by omega
        have hi1 : (j : Int) < (s.size : Int) := by omega
        cases hp : biB s[j]
        · have hno := Lib.hid (behN_no biB s.data.toList j hlt' hp)
          have Hp := Lib.hid hp
          clear hp
          go_wp2_with fail
          go_at_call 100
          refine (within_yes _ _ _ hi0 hi1).mono ?_
          rintro e w' ⟨rfl, rfl⟩
          go_wp2_with fail
          go_at_call 127
          refine (HN.out s[j] _).mono ?_
          rw [Hp.out]
          rintro e w' ⟨rfl, rfl⟩
          go_wp2_with fail
          go_ret
          exact ⟨ret_int (by rw [E.out, ← hj.out, hno.out]), rfl⟩
        · have hyes := Lib.hid (behN_yes biB s.data.toList j hlt' hp)
          have Hp := Lib.hid hp
          clear hp
          go_wp2_with fail
          go_at_call 100
          refine (within_yes _ _ _ hi0 hi1).mono ?_
          rintro e w' ⟨rfl, rfl⟩
          go_wp2_with fail
          go_at_call 127
          refine (HN.out s[j] _).mono ?_
          rw [Hp.out]
          rintro e w' ⟨rfl, rfl⟩
          go_wp2_with fail
          go_round
          case rel => exact ⟨j + 1, by go_num, Lib.hid (by rw [hyes.out, hj.out])⟩
          case measure => simp [intOf]; omega
      · have hend := Lib.hid (behN_end biB s.data.toList j (by rw [size_data]; omega))
        go_wp2_with fail
        go_at_call 100
        refine (within_no _ _ _ (.inr (by omega))).mono ?_
        rintro e w' ⟨rfl, rfl⟩
        go_wp2_with fail
        go_ret
        exact ⟨ret_int (by rw [E.out, ← hj.out, hend.out]), rfl⟩
end Go.Proofs.YtdoambpiafkmmaaGreatDoor

namespace Go.Proofs.YtdoambpiafkmmaaGreatDoor
open Go.RowKit
theorem spaces_any (s : ByteArray) (i : Int) (w : World) (hs : s.size ≤ 9223372036854775807) :
    Calls Tryz.prog 62 #[.string s, .int .i64 i] w fun e w' => e = .returned (.int .i64 (behI spB s.data.toList i)) ∧ w = w' := by
  go_enter Tryz.func62, Tryz.ntmps62
  go_wp2_with (go_at_call 73; refine (behind_sp _ _ _ hs).mono ?_; rintro e w' ⟨rfl, rfl⟩)
  go_ret
  exact ⟨rfl, rfl⟩
theorem blank_any (s : ByteArray) (i : Int) (w : World) (hs : s.size ≤ 9223372036854775807) :
    Calls Tryz.prog 50 #[.string s, .int .i64 i] w fun e w' => e = .returned (.int .i64 (behI blB s.data.toList i)) ∧ w = w' := by
  go_enter Tryz.func50, Tryz.ntmps50
  go_wp2_with (go_at_call 73; refine (behind_bl _ _ _ hs).mono ?_; rintro e w' ⟨rfl, rfl⟩)
  go_ret
  exact ⟨rfl, rfl⟩
def nameI (l : List UInt8) (i : Int) : Int := if 0 ≤ i ∧ i < l.length ∧ leB (l.getD i.toNat 0) = true then behI naB l i else i
theorem getD_data (s : ByteArray) (j : Nat) (h : j < s.size) : s.data.toList.getD j 0 = s[j] := by
  rw [List.getD_eq_getElem?_getD, List.getElem?_eq_getElem (by rw [size_data]; exact h)]; rfl
set_option maxHeartbeats 1000000 in
theorem name_any (s : ByteArray) (i : Int) (w : World) (hs : s.size ≤ 9223372036854775807) :
    Calls Tryz.prog 110 #[.string s, .int .i64 i] w fun e w' => e = .returned (.int .i64 (nameI s.data.toList i)) ∧ w = w' := by
  by_cases hin : 0 ≤ i ∧ i < s.size
  · obtain ⟨h0, h1⟩ := hin
    obtain ⟨j, rfl⟩ : ∃ j : Nat, i = (j : Int) := ⟨i.toNat, by omega⟩
    have hj : j < s.size := by omega
    cases hl : leB s[j]
    · have e : nameI s.data.toList (j : Int) = j := by
        unfold nameI
        rw [if_neg]
        rintro ⟨_, _, h⟩
        rw [Int.toNat_natCast, getD_data s j hj, hl] at h
        cases h
      have E := Lib.hid e
      have Hl := Lib.hid hl
      clear e hl
      go_enter Tryz.func110, Tryz.ntmps110
      go_wp2_with (first | (go_at_call 100; refine (within_yes _ _ _ h0 h1).mono ?_; rintro e w' ⟨rfl, rfl⟩) | (go_at_call 131; refine (letter_any s[j] _).mono ?_; rw [Hl.out]; rintro e w' ⟨rfl, rfl⟩))
      go_ret
      exact ⟨ret_int E.out.symm, rfl⟩
    · have e : nameI s.data.toList (j : Int) = behI naB s.data.toList j := by
        unfold nameI
        rw [if_pos]
        exact ⟨h0, by rw [size_data]; exact h1, by rw [Int.toNat_natCast, getD_data s j hj, hl]⟩
      have E := Lib.hid e
      have Hl := Lib.hid hl
      clear e hl
      go_enter Tryz.func110, Tryz.ntmps110
      go_wp2_with (first | (go_at_call 100; refine (within_yes _ _ _ h0 h1).mono ?_; rintro e w' ⟨rfl, rfl⟩) | (go_at_call 131; refine (letter_any s[j] _).mono ?_; rw [Hl.out]; rintro e w' ⟨rfl, rfl⟩) | (go_at_call 73; refine (behind_na _ _ _ hs).mono ?_; rintro e w' ⟨rfl, rfl⟩))
      go_ret
      exact ⟨ret_int E.out.symm, rfl⟩
  · have e : nameI s.data.toList i = i := by
      unfold nameI
      rw [if_neg]
      rintro ⟨a, b, _⟩
      rw [size_data] at b
      exact hin ⟨a, b⟩
    have E := Lib.hid e
    clear e
    go_enter Tryz.func110, Tryz.ntmps110
    go_wp2_with (go_at_call 100; refine (within_no _ _ _ (by omega)).mono ?_; rintro e w' ⟨rfl, rfl⟩)
    go_ret
    exact ⟨ret_int E.out.symm, rfl⟩
def sgnI (l : List UInt8) (c : UInt8) (i : Int) : Int := if 0 ≤ i ∧ i < l.length ∧ l.getD i.toNat 0 = c then i + 1 else i
def numI (l : List UInt8) (i : Int) : Int :=
  if sgnI l 45 i < behI dgB l (sgnI l 45 i) then
    if sgnI l 46 (behI dgB l (sgnI l 45 i)) < behI dgB l (sgnI l 46 (behI dgB l (sgnI l 45 i))) then behI dgB l (sgnI l 46 (behI dgB l (sgnI l 45 i)))
    else behI dgB l (sgnI l 45 i)
  else i
theorem num1_any (s : ByteArray) (c : UInt8) (i : Int) (b : Nat) (w : World) (hs : s.size ≤ 9223372036854775807) (hc : w.cell? ⟨b, 0, none⟩ = some (.string s)) :
    Calls Tryz.prog 133 #[.int .u8 (c.toNat : Int), .int .i64 i, .pointer (some ⟨b, 0, none⟩)] w fun e w' => e = .returned (.tuple #[.int .i64 (behI dgB s.data.toList (sgnI s.data.toList c i)), .bool (decide (sgnI s.data.toList c i < behI dgB s.data.toList (sgnI s.data.toList c i)))]) ∧ w = w' := by
  by_cases hin : 0 ≤ i ∧ i < s.size
  · obtain ⟨h0, h1⟩ := hin
    obtain ⟨j, rfl⟩ : ∃ j : Nat, i = (j : Int) := ⟨i.toNat, by omega⟩
    have hj : j < s.size := by omega
    by_cases hl : s[j] = c
    · have e : sgnI s.data.toList c (j : Int) = j + 1 := by
        unfold sgnI
        rw [if_pos]
        exact ⟨h0, by rw [size_data]; exact h1, by rw [Int.toNat_natCast, getD_data s j hj, hl]⟩
      rw [e]
      clear e
      have hq : ((s[j].toNat : Int) == (c.toNat : Int)) = true := by rw [hl]; simp
      clear hl
      go_enter Tryz.func133, Tryz.ntmps133
      go_wp2_with (first | (go_at_call 100; refine (within_yes _ _ _ h0 h1).mono ?_; rintro e w' ⟨rfl, rfl⟩) | (go_at_call 73; refine (behind_dg _ _ _ hs).mono ?_; rintro e w' ⟨rfl, rfl⟩))
      go_ret2
      exact ⟨rfl, rfl⟩
    · have e : sgnI s.data.toList c (j : Int) = j := by
        unfold sgnI
        rw [if_neg]
        rintro ⟨_, _, h⟩
        rw [Int.toNat_natCast, getD_data s j hj] at h
        exact hl h
      rw [e]
      clear e
      have hq : ((s[j].toNat : Int) == (c.toNat : Int)) = false := by
        apply beq_eq_false_iff_ne.2
        intro h
        exact hl (UInt8.toNat_inj.1 (by omega))
      clear hl
      go_enter Tryz.func133, Tryz.ntmps133
      go_wp2_with (first | (go_at_call 100; refine (within_yes _ _ _ h0 h1).mono ?_; rintro e w' ⟨rfl, rfl⟩) | (go_at_call 73; refine (behind_dg _ _ _ hs).mono ?_; rintro e w' ⟨rfl, rfl⟩))
      go_ret2
      exact ⟨rfl, rfl⟩
  · have e : sgnI s.data.toList c i = i := by
      unfold sgnI
      rw [if_neg]
      rintro ⟨a, b, _⟩
      rw [size_data] at b
      exact hin ⟨a, b⟩
    rw [e]
    clear e
    go_enter Tryz.func133, Tryz.ntmps133
    go_wp2_with (first | (go_at_call 100; refine (within_no _ _ _ (by omega)).mono ?_; rintro e w' ⟨rfl, rfl⟩) | (go_at_call 73; refine (behind_dg _ _ _ hs).mono ?_; rintro e w' ⟨rfl, rfl⟩))
    go_ret2
    exact ⟨rfl, rfl⟩
end Go.Proofs.YtdoambpiafkmmaaGreatDoor

namespace Go.Proofs.YtdoambpiafkmmaaGreatDoor
def at0 (l : List UInt8) (m : Nat) : UInt8 := l.getD m 0
def pc (l : List UInt8) (i k : Nat) : List UInt8 := (l.take k).drop i
theorem pc_length (l : List UInt8) (i k : Nat) (hk : k ≤ l.length) : (pc l i k).length = k - i := by
  unfold pc; rw [List.length_drop, List.length_take]; omega
theorem pc_at (l : List UInt8) (i k m : Nat) (h : i + m < k) : at0 (pc l i k) m = at0 l (i + m) := by
  unfold at0 pc
  rw [List.getD_eq_getElem?_getD, List.getD_eq_getElem?_getD, List.getElem?_drop, List.getElem?_take_of_lt h]
theorem at0_get (l : List UInt8) (m : Nat) (h : m < l.length) : at0 l m = l[m] := by
  unfold at0; rw [List.getD_eq_getElem?_getD, List.getElem?_eq_getElem h]; rfl
theorem all_at (p : UInt8 → Bool) (l : List UInt8) : l.all p = true ↔ ∀ m, m < l.length → p (at0 l m) = true := by
  rw [List.all_eq_true]
  constructor
  · intro h m hm
    rw [at0_get l m hm]
    exact h _ (List.getElem_mem hm)
  · intro h x hx
    obtain ⟨m, hm, rfl⟩ := List.getElem_of_mem hx
    rw [← at0_get l m hm]
    exact h m hm
theorem behN_in (p : UInt8 → Bool) (l : List UInt8) : ∀ (n k : Nat), l.length - k ≤ n → (∀ m, k ≤ m → m < behN p l k → p (at0 l m) = true) ∧ (behN p l k < l.length → p (at0 l (behN p l k)) = false)
  | 0, k, h => by
    have e := behN_end p l k (by omega)
    rw [e]
    exact ⟨fun m h1 h2 => by omega, fun h1 => by omega⟩
  | n + 1, k, h => by
    by_cases hk : k < l.length
    · cases hp : p l[k]
      · have e := behN_no p l k hk hp
        rw [e]
        exact ⟨fun m h1 h2 => by omega, fun _ => by rw [at0_get l k hk]; exact hp⟩
      · have e := behN_yes p l k hk hp
        obtain ⟨a, b⟩ := behN_in p l n (k + 1) (by omega)
        rw [e] at a b
        refine ⟨fun m h1 h2 => ?_, b⟩
        by_cases hm : m = k
        · subst hm; rw [at0_get l m hk]; exact hp
        · exact a m (by omega) h2
    · have e := behN_end p l k (by omega)
      rw [e]
      exact ⟨fun m h1 h2 => by omega, fun h1 => by omega⟩
theorem behN_so (p : UInt8 → Bool) (l : List UInt8) (k m : Nat) (h1 : k ≤ m) (h2 : m < behN p l k) : p (at0 l m) = true := (behN_in p l _ k (Nat.le_refl _)).1 m h1 h2
theorem behN_stop (p : UInt8 → Bool) (l : List UInt8) (k : Nat) (h : behN p l k < l.length) : p (at0 l (behN p l k)) = false := (behN_in p l _ k (Nat.le_refl _)).2 h
def longN (Q : List UInt8 → Bool) (l : List UInt8) (i : Nat) : Nat → Nat
  | 0 => i
  | k + 1 => if i < k + 1 ∧ Q (pc l i (k + 1)) = true then k + 1 else longN Q l i k
theorem longN_eq (Q : List UInt8 → Bool) (l : List UInt8) (i r : Nat) (hr : r = i ∨ (i < r ∧ Q (pc l i r) = true)) : ∀ n, (r ≤ n ∨ r = i) → (∀ k, r < k → k ≤ n → Q (pc l i k) = false) → longN Q l i n = r
  | 0, hn, h => by
    unfold longN
    omega
  | n + 1, hn, h => by
    unfold longN
    by_cases e : r = n + 1
    · subst e
      rcases hr with hr | ⟨h1, h2⟩
      · rw [if_neg (by omega)]
        exact longN_eq Q l i (n + 1) (.inl hr) n (.inr hr) (fun k a b => by omega)
      · rw [if_pos ⟨h1, h2⟩]
    · by_cases hlt : r < n + 1
      · rw [if_neg]
        · exact longN_eq Q l i r hr n (by omega) (fun k a b => h k a (by omega))
        · rintro ⟨_, hq⟩
          rw [h (n + 1) hlt (Nat.le_refl _)] at hq
          cases hq
      · have hi : r = i := by omega
        rw [if_neg (by omega)]
        exact longN_eq Q l i r hr n (.inr hi) (fun k a b => by omega)
def longI (Q : List UInt8 → Bool) (l : List UInt8) (i : Int) : Int := if i < 0 ∨ (l.length : Int) < i then i else (longN Q l i.toNat l.length : Int)
theorem long_all (p : UInt8 → Bool) (l : List UInt8) (i : Nat) (hi : i ≤ l.length) : longN (fun x => x.all p) l i l.length = behN p l i := by
  have h1 := behN_ge p l i
  have h2 := behN_le p l i hi
  apply longN_eq
  · by_cases e : behN p l i = i
    · exact .inl e
    · right
      refine ⟨by omega, (all_at _ _).2 fun m hm => ?_⟩
      rw [pc_length l i _ h2] at hm
      rw [pc_at l i _ m (by omega)]
      exact behN_so p l i _ (by omega) (by omega)
  · exact .inl h2
  · intro k hk hkn
    apply Bool.eq_false_iff.2
    intro hq
    have hq := (all_at _ _).1 hq (behN p l i - i) (by rw [pc_length l i k hkn]; omega)
    rw [pc_at l i k _ (by omega), show i + (behN p l i - i) = behN p l i by omega, behN_stop p l i (by omega)] at hq
    cases hq
theorem longI_all (p : UInt8 → Bool) (l : List UInt8) (i : Int) : longI (fun x => x.all p) l i = behI p l i := by
  unfold longI behI
  by_cases h0 : i < 0
  · rw [if_pos (.inl h0), if_pos h0]
  · rw [if_neg h0]
    by_cases h1 : (l.length : Int) < i
    · rw [if_pos (.inr h1), behN_end _ _ _ (by omega)]; omega
    · rw [if_neg (by omega), long_all p l _ (by omega)]
def goodAt (l : List UInt8) (k : Nat) : Bool := leB (at0 l k) || (decide (0 < k) && (dgB (at0 l k) || joB (at0 l k)))
def lnameB (l : List UInt8) : Bool := decide (0 < l.length ∧ ∀ k, k < l.length → goodAt l k = true)
theorem good_na {l : List UInt8} {k : Nat} (h : goodAt l k = true) : naB (at0 l k) = true := by
  unfold goodAt at h; unfold naB
  cases h1 : leB (at0 l k) <;> cases h2 : dgB (at0 l k) <;> cases h3 : joB (at0 l k) <;> simp_all
theorem na_good {l : List UInt8} {k : Nat} (hk : 0 < k) (h : naB (at0 l k) = true) : goodAt l k = true := by
  unfold naB at h; unfold goodAt
  cases h1 : leB (at0 l k) <;> cases h2 : dgB (at0 l k) <;> cases h3 : joB (at0 l k) <;> simp_all
theorem le_good {l : List UInt8} {k : Nat} (h : leB (at0 l k) = true) : goodAt l k = true := by
  unfold goodAt; rw [h]; rfl
theorem good_zero {l : List UInt8} (h : goodAt l 0 = true) : leB (at0 l 0) = true := by
  unfold goodAt at h; simpa using h
theorem le_na {c : UInt8} (h : leB c = true) : naB c = true := by unfold naB; rw [h]; rfl
theorem lname_iff (l : List UInt8) (i k : Nat) (hk : k ≤ l.length) : lnameB (pc l i k) = true ↔ (i < k ∧ leB (at0 l i) = true ∧ ∀ m, i ≤ m → m < k → naB (at0 l m) = true) := by
  unfold lnameB
  rw [decide_eq_true_iff, pc_length l i k hk]
  constructor
  · rintro ⟨h1, h2⟩
    refine ⟨by omega, ?_, ?_⟩
    · have := good_zero (h2 0 h1)
      rw [pc_at l i k 0 (by omega)] at this
      exact this
    · intro m hm hmk
      have := good_na (h2 (m - i) (by omega))
      rw [pc_at l i k _ (by omega), show i + (m - i) = m by omega] at this
      exact this
  · rintro ⟨h1, h2, h3⟩
    refine ⟨by omega, fun m hm => ?_⟩
    by_cases e : m = 0
    · subst e
      apply le_good
      rw [pc_at l i k 0 (by omega)]
      exact h2
    · apply na_good (by omega)
      rw [pc_at l i k m (by omega)]
      exact h3 _ (by omega) (by omega)
theorem long_name (l : List UInt8) (i : Nat) (hi : i ≤ l.length) : longN lnameB l i l.length = if i < l.length ∧ leB (at0 l i) = true then behN naB l i else i := by
  have h1 := behN_ge naB l i
  have h2 := behN_le naB l i hi
  by_cases hc : i < l.length ∧ leB (at0 l i) = true
  · rw [if_pos hc]
    have h3 : i < behN naB l i := by
      rw [← behN_yes naB l i hc.1 (by rw [← at0_get l i hc.1]; exact le_na hc.2)]
      exact behN_ge naB l (i + 1)
    apply longN_eq
    · exact .inr ⟨h3, (lname_iff l i _ h2).2 ⟨h3, hc.2, fun m a b => behN_so naB l i m a b⟩⟩
    · exact .inl h2
    · intro k hk hkn
      apply Bool.eq_false_iff.2
      intro hq
      have hq := ((lname_iff l i k hkn).1 hq).2.2 (behN naB l i) h1 hk
      rw [behN_stop naB l i (by omega)] at hq
      cases hq
  · rw [if_neg hc]
    apply longN_eq
    · exact .inl rfl
    · exact .inr rfl
    · intro k hk hkn
      apply Bool.eq_false_iff.2
      intro hq
      have hq := (lname_iff l i k hkn).1 hq
      exact hc ⟨by omega, hq.2.1⟩
end Go.Proofs.YtdoambpiafkmmaaGreatDoor
