/-
  Several texts put together (part 2): what the law and the program call, walked; their contracts.
-/
import Derived.WalkKit
import Derived.Test.YticjinmpanfhkaaGreatDoorQ1
/-
  Plain mathematics of package scan: the place behind all bytes that are such.
-/
namespace Go.Proofs.YticjinmpanfhkaaGreatDoor

/-- The place behind all bytes from k on that are such. -/
def behN (p : UInt8 → Bool) (l : List UInt8) (k : Nat) : Nat := k + ((l.drop k).takeWhile p).length
theorem behN_end (p : UInt8 → Bool) (l : List UInt8) (k : Nat) (h : l.length ≤ k) : behN p l k = k := by
  unfold behN; rw [List.drop_eq_nil_of_le h]; rfl
theorem behN_yes (p : UInt8 → Bool) (l : List UInt8) (k : Nat) (h : k < l.length) (hp : p l[k] = true) : behN p l (k + 1) = behN p l k := by
  unfold behN
  rw [List.drop_eq_getElem_cons h, List.takeWhile_cons, if_pos hp, List.length_cons]
  omega
theorem behN_no (p : UInt8 → Bool) (l : List UInt8) (k : Nat) (h : k < l.length) (hp : p l[k] = false) : behN p l k = k := by
  unfold behN
  rw [List.drop_eq_getElem_cons h, List.takeWhile_cons, if_neg (by simp [hp])]
  rfl
theorem behN_ge (p : UInt8 → Bool) (l : List UInt8) (k : Nat) : k ≤ behN p l k := by unfold behN; omega
theorem takeWhile_le (p : UInt8 → Bool) : ∀ l : List UInt8, (l.takeWhile p).length ≤ l.length
  | [] => Nat.le_refl _
  | c :: l => by
    rw [List.takeWhile_cons]
    split
    · have := takeWhile_le p l; simp only [List.length_cons]; omega
    · simp
theorem behN_le (p : UInt8 → Bool) (l : List UInt8) (k : Nat) (h : k ≤ l.length) : behN p l k ≤ l.length := by
  unfold behN
  have := takeWhile_le p (l.drop k)
  rw [List.length_drop] at this
  omega
/-- .. of any place: a place below 0 stays. -/
def behI (p : UInt8 → Bool) (l : List UInt8) (i : Int) : Int := if i < 0 then i else (behN p l i.toNat : Int)
def spB (c : UInt8) : Bool := decide ((c.toNat : Int) = 32)
def blB (c : UInt8) : Bool := decide ((c.toNat : Int) = 32 ∨ (c.toNat : Int) = 10)
def dgB (c : UInt8) : Bool := decide (48 ≤ (c.toNat : Int) ∧ (c.toNat : Int) ≤ 57)
def caB (c : UInt8) : Bool := decide (65 ≤ (c.toNat : Int) ∧ (c.toNat : Int) ≤ 90)
def leB (c : UInt8) : Bool := decide ((97 ≤ (c.toNat : Int) ∧ (c.toNat : Int) ≤ 122) ∨ (65 ≤ (c.toNat : Int) ∧ (c.toNat : Int) ≤ 90))
def joB (c : UInt8) : Bool := decide ((c.toNat : Int) = 95 ∨ (c.toNat : Int) = 45)
def naB (c : UInt8) : Bool := leB c || dgB c || joB c
def biB (c : UInt8) : Bool := caB c || dgB c || joB c
end Go.Proofs.YticjinmpanfhkaaGreatDoor

/-
  Contracts of package scan: what a byte is, isWithin, behind.
-/
namespace Go.Proofs.YticjinmpanfhkaaGreatDoor
open Go.RowKit

theorem within_yes (s : ByteArray) (i : Int) (w : World) (h0 : 0 ≤ i) (h1 : i < s.size) : Calls Tryz.prog 100 #[.string s, .int .i64 i] w fun e w' => e = .returned (.bool true) ∧ w = w' := by
  go_enter Tryz.func100, Tryz.ntmps100
  go_wp2
  go_ret
  exact ⟨rfl, rfl⟩
theorem within_no (s : ByteArray) (i : Int) (w : World) (h : i < 0 ∨ (s.size : Int) ≤ i) : Calls Tryz.prog 100 #[.string s, .int .i64 i] w fun e w' => e = .returned (.bool false) ∧ w = w' := by
  by_cases h0 : 0 ≤ i
  · have h1 : ¬ i < s.size := by omega
    go_enter Tryz.func100, Tryz.ntmps100
    go_wp2
    go_ret
    exact ⟨rfl, rfl⟩
  · go_enter Tryz.func100, Tryz.ntmps100
    go_wp2
    go_ret
    exact ⟨rfl, rfl⟩
theorem capital_any (c : UInt8) (w : World) : Calls Tryz.prog 128 #[.int .u8 (c.toNat : Int)] w fun e w' => e = .returned (.bool (caB c)) ∧ w = w' := by
  by_cases h : (65 : Int) ≤ (c.toNat : Int)
  all_goals
    go_enter Tryz.func128, Tryz.ntmps128
    go_wp2
    go_ret
    refine ⟨ret_bool ?_, rfl⟩
    rw [Bool.eq_iff_iff]
    simp [caB]
    omega
theorem digit_any (c : UInt8) (w : World) : Calls Tryz.prog 129 #[.int .u8 (c.toNat : Int)] w fun e w' => e = .returned (.bool (dgB c)) ∧ w = w' := by
  by_cases h : (48 : Int) ≤ (c.toNat : Int)
  all_goals
    go_enter Tryz.func129, Tryz.ntmps129
    go_wp2
    go_ret
    refine ⟨ret_bool ?_, rfl⟩
    rw [Bool.eq_iff_iff]
    simp [dgB]
    omega
theorem joint_any (c : UInt8) (w : World) : Calls Tryz.prog 130 #[.int .u8 (c.toNat : Int)] w fun e w' => e = .returned (.bool (joB c)) ∧ w = w' := by
  go_enter Tryz.func130, Tryz.ntmps130
  go_wp2
  all_goals
    go_ret
    refine ⟨ret_bool ?_, rfl⟩
    rw [Bool.eq_iff_iff]
    simp [joB, *]
theorem letter_any (c : UInt8) (w : World) : Calls Tryz.prog 131 #[.int .u8 (c.toNat : Int)] w fun e w' => e = .returned (.bool (leB c)) ∧ w = w' := by
  by_cases h1 : (97 : Int) ≤ (c.toNat : Int)
  · by_cases h2 : (c.toNat : Int) ≤ 122
    · go_enter Tryz.func131, Tryz.ntmps131
      go_wp2_with (go_at_call 128; refine (capital_any c _).mono ?_; rintro e w' ⟨rfl, rfl⟩)
      go_ret
      refine ⟨ret_bool ?_, rfl⟩
      simp [leB, h1, h2]
    · have hb : decide ((c.toNat : Int) ≤ 122) = false := by simp; omega
      go_enter Tryz.func131, Tryz.ntmps131
      go_wp2_with (go_at_call 128; refine (capital_any c _).mono ?_; rintro e w' ⟨rfl, rfl⟩)
      go_ret
      refine ⟨ret_bool ?_, rfl⟩
      simp only [leB, caB]
      rw [Bool.eq_iff_iff]
      simp
      omega
  · go_enter Tryz.func131, Tryz.ntmps131
    go_wp2_with (go_at_call 128; refine (capital_any c _).mono ?_; rintro e w' ⟨rfl, rfl⟩)
    go_ret
    refine ⟨ret_bool ?_, rfl⟩
    simp only [leB, caB]
    rw [Bool.eq_iff_iff]
    simp
    omega

/-- A function value that tells of a byte whether it is such. -/
def Tells (N : FuncId) (p : UInt8 → Bool) : Prop := ∀ (c : UInt8) (w : World), Calls Tryz.prog N #[.int .u8 (c.toNat : Int)] w fun e w' => e = .returned (.bool (p c)) ∧ w = w'
theorem tells_digit : Tells 129 dgB := digit_any
theorem tells_space : Tells 81 spB := fun c w => by
  go_enter Tryz.func81, Tryz.ntmps81
  go_wp2
  all_goals
    go_ret
    refine ⟨ret_bool ?_, rfl⟩
    rw [Bool.eq_iff_iff]
    simp [spB, *]
theorem tells_blank : Tells 74 blB := fun c w => by
  go_enter Tryz.func74, Tryz.ntmps74
  go_wp2
  all_goals
    go_ret
    refine ⟨ret_bool ?_, rfl⟩
    rw [Bool.eq_iff_iff]
    simp [blB, *]
theorem tells_name : Tells 132 naB := fun c w => by
  cases h1 : leB c
  · cases h2 : dgB c
    · go_enter Tryz.func132, Tryz.ntmps132
      go_wp2_with (first | (go_at_call 131; refine (letter_any c _).mono ?_; rw [h1]; rintro e w' ⟨rfl, rfl⟩) | (go_at_call 129; refine (digit_any c _).mono ?_; rw [h2]; rintro e w' ⟨rfl, rfl⟩) | (go_at_call 130; refine (joint_any c _).mono ?_; rintro e w' ⟨rfl, rfl⟩))
      go_ret
      exact ⟨ret_bool (by simp [naB, h1, h2]), rfl⟩
    · go_enter Tryz.func132, Tryz.ntmps132
      go_wp2_with (first | (go_at_call 131; refine (letter_any c _).mono ?_; rw [h1]; rintro e w' ⟨rfl, rfl⟩) | (go_at_call 129; refine (digit_any c _).mono ?_; rw [h2]; rintro e w' ⟨rfl, rfl⟩) | (go_at_call 130; refine (joint_any c _).mono ?_; rintro e w' ⟨rfl, rfl⟩))
      go_ret
      exact ⟨ret_bool (by simp [naB, h1, h2]), rfl⟩
  · go_enter Tryz.func132, Tryz.ntmps132
    go_wp2_with (first | (go_at_call 131; refine (letter_any c _).mono ?_; rw [h1]; rintro e w' ⟨rfl, rfl⟩) | (go_at_call 129; refine (digit_any c _).mono ?_; rintro e w' ⟨rfl, rfl⟩) | (go_at_call 130; refine (joint_any c _).mono ?_; rintro e w' ⟨rfl, rfl⟩))
    go_ret
    exact ⟨ret_bool (by simp [naB, h1]), rfl⟩
theorem tells_big : Tells 127 biB := fun c w => by
  cases h1 : caB c
  · cases h2 : dgB c
    · go_enter Tryz.func127, Tryz.ntmps127
      go_wp2_with (first | (go_at_call 128; refine (capital_any c _).mono ?_; rw [h1]; rintro e w' ⟨rfl, rfl⟩) | (go_at_call 129; refine (digit_any c _).mono ?_; rw [h2]; rintro e w' ⟨rfl, rfl⟩) | (go_at_call 130; refine (joint_any c _).mono ?_; rintro e w' ⟨rfl, rfl⟩))
      go_ret
      exact ⟨ret_bool (by simp [biB, h1, h2]), rfl⟩
    · go_enter Tryz.func127, Tryz.ntmps127
      go_wp2_with (first | (go_at_call 128; refine (capital_any c _).mono ?_; rw [h1]; rintro e w' ⟨rfl, rfl⟩) | (go_at_call 129; refine (digit_any c _).mono ?_; rw [h2]; rintro e w' ⟨rfl, rfl⟩) | (go_at_call 130; refine (joint_any c _).mono ?_; rintro e w' ⟨rfl, rfl⟩))
      go_ret
      exact ⟨ret_bool (by simp [biB, h1, h2]), rfl⟩
  · go_enter Tryz.func127, Tryz.ntmps127
    go_wp2_with (first | (go_at_call 128; refine (capital_any c _).mono ?_; rw [h1]; rintro e w' ⟨rfl, rfl⟩) | (go_at_call 129; refine (digit_any c _).mono ?_; rintro e w' ⟨rfl, rfl⟩) | (go_at_call 130; refine (joint_any c _).mono ?_; rintro e w' ⟨rfl, rfl⟩))
    go_ret
    exact ⟨ret_bool (by simp [biB, h1]), rfl⟩

end Go.Proofs.YticjinmpanfhkaaGreatDoor

/-
  Contracts of package scan: behind, for each of the functions that it is handed.
-/
namespace Go.Proofs.YticjinmpanfhkaaGreatDoor
open Go.RowKit

set_option maxHeartbeats 1000000 in
theorem behind_sp (s : ByteArray) (i : Int) (w : World) (hs : s.size ≤ 9223372036854775807) :
    Calls Tryz.prog 73 #[.string s, .int .i64 i, .func (.func 81) #[] #[]] w fun e w' => e = .returned (.int .i64 (behI spB s.data.toList i)) ∧ w = w' := by
  have HN := Lib.hid tells_space
  by_cases h0 : i < 0
  · have e : behI spB s.data.toList i = i := by unfold behI; rw [if_pos h0]
    have E := Lib.hid e
    clear e
    go_enter Tryz.func73, Tryz.ntmps73
    go_wp2_with fail
    go_loop [1] (fun t => t = .int .i64 i) (fun _ => 0)
    case atStart => rfl
    case round =>
      subst hrel
      go_wp2_with fail
      go_at_call 100
      refine (within_no _ _ _ (.inl h0)).mono ?_
      rintro e w' ⟨rfl, rfl⟩
      go_wp2_with fail
      go_ret
      exact ⟨ret_int E.out.symm, rfl⟩
  · obtain ⟨k, rfl⟩ : ∃ k : Nat, i = (k : Int) := ⟨i.toNat, by omega⟩
    obtain ⟨B, hB⟩ : ∃ B, behN spB s.data.toList k = B := ⟨_, rfl⟩
    have e : behI spB s.data.toList (k : Int) = (B : Int) := by unfold behI; rw [if_neg h0, Int.toNat_natCast, hB]
    have E := Lib.hid e
    have HB := Lib.hid hB
    clear e hB h0
    go_enter Tryz.func73, Tryz.ntmps73
    go_wp2_with fail
    go_loop [1] (fun t => ∃ j : Nat, t = .int .i64 j ∧ Hid (behN spB s.data.toList j = B)) (fun t => s.size - (intOf t).toNat)
    case atStart => exact ⟨k, rfl, HB⟩
    case round =>
      obtain ⟨j, rfl, hj⟩ := hrel
      by_cases hlt : j < s.size
      · have hlt' : j < s.data.toList.length := by rw [size_data]; exact hlt
        have hi0 : (0 : Int) ≤ (j : Int) := by omega
        have hi1 : (j : Int) < (s.size : Int) := by omega
        cases hp : spB s[j]
        · have hno := Lib.hid (behN_no spB s.data.toList j hlt' hp)
          have Hp := Lib.hid hp
          clear hp
          go_wp2_with fail
          go_at_call 100
          refine (within_yes _ _ _ hi0 hi1).mono ?_
          rintro e w' ⟨rfl, rfl⟩
          go_wp2_with fail
          go_at_call 81
          refine (HN.out s[j] _).mono ?_
          rw [Hp.out]
          rintro e w' ⟨rfl, rfl⟩
          go_wp2_with fail
          go_ret
          exact ⟨ret_int (by rw [E.out, ← hj.out, hno.out]), rfl⟩
        · have hyes := Lib.hid (behN_yes spB s.data.toList j hlt' hp)
          have Hp := Lib.hid hp
          clear hp
          go_wp2_with fail
          go_at_call 100
          refine (within_yes _ _ _ hi0 hi1).mono ?_
          rintro e w' ⟨rfl, rfl⟩
          go_wp2_with fail
          go_at_call 81
          refine (HN.out s[j] _).mono ?_
          rw [Hp.out]
          rintro e w' ⟨rfl, rfl⟩
          go_wp2_with fail
          go_round
          case rel => exact ⟨j + 1, by go_num, Lib.hid (by rw [hyes.out, hj.out])⟩
          case measure => simp [intOf]; omega
      · have hend := Lib.hid (behN_end spB s.data.toList j (by rw [size_data]; omega))
        go_wp2_with fail
        go_at_call 100
        refine (within_no _ _ _ (.inr (by omega))).mono ?_
        rintro e w' ⟨rfl, rfl⟩
        go_wp2_with fail
        go_ret
        exact ⟨ret_int (by rw [E.out, ← hj.out, hend.out]), rfl⟩
set_option maxHeartbeats 1000000 in
theorem behind_bl (s : ByteArray) (i : Int) (w : World) (hs : s.size ≤ 9223372036854775807) :
    Calls Tryz.prog 73 #[.string s, .int .i64 i, .func (.func 74) #[] #[]] w fun e w' => e = .returned (.int .i64 (behI blB s.data.toList i)) ∧ w = w' := by
  have HN := Lib.hid tells_blank
  by_cases h0 : i < 0
  · have e : behI blB s.data.toList i = i := by unfold behI; rw [if_pos h0]
    have E := Lib.hid e
    clear e
    go_enter Tryz.func73, Tryz.ntmps73
    go_wp2_with fail
    go_loop [1] (fun t => t = .int .i64 i) (fun _ => 0)
    case atStart => rfl
    case round =>
      subst hrel
      go_wp2_with fail
      go_at_call 100
      refine (within_no _ _ _ (.inl h0)).mono ?_
      rintro e w' ⟨rfl, rfl⟩
      go_wp2_with fail
      go_ret
      exact ⟨ret_int E.out.symm, rfl⟩
  · obtain ⟨k, rfl⟩ : ∃ k : Nat, i = (k : Int) := ⟨i.toNat, by omega⟩
    obtain ⟨B, hB⟩ : ∃ B, behN blB s.data.toList k = B := ⟨_, rfl⟩
    have e : behI blB s.data.toList (k : Int) = (B : Int) := by unfold behI; rw [if_neg h0, Int.toNat_natCast, hB]
    have E := Lib.hid e
    have HB := Lib.hid hB
    clear e hB h0
    go_enter Tryz.func73, Tryz.ntmps73
    go_wp2_with fail
    go_loop [1] (fun t => ∃ j : Nat, t = .int .i64 j ∧ Hid (behN blB s.data.toList j = B)) (fun t => s.size - (intOf t).toNat)
    case atStart => exact ⟨k, rfl, HB⟩
    case round =>
      obtain ⟨j, rfl, hj⟩ := hrel
      by_cases hlt : j < s.size
      · have hlt' : j < s.data.toList.length := by rw [size_data]; exact hlt
        have hi0 : (0 : Int) ≤ (j : Int) := by omega
        have hi1 : (j : Int) < (s.size : Int) := by omega
        cases hp : blB s[j]
        · have hno := Lib.hid (behN_no blB s.data.toList j hlt' hp)
          have Hp := Lib.hid hp
          clear hp
          go_wp2_with fail
          go_at_call 100
          refine (within_yes _ _ _ hi0 hi1).mono ?_
          rintro e w' ⟨rfl, rfl⟩
          go_wp2_with fail
          go_at_call 74
          refine (HN.out s[j] _).mono ?_
          rw [Hp.out]
          rintro e w' ⟨rfl, rfl⟩
          go_wp2_with fail
          go_ret
          exact ⟨ret_int (by rw [E.out, ← hj.out, hno.out]), rfl⟩
        · have hyes := Lib.hid (behN_yes blB s.data.toList j hlt' hp)
          have Hp := Lib.hid hp
          clear hp
          go_wp2_with fail
          go_at_call 100
          refine (within_yes _ _ _ hi0 hi1).mono ?_
          rintro e w' ⟨rfl, rfl⟩
          go_wp2_with fail
          go_at_call 74
          refine (HN.out s[j] _).mono ?_
          rw [Hp.out]
          rintro e w' ⟨rfl, rfl⟩
          go_wp2_with fail
          go_round
          case rel => exact ⟨j + 1, by go_num, Lib.hid (by rw [hyes.out, hj.out])⟩
          case measure => simp [intOf]; omega
      · have hend := Lib.hid (behN_end blB s.data.toList j (by rw [size_data]; omega))
        go_wp2_with fail
        go_at_call 100
        refine (within_no _ _ _ (.inr (by omega))).mono ?_
        rintro e w' ⟨rfl, rfl⟩
        go_wp2_with fail
        go_ret
        exact ⟨ret_int (by rw [E.out, ← hj.out, hend.out]), rfl⟩
set_option maxHeartbeats 1000000 in
theorem behind_na (s : ByteArray) (i : Int) (w : World) (hs : s.size ≤ 9223372036854775807) :
    Calls Tryz.prog 73 #[.string s, .int .i64 i, .func (.func 132) #[] #[]] w fun e w' => e = .returned (.int .i64 (behI naB s.data.toList i)) ∧ w = w' := by
  have HN := Lib.hid tells_name
  by_cases h0 : i < 0
  · have e : behI naB s.data.toList i = i := by unfold behI; rw [if_pos h0]
    have E := Lib.hid e
    clear e
    go_enter Tryz.func73, Tryz.ntmps73
    go_wp2_with fail
    go_loop [1] (fun t => t = .int .i64 i) (fun _ => 0)
    case atStart => rfl
    case round =>
      subst hrel
      go_wp2_with fail
      go_at_call 100
      refine (within_no _ _ _ (.inl h0)).mono ?_
      rintro e w' ⟨rfl, rfl⟩
      go_wp2_with fail
      go_ret
      exact ⟨ret_int E.out.symm, rfl⟩
  · obtain ⟨k, rfl⟩ : ∃ k : Nat, i = (k : Int) := ⟨i.toNat, by omega⟩
    obtain ⟨B, hB⟩ : ∃ B, behN naB s.data.toList k = B := ⟨_, rfl⟩
    have e : behI naB s.data.toList (k : Int) = (B : Int) := by unfold behI; rw [if_neg h0, Int.toNat_natCast, hB]
    have E := Lib.hid e
    have HB := Lib.hid hB
    clear e hB h0
    go_enter Tryz.func73, Tryz.ntmps73
    go_wp2_with fail
    go_loop [1] (fun t => ∃ j : Nat, t = .int .i64 j ∧ Hid (behN naB s.data.toList j = B)) (fun t => s.size - (intOf t).toNat)
    case atStart => exact ⟨k, rfl, HB⟩
    case round =>
      obtain ⟨j, rfl, hj⟩ := hrel
      by_cases hlt : j < s.size
      · have hlt' : j < s.data.toList.length := by rw [size_data]; exact hlt
        have hi0 : (0 : Int) ≤ (j : Int) := by omega
        have hi1 : (j : Int) < (s.size : Int) := by omega
        cases hp : naB s[j]
        · have hno := Lib.hid (behN_no naB s.data.toList j hlt' hp)
          have Hp := Lib.hid hp
          clear hp
          go_wp2_with fail
          go_at_call 100
          refine (within_yes _ _ _ hi0 hi1).mono ?_
          rintro e w' ⟨rfl, rfl⟩
          go_wp2_with fail
          go_at_call 132
          refine (HN.out s[j] _).mono ?_
          rw [Hp.out]
          rintro e w' ⟨rfl, rfl⟩
          go_wp2_with fail
          go_ret
          exact ⟨ret_int (by rw [E.out, ← hj.out, hno.out]), rfl⟩
        · have hyes := Lib.hid (behN_yes naB s.data.toList j hlt' hp)
          have Hp := Lib.hid hp
          clear hp
          go_wp2_with fail
          go_at_call 100
          refine (within_yes _ _ _ hi0 hi1).mono ?_
          rintro e w' ⟨rfl, rfl⟩
          go_wp2_with fail
          go_at_call 132
          refine (HN.out s[j] _).mono ?_
          rw [Hp.out]
          rintro e w' ⟨rfl, rfl⟩
          go_wp2_with fail
          go_round
          case rel => exact ⟨j + 1, by go_num, Lib.hid (by rw [hyes.out, hj.out])⟩
          case measure => simp [intOf]; omega
      · have hend := Lib.hid (behN_end naB s.data.toList j (by rw [size_data]; omega))
        go_wp2_with fail
        go_at_call 100
        refine (within_no _ _ _ (.inr (by omega))).mono ?_
        rintro e w' ⟨rfl, rfl⟩
        go_wp2_with fail
        go_ret
        exact ⟨ret_int (by rw [E.out, ← hj.out, hend.out]), rfl⟩
set_option maxHeartbeats 1000000 in
theorem behind_dg (s : ByteArray) (i : Int) (w : World) (hs : s.size ≤ 9223372036854775807) :
    Calls Tryz.prog 73 #[.string s, .int .i64 i, .func (.func 129) #[] #[]] w fun e w' => e = .returned (.int .i64 (behI dgB s.data.toList i)) ∧ w = w' := by
  have HN := Lib.hid tells_digit
  by_cases h0 : i < 0
  · have e : behI dgB s.data.toList i = i := by unfold behI; rw [if_pos h0]
    have E := Lib.hid e
    clear e
    go_enter Tryz.func73, Tryz.ntmps73
    go_wp2_with fail
    go_loop [1] (fun t => t = .int .i64 i) (fun _ => 0)
    case atStart => rfl
    case round =>
      subst hrel
      go_wp2_with fail
      go_at_call 100
      refine (within_no _ _ _ (.inl h0)).mono ?_
      rintro e w' ⟨rfl, rfl⟩
      go_wp2_with fail
      go_ret
      exact ⟨ret_int E.out.symm, rfl⟩
  · obtain ⟨k, rfl⟩ : ∃ k : Nat, i = (k : Int) := ⟨i.toNat, by omega⟩
    obtain ⟨B, hB⟩ : ∃ B, behN dgB s.data.toList k = B := ⟨_, rfl⟩
    have e : behI dgB s.data.toList (k : Int) = (B : Int) := by unfold behI; rw [if_neg h0, Int.toNat_natCast, hB]
    have E := Lib.hid e
    have HB := Lib.hid hB
    clear e hB h0
    go_enter Tryz.func73, Tryz.ntmps73
    go_wp2_with fail
    go_loop [1] (fun t => ∃ j : Nat, t = .int .i64 j ∧ Hid (behN dgB s.data.toList j = B)) (fun t => s.size - (intOf t).toNat)
    case atStart => exact ⟨k, rfl, HB⟩
    case round =>
      obtain ⟨j, rfl, hj⟩ := hrel
      by_cases hlt : j < s.size
      · have hlt' : j < s.data.toList.length := by rw [size_data]; exact hlt
        have hi0 : (0 : Int) ≤ (j : Int) := by omega
        have hi1 : (j : Int) < (s.size : Int) := by omega
        cases hp : dgB s[j]
        · have hno := Lib.hid (behN_no dgB s.data.toList j hlt' hp)
          have Hp := Lib.hid hp
          clear hp
          go_wp2_with fail
          go_at_call 100
          refine (within_yes _ _ _ hi0 hi1).mono ?_
          rintro e w' ⟨rfl, rfl⟩
          go_wp2_with fail
          go_at_call 129
          refine (HN.out s[j] _).mono ?_
          rw [Hp.out]
          rintro e w' ⟨rfl, rfl⟩
          go_wp2_with fail
          go_ret
          exact ⟨ret_int (by rw [E.out, ← hj.out, hno.out]), rfl⟩
        · have hyes := Lib.hid (behN_yes dgB s.data.toList j hlt' hp)
          have Hp := Lib.hid hp
          clear hp
          go_wp2_with fail
          go_at_call 100
          refine (within_yes _ _ _ hi0 hi1).mono ?_
          rintro e w' ⟨rfl, rfl⟩
          go_wp2_with fail
          go_at_call 129
          refine (HN.out s[j] _).mono ?_
          rw [Hp.out]
          rintro e w' ⟨rfl, rfl⟩
          go_wp2_with fail
          go_round
          case rel => exact ⟨j + 1, by go_num, Lib.hid (by rw [hyes.out, hj.out])⟩
          case measure => simp [intOf]; omega
      · have hend := Lib.hid (behN_end dgB s.data.toList j (by rw [size_data]; omega))
        go_wp2_with fail
        go_at_call 100
        refine (within_no _ _ _ (.inr (by omega))).mono ?_
        rintro e w' ⟨rfl, rfl⟩
        go_wp2_with fail
        go_ret
        exact ⟨ret_int (by rw [E.out, ← hj.out, hend.out]), rfl⟩
set_option maxHeartbeats 1000000 in
theorem behind_bi (s : ByteArray) (i : Int) (w : World) (hs : s.size ≤ 9223372036854775807) :
    Calls Tryz.prog 73 #[.string s, .int .i64 i, .func (.func 127) #[] #[]] w fun e w' => e = .returned (.int .i64 (behI biB s.data.toList i)) ∧ w = w' := by
  have HN := Lib.hid tells_big
  by_cases h0 : i < 0
  · have e : behI biB s.data.toList i = i := by unfold behI; rw [if_pos h0]
    have E := Lib.hid e
    clear e
    go_enter Tryz.func73, Tryz.ntmps73
    go_wp2_with fail
    go_loop [1] (fun t => t = .int .i64 i) (fun _ => 0)
    case atStart => rfl
    case round =>
      subst hrel
      go_wp2_with fail
      go_at_call 100
      refine (within_no _ _ _ (.inl h0)).mono ?_
      rintro e w' ⟨rfl, rfl⟩
      go_wp2_with fail
      go_ret
      exact ⟨ret_int E.out.symm, rfl⟩
  · obtain ⟨k, rfl⟩ : ∃ k : Nat, i = (k : Int) := ⟨i.toNat, by omega⟩
    obtain ⟨B, hB⟩ : ∃ B, behN biB s.data.toList k = B := ⟨_, rfl⟩
    have e : behI biB s.data.toList (k : Int) = (B : Int) := by unfold behI; rw [if_neg h0, Int.toNat_natCast, hB]
    have E := Lib.hid e
    have HB := Lib.hid hB
    clear e hB h0
    go_enter Tryz.func73, Tryz.ntmps73
    go_wp2_with fail
    go_loop [1] (fun t => ∃ j : Nat, t = .int .i64 j ∧ Hid (behN biB s.data.toList j = B)) (fun t => s.size - (intOf t).toNat)
    case atStart => exact ⟨k, rfl, HB⟩
    case round =>
      obtain ⟨j, rfl, hj⟩ := hrel
      by_cases hlt : j < s.size
      · have hlt' : j < s.data.toList.length := by rw [size_data]; exact hlt
        have hi0 : (0 : Int) ≤ (j : Int) := by omega
        have hi1 : (j : Int) < (s.size : Int) := by omega
        cases hp : biB s[j]
        · have hno := Lib.hid (behN_no biB s.data.toList j hlt' hp)
          have Hp := Lib.hid hp
          clear hp
          go_wp2_with fail
          go_at_call 100
          refine (within_yes _ _ _ hi0 hi1).mono ?_
          rintro e w' ⟨rfl, rfl⟩
          go_wp2_with fail
          go_at_call 127
          refine (HN.out s[j] _).mono ?_
          rw [Hp.out]
          rintro e w' ⟨rfl, rfl⟩
          go_wp2_with fail
          go_ret
          exact ⟨ret_int (by rw [E.out, ← hj.out, hno.out]), rfl⟩
        · have hyes := Lib.hid (behN_yes biB s.data.toList j hlt' hp)
          have Hp := Lib.hid hp
          clear hp
          go_wp2_with fail
          go_at_call 100
          refine (within_yes _ _ _ hi0 hi1).mono ?_
          rintro e w' ⟨rfl, rfl⟩
          go_wp2_with fail
          go_at_call 127
          refine (HN.out s[j] _).mono ?_
          rw [Hp.out]
          rintro e w' ⟨rfl, rfl⟩
          go_wp2_with fail
          go_round
          case rel => exact ⟨j + 1, by go_num, Lib.hid (by rw [hyes.out, hj.out])⟩
          case measure => simp [intOf]; omega
      · have hend := Lib.hid (behN_end biB s.data.toList j (by rw [size_data]; omega))
        go_wp2_with fail
        go_at_call 100
        refine (within_no _ _ _ (.inr (by omega))).mono ?_
        rintro e w' ⟨rfl, rfl⟩
        go_wp2_with fail
        go_ret
        exact ⟨ret_int (by rw [E.out, ← hj.out, hend.out]), rfl⟩
end Go.Proofs.YticjinmpanfhkaaGreatDoor
