/-
  The law's own count, small, big (package tag's law).
-/
import Derived.Test.YtldmldgkjkgkcaaDoorTgM
namespace Go.Proofs.YtldmldgkjkgkcaaDoor
open Go.RowKit
set_option linter.unusedVariables false
set_option linter.unusedSimpArgs false

def cntL (l : List UInt8) : Int := if l.all letDigB then ((l.filter letB).length : Int) else -1
def cntD (l : List UInt8) : Int := if l.all letDigB then ((l.filter digTB).length : Int) else -1
theorem filter_take {s : ByteArray} (p : UInt8 → Bool) (k : Nat) (h : k < s.size) : ((s.data.toList.take (k + 1)).filter p).length = ((s.data.toList.take k).filter p).length + (if p s[k] then 1 else 0) := by
  rw [take_succ s k h, List.filter_append, List.length_append]
  cases e : p s[k] <;> simp [e]
theorem letB_int (c : UInt8) : letB c = (decide (97 ≤ (c.toNat : Int)) && decide ((c.toNat : Int) ≤ 122) || decide (65 ≤ (c.toNat : Int)) && decide ((c.toNat : Int) ≤ 90)) := by
  unfold letB; rw [Bool.eq_iff_iff]; simp only [Bool.or_eq_true, Bool.and_eq_true, decide_eq_true_eq]; omega
theorem digTB_int (c : UInt8) : digTB c = (decide (48 ≤ (c.toNat : Int)) && decide ((c.toNat : Int) ≤ 57)) := by
  unfold digTB; rw [Bool.eq_iff_iff]; simp only [Bool.and_eq_true, decide_eq_true_eq]; omega

set_option maxHeartbeats 4000000 in
theorem count_any (s : ByteArray) (w : World) (hs : s.size ≤ maxLen) :
    Calls Tryd.prog 24 #[.string s] w fun e w' => e = .returned (.tuple #[.int .i64 (cntL s.data.toList), .int .i64 (cntD s.data.toList)]) ∧ w' = w := by
  unfold maxLen at hs
  go_enter Tryd.func24, Tryd.ntmps24
  go_wp2
  go_loop [4, 5, 6] (fun l d i => ∃ k : Nat, k ≤ s.size ∧ i = .int .i64 k ∧ (s.data.toList.take k).all letDigB = true ∧ l = .int .i64 ((s.data.toList.take k).filter letB).length ∧ d = .int .i64 ((s.data.toList.take k).filter digTB).length) (fun _ _ i => s.size - (intOf i).toNat)
  case atStart => exact ⟨0, Nat.zero_le _, rfl, rfl, rfl, rfl⟩
  case round =>
    obtain ⟨k, hk, rfl, hall, rfl, rfl⟩ := hrel
    have l1 : ((s.data.toList.take k).filter letB).length ≤ k := Nat.le_trans (List.length_filter_le _ _) (List.length_take_le _ _)
    have l2 : ((s.data.toList.take k).filter digTB).length ≤ k := Nat.le_trans (List.length_filter_le _ _) (List.length_take_le _ _)
    by_cases hlt : k < s.size
    · have f1 := filter_take letB k hlt
      have f2 := filter_take digTB k hlt
      have f3 := allB_take letDigB k hlt
      have f4 := fun h => allB_get letDigB k hlt h
      rw [hall, Bool.true_and] at f3
      obtain ⟨c, hc⟩ : ∃ c, s[k] = c := ⟨_, rfl⟩
      rw [hc] at f1 f2 f3 f4
      have e1 := letB_int c
      have e2 := digTB_int c
      by_cases h1 : (97 : Int) ≤ (c.toNat : Int) <;> by_cases h2 : (c.toNat : Int) ≤ 122 <;> by_cases h3 : (65 : Int) ≤ (c.toNat : Int) <;> by_cases h4 : (c.toNat : Int) ≤ 90 <;> by_cases h5 : (48 : Int) ≤ (c.toNat : Int) <;> by_cases h6 : (c.toNat : Int) ≤ 57
      all_goals first
        | (exfalso; omega)
        | (simp only [h1, h2, h3, h4, h5, h6, decide_true, decide_false, Bool.and_true, Bool.and_false, Bool.or_true, Bool.or_false, Bool.true_and, Bool.false_and] at e1 e2
           have e3 : letDigB c = (letB c || digTB c) := rfl
           rw [e1, e2] at e3
           simp only [Bool.or_false, Bool.or_true, Bool.false_or, Bool.true_or] at e3
           rw [e3] at f3 f4
           rw [e1] at f1
           rw [e2] at f2
           simp only [if_true, if_false, Bool.false_eq_true] at f1 f2
           have F1 := Lib.hid f1
           have F2 := Lib.hid f2
           have F3 := Lib.hid f3
           have F4 := Lib.hid f4
           have HA := Lib.hid hall
           clear f1 f2 f3 f4 e1 e2 e3 hall
           go_wp2
           first
             | (go_round
                case rel => exact ⟨k + 1, by omega, by go_num, F3.out, by rw [F1.out]; go_num, by rw [F2.out]; go_num⟩
                case measure => simp [intOf]; omega)
             | (go_ret2
                exact ⟨by rw [cntL, cntD, F4.out trivial]; rfl, rfl⟩))
    · obtain rfl : k = s.size := by omega
      have hall' := allB_end letDigB hall
      have ht : s.data.toList.take s.size = s.data.toList := List.take_of_length_le (by simp)
      rw [ht] at l1 l2 ⊢
      have HA := Lib.hid hall'
      clear hall hall' ht
      go_wp2
      go_ret2
      exact ⟨by rw [cntL, cntD, HA.out]; rfl, rfl⟩
end Go.Proofs.YtldmldgkjkgkcaaDoor
