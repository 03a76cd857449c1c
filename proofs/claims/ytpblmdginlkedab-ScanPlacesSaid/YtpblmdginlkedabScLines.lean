/-
  The law's head; ScanLines: whatever text and place: where the line ends.
-/
import Derived.Test.YtpblmdginlkedabSc5
namespace Go.Proofs.Ytpblmdginlkedab
open Go.RowKit

theorem name5 (w : World) : Calls Try.prog 10 #[.string ⟨#[97, 45, 98, 95, 49, 33]⟩, .int .i64 0] w fun e w' => e = .returned (.int .i64 5) ∧ w = w' := by
  refine (name_any _ _ w (by decide)).mono ?_
  rintro e w' ⟨rfl, h⟩
  exact ⟨ret_int (by decide +kernel), h⟩
theorem number4 (w : World) : Calls Try.prog 11 #[.string ⟨#[45, 49, 46, 53, 46]⟩, .int .i64 0] w fun e w' => e = .returned (.int .i64 4) ∧ Below w.heap.size w w' := by
  refine (number_any _ _ w (by decide)).mono ?_
  rintro e w' ⟨rfl, h⟩
  exact ⟨ret_int (by decide +kernel), h⟩
theorem line2 (w : World) : Calls Try.prog 12 #[.string ⟨#[97, 98, 10, 99]⟩, .int .i64 1] w fun e w' => e = .returned (.int .i64 2) ∧ w = w' := by
  refine (line_any _ _ w (by decide)).mono ?_
  rintro e w' ⟨rfl, h⟩
  exact ⟨ret_int (by decide +kernel), h⟩
theorem blank3 (w : World) : Calls Try.prog 9 #[.string ⟨#[32, 10, 32, 120]⟩, .int .i64 0] w fun e w' => e = .returned (.int .i64 3) ∧ w = w' := by
  refine (blank_any _ _ w (by decide)).mono ?_
  rintro e w' ⟨rfl, h⟩
  exact ⟨ret_int (by decide +kernel), h⟩
theorem head_any (w : World) : Calls Try.prog 6 #[] w fun e w' => e = .returned (.bool true) ∧ Below w.heap.size w w' := by
  go_enter Try.func6, Try.ntmps6
  go_wp2_with (first | (go_at_call 10; refine (name5 _).mono ?_; rintro e w' ⟨rfl, rfl⟩) | (go_at_call 11; refine (number4 _).mono ?_; rintro e w1 ⟨rfl, hb1⟩) | (go_at_call 12; refine (line2 _).mono ?_; rintro e w' ⟨rfl, rfl⟩) | (go_at_call 9; refine (blank3 _).mono ?_; rintro e w' ⟨rfl, rfl⟩))
  go_ret
  exact ⟨rfl, hb1⟩

set_option maxHeartbeats 1000000 in
theorem lawLines (s : ByteArray) (i : Int) (w : World) (h0 : -9223372036854775808 ≤ i) (h1 : i ≤ 9223372036854775807) :
    Calls Try.prog 4 #[.string s, .int .i64 i] w fun e w' => e = .returned (.bool true) ∧ Below w.heap.size w w' := by
  by_cases h300 : (300 : Int) < s.size
  · go_enter Try.func4, Try.ntmps4
    go_wp2_with (go_at_call 6; refine (head_any _).mono ?_; rintro e w1 ⟨rfl, hb1⟩)
    go_ret
    exact ⟨rfl, hb1⟩
  have hs : s.size ≤ 9223372036854775807 := by omega
  have hL := fun W => line_any s i W hs
  by_cases hlo : i < 0
  · have e : lineI s.data.toList i = i := by unfold lineI; rw [if_neg (by omega)]
    rw [e] at hL
    clear e
    go_enter Try.func4, Try.ntmps4
    go_wp2_with (first | (go_at_call 6; refine (head_any _).mono ?_; rintro e w1 ⟨rfl, hb1⟩) | (go_at_call 12; refine (hL _).mono ?_; rintro e w' ⟨rfl, rfl⟩))
    go_ret
    exact ⟨rfl, hb1⟩
  by_cases hhi : (s.size : Int) < i
  · have e : lineI s.data.toList i = i := by unfold lineI; rw [size_data, if_neg (by omega)]
    rw [e] at hL
    clear e
    go_enter Try.func4, Try.ntmps4
    go_wp2_with (first | (go_at_call 6; refine (head_any _).mono ?_; rintro e w1 ⟨rfl, hb1⟩) | (go_at_call 12; refine (hL _).mono ?_; rintro e w' ⟨rfl, rfl⟩))
    go_ret
    exact ⟨rfl, hb1⟩
  obtain ⟨k, rfl⟩ : ∃ k : Nat, i = (k : Int) := ⟨i.toNat, by omega⟩
  have e : lineI s.data.toList (k : Int) = (behN nlB s.data.toList k : Int) := by
    unfold lineI
    rw [size_data, Int.toNat_natCast]
    split
    · rfl
    · rw [behN_end _ _ _ (by rw [size_data]; omega)]
  rw [e] at hL
  have hB := behN_le nlB s.data.toList k (by rw [size_data]; omega)
  rw [size_data] at hB
  have hk : k ≤ s.size := by omega
  generalize hBB : behN nlB s.data.toList k = B at *
  have HB := Lib.hid hBB
  clear hBB e h0 h1 hlo
  go_enter Try.func4, Try.ntmps4
  go_wp2_with (first | (go_at_call 6; refine (head_any _).mono ?_; rintro e w1 ⟨rfl, hb1⟩) | (go_at_call 12; refine (hL _).mono ?_; rintro e w' ⟨rfl, rfl⟩))
  go_loop [6] (fun t => ∃ j : Nat, t = .int .i64 j ∧ j ≤ s.size ∧ Hid (behN nlB s.data.toList j = B)) (fun t => s.size - (intOf t).toNat)
  case atStart => exact ⟨k, rfl, hk, HB⟩
  case round =>
    obtain ⟨j, rfl, hjs, hj⟩ := hrel
    by_cases hlt : j < s.size
    · have hlt' : j < s.data.toList.length := by rw [size_data]; exact hlt
      have hi0 : (0 : Int) ≤ (j : Int) := by omega
      have hi1 : (j : Int) < (s.size : Int) := by omega
      by_cases hc : s[j] = 10
      · have hno := behN_no nlB s.data.toList j hlt' (by show nlB s[j] = false; rw [hc]; rfl)
        obtain rfl : B = j := by rw [← hj.out, hno]
        have hq : ((s[B].toNat : Int) != 10) = false := by rw [hc]; rfl
        clear hno hc
        go_wp2
        go_ret
        exact ⟨rfl, hb1⟩
      · have hq : ((s[j].toNat : Int) != 10) = true := by
          apply bne_iff_ne.2
          intro h
          exact hc (UInt8.toNat_inj.1 (by have : (10 : UInt8).toNat = 10 := rfl; omega))
        have hyes := Lib.hid (behN_yes nlB s.data.toList j hlt' (by show nlB s[j] = true; unfold nlB; simpa using hc))
        clear hc
        go_wp2
        go_round
        case rel => exact ⟨j + 1, by go_num, by omega, Lib.hid (by rw [hyes.out, hj.out])⟩
        case measure => simp [intOf]; omega
    · have hend := behN_end nlB s.data.toList j (by rw [size_data]; omega)
      obtain rfl : B = j := by rw [← hj.out, hend]
      clear hend
      go_wp2
      go_ret
      exact ⟨rfl, hb1⟩
end Go.Proofs.Ytpblmdginlkedab
