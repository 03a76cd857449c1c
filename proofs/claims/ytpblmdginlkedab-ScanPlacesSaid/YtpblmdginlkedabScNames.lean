/-
  ScanNames: whatever text: whether it is a name, and one of capitals.
-/
import Derived.Test.YtpblmdginlkedabScLines
import Derived.Test.YtpblmdginlkedabScMath2
namespace Go.Proofs.Ytpblmdginlkedab
open Go.RowKit

theorem ldigit_any (c : UInt8) (w : World) : Calls Try.prog 13 #[.int .u8 (c.toNat : Int)] w fun e w' => e = .returned (.bool (dgB c)) ∧ w = w' := by
  by_cases h : (48 : Int) ≤ (c.toNat : Int)
  all_goals
    go_enter Try.func13, Try.ntmps13
    go_wp2
    go_ret
    refine ⟨ret_bool ?_, rfl⟩
    rw [Bool.eq_iff_iff]
    simp [dgB]
    omega
theorem lletter_any (c : UInt8) (w : World) : Calls Try.prog 28 #[.int .u8 (c.toNat : Int)] w fun e w' => e = .returned (.bool (leB c)) ∧ w = w' := by
  by_cases h1 : (97 : Int) ≤ (c.toNat : Int)
  · by_cases h2 : (c.toNat : Int) ≤ 122
    · go_enter Try.func28, Try.ntmps28
      go_wp2
      go_ret
      refine ⟨ret_bool ?_, rfl⟩
      simp [leB, h1, h2]
    · have hb : decide ((c.toNat : Int) ≤ 122) = false := by simp; omega
      by_cases h3 : (65 : Int) ≤ (c.toNat : Int)
      all_goals
        go_enter Try.func28, Try.ntmps28
        go_wp2
        go_ret
        refine ⟨ret_bool ?_, rfl⟩
        rw [Bool.eq_iff_iff]
        simp [leB]
        omega
  · by_cases h3 : (65 : Int) ≤ (c.toNat : Int)
    all_goals
      go_enter Try.func28, Try.ntmps28
      go_wp2
      go_ret
      refine ⟨ret_bool ?_, rfl⟩
      rw [Bool.eq_iff_iff]
      simp [leB]
      omega
theorem jo_or (c : UInt8) : joB c = true ↔ ((c.toNat : Int) = 95 ∨ (c.toNat : Int) = 45) := by simp [joB]
set_option maxHeartbeats 2000000 in
theorem lname_any (s : ByteArray) (w : World) (hs : s.size ≤ 1000000) :
    Calls Try.prog 15 #[.string s] w fun e w' => e = .returned (.bool (lnameB s.data.toList)) ∧ w = w' := by
  obtain ⟨R, hR⟩ : ∃ R, lnameB s.data.toList = R := ⟨_, rfl⟩
  rw [hR]
  have HR := Lib.hid hR
  clear hR
  have hbad : ∀ j, j < s.size → goodAt s.data.toList j = false → R = false := by
    intro j hj hg
    rw [← HR.out]
    apply Bool.eq_false_iff.2
    intro h
    have := (of_decide_eq_true h).2 j (by rw [size_data]; exact hj)
    rw [hg] at this
    cases this
  have HBad := Lib.hid hbad
  clear hbad
  go_enter Try.func15, Try.ntmps15
  go_wp2_with fail
  go_loop [3, 4] (fun t _ => ∃ j : Nat, t = .int .i64 j ∧ j ≤ s.size ∧ Hid (∀ m, m < j → goodAt s.data.toList m = true)) (fun t _ => s.size - (intOf t).toNat)
  case atStart => exact ⟨0, rfl, Nat.zero_le _, Lib.hid fun m h => by omega⟩
  case round =>
    obtain ⟨j, rfl, hjs, hg⟩ := hrel
    by_cases hlt : j < s.size
    · have hlt' : j < s.data.toList.length := by rw [size_data]; exact hlt
      have hat : at0 s.data.toList j = s[j] := at0_get _ j hlt'
      have hnext : goodAt s.data.toList j = true → Hid (∀ m, m < j + 1 → goodAt s.data.toList m = true) := fun h => Lib.hid fun m hm => by
        by_cases e : m = j
        · subst e; exact h
        · exact hg.out m (by omega)
      have Hnext := Lib.hid hnext
      have Hat := Lib.hid hat
      clear hnext hat
      cases hl : leB s[j]
      · cases hd : dgB s[j]
        · cases hj : joB s[j]
          · obtain rfl : R = false := HBad.out j hlt (by unfold goodAt; rw [Hat.out, hl, hd, hj]; simp)
            have h1 : ((s[j].toNat : Int) != 95) = true := by
              apply bne_iff_ne.2; intro h; rw [(jo_or _).2 (.inl h)] at hj; cases hj
            have h2 : ((s[j].toNat : Int) != 45) = true := by
              apply bne_iff_ne.2; intro h; rw [(jo_or _).2 (.inr h)] at hj; cases hj
            clear hj
            by_cases hz : j = 0
            · subst hz
              go_wp2_with (first | (go_at_call 28; refine (lletter_any _ _).mono ?_; rw [hl]; rintro e w' ⟨rfl, rfl⟩) | (go_at_call 13; refine (ldigit_any _ _).mono ?_; rw [hd]; rintro e w' ⟨rfl, rfl⟩))
              go_ret
              exact ⟨rfl, rfl⟩
            · have hz' : ((j : Int) == 0) = false := by simp; omega
              go_wp2_with (first | (go_at_call 28; refine (lletter_any _ _).mono ?_; rw [hl]; rintro e w' ⟨rfl, rfl⟩) | (go_at_call 13; refine (ldigit_any _ _).mono ?_; rw [hd]; rintro e w' ⟨rfl, rfl⟩))
              go_ret
              exact ⟨rfl, rfl⟩
          · by_cases hz : j = 0
            · subst hz
              obtain rfl : R = false := HBad.out 0 hlt (by unfold goodAt; rw [Hat.out, hl]; simp)
              clear hj
              go_wp2_with (first | (go_at_call 28; refine (lletter_any _ _).mono ?_; rw [hl]; rintro e w' ⟨rfl, rfl⟩) | (go_at_call 13; refine (ldigit_any _ _).mono ?_; rw [hd]; rintro e w' ⟨rfl, rfl⟩))
              go_ret
              exact ⟨rfl, rfl⟩
            · have hz' : ((j : Int) == 0) = false := by simp; omega
              have hgd := Hnext.out (by unfold goodAt; rw [Hat.out, hl, hj]; simp; omega)
              rcases (jo_or _).1 hj with h | h
              · have h1 : ((s[j].toNat : Int) != 95) = false := by rw [h]; rfl
                clear hj h
                go_wp2_with (first | (go_at_call 28; refine (lletter_any _ _).mono ?_; rw [hl]; rintro e w' ⟨rfl, rfl⟩) | (go_at_call 13; refine (ldigit_any _ _).mono ?_; rw [hd]; rintro e w' ⟨rfl, rfl⟩))
                go_round
                case rel => exact ⟨j + 1, by go_num, by omega, hgd⟩
                case measure => simp [intOf]; omega
              · have h1 : ((s[j].toNat : Int) != 95) = true := by rw [h]; rfl
                have h2 : ((s[j].toNat : Int) != 45) = false := by rw [h]; rfl
                clear hj h
                go_wp2_with (first | (go_at_call 28; refine (lletter_any _ _).mono ?_; rw [hl]; rintro e w' ⟨rfl, rfl⟩) | (go_at_call 13; refine (ldigit_any _ _).mono ?_; rw [hd]; rintro e w' ⟨rfl, rfl⟩))
                go_round
                case rel => exact ⟨j + 1, by go_num, by omega, hgd⟩
                case measure => simp [intOf]; omega
        · by_cases hz : j = 0
          · subst hz
            obtain rfl : R = false := HBad.out 0 hlt (by unfold goodAt; rw [Hat.out, hl]; simp)
            go_wp2_with (first | (go_at_call 28; refine (lletter_any _ _).mono ?_; rw [hl]; rintro e w' ⟨rfl, rfl⟩) | (go_at_call 13; refine (ldigit_any _ _).mono ?_; rw [hd]; rintro e w' ⟨rfl, rfl⟩))
            go_ret
            exact ⟨rfl, rfl⟩
          · have hz' : ((j : Int) == 0) = false := by simp; omega
            have hgd := Hnext.out (by unfold goodAt; rw [Hat.out, hl, hd]; simp; omega)
            go_wp2_with (first | (go_at_call 28; refine (lletter_any _ _).mono ?_; rw [hl]; rintro e w' ⟨rfl, rfl⟩) | (go_at_call 13; refine (ldigit_any _ _).mono ?_; rw [hd]; rintro e w' ⟨rfl, rfl⟩))
            go_round
            case rel => exact ⟨j + 1, by go_num, by omega, hgd⟩
            case measure => simp [intOf]; omega
      · have hgd := Hnext.out (by unfold goodAt; rw [Hat.out, hl]; rfl)
        go_wp2_with (first | (go_at_call 28; refine (lletter_any _ _).mono ?_; rw [hl]; rintro e w' ⟨rfl, rfl⟩) | (go_at_call 13; refine (ldigit_any _ _).mono ?_; rintro e w' ⟨rfl, rfl⟩))
        go_round
        case rel => exact ⟨j + 1, by go_num, by omega, hgd⟩
        case measure => simp [intOf]; omega
    · obtain rfl : j = s.size := by omega
      have hfin := Lib.hid (show R = decide (0 < s.size) by
        rw [← HR.out]
        unfold lnameB
        rw [Bool.eq_iff_iff, decide_eq_true_iff, decide_eq_true_iff, size_data]
        exact ⟨fun h => by omega, fun h => ⟨by omega, hg.out⟩⟩)
      go_wp2
      go_ret
      exact ⟨ret_bool hfin.out.symm, rfl⟩

def bigTo (s : ByteArray) (j : Nat) : Bool := decide (0 < s.size) && (s.data.toList.take j).all biB
theorem bigTo_succ (s : ByteArray) (j : Nat) (h : j < s.size) : bigTo s (j + 1) = (bigTo s j && biB s[j]) := by
  unfold bigTo
  rw [take_succ s j h, List.all_append]
  cases decide (0 < s.size) <;> simp
theorem behN_all (p : UInt8 → Bool) (l : List UInt8) : (behN p l 0 = l.length) ↔ l.all p = true := by
  rw [all_at]
  constructor
  · intro h m hm
    exact behN_so p l 0 m (Nat.zero_le _) (by omega)
  · intro h
    have h1 := behN_le p l 0 (Nat.zero_le _)
    by_cases e : behN p l 0 < l.length
    · have := behN_stop p l 0 e
      rw [h _ e] at this
      cases this
    · omega
theorem empty_size (s : ByteArray) : s.data.toList.isEmpty = !decide (0 < s.size) := by
  rw [Bool.eq_iff_iff, List.isEmpty_iff, ← List.length_eq_zero_iff, size_data]
  simp
theorem bigV_to (s : ByteArray) : bigV s = bigTo s s.size := by
  unfold bigV bigTo behI
  have h := behN_all biB s.data.toList
  rw [if_neg (by omega), empty_size, Bool.not_not, ← size_data, List.take_length]
  congr 1
  rw [Bool.eq_iff_iff, beq_iff_eq, ← h]
  simp only [Int.toNat_zero]
  omega
theorem nameV_l (s : ByteArray) : isNameV s = lnameB s.data.toList := by
  unfold isNameV lnameB
  rw [empty_size, Bool.not_not, Bool.eq_iff_iff, Bool.and_eq_true, decide_eq_true_iff, decide_eq_true_iff, beq_iff_eq, size_data]
  have hl := lname_iff s.data.toList 0 s.size (by rw [size_data]; exact Nat.le_refl _)
  unfold lnameB at hl
  have hpc : pc s.data.toList 0 s.size = s.data.toList := by
    unfold pc
    rw [List.drop_zero, ← size_data, List.take_length]
  rw [hpc, decide_eq_true_iff, size_data] at hl
  rw [hl]
  unfold nameI
  rw [size_data]
  constructor
  · rintro ⟨h0, h1⟩
    by_cases hc : (0 : Int) ≤ 0 ∧ (0 : Int) < s.size ∧ leB (s.data.toList.getD (0 : Int).toNat 0) = true
    · rw [if_pos hc] at h1
      refine ⟨h0, hc.2.2, fun m _ hm => ?_⟩
      unfold behI at h1
      rw [if_neg (by omega)] at h1
      exact behN_so naB _ 0 m (Nat.zero_le _) (by rw [show (0 : Int).toNat = 0 from rfl] at h1; omega)
    · rw [if_neg hc] at h1; omega
  · rintro ⟨h0, h1, h2⟩
    refine ⟨h0, ?_⟩
    rw [if_pos ⟨by omega, by omega, h1⟩]
    unfold behI
    rw [if_neg (by omega), show (0 : Int).toNat = 0 from rfl]
    have h := (behN_all naB s.data.toList).2 ((all_at _ _).2 fun m hm => h2 m (Nat.zero_le _) (by rw [size_data] at hm; exact hm))
    rw [h, size_data]
theorem bi_cases (c : UInt8) : (biB c = true ∧ (65 : Int) ≤ (c.toNat : Int) ∧ (c.toNat : Int) ≤ 90) ∨ ((¬ (65 : Int) ≤ (c.toNat : Int) ∨ ((65 : Int) ≤ (c.toNat : Int) ∧ ¬ (c.toNat : Int) ≤ 90)) ∧ biB c = (dgB c || joB c)) := by
  unfold biB
  by_cases h : (65 : Int) ≤ (c.toNat : Int) ∧ (c.toNat : Int) ≤ 90
  · left
    exact ⟨by simp [caB, h], h⟩
  · right
    have : caB c = false := by unfold caB; simpa using h
    exact ⟨by omega, by rw [this, Bool.false_or]⟩
set_option maxHeartbeats 4000000 in
theorem lawNames (s : ByteArray) (w : World) :
    Calls Try.prog 5 #[.string s] w fun e w' => e = .returned (.bool true) ∧ Below w.heap.size w w' := by
  by_cases h100 : (100 : Int) < s.size
  · go_enter Try.func5, Try.ntmps5
    go_wp2_with (go_at_call 6; refine (head_any _).mono ?_; rintro e w1 ⟨rfl, hb1⟩)
    go_ret
    exact ⟨rfl, hb1⟩
  have hs : s.size ≤ 1000000 := by omega
  have hI := fun W => isName_any s W (by omega)
  have hB := fun W => big_any s W (by omega)
  have hN := fun W => lname_any s W hs
  rw [nameV_l] at hI
  rw [bigV_to] at hB
  have HI := Lib.hid hI
  have HBg := Lib.hid hB
  have HN := Lib.hid hN
  clear hI hB hN
  go_enter Try.func5, Try.ntmps5
  go_wp2_with (go_at_call 6; refine (head_any _).mono ?_; rintro e w1 ⟨rfl, hb1⟩)
  go_loop [3, 4, 5] (fun u t _ => ∃ (j : Nat) (b : Bool), t = .int .i64 j ∧ u = .bool b ∧ j ≤ s.size ∧ Hid (b = bigTo s j)) (fun _ t _ => s.size - (intOf t).toNat)
  case atStart => exact ⟨0, _, rfl, rfl, Nat.zero_le _, Lib.hid (by unfold bigTo; simp)⟩
  case round =>
    obtain ⟨j, b, rfl, rfl, hjs, hb⟩ := hrel
    by_cases hlt : j < s.size
    · have hst := Lib.hid (bigTo_succ s j hlt)
      cases b
      · go_wp2
        go_round
        case rel => exact ⟨j + 1, false, by go_num, rfl, by omega, Lib.hid (by rw [hst.out, ← hb.out]; rfl)⟩
        case measure => simp [intOf]; omega
      · rcases bi_cases s[j] with ⟨hbi, h1, h2⟩ | ⟨hr, hbi⟩
        · have Hbi := Lib.hid hbi
          clear hbi
          go_wp2
          go_round
          case rel => exact ⟨j + 1, true, by go_num, rfl, by omega, Lib.hid (by rw [hst.out, ← hb.out, Hbi.out]; rfl)⟩
          case measure => simp [intOf]; omega
        · have Hbi := Lib.hid hbi
          clear hbi
          rcases hr with h1 | ⟨h1, h2⟩
          all_goals
            cases hd : dgB s[j]
            · cases hj : joB s[j]
              · have h3 : ((s[j].toNat : Int) == 95) = false := by
                  apply beq_eq_false_iff_ne.2; intro h; rw [(jo_or _).2 (.inl h)] at hj; cases hj
                have h4 : ((s[j].toNat : Int) == 45) = false := by
                  apply beq_eq_false_iff_ne.2; intro h; rw [(jo_or _).2 (.inr h)] at hj; cases hj
                have Hx := Lib.hid (show biB s[j] = false by rw [Hbi.out, hd, hj]; rfl)
                clear hj
                go_wp2_with (go_at_call 13; refine (ldigit_any _ _).mono ?_; rw [hd]; rintro e w' ⟨rfl, rfl⟩)
                go_round
                case rel => exact ⟨j + 1, false, by go_num, rfl, by omega, Lib.hid (by rw [hst.out, ← hb.out, Hx.out]; rfl)⟩
                case measure => simp [intOf]; omega
              · have Hx := Lib.hid (show biB s[j] = true by rw [Hbi.out, hd, hj]; rfl)
                rcases (jo_or _).1 hj with h | h
                · have h3 : ((s[j].toNat : Int) == 95) = true := by rw [h]; rfl
                  clear hj h
                  go_wp2_with (go_at_call 13; refine (ldigit_any _ _).mono ?_; rw [hd]; rintro e w' ⟨rfl, rfl⟩)
                  go_round
                  case rel => exact ⟨j + 1, true, by go_num, rfl, by omega, Lib.hid (by rw [hst.out, ← hb.out, Hx.out]; rfl)⟩
                  case measure => simp [intOf]; omega
                · have h3 : ((s[j].toNat : Int) == 95) = false := by rw [h]; rfl
                  have h4 : ((s[j].toNat : Int) == 45) = true := by rw [h]; rfl
                  clear hj h
                  go_wp2_with (go_at_call 13; refine (ldigit_any _ _).mono ?_; rw [hd]; rintro e w' ⟨rfl, rfl⟩)
                  go_round
                  case rel => exact ⟨j + 1, true, by go_num, rfl, by omega, Lib.hid (by rw [hst.out, ← hb.out, Hx.out]; rfl)⟩
                  case measure => simp [intOf]; omega
            · have Hx := Lib.hid (show biB s[j] = true by rw [Hbi.out, hd]; rfl)
              go_wp2_with (go_at_call 13; refine (ldigit_any _ _).mono ?_; rw [hd]; rintro e w' ⟨rfl, rfl⟩)
              go_round
              case rel => exact ⟨j + 1, true, by go_num, rfl, by omega, Lib.hid (by rw [hst.out, ← hb.out, Hx.out]; rfl)⟩
              case measure => simp [intOf]; omega
    · obtain rfl : j = s.size := by omega
      rw [← hb.out] at HBg
      go_wp2_with (first | (go_at_call 14; refine (HI.out _).mono ?_; rintro e w' ⟨rfl, rfl⟩) | (go_at_call 15; refine (HN.out _).mono ?_; rintro e w' ⟨rfl, rfl⟩) | (go_at_call 16; refine (HBg.out _).mono ?_; rintro e w' ⟨rfl, rfl⟩))
      go_ret
      exact ⟨rfl, hb1⟩
end Go.Proofs.Ytpblmdginlkedab
