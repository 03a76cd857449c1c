/-
  The law's longest, for each kind; ScanPlaces: whatever text and place: the longest of each kind that stands there.
-/
import Derived.Test.YtpblmdginlkedabScNum
namespace Go.Proofs.Ytpblmdginlkedab
open Go.RowKit
set_option linter.unusedVariables false

theorem longN_low (Q : List UInt8 → Bool) (l : List UInt8) (i : Nat) : ∀ k, k ≤ i → longN Q l i k = i
  | 0, _ => rfl
  | k + 1, h => by
    unfold longN
    rw [if_neg (by omega)]
    exact longN_low Q l i k (by omega)
theorem extract_pc (s : ByteArray) (i k : Nat) : (s.extract i k).data.toList = pc s.data.toList i k := by
  rw [Lib.extract_data]
  unfold pc
  rw [List.drop_take]
theorem all_succ (P : ByteArray) (p : UInt8 → Bool) (n : Nat) (h : n < P.size) : (P.data.toList.take (n + 1)).all p = ((P.data.toList.take n).all p && p P[n]) := by
  rw [take_succ P n h, List.all_append]
  simp

set_option maxHeartbeats 8000000 in
theorem longest_sp (s : ByteArray) (i : Int) (w : World) (hs : s.size ≤ 1000) :
    Calls Try.prog 8 #[.string s, .int .i64 i, .int .i64 0] w fun e w' => e = .returned (.int .i64 (longI (fun x => x.all spB) s.data.toList i)) ∧ w = w' := by
  by_cases hlo : i < 0
  · have E := Lib.hid (longI_lo (fun x => x.all spB) s.data.toList i hlo)
    go_enter Try.func8, Try.ntmps8
    go_wp2
    go_ret
    exact ⟨ret_int E.out.symm, rfl⟩
  by_cases hhi : (s.size : Int) < i
  · have E := Lib.hid (longI_hi (fun x => x.all spB) s.data.toList i (by rw [size_data]; exact hhi))
    go_enter Try.func8, Try.ntmps8
    go_wp2
    go_ret
    exact ⟨ret_int E.out.symm, rfl⟩
  obtain ⟨i, rfl⟩ : ∃ k : Nat, i = (k : Int) := ⟨i.toNat, by omega⟩
  have hi : i ≤ s.size := by omega
  have e := longI_mid (fun x => x.all spB) s.data.toList i (by rw [size_data]; exact hi)
  rw [size_data] at e
  obtain ⟨B, hB⟩ : ∃ B, longN (fun x => x.all spB) s.data.toList i s.size = B := ⟨_, rfl⟩
  rw [hB] at e
  have E := Lib.hid e
  have HB := Lib.hid hB
  clear e hB hlo
  go_enter Try.func8, Try.ntmps8
  go_wp2_with fail
  go_loop [7, 8, 9, 10] (fun kk _ _ _ => ∃ k : Nat, kk = .int .i64 k ∧ i ≤ k ∧ k ≤ s.size ∧ Hid (longN (fun x => x.all spB) s.data.toList i k = B)) (fun kk _ _ _ => (intOf kk).toNat)
  case atStart => exact ⟨s.size, rfl, hi, Nat.le_refl _, HB⟩
  case round =>
    obtain ⟨k, rfl, hik, hks, hk⟩ := hrel
    by_cases hlt : i < k
    · obtain ⟨k, rfl⟩ : ∃ k', k = k' + 1 := ⟨k - 1, by omega⟩
      obtain ⟨P, hP⟩ : ∃ P, s.extract i (k + 1) = P := ⟨_, rfl⟩
      have hP6 : P.size ≤ 1000000 := by rw [← hP, ByteArray.size_extract]; omega
      have hpc : P.data.toList = pc s.data.toList i (k + 1) := by rw [← hP, extract_pc]
      have hyes : (fun x => x.all spB) P.data.toList = true → B = k + 1 := fun h => by
        rw [← hk.out]
        unfold longN
        rw [hpc] at h
        rw [if_pos ⟨hlt, h⟩]
      have hno : (fun x => x.all spB) P.data.toList = false → Hid (longN (fun x => x.all spB) s.data.toList i k = B) := fun h => Lib.hid (by
        rw [← hk.out, longN.eq_2]
        rw [hpc] at h
        rw [if_neg]
        rintro ⟨_, x⟩
        exact Bool.noConfusion (x.symm.trans h))
      have Hyes := Lib.hid hyes
      have Hno := Lib.hid hno
      clear hyes hno hpc
      go_wp2_with fail
      go_loop [9, 10] (fun u t => ∃ (n : Nat) (b : Bool), t = .int .i64 n ∧ u = .bool b ∧ n ≤ P.size ∧ Hid (b = (P.data.toList.take n).all spB)) (fun _ t => P.size - (intOf t).toNat)
      case atStart => exact ⟨0, true, rfl, rfl, Nat.zero_le _, Lib.hid rfl⟩
      case round =>
        obtain ⟨n, b, rfl, rfl, hn, hb⟩ := hrel
        by_cases hlt : n < P.size
        · have hst := Lib.hid (all_succ P spB n hlt)
          cases b
          · go_wp2
            go_round
            case rel => exact ⟨n + 1, false, by go_num, rfl, by omega, Lib.hid (by rw [hst.out, ← hb.out]; rfl)⟩
            case measure => simp [intOf] <;> omega
          by_cases h32 : (P[n].toNat : Int) = 32
          · have h32' : ((P[n].toNat : Int) == 32) = true := by rw [h32]; rfl
            have Hx := Lib.hid (show spB P[n] = true by unfold spB; simp [h32])
            clear h32
            go_wp2
            go_round
            case rel => exact ⟨n + 1, true, by go_num, rfl, by omega, Lib.hid (by rw [hst.out, ← hb.out, Hx.out]; rfl)⟩
            case measure => simp [intOf] <;> omega
          have h32' : ((P[n].toNat : Int) == 32) = false := by simpa using h32
          · skip
            have Hx := Lib.hid (show spB P[n] = false by unfold spB; simpa using h32)
            clear h32
            go_wp2
            go_round
            case rel => exact ⟨n + 1, false, by go_num, rfl, by omega, Lib.hid (by rw [hst.out, ← hb.out, Hx.out]; rfl)⟩
            case measure => simp [intOf] <;> omega
        · obtain rfl : n = P.size := by omega
          have hfull : b = P.data.toList.all spB := by rw [hb.out, ← size_data, List.take_length]
          cases b
          · have HQ := Lib.hid hfull.symm
            clear hfull
            go_wp2
            go_round
            case rel => exact ⟨k, by first | rfl | go_num | (congr 1; omega), by omega, by omega, Hno.out HQ.out⟩
            case measure => simp [intOf] <;> omega
          · have HQ := Lib.hid hfull.symm
            clear hfull
            go_wp2
            go_ret
            exact ⟨ret_int (by rw [E.out, Hyes.out HQ.out]; omega), rfl⟩
    · have hki : k = i := by omega
      have hlow := longN_low (fun x => x.all spB) s.data.toList i i (Nat.le_refl _)
      have hBi : B = i := by rw [← hk.out, hki, hlow]
      have HBi := Lib.hid hBi
      subst hki
      clear hBi hlow
      go_wp2
      go_ret
      exact ⟨ret_int (by rw [E.out, HBi.out]), rfl⟩

set_option maxHeartbeats 8000000 in
theorem longest_bl (s : ByteArray) (i : Int) (w : World) (hs : s.size ≤ 1000) :
    Calls Try.prog 8 #[.string s, .int .i64 i, .int .i64 1] w fun e w' => e = .returned (.int .i64 (longI (fun x => x.all blB) s.data.toList i)) ∧ w = w' := by
  by_cases hlo : i < 0
  · have E := Lib.hid (longI_lo (fun x => x.all blB) s.data.toList i hlo)
    go_enter Try.func8, Try.ntmps8
    go_wp2
    go_ret
    exact ⟨ret_int E.out.symm, rfl⟩
  by_cases hhi : (s.size : Int) < i
  · have E := Lib.hid (longI_hi (fun x => x.all blB) s.data.toList i (by rw [size_data]; exact hhi))
    go_enter Try.func8, Try.ntmps8
    go_wp2
    go_ret
    exact ⟨ret_int E.out.symm, rfl⟩
  obtain ⟨i, rfl⟩ : ∃ k : Nat, i = (k : Int) := ⟨i.toNat, by omega⟩
  have hi : i ≤ s.size := by omega
  have e := longI_mid (fun x => x.all blB) s.data.toList i (by rw [size_data]; exact hi)
  rw [size_data] at e
  obtain ⟨B, hB⟩ : ∃ B, longN (fun x => x.all blB) s.data.toList i s.size = B := ⟨_, rfl⟩
  rw [hB] at e
  have E := Lib.hid e
  have HB := Lib.hid hB
  clear e hB hlo
  go_enter Try.func8, Try.ntmps8
  go_wp2_with fail
  go_loop [7, 8, 9, 10] (fun kk _ _ _ => ∃ k : Nat, kk = .int .i64 k ∧ i ≤ k ∧ k ≤ s.size ∧ Hid (longN (fun x => x.all blB) s.data.toList i k = B)) (fun kk _ _ _ => (intOf kk).toNat)
  case atStart => exact ⟨s.size, rfl, hi, Nat.le_refl _, HB⟩
  case round =>
    obtain ⟨k, rfl, hik, hks, hk⟩ := hrel
    by_cases hlt : i < k
    · obtain ⟨k, rfl⟩ : ∃ k', k = k' + 1 := ⟨k - 1, by omega⟩
      obtain ⟨P, hP⟩ : ∃ P, s.extract i (k + 1) = P := ⟨_, rfl⟩
      have hP6 : P.size ≤ 1000000 := by rw [← hP, ByteArray.size_extract]; omega
      have hpc : P.data.toList = pc s.data.toList i (k + 1) := by rw [← hP, extract_pc]
      have hyes : (fun x => x.all blB) P.data.toList = true → B = k + 1 := fun h => by
        rw [← hk.out]
        unfold longN
        rw [hpc] at h
        rw [if_pos ⟨hlt, h⟩]
      have hno : (fun x => x.all blB) P.data.toList = false → Hid (longN (fun x => x.all blB) s.data.toList i k = B) := fun h => Lib.hid (by
        rw [← hk.out, longN.eq_2]
        rw [hpc] at h
        rw [if_neg]
        rintro ⟨_, x⟩
        exact Bool.noConfusion (x.symm.trans h))
      have Hyes := Lib.hid hyes
      have Hno := Lib.hid hno
      clear hyes hno hpc
      go_wp2_with fail
      go_loop [9, 10] (fun u t => ∃ (n : Nat) (b : Bool), t = .int .i64 n ∧ u = .bool b ∧ n ≤ P.size ∧ Hid (b = (P.data.toList.take n).all blB)) (fun _ t => P.size - (intOf t).toNat)
      case atStart => exact ⟨0, true, rfl, rfl, Nat.zero_le _, Lib.hid rfl⟩
      case round =>
        obtain ⟨n, b, rfl, rfl, hn, hb⟩ := hrel
        by_cases hlt : n < P.size
        · have hst := Lib.hid (all_succ P blB n hlt)
          cases b
          · go_wp2
            go_round
            case rel => exact ⟨n + 1, false, by go_num, rfl, by omega, Lib.hid (by rw [hst.out, ← hb.out]; rfl)⟩
            case measure => simp [intOf] <;> omega
          by_cases h32 : (P[n].toNat : Int) = 32
          · have h32' : ((P[n].toNat : Int) == 32) = true := by rw [h32]; rfl
            have Hx := Lib.hid (show blB P[n] = true by unfold blB; simp [h32])
            clear h32
            go_wp2
            go_round
            case rel => exact ⟨n + 1, true, by go_num, rfl, by omega, Lib.hid (by rw [hst.out, ← hb.out, Hx.out]; rfl)⟩
            case measure => simp [intOf] <;> omega
          have h32' : ((P[n].toNat : Int) == 32) = false := by simpa using h32
          by_cases h10 : (P[n].toNat : Int) = 10
          · have h10' : ((P[n].toNat : Int) == 10) = true := by rw [h10]; rfl
            have Hx := Lib.hid (show blB P[n] = true by unfold blB; simp [h10])
            clear h32 h10
            go_wp2
            go_round
            case rel => exact ⟨n + 1, true, by go_num, rfl, by omega, Lib.hid (by rw [hst.out, ← hb.out, Hx.out]; rfl)⟩
            case measure => simp [intOf] <;> omega
          · have h10' : ((P[n].toNat : Int) == 10) = false := by simpa using h10
            have Hx := Lib.hid (show blB P[n] = false by unfold blB; simp; omega)
            clear h32 h10
            go_wp2
            go_round
            case rel => exact ⟨n + 1, false, by go_num, rfl, by omega, Lib.hid (by rw [hst.out, ← hb.out, Hx.out]; rfl)⟩
            case measure => simp [intOf] <;> omega
        · obtain rfl : n = P.size := by omega
          have hfull : b = P.data.toList.all blB := by rw [hb.out, ← size_data, List.take_length]
          cases b
          · have HQ := Lib.hid hfull.symm
            clear hfull
            go_wp2
            go_round
            case rel => exact ⟨k, by first | rfl | go_num | (congr 1; omega), by omega, by omega, Hno.out HQ.out⟩
            case measure => simp [intOf] <;> omega
          · have HQ := Lib.hid hfull.symm
            clear hfull
            go_wp2
            go_ret
            exact ⟨ret_int (by rw [E.out, Hyes.out HQ.out]; omega), rfl⟩
    · have hki : k = i := by omega
      have hlow := longN_low (fun x => x.all blB) s.data.toList i i (Nat.le_refl _)
      have hBi : B = i := by rw [← hk.out, hki, hlow]
      have HBi := Lib.hid hBi
      subst hki
      clear hBi hlow
      go_wp2
      go_ret
      exact ⟨ret_int (by rw [E.out, HBi.out]), rfl⟩

set_option maxHeartbeats 8000000 in
theorem longest_nm (s : ByteArray) (i : Int) (w : World) (hs : s.size ≤ 1000) :
    Calls Try.prog 8 #[.string s, .int .i64 i, .int .i64 2] w fun e w' => e = .returned (.int .i64 (longI lnameB s.data.toList i)) ∧ w = w' := by
  by_cases hlo : i < 0
  · have E := Lib.hid (longI_lo lnameB s.data.toList i hlo)
    go_enter Try.func8, Try.ntmps8
    go_wp2
    go_ret
    exact ⟨ret_int E.out.symm, rfl⟩
  by_cases hhi : (s.size : Int) < i
  · have E := Lib.hid (longI_hi lnameB s.data.toList i (by rw [size_data]; exact hhi))
    go_enter Try.func8, Try.ntmps8
    go_wp2
    go_ret
    exact ⟨ret_int E.out.symm, rfl⟩
  obtain ⟨i, rfl⟩ : ∃ k : Nat, i = (k : Int) := ⟨i.toNat, by omega⟩
  have hi : i ≤ s.size := by omega
  have e := longI_mid lnameB s.data.toList i (by rw [size_data]; exact hi)
  rw [size_data] at e
  obtain ⟨B, hB⟩ : ∃ B, longN lnameB s.data.toList i s.size = B := ⟨_, rfl⟩
  rw [hB] at e
  have E := Lib.hid e
  have HB := Lib.hid hB
  clear e hB hlo
  go_enter Try.func8, Try.ntmps8
  go_wp2_with fail
  go_loop [7, 8, 9] (fun kk _ _ => ∃ k : Nat, kk = .int .i64 k ∧ i ≤ k ∧ k ≤ s.size ∧ Hid (longN lnameB s.data.toList i k = B)) (fun kk _ _ => (intOf kk).toNat)
  case atStart => exact ⟨s.size, rfl, hi, Nat.le_refl _, HB⟩
  case round =>
    obtain ⟨k, rfl, hik, hks, hk⟩ := hrel
    by_cases hlt : i < k
    · obtain ⟨k, rfl⟩ : ∃ k', k = k' + 1 := ⟨k - 1, by omega⟩
      obtain ⟨P, hP⟩ : ∃ P, s.extract i (k + 1) = P := ⟨_, rfl⟩
      have hP6 : P.size ≤ 1000000 := by rw [← hP, ByteArray.size_extract]; omega
      have hpc : P.data.toList = pc s.data.toList i (k + 1) := by rw [← hP, extract_pc]
      have hyes : lnameB P.data.toList = true → B = k + 1 := fun h => by
        rw [← hk.out]
        unfold longN
        rw [hpc] at h
        rw [if_pos ⟨hlt, h⟩]
      have hno : lnameB P.data.toList = false → Hid (longN lnameB s.data.toList i k = B) := fun h => Lib.hid (by
        rw [← hk.out, longN.eq_2]
        rw [hpc] at h
        rw [if_neg]
        rintro ⟨_, x⟩
        exact Bool.noConfusion (x.symm.trans h))
      have Hyes := Lib.hid hyes
      have Hno := Lib.hid hno
      clear hyes hno hpc
      cases hq : lnameB P.data.toList
      · have HQ := Lib.hid hq
        clear hq
        go_wp2_with (go_at_call 15; refine (lname_any P _ hP6).mono ?_; rw [HQ.out]; rintro e w' ⟨rfl, rfl⟩)
        go_round
        case rel => exact ⟨k, by first | rfl | go_num | (congr 1; omega), by omega, by omega, Hno.out HQ.out⟩
        case measure => simp [intOf] <;> omega
      · have HQ := Lib.hid hq
        clear hq
        go_wp2_with (go_at_call 15; refine (lname_any P _ hP6).mono ?_; rw [HQ.out]; rintro e w' ⟨rfl, rfl⟩)
        go_ret
        exact ⟨ret_int (by rw [E.out, Hyes.out HQ.out]; omega), rfl⟩
    · have hki : k = i := by omega
      have hlow := longN_low lnameB s.data.toList i i (Nat.le_refl _)
      have hBi : B = i := by rw [← hk.out, hki, hlow]
      have HBi := Lib.hid hBi
      subst hki
      clear hBi hlow
      go_wp2
      go_ret
      exact ⟨ret_int (by rw [E.out, HBi.out]), rfl⟩

set_option maxHeartbeats 8000000 in
theorem longest_nu (s : ByteArray) (i : Int) (w : World) (hs : s.size ≤ 1000) :
    Calls Try.prog 8 #[.string s, .int .i64 i, .int .i64 3] w fun e w' => e = .returned (.int .i64 (longI lnumB s.data.toList i)) ∧ w = w' := by
  by_cases hlo : i < 0
  · have E := Lib.hid (longI_lo lnumB s.data.toList i hlo)
    go_enter Try.func8, Try.ntmps8
    go_wp2
    go_ret
    exact ⟨ret_int E.out.symm, rfl⟩
  by_cases hhi : (s.size : Int) < i
  · have E := Lib.hid (longI_hi lnumB s.data.toList i (by rw [size_data]; exact hhi))
    go_enter Try.func8, Try.ntmps8
    go_wp2
    go_ret
    exact ⟨ret_int E.out.symm, rfl⟩
  obtain ⟨i, rfl⟩ : ∃ k : Nat, i = (k : Int) := ⟨i.toNat, by omega⟩
  have hi : i ≤ s.size := by omega
  have e := longI_mid lnumB s.data.toList i (by rw [size_data]; exact hi)
  rw [size_data] at e
  obtain ⟨B, hB⟩ : ∃ B, longN lnumB s.data.toList i s.size = B := ⟨_, rfl⟩
  rw [hB] at e
  have E := Lib.hid e
  have HB := Lib.hid hB
  clear e hB hlo
  go_enter Try.func8, Try.ntmps8
  go_wp2_with fail
  go_loop [7, 8, 9] (fun kk _ _ => ∃ k : Nat, kk = .int .i64 k ∧ i ≤ k ∧ k ≤ s.size ∧ Hid (longN lnumB s.data.toList i k = B)) (fun kk _ _ => (intOf kk).toNat)
  case atStart => exact ⟨s.size, rfl, hi, Nat.le_refl _, HB⟩
  case round =>
    obtain ⟨k, rfl, hik, hks, hk⟩ := hrel
    by_cases hlt : i < k
    · obtain ⟨k, rfl⟩ : ∃ k', k = k' + 1 := ⟨k - 1, by omega⟩
      obtain ⟨P, hP⟩ : ∃ P, s.extract i (k + 1) = P := ⟨_, rfl⟩
      have hP6 : P.size ≤ 1000000 := by rw [← hP, ByteArray.size_extract]; omega
      have hpc : P.data.toList = pc s.data.toList i (k + 1) := by rw [← hP, extract_pc]
      have hyes : lnumB P.data.toList = true → B = k + 1 := fun h => by
        rw [← hk.out]
        unfold longN
        rw [hpc] at h
        rw [if_pos ⟨hlt, h⟩]
      have hno : lnumB P.data.toList = false → Hid (longN lnumB s.data.toList i k = B) := fun h => Lib.hid (by
        rw [← hk.out, longN.eq_2]
        rw [hpc] at h
        rw [if_neg]
        rintro ⟨_, x⟩
        exact Bool.noConfusion (x.symm.trans h))
      have Hyes := Lib.hid hyes
      have Hno := Lib.hid hno
      clear hyes hno hpc
      cases hq : lnumB P.data.toList
      · have HQ := Lib.hid hq
        clear hq
        go_wp2_with (go_at_call 19; refine (lnumber_any P _ hP6).mono ?_; rw [HQ.out]; rintro e w' ⟨rfl, rfl⟩)
        go_round
        case rel => exact ⟨k, by first | rfl | go_num | (congr 1; omega), by omega, by omega, Hno.out HQ.out⟩
        case measure => simp [intOf] <;> omega
      · have HQ := Lib.hid hq
        clear hq
        go_wp2_with (go_at_call 19; refine (lnumber_any P _ hP6).mono ?_; rw [HQ.out]; rintro e w' ⟨rfl, rfl⟩)
        go_ret
        exact ⟨ret_int (by rw [E.out, Hyes.out HQ.out]; omega), rfl⟩
    · have hki : k = i := by omega
      have hlow := longN_low lnumB s.data.toList i i (Nat.le_refl _)
      have hBi : B = i := by rw [← hk.out, hki, hlow]
      have HBi := Lib.hid hBi
      subst hki
      clear hBi hlow
      go_wp2
      go_ret
      exact ⟨ret_int (by rw [E.out, HBi.out]), rfl⟩
end Go.Proofs.Ytpblmdginlkedab
