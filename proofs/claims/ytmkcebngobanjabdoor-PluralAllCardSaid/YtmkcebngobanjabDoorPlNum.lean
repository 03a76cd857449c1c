/-
  The last digits of a whole number's numeral.
-/
import Derived.Test.YtmkcebngobanjabDoorA4
import Derived.Test.YtmkcebngobanjabDoorPl7
namespace Go.Proofs.YtmkcebngobanjabDoor
open Go.RowKit
set_option linter.unusedVariables false

theorem valL_app (a : List UInt8) : ∀ (n : Nat) (b : List UInt8), b.length = n → valL (a ++ b) = valL a * ((10 ^ n : Nat) : Int) + valL b
  | 0, b, h => by
    rw [List.eq_nil_of_length_eq_zero h, List.append_nil]
    show _ = valL a * 1 + 0
    omega
  | n + 1, b, h => by
    have hne : b ≠ [] := fun e => by rw [e] at h; cases h
    obtain ⟨m, c, rfl⟩ : ∃ m c, b = m ++ [c] := ⟨b.dropLast, b.getLast hne, (List.dropLast_concat_getLast hne).symm⟩
    have ih := valL_app a n m (by simpa using h)
    rw [← List.append_assoc, valL_snoc, valL_snoc, ih, Nat.pow_succ, Int.natCast_mul]
    generalize ((10 ^ n : Nat) : Int) = p
    have e : valL a * (p * ((10 : Nat) : Int)) = 10 * (valL a * p) := by rw [← Int.mul_assoc, Int.mul_comm]; rfl
    rw [e]
    omega
theorem valL_last (c : Nat) (l : List UInt8) (h : l.all digB = true) : valL (lastL c l) = valL l % ((10 ^ c : Nat) : Int) := by
  unfold lastL
  by_cases hc : c ≤ l.length
  · have hl : (l.drop (l.length - c)).length = c := by rw [List.length_drop]; omega
    have h1 := valL_app (l.take (l.length - c)) c (l.drop (l.length - c)) hl
    rw [List.take_append_drop] at h1
    have hd : (l.drop (l.length - c)).all digB = true := List.all_eq_true.2 fun x hx => List.all_eq_true.1 h x (List.mem_of_mem_drop hx)
    have hb := valL_bd c _ hl hd
    rw [h1, Int.add_comm, Int.add_mul_emod_self_right, Int.emod_eq_of_lt hb.1 hb.2]
  · have e : l.length - c = 0 := by omega
    rw [e, List.drop_zero]
    have hb := valL_bd l.length l rfl h
    have hp : (10 ^ l.length : Nat) ≤ 10 ^ c := Nat.pow_le_pow_right (by decide) (by omega)
    rw [Int.emod_eq_of_lt hb.1 (by omega)]
theorem valL_digits (u : Nat) : valL (Lib.decDigits u) = (u : Int) := by
  induction u using Nat.strongRecOn with
  | _ u ih =>
    rw [Lib.decDigits]
    split
    · rename_i h
      show 10 * 0 + (((UInt8.ofNat (48 + u)).toNat : Int) - 48) = _
      have : (UInt8.ofNat (48 + u)).toNat = 48 + u := by
        rw [UInt8.toNat_ofNat']; omega
      omega
    · rename_i h
      rw [valL_snoc, ih (u / 10) (by omega)]
      have : (UInt8.ofNat (48 + u % 10)).toNat = 48 + u % 10 := by
        rw [UInt8.toNat_ofNat']; omega
      omega
def dgA (u : Nat) : ByteArray := ⟨(Lib.decDigits u).toArray⟩
theorem dgA_data (u : Nat) : (dgA u).data.toList = Lib.decDigits u := List.toList_toArray
theorem dgA_good (u : Nat) (h : u ≤ 1000000000) : GoodD (dgA u) 0 := by
  refine ⟨?_, Nat.zero_le _, ?_⟩
  · have := decDigits_le (n := (u : Int)) (by omega) (by omega)
    rw [← size_data, dgA_data]
    simpa using Nat.le_trans this (by omega)
  · rw [dgA_data]; exact decDigits_all u
theorem whB_zero (s : ByteArray) : whB s 0 = s := by
  apply bytes_eq
  unfold whB
  rw [extract_take, Nat.sub_zero, ← size_data, List.take_length]
theorem lastV_num (c u : Nat) : valL (lastL c (whB (dgA u) 0).data.toList) = (u : Int) % ((10 ^ c : Nat) : Int) := by
  rw [whB_zero, dgA_data, valL_last c _ (decDigits_all u), valL_digits]
theorem pLast_num (c : Nat) (lo hi : Int) (u : Nat) : pLast c lo hi (dgA u) 0 = (decide (lo ≤ (u : Int) % ((10 ^ c : Nat) : Int)) && decide ((u : Int) % ((10 ^ c : Nat) : Int) ≤ hi)) := by
  unfold pLast
  rw [lastV_num]
theorem pScale_zero (s : ByteArray) : pScale s 0 = false := rfl
theorem pWhole_zero (s : ByteArray) : pWhole s 0 = true := by
  unfold pWhole
  rw [Nat.sub_zero, ← size_data, List.drop_length]
  rfl
/-- A number beyond two: what is asked of it ahead of its last two digits. -/
theorem pIn_small (lo hi : Int) (u : Nat) (h : hi < (u : Int) % 100) : pIn lo hi (dgA u) 0 = false := by
  unfold pIn
  rw [pLast_num]
  have : decide ((u : Int) % ((10 ^ 2 : Nat) : Int) ≤ hi) = false := decide_eq_false (by have : (10 ^ 2 : Nat) = 100 := by decide
                                                                                         omega)
  rw [this]
  simp
theorem pLast_far (c : Nat) (hc : c = 1 ∨ c = 2) (lo hi : Int) (m n : Nat) : pLast c lo hi (dgA (100 * m + n)) 0 = pLast c lo hi (dgA n) 0 := by
  rw [pLast_num, pLast_num]
  have : ((100 * m + n : Nat) : Int) % ((10 ^ c : Nat) : Int) = (n : Int) % ((10 ^ c : Nat) : Int) := by
    rcases hc with rfl | rfl
    · have : (10 ^ 1 : Nat) = 10 := by decide
      omega
    · have : (10 ^ 2 : Nat) = 100 := by decide
      omega
  rw [this]
theorem pFew_far (m n : Nat) : pFew (dgA (100 * m + n)) 0 = pFew (dgA n) 0 := by
  unfold pFew
  rw [pLast_far 1 (.inl rfl), pLast_far 2 (.inr rfl)]
section
variable (m n : Nat) (h3 : 3 ≤ n) (h99 : n ≤ 99)
include h3 h99
omit h3 h99 in
theorem ru_far : cRu (dgA (100 * m + n)) 0 = cRu (dgA n) 0 := by
  unfold cRu
  rw [pLast_far 1 (.inl rfl), pLast_far 2 (.inr rfl), pFew_far, pScale_zero, pScale_zero]
theorem pl_far : cPl (dgA (100 * m + n)) 0 = cPl (dgA n) 0 := by
  unfold cPl
  rw [pFew_far, pScale_zero, pScale_zero, pIn_small 1 1 _ (by omega), pIn_small 1 1 _ (by omega)]
theorem ar_far : cAr (dgA (100 * m + n)) 0 = cAr (dgA n) 0 := by
  unfold cAr
  rw [pWhole_zero, pWhole_zero, pIn_small 0 0 _ (by omega), pIn_small 0 0 _ (by omega), pIn_small 1 1 _ (by omega), pIn_small 1 1 _ (by omega), pIn_small 2 2 _ (by omega), pIn_small 2 2 _ (by omega), pLast_far 2 (.inr rfl), pLast_far 2 (.inr rfl)]
omit h3 h99 in
theorem rank_far : rEn (dgA (100 * m + n)) 0 = rEn (dgA n) 0 := by
  unfold rEn
  rw [pWhole_zero, pWhole_zero, pLast_far 2 (.inr rfl), pLast_far 1 (.inl rfl), pLast_far 1 (.inl rfl), pLast_far 1 (.inl rfl)]
theorem en_far : cEn (dgA (100 * m + n)) 0 = 0 := by
  unfold cEn
  rw [pIn_small 1 1 _ (by omega), Bool.and_false]
  rfl
end
end Go.Proofs.YtmkcebngobanjabDoor
