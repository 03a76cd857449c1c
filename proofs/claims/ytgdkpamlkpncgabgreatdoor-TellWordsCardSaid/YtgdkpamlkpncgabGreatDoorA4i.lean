/-
  The digits of a whole number; the table that strconv reads.
-/
import Derived.Test.YtgdkpamlkpncgabGreatDoorA1
import Derived.Lib.ItoaNum
import Derived.Lib.AppendIntMem
namespace Go.Proofs.YtgdkpamlkpncgabGreatDoor
open Go.RowKit

theorem ofNat_dig {d : Nat} (h : d < 10) : digB (UInt8.ofNat (48 + d)) = true := by
  have e : (UInt8.ofNat (48 + d)).toNat = 48 + d := by
    rw [UInt8.toNat_ofNat', Nat.mod_eq_of_lt (by omega)]
  simp only [digB, e, Bool.and_eq_true, decide_eq_true_eq]; omega
theorem decDigits_all (u : Nat) : (Lib.decDigits u).all digB = true := by
  induction u using Nat.strongRecOn with
  | _ u ih =>
    by_cases h : u < 10
    · rw [Lib.decDigits, dif_pos h, List.all_cons, List.all_nil, Bool.and_true]; exact ofNat_dig h
    · rw [Lib.decDigits, dif_neg h, List.all_append, ih (u / 10) (by omega), List.all_cons, List.all_nil, Bool.and_true, Bool.true_and]
      exact ofNat_dig (Nat.mod_lt u (by omega : 0 < 10))
theorem decDigits_head (u : Nat) : ∃ c l, Lib.decDigits u = c :: l ∧ digB c = true ∧ (c = 48 → l = []) := by
  induction u using Nat.strongRecOn with
  | _ u ih =>
    by_cases h : u < 10
    · exact ⟨_, [], by rw [Lib.decDigits, dif_pos h], ofNat_dig h, fun _ => rfl⟩
    · obtain ⟨c, l, e, hc, hz⟩ := ih (u / 10) (by omega)
      refine ⟨c, l ++ [UInt8.ofNat (48 + u % 10)], by rw [Lib.decDigits, dif_neg h, e]; rfl, hc, ?_⟩
      intro h48
      exfalso
      have hl := hz h48
      subst hl
      by_cases h10 : u / 10 < 10
      · rw [Lib.decDigits, dif_pos h10] at e
        have e' : UInt8.ofNat (48 + u / 10) = c := by simpa using e
        have e2 : (UInt8.ofNat (48 + u / 10)).toNat = 48 + u / 10 := by rw [UInt8.toNat_ofNat', Nat.mod_eq_of_lt (by omega)]
        rw [e', h48] at e2
        have : (48 : UInt8).toNat = 48 := rfl
        omega
      · rw [Lib.decDigits, dif_neg h10] at e
        have := congrArg List.length e
        simp [Lib.decDigits_length] at this
        have := Lib.nDigits_pos (u / 10 / 10)
        omega
theorem nDigits_le : ∀ (k u : Nat), u < 10 ^ (k + 1) → Lib.nDigits u ≤ k + 1
  | 0, u, h => by rw [Lib.nDigits_small (by simpa using h)]; omega
  | k + 1, u, h => by
    by_cases h' : u < 10
    · rw [Lib.nDigits_small h']; omega
    · rw [Lib.nDigits_big h']
      have := nDigits_le k (u / 10) (by rw [Nat.pow_succ] at h; omega)
      omega
theorem decDigits_le {n : Int} (h0 : -9223372036854775808 ≤ n) (h1 : n ≤ 9223372036854775807) : (Lib.decDigits n.natAbs).length ≤ 20 := by
  rw [Lib.decDigits_length]
  exact nDigits_le 19 _ (by omega)

def TabPow (w : World) : Prop := Lib.TabIs Tryz.prog w "internal/strconv.uint64pow10" .u64 Lib.pow10Tab
theorem TabPow.below {w w1 : World} (h : TabPow w) (hb : Below w.heap.size w w1) : TabPow w1 := Lib.tabBelow_of_tabIs h w1 hb
theorem TabPow.alloc {w : World} (h : TabPow w) (o : Obj) : TabPow (w.alloc o) := Lib.tabIs_alloc h o

end Go.Proofs.YtgdkpamlkpncgabGreatDoor
