/-
  Numbers that are the same: whichever comes first; with noughts behind.
-/
import Derived.Test.YtglennfjeacpoaaGreatDoorNumMath
import Derived.Test.YtglennfjeacpoaaGreatDoorPb
namespace Go.Proofs.YtglennfjeacpoaaGreatDoor
open Go.RowKit
set_option linter.unusedVariables false

theorem cmpZ_zero (a b : Int) : cmpZ a b = 0 ↔ a = b := by
  unfold cmpZ
  split
  · constructor
    · intro h; cases h
    · intro h; omega
  · split
    · simp [*]
    · constructor
      · intro h; cases h
      · intro h; omega
theorem decC_zero {n1 n2 : Bool} {l1 l2 : List UInt8} {k1 k2 : Nat} (h1 : l1.all digB = true) (h2 : l2.all digB = true) (hk1 : k1 ≤ l1.length) (hk2 : k2 ≤ l2.length) :
    decC n1 l1 k1 n2 l2 k2 = 0 ↔ decC n2 l2 k2 n1 l1 k1 = 0 := by
  rw [decC_num n1 n2 l1 l2 k1 k2 h1 h2 hk1 hk2, decC_num n2 n1 l2 l1 k2 k1 h2 h1 hk2 hk1, cmpZ_zero, cmpZ_zero]
  exact ⟨fun h => h.symm, fun h => h.symm⟩
theorem decC_swap {n1 n2 : Bool} {l1 l2 : List UInt8} {k1 k2 : Nat} (h1 : l1.all digB = true) (h2 : l2.all digB = true) (hk1 : k1 ≤ l1.length) (hk2 : k2 ≤ l2.length) :
    (decC n2 l2 k2 n1 l1 k1 == 0) = (decC n1 l1 k1 n2 l2 k2 == 0) := by
  rw [Bool.eq_iff_iff, beq_iff_eq, beq_iff_eq]
  exact decC_zero h2 h1 hk2 hk1
theorem noughts_digs (j : Nat) : (List.replicate j (48 : UInt8)).all digB = true :=
  List.all_eq_true.2 fun c hc => by rw [(List.mem_replicate.1 hc).2]; decide
theorem decC_pad {n : Bool} {l : List UInt8} {k : Nat} (j : Nat) (h : l.all digB = true) (hk : k ≤ l.length) :
    decC n (l ++ List.replicate j 48) (k + j) n l k = 0 := by
  have hd : (l ++ List.replicate j 48).all digB = true := by rw [List.all_append, h, noughts_digs]; rfl
  rw [decC_num n n _ _ _ _ hd h (by rw [List.length_append, List.length_replicate]; omega) hk, cmpZ_zero, numL_append, numL_noughts, List.length_replicate, Nat.add_zero, Nat.mul_assoc, ← Nat.pow_add, Nat.add_comm j k]
theorem told_pad {l : List UInt8} {k : Nat} (j : Nat) (h : Told l k) (hj : l.length + j ≤ 40) : Told (l ++ List.replicate j 48) (k + j) := by
  have hlt := h.lt
  refine ⟨by rw [List.all_append, h.digs, noughts_digs]; rfl, by rw [List.length_append, List.length_replicate]; exact hj, by rw [List.length_append, List.length_replicate]; omega, ?_⟩
  rcases h.head with e | e
  · exact .inl (by rw [List.length_append, List.length_replicate]; omega)
  · refine .inr ?_
    cases l with
    | nil => simp at hlt
    | cons c r => exact e
end Go.Proofs.YtglennfjeacpoaaGreatDoor
