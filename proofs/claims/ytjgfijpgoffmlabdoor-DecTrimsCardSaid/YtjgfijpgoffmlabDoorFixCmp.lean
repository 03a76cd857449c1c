import Derived.Test.YtjgfijpgoffmlabDoorFixOf
import Derived.Test.YtjgfijpgoffmlabDoorFixLess
namespace Go.Proofs.YtjgfijpgoffmlabDoor
open Go.RowKit

theorem cmpZ_cast (a b : Nat) : cmpZ (a : Int) (b : Int) = cmpN a b := by
  unfold cmpZ cmpN
  simp only [Int.ofNat_lt, Int.ofNat_inj]
theorem fix_cmp (l1 l2 : List UInt8) (k1 k2 : Nat) (h1 : l1.all digB = true) (h2 : l2.all digB = true) (hk1 : k1 ≤ l1.length) (hk2 : k2 ≤ l2.length) (a1 : l1.length ≤ 100) (a2 : l2.length ≤ 100) :
    lexF (fixF l1 k1) (fixF l2 k2) 0 200 = sizeC l1 k1 l2 k2 := by
  rw [lexF_num (fixF_digs _ _ h1) (fixF_digs _ _ h2), hor_fixF l1 k1 h1 hk1 (by omega) (by omega), hor_fixF l2 k2 h2 hk2 (by omega) (by omega), cmpZ_cast, sizeC_num l1 l2 k1 k2 h1 h2 hk1 hk2]
  have e1 : numL l1 * 10 ^ (100 - k1) * 10 ^ (k1 + k2) = numL l1 * 10 ^ k2 * 10 ^ 100 := by
    rw [Nat.mul_assoc, Nat.mul_assoc, ← Nat.pow_add, ← Nat.pow_add]; congr 2; omega
  have e2 : numL l2 * 10 ^ (100 - k2) * 10 ^ (k1 + k2) = numL l2 * 10 ^ k1 * 10 ^ 100 := by
    rw [Nat.mul_assoc, Nat.mul_assoc, ← Nat.pow_add, ← Nat.pow_add]; congr 2; omega
  rw [← cmpN_mul (numL l1 * 10 ^ (100 - k1)) _ (10 ^ (k1 + k2)) (ten_pos _), e1, e2, cmpN_mul _ _ _ (ten_pos _)]
theorem fix_zero (l : List UInt8) (k : Nat) (h : l.all digB = true) (hk : k ≤ l.length) (a : l.length ≤ 100) : eqF (fixF l k) (fun _ => 0) 200 = zeroB l := by
  rw [eqF_num (fixF_digs _ _ h) nought_digs, nought_hor, hor_fixF l k h hk (by omega) (by omega), zeroB_num l h]
  apply decide_eq_decide.2
  have hT := ten_pos (100 - k)
  constructor
  · intro e
    have e' : numL l * 10 ^ (100 - k) = 0 := by omega
    rcases Nat.mul_eq_zero.1 e' with e | e <;> omega
  · intro e; rw [e, Nat.zero_mul]; rfl
theorem fix_eq (A B : Nat → Int) (w : World) : (Op.equalIn 10000 31 (.agg (row 200 A)) (.agg (row 200 B))).run Tryd.prog w = .ok (eqF A B 200) w :=
  run_equalIn_row w 9998 31 3 200 A B fixUnder Tryd.underlying3 (Tryd.isAgg3 w) (Tryd.sizeOf3 w)
theorem sizeC_range (l1 l2 : List UInt8) (k1 k2 : Nat) (h1 : l1.all digB = true) (h2 : l2.all digB = true) (hk1 : k1 ≤ l1.length) (hk2 : k2 ≤ l2.length) : sizeC l2 k2 l1 k1 = - sizeC l1 k1 l2 k2 ∧ -1 ≤ sizeC l1 k1 l2 k2 ∧ sizeC l1 k1 l2 k2 ≤ 1 := by
  rw [sizeC_num l1 l2 k1 k2 h1 h2 hk1 hk2, sizeC_num l2 l1 k2 k1 h2 h1 hk2 hk1]
  unfold cmpN
  generalize numL l1 * 10 ^ k2 = x
  generalize numL l2 * 10 ^ k1 = y
  refine ⟨?_, ?_, ?_⟩ <;> (repeat' split) <;> omega
end Go.Proofs.YtjgfijpgoffmlabDoor
