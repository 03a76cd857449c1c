import Derived.Test.YtjgfijpgoffmlabDoorRoundMath
namespace Go.Proofs.YtjgfijpgoffmlabDoor
open Go.RowKit

/-! Rows of two hundred digits, as functions of the place. -/
/-- The number that the first n digits tell. -/
def hor (A : Nat → Int) : Nat → Int
  | 0 => 0
  | n + 1 => 10 * hor A n + A n
/-- The order of two rows from a place on. -/
def lexF (A B : Nat → Int) : Nat → Nat → Int
  | _, 0 => 0
  | i, f + 1 => if A i < B i then -1 else if B i < A i then 1 else lexF A B (i + 1) f
def DigF (A : Nat → Int) : Prop := ∀ p, 0 ≤ A p ∧ A p ≤ 9

theorem hor_less {A B : Nat → Int} (hA : DigF A) (hB : DigF B) {i : Nat} (h : hor A i < hor B i) : ∀ f, hor A (i + f) < hor B (i + f)
  | 0 => h
  | f + 1 => by
    have ih := hor_less hA hB h f
    have a := hA (i + f)
    have b := hB (i + f)
    show 10 * hor A (i + f) + A (i + f) < 10 * hor B (i + f) + B (i + f)
    omega
theorem lexF_hor {A B : Nat → Int} (hA : DigF A) (hB : DigF B) : ∀ (f i : Nat), hor A i = hor B i → lexF A B i f = cmpZ (hor A (i + f)) (hor B (i + f))
  | 0, i, h => by
    unfold lexF cmpZ
    simp [h]
  | f + 1, i, h => by
    have e : i + (f + 1) = i + 1 + f := by omega
    have s1 : hor A (i + 1) = 10 * hor A i + A i := rfl
    have s2 : hor B (i + 1) = 10 * hor B i + B i := rfl
    unfold lexF
    by_cases h1 : A i < B i
    · rw [if_pos h1]
      have := hor_less hA hB (i := i + 1) (by omega) f
      rw [e]
      unfold cmpZ
      rw [if_pos this]
    · rw [if_neg h1]
      by_cases h2 : B i < A i
      · rw [if_pos h2]
        have := hor_less hB hA (i := i + 1) (by omega) f
        rw [e]
        unfold cmpZ
        rw [if_neg (by omega), if_neg (by omega)]
      · rw [if_neg h2, lexF_hor hA hB f (i + 1) (by omega), e]
theorem lexF_num {A B : Nat → Int} (hA : DigF A) (hB : DigF B) : lexF A B 0 200 = cmpZ (hor A 200) (hor B 200) := by
  have := lexF_hor hA hB 200 0 rfl
  simpa using this

/-- Are two rows the same? -/
def eqF (A B : Nat → Int) (n : Nat) : Bool := (List.range n).all fun p => A p == B p
theorem eqF_iff (A B : Nat → Int) (n : Nat) : eqF A B n = true ↔ ∀ p, p < n → A p = B p := by
  simp [eqF]
theorem hor_congr {A B : Nat → Int} : ∀ n, (∀ p, p < n → A p = B p) → hor A n = hor B n
  | 0, _ => rfl
  | n + 1, h => by
    show 10 * hor A n + A n = 10 * hor B n + B n
    rw [hor_congr n (fun p hp => h p (by omega)), h n (by omega)]
theorem hor_inj {A B : Nat → Int} (hA : DigF A) (hB : DigF B) : ∀ n, hor A n = hor B n → ∀ p, p < n → A p = B p
  | 0, _, p, hp => by omega
  | n + 1, h, p, hp => by
    have a := hA n
    have b := hB n
    have h' : 10 * hor A n + A n = 10 * hor B n + B n := h
    by_cases e : p = n
    · subst e; omega
    · exact hor_inj hA hB n (by omega) p (by omega)
theorem eqF_num {A B : Nat → Int} (hA : DigF A) (hB : DigF B) (n : Nat) : eqF A B n = decide (hor A n = hor B n) := by
  rw [Bool.eq_iff_iff, eqF_iff, decide_eq_true_iff]
  exact ⟨hor_congr n, hor_inj hA hB n⟩

/-- A number's digits in their places: those of the first j that are laid. -/
def fixJ (l : List UInt8) (k j p : Nat) : Int := if 100 - (l.length - k) ≤ p ∧ p < 100 - (l.length - k) + j then ((l.getD (p - (100 - (l.length - k))) 48).toNat : Int) - 48 else 0
def fixF (l : List UInt8) (k : Nat) : Nat → Int := fixJ l k l.length
theorem fixJ_zero (l : List UInt8) (k p : Nat) : fixJ l k 0 p = 0 := by
  unfold fixJ
  rw [if_neg (by omega)]
theorem fixF_digs (l : List UInt8) (k : Nat) (h : l.all digB = true) : DigF (fixF l k) := by
  intro p
  unfold fixF fixJ
  by_cases hc : 100 - (l.length - k) ≤ p ∧ p < 100 - (l.length - k) + l.length
  · rw [if_pos hc]
    have hlt : p - (100 - (l.length - k)) < l.length := by omega
    have hm := List.all_eq_true.1 h (l[p - (100 - (l.length - k))]) (List.getElem_mem hlt)
    have := dig_le hm
    rw [List.getD_eq_getElem?_getD, List.getElem?_eq_getElem hlt, Option.getD_some]
    omega
  · rw [if_neg hc]; omega
theorem hor_zero (A : Nat → Int) : ∀ n, (∀ p, p < n → A p = 0) → hor A n = 0
  | 0, _ => rfl
  | n + 1, h => by
    show 10 * hor A n + A n = 0
    rw [hor_zero A n (fun p hp => h p (by omega)), h n (by omega)]; rfl
theorem hor_behind (A : Nat → Int) (i : Nat) : ∀ f, (∀ p, i ≤ p → p < i + f → A p = 0) → hor A (i + f) = hor A i * (10 ^ f : Nat)
  | 0, _ => by simp
  | f + 1, h => by
    show 10 * hor A (i + f) + A (i + f) = _
    rw [hor_behind A i f (fun p h1 h2 => h p h1 (by omega)), h (i + f) (by omega) (by omega), Nat.pow_succ, Int.natCast_mul, Int.add_zero]
    show 10 * (hor A i * ((10 ^ f : Nat) : Int)) = hor A i * (((10 ^ f : Nat) : Int) * 10)
    rw [← Int.mul_assoc (hor A i), Int.mul_comm 10]
theorem numL_snoc (l : List UInt8) (c : UInt8) : numL (l ++ [c]) = 10 * numL l + (c.toNat - 48) := by
  rw [numL_append]
  simp [numL, Nat.mul_comm]
theorem hor_fix (l : List UInt8) (k : Nat) (h : l.all digB = true) : ∀ j, j ≤ l.length → hor (fixF l k) (100 - (l.length - k) + j) = numL (l.take j)
  | 0, _ => by
    rw [hor_zero _ _ (fun p hp => by unfold fixF fixJ; rw [if_neg (by omega)])]
    rfl
  | j + 1, hj => by
    have ih := hor_fix l k h j (by omega)
    have hm := dig_le (List.all_eq_true.1 h (l[j]'(by omega)) (List.getElem_mem (by omega)))
    show 10 * hor (fixF l k) (100 - (l.length - k) + j) + fixF l k (100 - (l.length - k) + j) = _
    rw [ih, List.take_succ_eq_append_getElem (by omega), numL_snoc]
    unfold fixF fixJ
    rw [if_pos (by omega), Nat.add_sub_cancel_left, List.getD_eq_getElem?_getD, List.getElem?_eq_getElem (by omega), Option.getD_some]
    omega
theorem hor_fixF (l : List UInt8) (k : Nat) (h : l.all digB = true) (hk : k ≤ l.length) (h1 : l.length - k ≤ 100) (h2 : k ≤ 100) : hor (fixF l k) 200 = ((numL l * 10 ^ (100 - k) : Nat) : Int) := by
  have e : 200 = 100 - (l.length - k) + l.length + (100 - k) := by omega
  have := hor_behind (fixF l k) (100 - (l.length - k) + l.length) (100 - k) (fun p h1 h2 => by unfold fixF fixJ; rw [if_neg (by omega)])
  rw [← e, hor_fix l k h _ (Nat.le_refl _), List.take_length] at this
  rw [this]
  simp
theorem nought_hor (n : Nat) : hor (fun _ => 0) n = 0 := hor_zero _ n (fun _ _ => rfl)
theorem nought_digs : DigF (fun _ => 0) := fun _ => ⟨Int.le_refl _, (by decide : (0 : Int) ≤ 9)⟩
end Go.Proofs.YtjgfijpgoffmlabDoor
