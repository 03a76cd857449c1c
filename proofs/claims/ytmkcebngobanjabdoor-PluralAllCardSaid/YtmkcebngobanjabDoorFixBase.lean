import Derived.Test.YtmkcebngobanjabDoorA1
namespace Go.Proofs.YtmkcebngobanjabDoor
open Go.RowKit

def DigF (A : Nat → Int) : Prop := ∀ p, 0 ≤ A p ∧ A p ≤ 9

def eqF (A B : Nat → Int) (n : Nat) : Bool := (List.range n).all fun p => A p == B p
/-- A number's digits in their places: those of the first j that are laid. -/
def fixJ (l : List UInt8) (k j p : Nat) : Int := if 100 - (l.length - k) ≤ p ∧ p < 100 - (l.length - k) + j then ((l.getD (p - (100 - (l.length - k))) 48).toNat : Int) - 48 else 0
def fixF (l : List UInt8) (k : Nat) : Nat → Int := fixJ l k l.length
theorem fixJ_zero (l : List UInt8) (k p : Nat) : fixJ l k 0 p = 0 := by
  unfold fixJ
  rw [if_neg (by omega)]
theorem fixF_digs (l : List UInt8) (k : Nat) (h : l.all digB = true) : DigF (fixF l k) := by
  intro p
  unfold fixF fixJ
  by_cases hc : 100 - (l.length - k) ≤ p ∧ p < 100 - (l.length - k) + l.length
  · rw [if_pos hc]
    have hlt : p - (100 - (l.length - k)) < l.length := by omega
    have hm := List.all_eq_true.1 h (l[p - (100 - (l.length - k))]) (List.getElem_mem hlt)
    have := dig_le hm
    rw [List.getD_eq_getElem?_getD, List.getElem?_eq_getElem hlt, Option.getD_some]
    omega
  · rw [if_neg hc]; omega
end Go.Proofs.YtmkcebngobanjabDoor
