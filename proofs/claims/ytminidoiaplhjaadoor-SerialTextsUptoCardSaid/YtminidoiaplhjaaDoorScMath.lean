/-
  Plain mathematics of package scan: the place behind all bytes that are such.
-/
import Derived.WalkKit
namespace Go.Proofs.YtminidoiaplhjaaDoor

/-- The place behind all bytes from k on that are such. -/
def behN (p : UInt8 → Bool) (l : List UInt8) (k : Nat) : Nat := k + ((l.drop k).takeWhile p).length
theorem behN_end (p : UInt8 → Bool) (l : List UInt8) (k : Nat) (h : l.length ≤ k) : behN p l k = k := by
  unfold behN; rw [List.drop_eq_nil_of_le h]; rfl
theorem behN_yes (p : UInt8 → Bool) (l : List UInt8) (k : Nat) (h : k < l.length) (hp : p l[k] = true) : behN p l (k + 1) = behN p l k := by
  unfold behN
  rw [List.drop_eq_getElem_cons h, List.takeWhile_cons, if_pos hp, List.length_cons]
  omega
theorem behN_no (p : UInt8 → Bool) (l : List UInt8) (k : Nat) (h : k < l.length) (hp : p l[k] = false) : behN p l k = k := by
  unfold behN
  rw [List.drop_eq_getElem_cons h, List.takeWhile_cons, if_neg (by simp [hp])]
  rfl
theorem behN_ge (p : UInt8 → Bool) (l : List UInt8) (k : Nat) : k ≤ behN p l k := by unfold behN; omega
theorem takeWhile_le (p : UInt8 → Bool) : ∀ l : List UInt8, (l.takeWhile p).length ≤ l.length
  | [] => Nat.le_refl _
  | c :: l => by
    rw [List.takeWhile_cons]
    split
    · have := takeWhile_le p l; simp only [List.length_cons]; omega
    · simp
theorem behN_le (p : UInt8 → Bool) (l : List UInt8) (k : Nat) (h : k ≤ l.length) : behN p l k ≤ l.length := by
  unfold behN
  have := takeWhile_le p (l.drop k)
  rw [List.length_drop] at this
  omega
/-- .. of any place: a place below 0 stays. -/
def behI (p : UInt8 → Bool) (l : List UInt8) (i : Int) : Int := if i < 0 then i else (behN p l i.toNat : Int)
def spB (c : UInt8) : Bool := decide ((c.toNat : Int) = 32)
def blB (c : UInt8) : Bool := decide ((c.toNat : Int) = 32 ∨ (c.toNat : Int) = 10)
def dgB (c : UInt8) : Bool := decide (48 ≤ (c.toNat : Int) ∧ (c.toNat : Int) ≤ 57)
def caB (c : UInt8) : Bool := decide (65 ≤ (c.toNat : Int) ∧ (c.toNat : Int) ≤ 90)
def leB (c : UInt8) : Bool := decide ((97 ≤ (c.toNat : Int) ∧ (c.toNat : Int) ≤ 122) ∨ (65 ≤ (c.toNat : Int) ∧ (c.toNat : Int) ≤ 90))
def joB (c : UInt8) : Bool := decide ((c.toNat : Int) = 95 ∨ (c.toNat : Int) = 45)
def naB (c : UInt8) : Bool := leB c || dgB c || joB c
def biB (c : UInt8) : Bool := caB c || dgB c || joB c
end Go.Proofs.YtminidoiaplhjaaDoor
