/-
  Package ast: what may be, of trees; how two trees are the same.
-/
import Derived.Test.YtbolmffldmegeaaDoorAtr
import Derived.Test.YtbolmffldmegeaaDoorSc4
import Derived.Test.YtbolmffldmegeaaDoorScMath2
import Derived.Lib.ValidU
namespace Go.Proofs.YtbolmffldmegeaaDoor
open Go.RowKit
set_option linter.unusedVariables false

/-- Is a text made of signs alone? Is it a number? -/
def validB (s : ByteArray) : Bool := Lib.validD s.data.toList
def isNum (s : ByteArray) : Bool := !s.data.toList.isEmpty && (numI s.data.toList 0 == (s.size : Int))
def emp (s : ByteArray) : Bool := s.toList.isEmpty
/-- Where an expression stands: inline, in braces, asked. -/
inductive Md where | inl | brc | ask
/-- What is asked of an expression's own fields, but for what stands within. -/
def inlP (k : Int) (t n a : ByteArray) (as0 i0 vs0 argsOk innerOk : Bool) : Bool :=
  if k = 0 then validB t && (emp n && emp a && as0 && i0 && vs0)
  else if k = 1 then isNum t && (emp n && emp a && as0 && i0 && vs0)
  else if k = 2 then isNameV n && (emp t && emp a && as0 && i0 && vs0)
  else if k = 3 then isNameV n && (emp a || isNameV a) && (emp t && as0 && i0 && vs0)
  else if k = 4 then isNameV n && argsOk && (emp t && emp a && i0 && vs0)
  else if k = 5 then isNameV n && bigV n && argsOk && (emp t && emp a && i0 && vs0)
  else if k = 6 then innerOk && (emp t && emp n && emp a && as0 && vs0)
  else false
/-- The names of arguments: first those without, then those with one, none twice, each of a text or a number. -/
def argNames : List ByteArray → List AR → Bool
  | _, [] => true
  | seen, .mk n (.mk k _ _ _ _ _ _) :: r =>
    if emp n then seen.isEmpty && argNames seen r
    else !seen.contains n && isNameV n && (k == 0 || k == 1) && argNames (n :: seen) r
def vaDflt : VA → Bool | .mk _ d _ => d
def vaKey : VA → ByteArray | .mk k _ _ => k
def vaVal : VA → List EL | .mk _ _ v => v
def elText : EL → ByteArray | .mk t _ => t
def elPlace : EL → Option EX | .mk _ p => p
def arName : AR → ByteArray | .mk n _ => n
def arVal : AR → EX | .mk _ e => e
/-- A pattern's lines: '{' (or another sign) for each place. -/
def linesOf (c : UInt8) : List EL → List UInt8
  | [] => []
  | .mk t none :: r => t.data.toList ++ linesOf c r
  | .mk t (some _) :: r => c :: linesOf c r
def isMarkB (c : UInt8) : Bool := decide ((c.toNat : Int) = 46 ∨ (c.toNat : Int) = 42 ∨ (c.toNat : Int) = 91)
/-- A line that isn't empty begins behind this place; with something wrong behind its spaces; without spaces. -/
def newAt (l : List UInt8) (i : Nat) : Bool := (at0 l i == 10) && decide (i + 1 < l.length) && !(at0 l (i + 1) == 10)
def badAt (l : List UInt8) (i : Nat) : Bool := newAt l i && (at0 l (behN spB l (i + 1)) == 10 || isMarkB (at0 l (behN spB l (i + 1))))
def flushAt (l : List UInt8) (i : Nat) : Bool := newAt l i && !spB (at0 l (i + 1))
def anyTo (p : Nat → Bool) : Nat → Bool
  | 0 => false
  | m + 1 => anyTo p m || p m
def linesB (l : List UInt8) : Bool :=
  !blB (at0 l 0) && !blB (at0 l (l.length - 1)) && !anyTo (badAt l) l.length && (!isMarkB (at0 l 0) || !anyTo (newAt l) l.length || anyTo (flushAt l) l.length)
/-- A pattern's texts. -/
def textB (t : ByteArray) : Bool := validB t && !t.data.toList.contains 13
def textsB : Bool → List EL → Bool
  | _, [] => true
  | beside, .mk t none :: r => !emp t && textB t && !(t.data.toList.contains 123 || t.data.toList.contains 125) && !beside && textsB true r
  | _, .mk t (some _) :: r => emp t && textsB false r
/-- A pattern, but for its places. -/
def patL (l : List EL) : Bool := textsB false l && (l.isEmpty || linesB (linesOf 123 l))
/-- A Select's variants, but for what stands in them. -/
def varsL (vs : List VA) : Bool := vs.all (fun v => (isNameV (vaKey v) || isNum (vaKey v)) && !(vaVal v).isEmpty && patL (vaVal v)) && (vs.countP vaDflt == 1)

mutual
def okE : Md → EX → Nat → Bool
  | m, .mk k t n a al i vs, d =>
    match m with
    | .inl => inlP k t n a al.isEmpty i.isNone vs.isEmpty (argNames [] al && okAs al d) (okO .brc i (d + 1))
    | .brc => decide (d ≤ 20) && (if k = 7 then emp t && emp n && emp a && al.isEmpty && varsL vs && okVs vs d && okO .ask i d
        else inlP k t n a al.isEmpty i.isNone vs.isEmpty (argNames [] al && okAs al d) (okO .brc i (d + 1)))
    | .ask => if k = 4 then isNameV a && inlP k t n ByteArray.empty al.isEmpty i.isNone vs.isEmpty (argNames [] al && okAs al d) (okO .brc i (d + 1))
        else if k = 0 ∨ k = 1 ∨ k = 2 ∨ k = 5 then inlP k t n a al.isEmpty i.isNone vs.isEmpty (argNames [] al && okAs al d) (okO .brc i (d + 1)) else false
def okO : Md → Option EX → Nat → Bool
  | _, none, _ => false
  | m, some e, d => okE m e d
def okAs : List AR → Nat → Bool
  | [], _ => true
  | .mk _ e :: r, d => okE .inl e d && okAs r d
def okVs : List VA → Nat → Bool
  | [], _ => true
  | .mk _ _ v :: r, d => okEs v (d + 1) && okVs r d
def okEs : List EL → Nat → Bool
  | [], _ => true
  | .mk _ none :: r, d => okEs r d
  | .mk _ (some e) :: r, d => okE .brc e d && okEs r d
end
/-- May a pattern be, within so many braces? -/
def patB (l : List EL) (d : Nat) : Bool := patL l && okEs l (d + 1)

/-- What may still be to be asked. -/
inductive Qn where
  | same (a b : EX)
  | pats (a b : List EL)
  | may (m : Md) (e : EX) (d : Nat)
def Qn.ans : Qn → Bool
  | .same a b => sameE a b
  | .pats a b => sameEs a b
  | .may m e d => okE m e d
def Qn.size : Qn → Nat
  | .same a _ => a.size
  | .pats a _ => 1 + sizeEs a
  | .may _ e _ => e.size
def total : List Qn → Nat
  | [] => 0
  | q :: r => q.size + total r
theorem total_append (a b : List Qn) : total (a ++ b) = total a + total b := by
  induction a with
  | nil => simp [total]
  | cons q r ih => simp [total, ih]; omega
theorem EX.size_pos : ∀ e : EX, 1 ≤ e.size
  | .mk .. => by rw [EX.size]; omega
theorem Qn.size_pos (q : Qn) : 1 ≤ q.size := by
  cases q with
  | same a b => exact a.size_pos
  | pats a b => rw [Qn.size]; omega
  | may m e d => exact e.size_pos
theorem total_length : ∀ qs : List Qn, qs.length ≤ total qs
  | [] => Nat.le_refl _
  | q :: r => by have := total_length r; have := q.size_pos; simp only [List.length_cons, total]; omega
def answers (qs : List Qn) : Bool := qs.all Qn.ans
theorem answers_append (a b : List Qn) : answers (a ++ b) = (answers a && answers b) := by simp [answers]
end Go.Proofs.YtbolmffldmegeaaDoor
