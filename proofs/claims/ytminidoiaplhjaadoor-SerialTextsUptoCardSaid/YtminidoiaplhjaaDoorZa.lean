/-
  Package serial: entries as texts, by the page.
-/
import Derived.Test.YtminidoiaplhjaaDoorTQuote2
import Derived.Test.YtminidoiaplhjaaDoorAtt
import Derived.Test.YtminidoiaplhjaaDoorZr5
namespace Go.Proofs.YtminidoiaplhjaaDoor
open Go.RowKit
set_option linter.unusedVariables false
set_option linter.unusedSimpArgs false

def sps (n : Nat) : List UInt8 := List.replicate n 32
/-- A text of a pattern: behind a line feed that no other one follows stands the margin. -/
def lineG (mg : List UInt8) : List UInt8 → List UInt8
  | [] => []
  | c :: r => if c = 10 ∧ r.head? ≠ some 10 then 10 :: (mg ++ lineG mg r) else c :: lineG mg r
def feedOf (l : List EL) : Bool := l.any fun x => (elText x).data.toList.contains 10
def oddOf : List EL → Bool
  | [] => false
  | .mk t _ :: _ => match t.data.toList with
    | [] => false
    | c :: _ => isMarkB c
def headG (m : Nat) (l : List EL) : List UInt8 := if feedOf l && !oddOf l then 10 :: sps m else [32]
/-- What stands ahead of an argument's value. -/
def nameG (first : Bool) (n : ByteArray) : List UInt8 := (if first then [] else [44, 32]) ++ (if emp n then [] else n.data.toList ++ [58, 32])
def refG (k : Int) (n a : ByteArray) : List UInt8 := (if k = 4 then [45] else []) ++ (n.data.toList ++ (if emp a then [] else 46 :: a.data.toList))
/-- An expression, out of its parts' texts. -/
def inlG (k : Int) (t n a : ByteArray) (none : Bool) (args inner : List UInt8) : List UInt8 :=
  if k = 0 then quoteAll t
  else if k = 1 then t.data.toList
  else if k = 2 then 36 :: n.data.toList
  else if k = 6 then inner
  else refG k n a ++ (if k ≠ 5 ∧ none = true then [] else 40 :: (args ++ [41]))
mutual
def exT (m : Nat) : EX → List UInt8
  | .mk k t n a al i vs => inlG k t n a al.isEmpty (asT m true al) (plO m i)
def plT (m : Nat) : EX → List UInt8
  | .mk k t n a al i vs => if k = 7 then 123 :: 32 :: (exO m i ++ (32 :: 45 :: 62 :: (vsT m vs ++ (10 :: (sps m ++ [125]))))) else 123 :: 32 :: (inlG k t n a al.isEmpty (asT m true al) (plO m i) ++ [32, 125])
def plO (m : Nat) : Option EX → List UInt8
  | none => []
  | some e => plT m e
def exO (m : Nat) : Option EX → List UInt8
  | none => []
  | some e => exT m e
def asT (m : Nat) (first : Bool) : List AR → List UInt8
  | [] => []
  | .mk n e :: r => nameG first n ++ (exT m e ++ asT m false r)
def vsT (m : Nat) : List VA → List UInt8
  | [] => []
  | .mk k d v :: r => 10 :: (sps (m + 3) ++ ((if d then 42 else 32) :: 91 :: (k.data.toList ++ (93 :: (headG (m + 8) v ++ esT (m + 8) v))))) ++ vsT m r
def esT (m : Nat) : List EL → List UInt8
  | [] => []
  | .mk t none :: r => lineG (sps m) t.data.toList ++ esT m r
  | .mk _ (some e) :: r => plT m e ++ esT m r
end
def paT (m : Nat) (l : List EL) : List UInt8 := headG m l ++ esT m l
theorem plT_plain (m : Nat) (k : Int) (t n a : ByteArray) (al : List AR) (i : Option EX) (vs : List VA) (h : k ≠ 7) : plT m (.mk k t n a al i vs) = 123 :: 32 :: (exT m (.mk k t n a al i vs) ++ [32, 125]) := by
  rw [plT, if_neg h, exT]
/-- A line of a comment. -/
def comL (mk line : List UInt8) : List UInt8 := mk ++ ((if line.isEmpty then [] else 32 :: line) ++ [10])
def comT (mk line : List UInt8) : List UInt8 → List UInt8
  | [] => comL mk line
  | c :: r => if c = 10 then comL mk line ++ comT mk [] r else comT mk (line ++ [c]) r
def atsT : List AT → List UInt8
  | [] => []
  | .mk n v :: r => 10 :: 32 :: 32 :: 32 :: 32 :: 46 :: (n.data.toList ++ (32 :: 61 :: paT 8 v)) ++ atsT r
/-- An entry. -/
def entT (ty level : Int) (text name : ByteArray) (val : List EL) (ats : List AT) : List UInt8 :=
  if ty = 3 then text.data.toList
  else if ty = 0 then comT (List.replicate level.toNat 35) [] text.data.toList
  else (if ty = 2 then [45] else []) ++ (name.data.toList ++ (32 :: 61 :: ((if val.isEmpty then [] else paT 4 val) ++ (atsT ats ++ [10]))))

theorem lineG_len (mg : List UInt8) : ∀ l : List UInt8, (lineG mg l).length ≤ (1 + mg.length) * l.length
  | [] => by simp [lineG]
  | c :: r => by
    have ih := lineG_len mg r
    have e : (1 + mg.length) * (c :: r).length = (1 + mg.length) * r.length + (1 + mg.length) := by rw [List.length_cons, Nat.mul_add, Nat.mul_one]
    rw [lineG, e]
    split
    · rw [List.length_cons, List.length_append]; omega
    · rw [List.length_cons]; omega
theorem quoteAll_len (t : ByteArray) : (quoteAll t).length ≤ 6 * t.size + 2 := by
  unfold quoteAll
  rw [List.length_cons, List.length_append, List.length_singleton]
  have := quoteFrom_length t t.size 0
  omega
theorem comL_len (mk line : List UInt8) : (comL mk line).length ≤ mk.length + line.length + 2 := by
  unfold comL
  rw [List.length_append, List.length_append]
  split
  · simp; omega
  · rw [List.length_cons, List.length_singleton]; omega
theorem comT_len (mk : List UInt8) : ∀ (l line : List UInt8), (comT mk line l).length ≤ line.length + (mk.length + 2) * (l.length + 1)
  | [], line => by rw [comT, List.length_nil]; have := comL_len mk line; omega
  | c :: r, line => by
    have e : (mk.length + 2) * ((c :: r).length + 1) = (mk.length + 2) * (r.length + 1) + (mk.length + 2) := by rw [List.length_cons, Nat.mul_add _ (r.length + 1), Nat.mul_one]
    rw [comT, e]
    split
    · rw [List.length_append]
      have h1 := comL_len mk line
      have h2 := comT_len mk r []
      rw [List.length_nil] at h2
      omega
    · have := comT_len mk r (line ++ [c])
      rw [List.length_append, List.length_singleton] at this
      omega
end Go.Proofs.YtminidoiaplhjaaDoor
