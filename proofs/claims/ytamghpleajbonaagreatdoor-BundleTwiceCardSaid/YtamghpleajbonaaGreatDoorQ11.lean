/-
  Several texts put together (part 11): what the law and the program call, walked; their contracts.
-/
import Derived.Test.YtamghpleajbonaaGreatDoorQ4
import Derived.Test.YtamghpleajbonaaGreatDoorQ9
import Derived.Test.YtamghpleajbonaaGreatDoorQ10
namespace Go.Proofs.YtamghpleajbonaaGreatDoor
open Go.RowKit
set_option linter.unusedVariables false
def mkB (l : List UInt8) : ByteArray := ⟨l.toArray⟩
def isAt (s : ByteArray) (i : Nat) (c : UInt8) : Bool := decide (i < s.size) && (at0 s.data.toList i == c)
theorem isAt_lt {s : ByteArray} {i : Nat} {c : UInt8} (h : isAt s i c = true) : i < s.size := by
  unfold isAt at h
  rw [Bool.and_eq_true, decide_eq_true_iff] at h
  exact h.1
def bl (s : ByteArray) (i : Nat) : Nat := behN blB s.data.toList i
def sp (s : ByteArray) (i : Nat) : Nat := behN spB s.data.toList i
def nm (s : ByteArray) (i : Nat) : Nat := if i < s.size ∧ leB (at0 s.data.toList i) = true then behN naB s.data.toList i else i
def nu (s : ByteArray) (i : Nat) : Nat := numN s.data.toList i
theorem bl_ge (s : ByteArray) (i : Nat) : i ≤ bl s i := behN_ge _ _ _
theorem sp_ge (s : ByteArray) (i : Nat) : i ≤ sp s i := behN_ge _ _ _
def E0 : ByteArray := ⟨#[]⟩
abbrev Res := Option (EX × Nat)
def quoS (s : ByteArray) (i : Nat) : Res := match unqAll (s.extract i s.size) with
  | some (t, n) => some (.mk 0 (mkB t) E0 E0 [] none [], i + n)
  | none => none
def varS (s : ByteArray) (i : Nat) : Res := if isAt s i 36 && decide (i + 1 < nm s (i + 1)) then some (.mk 2 E0 (s.extract (i + 1) (nm s (i + 1))) E0 [] none [], nm s (i + 1)) else none
def nestS (P : Nat → Res) (i : Nat) : Res := match P i with
  | some (e, j) => some (.mk 6 E0 E0 E0 [] (some e) [], j)
  | none => none
def refS (k : Int) (s : ByteArray) (i : Nat) : Res :=
  if nm s i = i then none
  else if isAt s (nm s i) 46 then
    (if nm s (nm s i + 1) = nm s i + 1 then none else some (.mk k E0 (s.extract i (nm s i)) (s.extract (nm s i + 1) (nm s (nm s i + 1))) [] none [], nm s (nm s i + 1)))
  else some (.mk k E0 (s.extract i (nm s i)) E0 [] none [], nm s i)
def terS (s : ByteArray) (i : Nat) : Res := if isAt s i 45 then refS 4 s (i + 1) else none
def nubS (s : ByteArray) (i : Nat) : Res := if nu s i = i then none else some (.mk 1 (s.extract i (nu s i)) E0 E0 [] none [], nu s i)
def headS (P : Nat → Res) (s : ByteArray) (i : Nat) : Res := (quoS s i).or ((varS s i).or ((nestS P i).or ((terS s i).or ((refS 3 s i).or (nubS s i)))))
def isFuncS : EX → Bool | .mk k _ n a _ _ _ => (k == 3) && emp a && bigV n
def isTermS : EX → Bool | .mk k _ _ _ _ _ _ => k == 4
def termAttr : EX → Bool | .mk k _ _ a _ _ _ => (k == 4) && !emp a
def opnE : EX → EX | .mk k t n a al i v => .mk (if k = 3 then 5 else k) t n a al i v
def withArgs : EX → List AR → EX | .mk k t n a _ i v, xs => .mk k t n a xs i v
def opnS (s : ByteArray) (e : EX) (i : Nat) : Bool × Nat :=
  if isFuncS e || isTermS e then (if isAt s (bl s i) 40 then (true, bl s i + 1) else (false, bl s i)) else (false, i)
def namS (s : ByteArray) (i : Nat) : Option (ByteArray × EX × Nat) :=
  if nm s i = i then none
  else if isAt s (bl s (nm s i)) 58 then
    (match (quoS s (bl s (bl s (nm s i) + 1))).or (nubS s (bl s (bl s (nm s i) + 1))) with
     | some (e, q) => some (s.extract i (nm s i), e, q)
     | none => none)
  else none
def argS (P : Nat → Res) (s : ByteArray) (i : Nat) : Option (ByteArray × EX × Nat) := match namS s i with
  | some x => some x
  | none => match headS P s i with
    | some (e, j) => some (E0, e, j)
    | none => none
def addOk (xs : List AR) (n : ByteArray) (e : EX) : Bool := if emp n then xs.all (fun x => emp (arName x)) && !termAttr e else !(xs.any fun x => decide (arName x = n))
def argsS (P : Nat → Res) (s : ByteArray) (xs : List AR) (want : Bool) (i : Nat) : Option (List AR × Nat) :=
  if isAt s (bl s i) 41 then some (xs, bl s i + 1)
  else if want then
    if h : isAt s (bl s i) 44 = true then argsS P s xs false (bl s i + 1) else none
  else match argS P s (bl s i) with
    | none => none
    | some (n, e, j) =>
      if emp n && (opnS s e j).1 then
        if h : i < (opnS s e j).2 ∧ (opnS s e j).2 ≤ s.size then
          match argsS P s [] false (opnS s e j).2 with
          | none => none
          | some (xs', m) =>
            if h2 : i < m ∧ m ≤ s.size then
              if addOk xs E0 (withArgs (opnE e) xs') then argsS P s (xs ++ [.mk E0 (withArgs (opnE e) xs')]) true m else none
            else none
        else none
      else if h : i < (if emp n then (opnS s e j).2 else j) ∧ (if emp n then (opnS s e j).2 else j) ≤ s.size then
        if addOk xs n e then argsS P s (xs ++ [.mk n e]) true (if emp n then (opnS s e j).2 else j) else none
      else none
termination_by s.size - i
decreasing_by
  · have := bl_ge s i; have := isAt_lt h; omega
  · omega
  · omega
  · omega
def inlS (P : Nat → Res) (s : ByteArray) (i : Nat) : Res := match headS P s i with
  | none => none
  | some (e, j) =>
    if (opnS s e j).1 then
      match argsS P s [] false (opnS s e j).2 with
      | none => none
      | some (xs, m) => some (withArgs (opnE e) xs, m)
    else some (e, (opnS s e j).2)
def txB (c : UInt8) : Bool := !(c == 10 || c == 123 || c == 125)
def tx (s : ByteArray) (i : Nat) : Nat := behN txB s.data.toList i
def addT (s : ByteArray) (acc : List EL) (i j : Nat) : List EL := if i < j then acc ++ [.mk (s.extract i j) none] else acc
def partsS (P : Nat → Res) (s : ByteArray) (acc : List EL) (i : Nat) : Option (List EL × Nat) :=
  if isAt s (tx s i) 123 then
    match P (tx s i) with
    | none => none
    | some (e, j) => if h : i < j ∧ j ≤ s.size then partsS P s (addT s acc i (tx s i) ++ [.mk E0 (some e)]) j else none
  else some (addT s acc i (tx s i), tx s i)
termination_by s.size - i
decreasing_by omega
def nlS (s : ByteArray) (f fr i : Nat) : Nat × Nat × Nat := if h : isAt s i 10 = true then nlS s (f + 1) (i + 1) (sp s (i + 1)) else (f, fr, i)
termination_by s.size - i
decreasing_by have := sp_ge s (i + 1); have := isAt_lt h; omega
def stopB (c : UInt8) : Bool := c == 46 || c == 42 || c == 91 || c == 125
def nextS (s : ByteArray) (i : Nat) : Option (Nat × Nat × Nat) :=
  if (nlS s 0 i i).2.2 = (nlS s 0 i i).2.1 ∨ (nlS s 0 i i).2.2 = s.size ∨ stopB (at0 s.data.toList (nlS s 0 i i).2.2) = true then none
  else some ((nlS s 0 i i).1, (nlS s 0 i i).2.2 - (nlS s 0 i i).2.1, (nlS s 0 i i).2.2)
structure LN where
  feeds : Nat
  spaces : Nat
  parts : List EL
def linesS (P : Nat → Res) (s : ByteArray) (acc : List LN) (f p : Nat) (i : Nat) : Option (List LN × Nat) :=
  match partsS P s [] i with
  | none => none
  | some (ps, j) => match nextS s j with
    | none => some (acc ++ [⟨f, p, ps⟩], j)
    | some (f', p', k) => if h : i < k ∧ k ≤ s.size then linesS P s (acc ++ [⟨f, p, ps⟩]) f' p' k else none
termination_by s.size - i
decreasing_by omega
def leastS : List LN → Nat
  | [] => 0
  | x :: r => r.foldl (fun m y => if y.spaces < m then y.spaces else m) x.spaces
abbrev JS := List EL × List UInt8
def endS (b : JS) : List EL := if b.2 = [] then b.1 else b.1 ++ [.mk (mkB b.2) none]
def partJ (b : JS) : EL → JS
  | .mk t none => (b.1, b.2 ++ t.data.toList)
  | .mk t (some e) => (endS b ++ [.mk t (some e)], [])
def headJ (least : Nat) (b : JS) (x : LN) : JS := if b.1 = [] ∧ b.2 = [] then b else (b.1, b.2 ++ List.replicate x.feeds 10 ++ List.replicate (x.spaces - least) 32)
def lineJ (least : Nat) (b : JS) (x : LN) : JS := x.parts.foldl partJ (headJ least b x)
def trimR (l : List UInt8) : List UInt8 := (l.reverse.dropWhile (· == 32)).reverse
def joinS (ls : List LN) : List EL :=
  endS (let b := ls.foldl (lineJ (leastS ls.tail)) ([], []); (b.1, trimR b.2))
def patS (P : Nat → Res) (s : ByteArray) (i : Nat) : Option (List EL × Nat) := match linesS P s [] 0 0 (sp s i) with
  | none => none
  | some (ls, j) => some (joinS ls, j)
def keyE (s : ByteArray) (a : Nat) : Nat := if nm s a = a then nu s a else nm s a
def variS (P : Nat → Res) (s : ByteArray) (i : Nat) : Option (VA × Nat) :=
  if isAt s (if isAt s i 42 then i + 1 else i) 91 then
    if keyE s (bl s ((if isAt s i 42 then i + 1 else i) + 1)) = bl s ((if isAt s i 42 then i + 1 else i) + 1) then none
    else if isAt s (bl s (keyE s (bl s ((if isAt s i 42 then i + 1 else i) + 1)))) 93 then
      match patS P s (bl s (keyE s (bl s ((if isAt s i 42 then i + 1 else i) + 1))) + 1) with
      | none => none
      | some (l, j) => if isAt s j 10 && !l.isEmpty then some (.mk (s.extract (bl s ((if isAt s i 42 then i + 1 else i) + 1)) (keyE s (bl s ((if isAt s i 42 then i + 1 else i) + 1)))) (isAt s i 42) l, j) else none
    else none
  else none
def varsS (P : Nat → Res) (s : ByteArray) (acc : List VA) (i : Nat) : Option (List VA × Nat) :=
  if isAt s i 125 then (if acc.countP vaDflt = 1 then some (acc, i + 1) else none)
  else match variS P s i with
    | none => none
    | some (v, j) => if h : i < bl s j ∧ bl s j ≤ s.size then varsS P s (acc ++ [v]) (bl s j) else none
termination_by s.size - i
decreasing_by omega
def selS (P : Nat → Res) (s : ByteArray) (i : Nat) : Option (List VA × Nat) := if isAt s (sp s i) 10 then varsS P s [] (bl s (sp s i + 1)) else none
def mayAsk : EX → Bool | .mk k t n a al i v => decide (k = 0 ∨ k = 1 ∨ k = 2 ∨ k = 5) || termAttr (.mk k t n a al i v)
def placeS (s : ByteArray) : Nat → Nat → Res
  | 0, _ => none
  | r + 1, i =>
    if isAt s i 123 then
      match inlS (placeS s r) s (bl s (i + 1)) with
      | none => none
      | some (e, j) =>
        if isAt s (bl s j) 125 then (if termAttr e then none else some (e, bl s j + 1))
        else if isAt s (bl s j) 45 && isAt s (bl s j + 1) 62 && mayAsk e then
          match selS (placeS s r) s (bl s j + 2) with
          | none => none
          | some (vs, m) => some (.mk 7 E0 E0 E0 [] (some e) vs, m)
        else none
    else none
def PosOk (s : ByteArray) (P : Nat → Res) : Prop := ∀ i e j, P i = some (e, j) → i < j ∧ j ≤ s.size
end Go.Proofs.YtamghpleajbonaaGreatDoor
