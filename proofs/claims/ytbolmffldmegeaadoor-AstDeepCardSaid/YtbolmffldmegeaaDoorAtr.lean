/-
  Package ast: entries as trees, and how they lie in memory.
-/
import Derived.Test.YtbolmffldmegeaaDoorAq
namespace Go.Proofs.YtbolmffldmegeaaDoor
open Go.RowKit
set_option linter.unusedVariables false

mutual
/-- An expression. -/
inductive EX where
  | mk (kind : Int) (text name attr : ByteArray) (args : List AR) (inner : Option EX) (vars : List VA)
/-- An argument. -/
inductive AR where
  | mk (name : ByteArray) (value : EX)
/-- A variant. -/
inductive VA where
  | mk (key : ByteArray) (dflt : Bool) (value : List EL)
/-- A piece of a pattern. -/
inductive EL where
  | mk (text : ByteArray) (place : Option EX)
end

mutual
/-- How many nodes, and signs. -/
def EX.size : EX → Nat
  | .mk _ t n a args inner vars => 1 + t.size + n.size + a.size + sizeAs args + sizeO inner + sizeVs vars
def sizeAs : List AR → Nat
  | [] => 0
  | .mk n v :: r => n.size + v.size + sizeAs r
def sizeO : Option EX → Nat
  | none => 0
  | some e => e.size
def sizeVs : List VA → Nat
  | [] => 0
  | .mk k _ v :: r => 1 + k.size + sizeEs v + sizeVs r
def sizeEs : List EL → Nat
  | [] => 0
  | .mk t p :: r => 1 + t.size + sizeO p + sizeEs r
end

mutual
/-- Are two expressions the same? -/
def sameE : EX → EX → Bool
  | .mk k t n a al i vs, .mk k' t' n' a' al' i' vs' => decide (k = k') && decide (t = t') && decide (n = n') && decide (a = a') && sameAs al al' && sameO i i' && sameVs vs vs'
def sameAs : List AR → List AR → Bool
  | [], [] => true
  | .mk n v :: r, .mk n' v' :: r' => decide (n = n') && sameE v v' && sameAs r r'
  | _, _ => false
def sameO : Option EX → Option EX → Bool
  | none, none => true
  | some e, some e' => sameE e e'
  | _, _ => false
def sameVs : List VA → List VA → Bool
  | [], [] => true
  | .mk n d v :: r, .mk n' d' v' :: r' => decide (n = n') && (d == d') && sameEs v v' && sameVs r r'
  | _, _ => false
def sameEs : List EL → List EL → Bool
  | [], [] => true
  | .mk n p :: r, .mk n' p' :: r' => decide (n = n') && sameO p p' && sameEs r r'
  | _, _ => false
end

/-- The cells of an expression. -/
structure C7 where
  k : Value
  t : Value
  n : Value
  a : Value
  al : Value
  i : Value
  vs : Value
def C7.arr (c : C7) : Array Value := #[c.k, c.t, c.n, c.a, c.al, c.i, c.vs]
/-- Cells that lie one behind the other. -/
def CellsAt (W : World) (b o : Nat) (c : C7) : Prop :=
  W.cell? ⟨b, o, none⟩ = some c.k ∧ W.cell? ⟨b, o + 1, none⟩ = some c.t ∧ W.cell? ⟨b, o + 2, none⟩ = some c.n ∧ W.cell? ⟨b, o + 3, none⟩ = some c.a ∧
  W.cell? ⟨b, o + 4, none⟩ = some c.al ∧ W.cell? ⟨b, o + 5, none⟩ = some c.i ∧ W.cell? ⟨b, o + 6, none⟩ = some c.vs
/-- A list that lies in memory: where, how long. -/
def LieAt (P : Nat → Nat → Prop) (v : Value) (n : Nat) : Prop :=
  ∃ A c, v = .slice A n c ∧ n ≤ c ∧ c ≤ maxLen ∧ (0 < n → ∃ b o, A = some ⟨b, o, none⟩ ∧ P b o)

mutual
/-- These cells are that expression. -/
def ExAt (W : World) : EX → C7 → Prop
  | .mk k t n a al i vs, c => c.k = .int .i64 k ∧ c.t = .string t ∧ c.n = .string n ∧ c.a = .string a ∧
      LieAt (AsAt W al) c.al al.length ∧ OAt W i c.i ∧ LieAt (VsAt W vs) c.vs vs.length
def OAt (W : World) : Option EX → Value → Prop
  | none, v => v = .pointer none
  | some e, v => ∃ b o c, v = .pointer (some ⟨b, o, none⟩) ∧ b < W.heap.size ∧ CellsAt W b o c ∧ ExAt W e c
def AsAt (W : World) : List AR → Nat → Nat → Prop
  | [], _, _ => True
  | .mk n e :: r, b, o => b < W.heap.size ∧ W.cell? ⟨b, o, none⟩ = some (.string n) ∧ (∃ c, CellsAt W b (o + 1) c ∧ ExAt W e c) ∧ AsAt W r b (o + 8)
def VsAt (W : World) : List VA → Nat → Nat → Prop
  | [], _, _ => True
  | .mk n d v :: r, b, o => b < W.heap.size ∧ W.cell? ⟨b, o, none⟩ = some (.string n) ∧ W.cell? ⟨b, o + 1, none⟩ = some (.bool d) ∧
      (∃ u, W.cell? ⟨b, o + 2, none⟩ = some u ∧ LieAt (EsAt W v) u v.length) ∧ VsAt W r b (o + 3)
def EsAt (W : World) : List EL → Nat → Nat → Prop
  | [], _, _ => True
  | .mk t p :: r, b, o => b < W.heap.size ∧ W.cell? ⟨b, o, none⟩ = some (.string t) ∧ (∃ u, W.cell? ⟨b, o + 1, none⟩ = some u ∧ OAt W p u) ∧ EsAt W r b (o + 2)
end
/-- A pattern. -/
def PatAt (W : World) (l : List EL) (v : Value) : Prop := LieAt (EsAt W l) v l.length
end Go.Proofs.YtbolmffldmegeaaDoor
