/-
  Several texts put together (part 1): what the law and the program call, walked; their contracts.
-/
import Derived.Test.YtlijmflikcjikaaDoorRows
import Derived.WalkKit
import Derived.ProofKit
import Derived.OpenShut
import Derived.ShutString
import Derived.Deep.DeepHandedRow
import Derived.Lib.LaidTab
import Derived.LaidSub
import Derived.MakeChecks
import Derived.PinnedBridge
import Derived.Test.YtlijmflikcjikaaDoorProg
import Derived.Lib.SmallJoins
import Derived.WalkSpells
import Derived.WalkLawsBesides
import Derived.Outline
import Derived.Lib.Hide
import Derived.Below
import Derived.Lib.Strings
import Derived.Lib.OthersKept
import Derived.Lib.OwnKind
import Derived.Lib.Builder
import Derived.WalkSmall
import Derived.OneCell
import Derived.Laws.EntriesVeiled
/-
  The frame of a law's proof over this program: what a law's row asks behind the call, out of 'Below' alone; a world for the witness with the program's tables laid.
-/
namespace Go.Proofs.YtlijmflikcjikaaDoor
open Go.ChangeShapes Go.WideShapes Go.ChangeAt Go.RowKit
set_option maxRecDepth 100000

theorem ownKnobNone : ownKnob Tryd.prog.godebug = none := by kernel_rfl
theorem laidOutYes : laidOutB Tryd.prog = true := by kernel_rfl

section
variable {H : Type} {enc : TypeId × Value → H} {P : Program}
/-- The arguments read as they did: only blocks of the call's own are new or written. -/
theorem readsOn (hl : laidOutB P = true) {W W' : World} (hb : Below W.heap.size W W') : ∀ (ts : List TypeId) (vs : List Value) (ds : List (DataW H)) (ps : List MemPlace),
    (∀ t ∈ ts, P.readableRec t = true ∧ t < P.types.size) → (∀ p ∈ ps, p.block < W.heap.size) →
    DataW.TrodAll enc P W 0 (fun _ => true) true ts vs ds ps → DataW.TrodAll enc P W' 0 (fun b => decide (b < W.heap.size)) true ts vs ds ps
  | [], vs, ds, ps, _, _, h => by
    obtain ⟨rfl, rfl, rfl⟩ := trodAll_nil h
    exact trodAll_mk0
  | t :: ts, vs, ds, ps, hts, hps, h => by
    obtain ⟨v, vs', d, ds', p, q, rfl, rfl, rfl, h0, h1⟩ := trodAll_cons h
    have ht := hts t (List.mem_cons_self ..)
    exact trodAll_cons_mk (Below.trod hl ht.1 ht.2 h0 hb fun x hx => hps x (List.mem_append_left _ hx))
      (readsOn hl hb ts vs' ds' q (fun u hu => hts u (List.mem_cons_of_mem _ hu)) (fun x hx => hps x (List.mem_append_right _ hx)) h1)

/-- What a law's row asks behind the call. -/
theorem lawPost (hl : laidOutB P = true) {f : Func} {s : ChangeSpec} {W W' : World} {args : Array Value} {ds gs : List (DataW H)} {before : List MemPlace} {tb : TypeId}
    (hW : DataW.Whole enc P f.params.toList s.vars false W args.toList ds gs before) (hv : s.vars = []) (hfn : s.fn H (ds ++ gs) = { results := [.lit (.bool true)], args := ds })
    (hrt : f.resultTypes = #[tb]) (htb : P.underlying tb = some .bool) (hpar : ∀ t ∈ f.params.toList, P.readableRec t = true ∧ t < P.types.size) (hb : Below W.heap.size W W') :
    s.post enc P f false true false false W args (.bool true) W' := by
  have hlt := hW.lt
  have hWhole := hW
  obtain ⟨p, q, hA, hV, rfl, _, _⟩ := hW
  rw [hv] at hV
  obtain ⟨rfl, rfl⟩ := trodVars_none hV
  rw [List.append_nil] at hlt
  refine ⟨ds, [], p ++ [], [], p, [], hWhole, ?_, ?_, ?_, hb.frame _, fun h => by cases h⟩
  · rw [hfn, hrt]
    exact trodAll_cons_mk (shut_bool htb true) trodAll_mk0
  · rw [hfn]
    exact readsOn hl hb _ _ _ _ hpar hlt hA
  · rw [hfn, hv]
    rfl
end

/-- A table of integers listed in a row is in the world. -/
theorem tab_of_laid {l : List (String × DataW Unit)} {W : World} (h : laidMetH Tryd.prog l W) (name : String) {k : IntKind} {zs : List Int} {g : Nat} {t e : TypeId} {n : Nat}
    (hf : (l.filter fun x => x.1 == name) = [(name, Lib.tabData k zs)]) (hh : ([(name, (Lib.tabData k zs : DataW Unit))].all fun x => x.2.handleName?.isNone) = true)
    (hg : Tryd.prog.globalNamed name = some g) (hty : (Tryd.prog.globals[g]?).map (·.type) = some t) (ht : Tryd.prog.underlying t = some (.array n e)) (he : Tryd.prog.underlying e = some (.int k)) (hce : Tryd.prog.cellsOf e = 1) (hct : Tryd.prog.cellsOf t = n) :
    Lib.TabIs Tryd.prog W name k zs := by
  have h1 := h.filter fun x => x.1 == name
  rw [hf] at h1
  have h2 := (laidMetH_iff.1 h1).1
  rw [show ([(name, (Lib.tabData k zs : DataW Unit))].filter fun x => x.2.handleName?.isNone) = [(name, Lib.tabData k zs)] from by
    rw [List.filter_eq_self]; exact List.all_eq_true.1 hh] at h2
  exact Lib.tabIs_of_head hg hty ht he hce hct h2

/-- The cells of the tables that the program's text lays, block by block: for a witness. -/
def tabCells (k : IntKind) (l : List Nat) : Array Value := (l.map fun n => Value.int k (Int.ofNat n)).toArray
def witnessTabs : List (Nat × Array Value) := [
 (1, tabCells .u8 Pinned.utf8FirstZ),
 (2, tabCells .u8 [128, 191, 160, 191, 128, 159, 144, 191, 128, 143, 0, 0, 0, 0, 0, 0, 0, 0, 0, 0, 0, 0, 0, 0, 0, 0, 0, 0, 0, 0, 0, 0]),
  (1000000, #[])]
def putCells (cs : Array Value) : Obj → Obj
  | .cells _ t frozen => .cells cs t frozen
  | o => o
noncomputable def laidWorld (os : Os) : World :=
  { World.holding Tryd.prog os ⟨#[], #[], []⟩ with heap := witnessTabs.foldl (fun h x => h.modify x.1 (putCells x.2)) (World.holding Tryd.prog os ⟨#[], #[], []⟩).heap }
end Go.Proofs.YtlijmflikcjikaaDoor

namespace Go.Proofs.YtlijmflikcjikaaDoor
open Go.RowKit

theorem size_data (s : ByteArray) : s.data.toList.length = s.size := by simp
theorem head_data (s : ByteArray) (h : 0 < s.size) : s.data.toList.head? = some s[0] := by
  rw [List.head?_eq_getElem?]
  rw [List.getElem?_eq_getElem (by simpa using h)]; rfl
theorem size_mk (l : List UInt8) : (⟨l.toArray⟩ : ByteArray).size = l.length := by show l.toArray.size = _; simp
theorem bcell {W w1 : World} (hb : Below W.heap.size W w1) : (∀ b o, b < W.heap.size → w1.cell? ⟨b, o, none⟩ = W.cell? ⟨b, o, none⟩) ∧ (∀ b o, b < W.heap.size → w1.frozen? ⟨b, o, none⟩ = W.frozen? ⟨b, o, none⟩) :=
  ⟨fun b o h => hb.cell (p := ⟨b, o, none⟩) h, fun b o h => hb.frozen (p := ⟨b, o, none⟩) h⟩
theorem dropWhile_le {α : Type} (p : α → Bool) : ∀ l : List α, (l.dropWhile p).length ≤ l.length
  | [] => by simp
  | x :: l => by
    rw [List.dropWhile_cons]
    split
    · have := dropWhile_le p l; simp only [List.length_cons]; omega
    · exact Nat.le_refl _
theorem extract_take (a : ByteArray) (k : Nat) : (a.extract 0 k).data.toList = a.data.toList.take k := by
  rw [Lib.extract_data]; simp
theorem bytes_eq {a b : ByteArray} (h : a.data.toList = b.data.toList) : a = b := by
  cases a; cases b; simp at h; rw [h]

theorem extract_drop (a : ByteArray) (k : Nat) : (a.extract k a.size).data.toList = a.data.toList.drop k := by
  rw [Lib.extract_data, ← size_data a, List.take_of_length_le (by simp)]

/-- A struct of three fields stored into a block of the call's own. -/
theorem Below.set3 {B : Nat} {a w : World} (h : Below B a w) {b : Nat} (hb : B ≤ b) (x y z : Value) : Below B a (((w.setCell ⟨b, 0, none⟩ x).setCell ⟨b, 1, none⟩ y).setCell ⟨b, 2, none⟩ z) :=
  ((h.setCell (p := ⟨b, 0, none⟩) hb _).setCell (p := ⟨b, 1, none⟩) hb _).setCell (p := ⟨b, 2, none⟩) hb _
theorem below_box {w w1 : World} {o : Obj} (h : Below (w.alloc o).heap.size (w.alloc o) w1) : Below w.heap.size w w1 :=
  ((Below.refl _ _).alloc (Nat.le_refl _) _).trans (h.mono (by simp))
theorem below_box2 {w w1 : World} {o o' : Obj} (h : Below ((w.alloc o).alloc o').heap.size ((w.alloc o).alloc o') w1) : Below w.heap.size w w1 :=
  (((Below.refl _ _).alloc (Nat.le_refl _) _).alloc (by simp) _).trans (h.mono (by simp; omega))
theorem below_new {B : Nat} {w W : World} (h : Below B w W) (hB : B ≤ w.heap.size) (o : Obj) : Below B w (W.alloc o) := h.alloc (Nat.le_trans hB h.size) o
theorem below_then {B : Nat} {w w1 w2 : World} (h : Below B w w1) (hB : B ≤ w.heap.size) (h2 : Below w1.heap.size w1 w2) : Below B w w2 :=
  h.trans (h2.mono (Nat.le_trans hB h.size))
theorem ret_bool {a b : Bool} (h : a = b) : Ending.returned (.bool a) = .returned (.bool b) := by rw [h]
theorem ret_int {k : IntKind} {a b : Int} (h : a = b) : Ending.returned (.int k a) = .returned (.int k b) := by rw [h]
theorem ret_str {a b : ByteArray} (h : a = b) : Ending.returned (.string a) = .returned (.string b) := by rw [h]
theorem take_succ (s : ByteArray) (k : Nat) (h : k < s.size) : s.data.toList.take (k + 1) = s.data.toList.take k ++ [s[k]] := by
  rw [List.take_succ_eq_append_getElem (by simpa using h)]; rfl

end Go.Proofs.YtlijmflikcjikaaDoor

/-
  Blocks of memory, cell by cell.
-/
namespace Go.Proofs.YtlijmflikcjikaaDoor
open Go.RowKit
set_option linter.unusedVariables false

def pt (k : Nat) : Value := .pointer (some ⟨k, 0, none⟩)
/-- A block of the call's own, or of anything's, that is no list's. -/
def BoxAt (w : World) (k : Nat) (cs : Array Value) (t : TypeId) : Prop := w.heap[k]? = some (.cells cs t (0, 0))
theorem BoxAt.lt {w : World} {k : Nat} {cs : Array Value} {t : TypeId} (h : BoxAt w k cs t) : k < w.heap.size := (Array.getElem?_eq_some_iff.1 h).1
theorem BoxAt.cell {w : World} {k : Nat} {cs : Array Value} {t : TypeId} (h : BoxAt w k cs t) (o : Nat) : w.cell? ⟨k, o, none⟩ = cs[o]? := by
  rw [Lib.cell_of_heap h]
theorem BoxAt.new (w : World) (cs : Array Value) (t : TypeId) : BoxAt (w.alloc (.cells cs t)) w.heap.size cs t := by
  show (w.heap.push _)[w.heap.size]? = _
  simp
theorem BoxAt.alloc {w : World} {k : Nat} {cs : Array Value} {t : TypeId} (h : BoxAt w k cs t) (o : Obj) : BoxAt (w.alloc o) k cs t :=
  (Lib.alloc_old w o k h.lt).trans h

theorem BoxAt.later {w w' : World} {k : Nat} {c : Array Value} {t : TypeId} (h : BoxAt w k c t) (hb : Below w.heap.size w w') : BoxAt w' k c t := (hb.block k h.lt).trans h
theorem BoxAt.setOther {w : World} {k : Nat} {cs : Array Value} {t : TypeId} (h : BoxAt w k cs t) (p : Addr) (v : Value) (hp : k ≠ p.block) : BoxAt (w.setCell p v) k cs t :=
  (Below.heap_setCell w p v k hp).trans h
theorem BoxAt.new' (w : World) (k : Nat) (cs : Array Value) (t : TypeId) (h : k = w.heap.size) : BoxAt (w.alloc (.cells cs t)) k cs t := by rw [h]; exact BoxAt.new w cs t
theorem take_snoc {α : Type} (l : List α) (i : Nat) (x : α) (h : l[i]? = some x) : l.take (i + 1) = l.take i ++ [x] := by
  rw [List.take_add_one, h]; rfl
theorem drop_cons {α : Type} (l : List α) (i : Nat) (x : α) (h : l[i]? = some x) : l.drop i = x :: l.drop (i + 1) := by
  obtain ⟨hi, rfl⟩ := List.getElem?_eq_some_iff.1 h
  exact List.drop_eq_getElem_cons hi
end Go.Proofs.YtlijmflikcjikaaDoor

/-
  Package ast: entries as trees, and how they lie in memory.
-/
namespace Go.Proofs.YtlijmflikcjikaaDoor
open Go.RowKit
set_option linter.unusedVariables false

mutual
/-- An expression. -/
inductive EX where
  | mk (kind : Int) (text name attr : ByteArray) (args : List AR) (inner : Option EX) (vars : List VA)
/-- An argument. -/
inductive AR where
  | mk (name : ByteArray) (value : EX)
/-- A variant. -/
inductive VA where
  | mk (key : ByteArray) (dflt : Bool) (value : List EL)
/-- A piece of a pattern. -/
inductive EL where
  | mk (text : ByteArray) (place : Option EX)
end

mutual
/-- How many nodes, and signs. -/
def EX.size : EX → Nat
  | .mk _ t n a args inner vars => 1 + t.size + n.size + a.size + sizeAs args + sizeO inner + sizeVs vars
def sizeAs : List AR → Nat
  | [] => 0
  | .mk n v :: r => n.size + v.size + sizeAs r
def sizeO : Option EX → Nat
  | none => 0
  | some e => e.size
def sizeVs : List VA → Nat
  | [] => 0
  | .mk k _ v :: r => 1 + k.size + sizeEs v + sizeVs r
def sizeEs : List EL → Nat
  | [] => 0
  | .mk t p :: r => 1 + t.size + sizeO p + sizeEs r
end

mutual
/-- Are two expressions the same? -/
def sameE : EX → EX → Bool
  | .mk k t n a al i vs, .mk k' t' n' a' al' i' vs' => decide (k = k') && decide (t = t') && decide (n = n') && decide (a = a') && sameAs al al' && sameO i i' && sameVs vs vs'
def sameAs : List AR → List AR → Bool
  | [], [] => true
  | .mk n v :: r, .mk n' v' :: r' => decide (n = n') && sameE v v' && sameAs r r'
  | _, _ => false
def sameO : Option EX → Option EX → Bool
  | none, none => true
  | some e, some e' => sameE e e'
  | _, _ => false
def sameVs : List VA → List VA → Bool
  | [], [] => true
  | .mk n d v :: r, .mk n' d' v' :: r' => decide (n = n') && (d == d') && sameEs v v' && sameVs r r'
  | _, _ => false
def sameEs : List EL → List EL → Bool
  | [], [] => true
  | .mk n p :: r, .mk n' p' :: r' => decide (n = n') && sameO p p' && sameEs r r'
  | _, _ => false
end

/-- The cells of an expression. -/
structure C7 where
  k : Value
  t : Value
  n : Value
  a : Value
  al : Value
  i : Value
  vs : Value
def C7.arr (c : C7) : Array Value := #[c.k, c.t, c.n, c.a, c.al, c.i, c.vs]
/-- Cells that lie one behind the other. -/
def CellsAt (W : World) (b o : Nat) (c : C7) : Prop :=
  W.cell? ⟨b, o, none⟩ = some c.k ∧ W.cell? ⟨b, o + 1, none⟩ = some c.t ∧ W.cell? ⟨b, o + 2, none⟩ = some c.n ∧ W.cell? ⟨b, o + 3, none⟩ = some c.a ∧
  W.cell? ⟨b, o + 4, none⟩ = some c.al ∧ W.cell? ⟨b, o + 5, none⟩ = some c.i ∧ W.cell? ⟨b, o + 6, none⟩ = some c.vs
/-- A list that lies in memory: where, how long. -/
def LieAt (P : Nat → Nat → Prop) (v : Value) (n : Nat) : Prop :=
  ∃ A c, v = .slice A n c ∧ n ≤ c ∧ c ≤ maxLen ∧ (0 < n → ∃ b o, A = some ⟨b, o, none⟩ ∧ P b o)

mutual
/-- These cells are that expression. -/
def ExAt (W : World) : EX → C7 → Prop
  | .mk k t n a al i vs, c => c.k = .int .i64 k ∧ c.t = .string t ∧ c.n = .string n ∧ c.a = .string a ∧
      LieAt (AsAt W al) c.al al.length ∧ OAt W i c.i ∧ LieAt (VsAt W vs) c.vs vs.length
def OAt (W : World) : Option EX → Value → Prop
  | none, v => v = .pointer none
  | some e, v => ∃ b o c, v = .pointer (some ⟨b, o, none⟩) ∧ b < W.heap.size ∧ CellsAt W b o c ∧ ExAt W e c
def AsAt (W : World) : List AR → Nat → Nat → Prop
  | [], _, _ => True
  | .mk n e :: r, b, o => b < W.heap.size ∧ W.cell? ⟨b, o, none⟩ = some (.string n) ∧ (∃ c, CellsAt W b (o + 1) c ∧ ExAt W e c) ∧ AsAt W r b (o + 8)
def VsAt (W : World) : List VA → Nat → Nat → Prop
  | [], _, _ => True
  | .mk n d v :: r, b, o => b < W.heap.size ∧ W.cell? ⟨b, o, none⟩ = some (.string n) ∧ W.cell? ⟨b, o + 1, none⟩ = some (.bool d) ∧
      (∃ u, W.cell? ⟨b, o + 2, none⟩ = some u ∧ LieAt (EsAt W v) u v.length) ∧ VsAt W r b (o + 3)
def EsAt (W : World) : List EL → Nat → Nat → Prop
  | [], _, _ => True
  | .mk t p :: r, b, o => b < W.heap.size ∧ W.cell? ⟨b, o, none⟩ = some (.string t) ∧ (∃ u, W.cell? ⟨b, o + 1, none⟩ = some u ∧ OAt W p u) ∧ EsAt W r b (o + 2)
end
/-- A pattern. -/
def PatAt (W : World) (l : List EL) (v : Value) : Prop := LieAt (EsAt W l) v l.length
def emp (s : ByteArray) : Bool := s.toList.isEmpty
def vaDflt : VA → Bool | .mk _ d _ => d
def vaKey : VA → ByteArray | .mk k _ _ => k
def vaVal : VA → List EL | .mk _ _ v => v
def elText : EL → ByteArray | .mk t _ => t
def elPlace : EL → Option EX | .mk _ p => p
def memB (n : ByteArray) (seen : List ByteArray) : Bool := seen.any fun s => decide (n = s)
def arName : AR → ByteArray | .mk n _ => n
def arVal : AR → EX | .mk _ e => e
/-- An expression as it is handed on. -/
def exV (k : Int) (t n a : ByteArray) (A1 : Option Addr) (n1 c1 : Nat) (i : Option Addr) (A2 : Option Addr) (n2 c2 : Nat) : Value :=
  .agg #[.int .i64 k, .string t, .string n, .string a, .slice A1 n1 c1, .pointer i, .slice A2 n2 c2]
theorem LieAt.imp {P Q : Nat → Nat → Prop} {v : Value} {n : Nat} (h : LieAt P v n) (hi : ∀ b o, P b o → Q b o) : LieAt Q v n := by
  obtain ⟨A, c, h1, h2, h3, h4⟩ := h
  exact ⟨A, c, h1, h2, h3, fun h0 => by obtain ⟨b, o, e, hp⟩ := h4 h0; exact ⟨b, o, e, hi b o hp⟩⟩
theorem CellsAt.under {W0 W : World} {b o : Nat} {c : C7} (h : CellsAt W0 b o c) (hb : b < W0.heap.size) (g : Below W0.heap.size W0 W) : CellsAt W b o c := by
  obtain ⟨k0, k1, k2, k3, k4, k5, k6⟩ := h
  exact ⟨(g.cell (p := ⟨b, _, none⟩) hb).trans k0, (g.cell (p := ⟨b, _, none⟩) hb).trans k1, (g.cell (p := ⟨b, _, none⟩) hb).trans k2, (g.cell (p := ⟨b, _, none⟩) hb).trans k3, (g.cell (p := ⟨b, _, none⟩) hb).trans k4, (g.cell (p := ⟨b, _, none⟩) hb).trans k5, (g.cell (p := ⟨b, _, none⟩) hb).trans k6⟩
/-- The cells of an expression: what they are. -/
theorem ex_shape {W : World} {e : EX} {c : C7} (h : ExAt W e c) : ∃ (k2 : Int) (t2 n3 a2 : ByteArray) (B1 : Option Addr) (m1 q1 : Nat) (p2 : Option Addr) (B2 : Option Addr) (m2 q2 : Nat), c = ⟨.int .i64 k2, .string t2, .string n3, .string a2, .slice B1 m1 q1, .pointer p2, .slice B2 m2 q2⟩ := by
  obtain ⟨ck, ct, cn, ca, cal, ci, cvs⟩ := c
  obtain ⟨k2, t2, n2', a2, al2, i2, vs2⟩ := e
  rw [ExAt] at h
  obtain ⟨e1, e2, e3, e4, ⟨B1, q1, e5, _⟩, e6, ⟨B2, q2, e7, _⟩⟩ := h
  obtain ⟨p2, e8⟩ : ∃ p, ci = .pointer p := by
    cases i2 with
    | none => simp only [OAt] at e6; exact ⟨_, e6⟩
    | some e => simp only [OAt] at e6; obtain ⟨b, o, c, h, _⟩ := e6; exact ⟨_, h⟩
  simp only at e1 e2 e3 e4 e5 e7
  subst e1 e2 e3 e4 e5 e8 e7
  exact ⟨_, _, _, _, _, _, _, _, _, _, _, rfl⟩
end Go.Proofs.YtlijmflikcjikaaDoor

/-
  Package expr: trees that lie in certain blocks of memory.
-/
namespace Go.Proofs.YtlijmflikcjikaaDoor
open Go.RowKit
set_option linter.unusedVariables false

/-- As LieAt; none at all is a nil slice. -/
def LieN (P : Nat → Nat → Prop) (v : Value) (n : Nat) : Prop := LieAt P v n ∧ (n = 0 → v = .slice none 0 0)
theorem LieN.imp {P Q : Nat → Nat → Prop} {v : Value} {n : Nat} (h : LieN P v n) (hi : ∀ b o, P b o → Q b o) : LieN Q v n := ⟨LieAt.imp h.1 hi, h.2⟩
theorem LieN.nil (P : Nat → Nat → Prop) : LieN P (.slice none 0 0) 0 := ⟨⟨none, 0, rfl, Nat.le_refl _, Nat.zero_le _, fun h => absurd h (by simp)⟩, fun _ => rfl⟩
mutual
/-- These cells are that expression, all of whose blocks are such. -/
def ExF (W : World) (F : Nat → Prop) : EX → C7 → Prop
  | .mk k t n a al i vs, c => c.k = .int .i64 k ∧ c.t = .string t ∧ c.n = .string n ∧ c.a = .string a ∧
      LieN (AsF W F al) c.al al.length ∧ OF W F i c.i ∧ LieAt (VsF W F vs) c.vs vs.length
def OF (W : World) (F : Nat → Prop) : Option EX → Value → Prop
  | none, v => v = .pointer none
  | some e, v => ∃ b o c, v = .pointer (some ⟨b, o, none⟩) ∧ F b ∧ CellsAt W b o c ∧ ExF W F e c
def AsF (W : World) (F : Nat → Prop) : List AR → Nat → Nat → Prop
  | [], _, _ => True
  | .mk n e :: r, b, o => F b ∧ W.cell? ⟨b, o, none⟩ = some (.string n) ∧ (∃ c, CellsAt W b (o + 1) c ∧ ExF W F e c) ∧ AsF W F r b (o + 8)
def VsF (W : World) (F : Nat → Prop) : List VA → Nat → Nat → Prop
  | [], _, _ => True
  | .mk n d v :: r, b, o => F b ∧ W.cell? ⟨b, o, none⟩ = some (.string n) ∧ W.cell? ⟨b, o + 1, none⟩ = some (.bool d) ∧
      (∃ u, W.cell? ⟨b, o + 2, none⟩ = some u ∧ LieAt (EsF W F v) u v.length) ∧ VsF W F r b (o + 3)
def EsF (W : World) (F : Nat → Prop) : List EL → Nat → Nat → Prop
  | [], _, _ => True
  | .mk t p :: r, b, o => F b ∧ W.cell? ⟨b, o, none⟩ = some (.string t) ∧ (∃ u, W.cell? ⟨b, o + 1, none⟩ = some u ∧ OF W F p u) ∧ EsF W F r b (o + 2)
end
def PatF (W : World) (F : Nat → Prop) (l : List EL) (v : Value) : Prop := LieAt (EsF W F l) v l.length

theorem cell_same {W W' : World} {b : Nat} (h : W'.heap[b]? = W.heap[b]?) (o : Nat) : W'.cell? ⟨b, o, none⟩ = W.cell? ⟨b, o, none⟩ := by
  unfold World.cell?; simp only [h]
theorem CellsAt.same {W W' : World} {b o : Nat} {c : C7} (h : CellsAt W b o c) (g : W'.heap[b]? = W.heap[b]?) : CellsAt W' b o c := by
  obtain ⟨k0, k1, k2, k3, k4, k5, k6⟩ := h
  exact ⟨(cell_same g _).trans k0, (cell_same g _).trans k1, (cell_same g _).trans k2, (cell_same g _).trans k3, (cell_same g _).trans k4, (cell_same g _).trans k5, (cell_same g _).trans k6⟩
mutual
theorem ExF.carry {W W' : World} {F F' : Nat → Prop} (g : ∀ b, F b → F' b ∧ W'.heap[b]? = W.heap[b]?) : ∀ (e : EX) (c : C7), ExF W F e c → ExF W' F' e c
  | .mk k t n a al i vs, c, h => by
    rw [ExF] at h ⊢
    obtain ⟨h1, h2, h3, h4, h5, h6, h7⟩ := h
    exact ⟨h1, h2, h3, h4, h5.imp (fun b o => AsF.carry g al b o), OF.carry g i _ h6, h7.imp (fun b o => VsF.carry g vs b o)⟩
theorem OF.carry {W W' : World} {F F' : Nat → Prop} (g : ∀ b, F b → F' b ∧ W'.heap[b]? = W.heap[b]?) : ∀ (i : Option EX) (v : Value), OF W F i v → OF W' F' i v
  | none, v, h => by simp only [OF] at h ⊢; exact h
  | some e, v, h => by
    simp only [OF] at h ⊢
    obtain ⟨b, o, c, e1, hb, hc, hx⟩ := h
    exact ⟨b, o, c, e1, (g b hb).1, hc.same (g b hb).2, ExF.carry g e c hx⟩
theorem AsF.carry {W W' : World} {F F' : Nat → Prop} (g : ∀ b, F b → F' b ∧ W'.heap[b]? = W.heap[b]?) : ∀ (l : List AR) (b o : Nat), AsF W F l b o → AsF W' F' l b o
  | [], b, o, _ => by rw [AsF]; trivial
  | .mk n e :: r, b, o, h => by
    rw [AsF] at h ⊢
    obtain ⟨hb, h1, ⟨c, h2, h3⟩, h4⟩ := h
    exact ⟨(g b hb).1, (cell_same (g b hb).2 _).trans h1, ⟨c, h2.same (g b hb).2, ExF.carry g e c h3⟩, AsF.carry g r b _ h4⟩
theorem VsF.carry {W W' : World} {F F' : Nat → Prop} (g : ∀ b, F b → F' b ∧ W'.heap[b]? = W.heap[b]?) : ∀ (l : List VA) (b o : Nat), VsF W F l b o → VsF W' F' l b o
  | [], b, o, _ => by rw [VsF]; trivial
  | .mk n d v :: r, b, o, h => by
    rw [VsF] at h ⊢
    obtain ⟨hb, h1, h2, ⟨u, h3, h5⟩, h4⟩ := h
    exact ⟨(g b hb).1, (cell_same (g b hb).2 _).trans h1, (cell_same (g b hb).2 _).trans h2, ⟨u, (cell_same (g b hb).2 _).trans h3, h5.imp (fun b o => EsF.carry g v b o)⟩, VsF.carry g r b _ h4⟩
theorem EsF.carry {W W' : World} {F F' : Nat → Prop} (g : ∀ b, F b → F' b ∧ W'.heap[b]? = W.heap[b]?) : ∀ (l : List EL) (b o : Nat), EsF W F l b o → EsF W' F' l b o
  | [], b, o, _ => by rw [EsF]; trivial
  | .mk t p :: r, b, o, h => by
    rw [EsF] at h ⊢
    obtain ⟨hb, h1, ⟨u, h3, h5⟩, h4⟩ := h
    exact ⟨(g b hb).1, (cell_same (g b hb).2 _).trans h1, ⟨u, (cell_same (g b hb).2 _).trans h3, OF.carry g p u h5⟩, EsF.carry g r b _ h4⟩
end
theorem PatF.carry {W W' : World} {F F' : Nat → Prop} (g : ∀ b, F b → F' b ∧ W'.heap[b]? = W.heap[b]?) {l : List EL} {v : Value} (h : PatF W F l v) : PatF W' F' l v := LieAt.imp h (fun b o => EsF.carry g l b o)
mutual
theorem ExF.at_ {W : World} {F : Nat → Prop} (g : ∀ b, F b → b < W.heap.size) : ∀ (e : EX) (c : C7), ExF W F e c → ExAt W e c
  | .mk k t n a al i vs, c, h => by
    rw [ExF] at h
    rw [ExAt]
    obtain ⟨h1, h2, h3, h4, h5, h6, h7⟩ := h
    exact ⟨h1, h2, h3, h4, h5.1.imp (fun b o => AsF.at_ g al b o), OF.at_ g i _ h6, h7.imp (fun b o => VsF.at_ g vs b o)⟩
theorem OF.at_ {W : World} {F : Nat → Prop} (g : ∀ b, F b → b < W.heap.size) : ∀ (i : Option EX) (v : Value), OF W F i v → OAt W i v
  | none, v, h => by simp only [OF] at h; simp only [OAt]; exact h
  | some e, v, h => by
    simp only [OF] at h
    simp only [OAt]
    obtain ⟨b, o, c, e1, hb, hc, hx⟩ := h
    exact ⟨b, o, c, e1, g b hb, hc, ExF.at_ g e c hx⟩
theorem AsF.at_ {W : World} {F : Nat → Prop} (g : ∀ b, F b → b < W.heap.size) : ∀ (l : List AR) (b o : Nat), AsF W F l b o → AsAt W l b o
  | [], b, o, _ => by rw [AsAt]; trivial
  | .mk n e :: r, b, o, h => by
    rw [AsF] at h
    rw [AsAt]
    obtain ⟨hb, h1, ⟨c, h2, h3⟩, h4⟩ := h
    exact ⟨g b hb, h1, ⟨c, h2, ExF.at_ g e c h3⟩, AsF.at_ g r b _ h4⟩
theorem VsF.at_ {W : World} {F : Nat → Prop} (g : ∀ b, F b → b < W.heap.size) : ∀ (l : List VA) (b o : Nat), VsF W F l b o → VsAt W l b o
  | [], b, o, _ => by rw [VsAt]; trivial
  | .mk n d v :: r, b, o, h => by
    rw [VsF] at h
    rw [VsAt]
    obtain ⟨hb, h1, h2, ⟨u, h3, h5⟩, h4⟩ := h
    exact ⟨g b hb, h1, h2, ⟨u, h3, h5.imp (fun b o => EsF.at_ g v b o)⟩, VsF.at_ g r b _ h4⟩
theorem EsF.at_ {W : World} {F : Nat → Prop} (g : ∀ b, F b → b < W.heap.size) : ∀ (l : List EL) (b o : Nat), EsF W F l b o → EsAt W l b o
  | [], b, o, _ => by rw [EsAt]; trivial
  | .mk t p :: r, b, o, h => by
    rw [EsF] at h
    rw [EsAt]
    obtain ⟨hb, h1, ⟨u, h3, h5⟩, h4⟩ := h
    exact ⟨g b hb, h1, ⟨u, h3, OF.at_ g p u h5⟩, EsF.at_ g r b _ h4⟩
end
/-- The blocks that are there now and weren't then. -/
def Since (B : Nat) (W : World) : Nat → Prop := fun b => B ≤ b ∧ b < W.heap.size

/-- What a call of the reader does to memory: its own box changes, and nothing else that was there. -/
structure Kp (rb : Nat) (w w' : World) : Prop where
  below : Below rb w w'
  others : ∀ k, k < w.heap.size → k ≠ rb → w'.heap[k]? = w.heap[k]?
theorem Kp.size {rb : Nat} {w w' : World} (h : Kp rb w w') : w.heap.size ≤ w'.heap.size := h.below.size
theorem Kp.refl (rb : Nat) (w : World) : Kp rb w w := ⟨Below.refl _ _, fun _ _ _ => rfl⟩
theorem Kp.trans {rb : Nat} {a b c : World} (h : Kp rb a b) (k : Kp rb b c) : Kp rb a c :=
  ⟨h.below.trans k.below, fun j hj hn => (k.others j (Nat.lt_of_lt_of_le hj h.size) hn).trans (h.others j hj hn)⟩
theorem Kp.of_below {rb : Nat} {w w' : World} (hb : Below w.heap.size w w') (hr : rb ≤ w.heap.size) : Kp rb w w' := ⟨hb.mono hr, fun k hk _ => hb.block k hk⟩
theorem Kp.alloc {rb : Nat} {a w : World} (h : Kp rb a w) (hr : rb ≤ w.heap.size) (o : Obj) : Kp rb a (w.alloc o) := h.trans (Kp.of_below ((Below.refl _ _).alloc (Nat.le_refl _) _) hr)
theorem Kp.drew {rb : Nat} {a w : World} (h : Kp rb a w) : Kp rb a w.drew := ⟨h.below.drew, fun k hk hn => h.others k hk hn⟩
theorem Kp.setCell {rb : Nat} {a w : World} (h : Kp rb a w) (o : Nat) (v : Value) : Kp rb a (w.setCell ⟨rb, o, none⟩ v) :=
  ⟨h.below.setCell (p := ⟨rb, o, none⟩) (Nat.le_refl _) v, fun k hk hn => by
    rw [← h.others k hk hn]
    simp only [World.setCell]
    rw [Array.getElem?_modify, if_neg (fun e => hn e.symm)]⟩
theorem BoxAt.kp {rb : Nat} {w w' : World} {k : Nat} {cs : Array Value} {t : TypeId} (h : BoxAt w k cs t) (g : Kp rb w w') (hk : k ≠ rb) : BoxAt w' k cs t := (g.others k h.lt hk).trans h
/-- The reader at block rb: its text, and how far it is read. -/
def Rd (rb : Nat) (s : ByteArray) (i : Nat) (w : World) : Prop := BoxAt w rb #[.string s, .int .i64 (i : Nat)] 40
theorem Rd.lt {rb : Nat} {s : ByteArray} {i : Nat} {w : World} (h : Rd rb s i w) : rb < w.heap.size := BoxAt.lt h
theorem Rd.alloc {rb : Nat} {s : ByteArray} {i : Nat} {w : World} (h : Rd rb s i w) (o : Obj) : Rd rb s i (w.alloc o) := BoxAt.alloc h o
theorem Rd.set {rb : Nat} {s : ByteArray} {i : Nat} {w : World} (h : Rd rb s i w) (j : Nat) : Rd rb s j (w.setCell ⟨rb, 1, none⟩ (.int .i64 (j : Nat))) := by
  unfold Rd BoxAt at h ⊢
  simp [World.setCell, Array.getElem?_modify, h]
theorem Rd.set' {rb : Nat} {s : ByteArray} {i j : Nat} {v : Int} {w : World} (h : Rd rb s i w) (hv : v = (j : Nat)) : Rd rb s j (w.setCell ⟨rb, 1, none⟩ (.int .i64 v)) := by rw [hv]; exact h.set j
theorem Rd.later {rb : Nat} {s : ByteArray} {i : Nat} {w w' : World} (h : Rd rb s i w) (g : Below w.heap.size w w') : Rd rb s i w' := (g.block rb h.lt).trans h
theorem Rd.c0 {rb : Nat} {s : ByteArray} {i : Nat} {w : World} (h : Rd rb s i w) : w.cell? ⟨rb, 0, none⟩ = some (.string s) := BoxAt.cell h 0
theorem Rd.c1 {rb : Nat} {s : ByteArray} {i : Nat} {w : World} (h : Rd rb s i w) : w.cell? ⟨rb, 1, none⟩ = some (.int .i64 (i : Nat)) := BoxAt.cell h 1
theorem Rd.f {rb : Nat} {s : ByteArray} {i : Nat} {w : World} (h : Rd rb s i w) (o : Nat) : w.frozen? ⟨rb, o, none⟩ = false := Lib.frozen_of_heap h o
end Go.Proofs.YtlijmflikcjikaaDoor

/-
  Plain mathematics of package scan: the place behind all bytes that are such.
-/
namespace Go.Proofs.YtlijmflikcjikaaDoor

/-- The place behind all bytes from k on that are such. -/
def behN (p : UInt8 → Bool) (l : List UInt8) (k : Nat) : Nat := k + ((l.drop k).takeWhile p).length
theorem behN_end (p : UInt8 → Bool) (l : List UInt8) (k : Nat) (h : l.length ≤ k) : behN p l k = k := by
  unfold behN; rw [List.drop_eq_nil_of_le h]; rfl
theorem behN_yes (p : UInt8 → Bool) (l : List UInt8) (k : Nat) (h : k < l.length) (hp : p l[k] = true) : behN p l (k + 1) = behN p l k := by
  unfold behN
  rw [List.drop_eq_getElem_cons h, List.takeWhile_cons, if_pos hp, List.length_cons]
  omega
theorem behN_no (p : UInt8 → Bool) (l : List UInt8) (k : Nat) (h : k < l.length) (hp : p l[k] = false) : behN p l k = k := by
  unfold behN
  rw [List.drop_eq_getElem_cons h, List.takeWhile_cons, if_neg (by simp [hp])]
  rfl
theorem behN_ge (p : UInt8 → Bool) (l : List UInt8) (k : Nat) : k ≤ behN p l k := by unfold behN; omega
theorem takeWhile_le (p : UInt8 → Bool) : ∀ l : List UInt8, (l.takeWhile p).length ≤ l.length
  | [] => Nat.le_refl _
  | c :: l => by
    rw [List.takeWhile_cons]
    split
    · have := takeWhile_le p l; simp only [List.length_cons]; omega
    · simp
theorem behN_le (p : UInt8 → Bool) (l : List UInt8) (k : Nat) (h : k ≤ l.length) : behN p l k ≤ l.length := by
  unfold behN
  have := takeWhile_le p (l.drop k)
  rw [List.length_drop] at this
  omega
/-- .. of any place: a place below 0 stays. -/
def behI (p : UInt8 → Bool) (l : List UInt8) (i : Int) : Int := if i < 0 then i else (behN p l i.toNat : Int)
def spB (c : UInt8) : Bool := decide ((c.toNat : Int) = 32)
def blB (c : UInt8) : Bool := decide ((c.toNat : Int) = 32 ∨ (c.toNat : Int) = 10)
def dgB (c : UInt8) : Bool := decide (48 ≤ (c.toNat : Int) ∧ (c.toNat : Int) ≤ 57)
def caB (c : UInt8) : Bool := decide (65 ≤ (c.toNat : Int) ∧ (c.toNat : Int) ≤ 90)
def leB (c : UInt8) : Bool := decide ((97 ≤ (c.toNat : Int) ∧ (c.toNat : Int) ≤ 122) ∨ (65 ≤ (c.toNat : Int) ∧ (c.toNat : Int) ≤ 90))
def joB (c : UInt8) : Bool := decide ((c.toNat : Int) = 95 ∨ (c.toNat : Int) = 45)
def naB (c : UInt8) : Bool := leB c || dgB c || joB c
def biB (c : UInt8) : Bool := caB c || dgB c || joB c
end Go.Proofs.YtlijmflikcjikaaDoor

/-
  Contracts of package scan: what a byte is, isWithin, behind.
-/
namespace Go.Proofs.YtlijmflikcjikaaDoor
open Go.RowKit

theorem within_yes (s : ByteArray) (i : Int) (w : World) (h0 : 0 ≤ i) (h1 : i < s.size) : Calls Tryd.prog 40 #[.string s, .int .i64 i] w fun e w' => e = .returned (.bool true) ∧ w = w' := by
  go_enter Tryd.func40, Tryd.ntmps40
  go_wp2
  go_ret
  exact ⟨rfl, rfl⟩
theorem within_no (s : ByteArray) (i : Int) (w : World) (h : i < 0 ∨ (s.size : Int) ≤ i) : Calls Tryd.prog 40 #[.string s, .int .i64 i] w fun e w' => e = .returned (.bool false) ∧ w = w' := by
  by_cases h0 : 0 ≤ i
  · have h1 : ¬ i < s.size := by omega
    go_enter Tryd.func40, Tryd.ntmps40
    go_wp2
    go_ret
    exact ⟨rfl, rfl⟩
  · go_enter Tryd.func40, Tryd.ntmps40
    go_wp2
    go_ret
    exact ⟨rfl, rfl⟩
theorem capital_any (c : UInt8) (w : World) : Calls Tryd.prog 64 #[.int .u8 (c.toNat : Int)] w fun e w' => e = .returned (.bool (caB c)) ∧ w = w' := by
  by_cases h : (65 : Int) ≤ (c.toNat : Int)
  all_goals
    go_enter Tryd.func64, Tryd.ntmps64
    go_wp2
    go_ret
    refine ⟨ret_bool ?_, rfl⟩
    rw [Bool.eq_iff_iff]
    simp [caB]
    omega
theorem digit_any (c : UInt8) (w : World) : Calls Tryd.prog 65 #[.int .u8 (c.toNat : Int)] w fun e w' => e = .returned (.bool (dgB c)) ∧ w = w' := by
  by_cases h : (48 : Int) ≤ (c.toNat : Int)
  all_goals
    go_enter Tryd.func65, Tryd.ntmps65
    go_wp2
    go_ret
    refine ⟨ret_bool ?_, rfl⟩
    rw [Bool.eq_iff_iff]
    simp [dgB]
    omega
theorem joint_any (c : UInt8) (w : World) : Calls Tryd.prog 66 #[.int .u8 (c.toNat : Int)] w fun e w' => e = .returned (.bool (joB c)) ∧ w = w' := by
  go_enter Tryd.func66, Tryd.ntmps66
  go_wp2
  all_goals
    go_ret
    refine ⟨ret_bool ?_, rfl⟩
    rw [Bool.eq_iff_iff]
    simp [joB, *]
theorem letter_any (c : UInt8) (w : World) : Calls Tryd.prog 67 #[.int .u8 (c.toNat : Int)] w fun e w' => e = .returned (.bool (leB c)) ∧ w = w' := by
  by_cases h1 : (97 : Int) ≤ (c.toNat : Int)
  · by_cases h2 : (c.toNat : Int) ≤ 122
    · go_enter Tryd.func67, Tryd.ntmps67
      go_wp2_with (go_at_call 64; refine (capital_any c _).mono ?_; rintro e w' ⟨rfl, rfl⟩)
      go_ret
      refine ⟨ret_bool ?_, rfl⟩
      simp [leB, h1, h2]
    · have hb : decide ((c.toNat : Int) ≤ 122) = false := by simp; omega
      go_enter Tryd.func67, Tryd.ntmps67
      go_wp2_with (go_at_call 64; refine (capital_any c _).mono ?_; rintro e w' ⟨rfl, rfl⟩)
      go_ret
      refine ⟨ret_bool ?_, rfl⟩
      simp only [leB, caB]
      rw [Bool.eq_iff_iff]
      simp
      omega
  · go_enter Tryd.func67, Tryd.ntmps67
    go_wp2_with (go_at_call 64; refine (capital_any c _).mono ?_; rintro e w' ⟨rfl, rfl⟩)
    go_ret
    refine ⟨ret_bool ?_, rfl⟩
    simp only [leB, caB]
    rw [Bool.eq_iff_iff]
    simp
    omega

/-- A function value that tells of a byte whether it is such. -/
def Tells (N : FuncId) (p : UInt8 → Bool) : Prop := ∀ (c : UInt8) (w : World), Calls Tryd.prog N #[.int .u8 (c.toNat : Int)] w fun e w' => e = .returned (.bool (p c)) ∧ w = w'
theorem tells_digit : Tells 65 dgB := digit_any
theorem tells_space : Tells 28 spB := fun c w => by
  go_enter Tryd.func28, Tryd.ntmps28
  go_wp2
  all_goals
    go_ret
    refine ⟨ret_bool ?_, rfl⟩
    rw [Bool.eq_iff_iff]
    simp [spB, *]
theorem tells_blank : Tells 22 blB := fun c w => by
  go_enter Tryd.func22, Tryd.ntmps22
  go_wp2
  all_goals
    go_ret
    refine ⟨ret_bool ?_, rfl⟩
    rw [Bool.eq_iff_iff]
    simp [blB, *]
theorem tells_name : Tells 68 naB := fun c w => by
  cases h1 : leB c
  · cases h2 : dgB c
    · go_enter Tryd.func68, Tryd.ntmps68
      go_wp2_with (first | (go_at_call 67; refine (letter_any c _).mono ?_; rw [h1]; rintro e w' ⟨rfl, rfl⟩) | (go_at_call 65; refine (digit_any c _).mono ?_; rw [h2]; rintro e w' ⟨rfl, rfl⟩) | (go_at_call 66; refine (joint_any c _).mono ?_; rintro e w' ⟨rfl, rfl⟩))
      go_ret
      exact ⟨ret_bool (by simp [naB, h1, h2]), rfl⟩
    · go_enter Tryd.func68, Tryd.ntmps68
      go_wp2_with (first | (go_at_call 67; refine (letter_any c _).mono ?_; rw [h1]; rintro e w' ⟨rfl, rfl⟩) | (go_at_call 65; refine (digit_any c _).mono ?_; rw [h2]; rintro e w' ⟨rfl, rfl⟩) | (go_at_call 66; refine (joint_any c _).mono ?_; rintro e w' ⟨rfl, rfl⟩))
      go_ret
      exact ⟨ret_bool (by simp [naB, h1, h2]), rfl⟩
  · go_enter Tryd.func68, Tryd.ntmps68
    go_wp2_with (first | (go_at_call 67; refine (letter_any c _).mono ?_; rw [h1]; rintro e w' ⟨rfl, rfl⟩) | (go_at_call 65; refine (digit_any c _).mono ?_; rintro e w' ⟨rfl, rfl⟩) | (go_at_call 66; refine (joint_any c _).mono ?_; rintro e w' ⟨rfl, rfl⟩))
    go_ret
    exact ⟨ret_bool (by simp [naB, h1]), rfl⟩
theorem tells_big : Tells 63 biB := fun c w => by
  cases h1 : caB c
  · cases h2 : dgB c
    · go_enter Tryd.func63, Tryd.ntmps63
      go_wp2_with (first | (go_at_call 64; refine (capital_any c _).mono ?_; rw [h1]; rintro e w' ⟨rfl, rfl⟩) | (go_at_call 65; refine (digit_any c _).mono ?_; rw [h2]; rintro e w' ⟨rfl, rfl⟩) | (go_at_call 66; refine (joint_any c _).mono ?_; rintro e w' ⟨rfl, rfl⟩))
      go_ret
      exact ⟨ret_bool (by simp [biB, h1, h2]), rfl⟩
    · go_enter Tryd.func63, Tryd.ntmps63
      go_wp2_with (first | (go_at_call 64; refine (capital_any c _).mono ?_; rw [h1]; rintro e w' ⟨rfl, rfl⟩) | (go_at_call 65; refine (digit_any c _).mono ?_; rw [h2]; rintro e w' ⟨rfl, rfl⟩) | (go_at_call 66; refine (joint_any c _).mono ?_; rintro e w' ⟨rfl, rfl⟩))
      go_ret
      exact ⟨ret_bool (by simp [biB, h1, h2]), rfl⟩
  · go_enter Tryd.func63, Tryd.ntmps63
    go_wp2_with (first | (go_at_call 64; refine (capital_any c _).mono ?_; rw [h1]; rintro e w' ⟨rfl, rfl⟩) | (go_at_call 65; refine (digit_any c _).mono ?_; rintro e w' ⟨rfl, rfl⟩) | (go_at_call 66; refine (joint_any c _).mono ?_; rintro e w' ⟨rfl, rfl⟩))
    go_ret
    exact ⟨ret_bool (by simp [biB, h1]), rfl⟩

end Go.Proofs.YtlijmflikcjikaaDoor

/-
  Contracts of package scan: behind, for each of the functions that it is handed.
-/
namespace Go.Proofs.YtlijmflikcjikaaDoor
open Go.RowKit

set_option maxHeartbeats 1000000 in
theorem behind_sp (s : ByteArray) (i : Int) (w : World) (hs : s.size ≤ 9223372036854775807) :
    Calls Tryd.prog 21 #[.string s, .int .i64 i, .func (.func 28) #[] #[]] w fun e w' => e = .returned (.int .i64 (behI spB s.data.toList i)) ∧ w = w' := by
  have HN := Lib.hid tells_space
  by_cases h0 : i < 0
  · have e : behI spB s.data.toList i = i := by unfold behI; rw [if_pos h0]
    have E := Lib.hid e
    clear e
    go_enter Tryd.func21, Tryd.ntmps21
    go_wp2_with fail
    go_loop [1] (fun t => t = .int .i64 i) (fun _ => 0)
    case atStart => rfl
    case round =>
      subst hrel
      go_wp2_with fail
      go_at_call 40
      refine (within_no _ _ _ (.inl h0)).mono ?_
      rintro e w' ⟨rfl, rfl⟩
      go_wp2_with fail
      go_ret
      exact ⟨ret_int E.out.symm, rfl⟩
  · obtain ⟨k, rfl⟩ : ∃ k : Nat, i = (k : Int) := ⟨i.toNat, by omega⟩
    obtain ⟨B, hB⟩ : ∃ B, behN spB s.data.toList k = B := ⟨_, rfl⟩
    have e : behI spB s.data.toList (k : Int) = (B : Int) := by unfold behI; rw [if_neg h0, Int.toNat_natCast, hB]
    have E := Lib.hid e
    have HB := Lib.hid hB
    clear e hB h0
    go_enter Tryd.func21, Tryd.ntmps21
    go_wp2_with fail
    go_loop [1] (fun t => ∃ j : Nat, t = .int .i64 j ∧ Hid (behN spB s.data.toList j = B)) (fun t => s.size - (intOf t).toNat)
    case atStart => exact ⟨k, rfl, HB⟩
    case round =>
      obtain ⟨j, rfl, hj⟩ := hrel
      by_cases hlt : j < s.size
      · have hlt' : j < s.data.toList.length := by rw [size_data]; exact hlt
        have hi0 : (0 : Int) ≤ (j : Int) := by omega
        have hi1 : (j : Int) < (s.size : Int) := by omega
        cases hp : spB s[j]
        · have hno := Lib.hid (behN_no spB s.data.toList j hlt' hp)
          have Hp := Lib.hid hp
          clear hp
          go_wp2_with fail
          go_at_call 40
          refine (within_yes _ _ _ hi0 hi1).mono ?_
          rintro e w' ⟨rfl, rfl⟩
          go_wp2_with fail
          go_at_call 28
          refine (HN.out s[j] _).mono ?_
          rw [Hp.out]
          rintro e w' ⟨rfl, rfl⟩
          go_wp2_with fail
          go_ret
          exact ⟨ret_int (by rw [E.out, ← hj.out, hno.out]), rfl⟩
        · have hyes := Lib.hid (behN_yes spB s.data.toList j hlt' hp)
          have Hp := Lib.hid hp
          clear hp
          go_wp2_with fail
          go_at_call 40
          refine (within_yes _ _ _ hi0 hi1).mono ?_
          rintro e w' ⟨rfl, rfl⟩
          go_wp2_with fail
          go_at_call 28
          refine (HN.out s[j] _).mono ?_
          rw [Hp.out]
          rintro e w' ⟨rfl, rfl⟩
          go_wp2_with fail
          go_round
          case rel => exact ⟨j + 1, by go_num, Lib.hid (by rw [hyes.out, hj.out])⟩
          case measure => simp [intOf]; omega
      · have hend := Lib.hid (behN_end spB s.data.toList j (by rw [size_data]; omega))
        go_wp2_with fail
        go_at_call 40
        refine (within_no _ _ _ (.inr (by omega))).mono ?_
        rintro e w' ⟨rfl, rfl⟩
        go_wp2_with fail
        go_ret
        exact ⟨ret_int (by rw [E.out, ← hj.out, hend.out]), rfl⟩
set_option maxHeartbeats 1000000 in
theorem behind_bl (s : ByteArray) (i : Int) (w : World) (hs : s.size ≤ 9223372036854775807) :
    Calls Tryd.prog 21 #[.string s, .int .i64 i, .func (.func 22) #[] #[]] w fun e w' => e = .returned (.int .i64 (behI blB s.data.toList i)) ∧ w = w' := by
  have HN := Lib.hid tells_blank
  by_cases h0 : i < 0
  · have e : behI blB s.data.toList i = i := by unfold behI; rw [if_pos h0]
    have E := Lib.hid e
    clear e
    go_enter Tryd.func21, Tryd.ntmps21
    go_wp2_with fail
    go_loop [1] (fun t => t = .int .i64 i) (fun _ => 0)
    case atStart => rfl
    case round =>
      subst hrel
      go_wp2_with fail
      go_at_call 40
      refine (within_no _ _ _ (.inl h0)).mono ?_
      rintro e w' ⟨rfl, rfl⟩
      go_wp2_with fail
      go_ret
      exact ⟨ret_int E.out.symm, rfl⟩
  · obtain ⟨k, rfl⟩ : ∃ k : Nat, i = (k : Int) := ⟨i.toNat, by omega⟩
    obtain ⟨B, hB⟩ : ∃ B, behN blB s.data.toList k = B := ⟨_, rfl⟩
    have e : behI blB s.data.toList (k : Int) = (B : Int) := by unfold behI; rw [if_neg h0, Int.toNat_natCast, hB]
    have E := Lib.hid e
    have HB := Lib.hid hB
    clear e hB h0
    go_enter Tryd.func21, Tryd.ntmps21
    go_wp2_with fail
    go_loop [1] (fun t => ∃ j : Nat, t = .int .i64 j ∧ Hid (behN blB s.data.toList j = B)) (fun t => s.size - (intOf t).toNat)
    case atStart => exact ⟨k, rfl, HB⟩
    case round =>
      obtain ⟨j, rfl, hj⟩ := hrel
      by_cases hlt : j < s.size
      · have hlt' : j < s.data.toList.length := by rw [size_data]; exact hlt
        have hi0 : (0 : Int) ≤ (j : Int) := by omega
        have hi1 : (j : Int) < (s.size : Int) := by omega
        cases hp : blB s[j]
        · have hno := Lib.hid (behN_no blB s.data.toList j hlt' hp)
          have Hp := Lib.hid hp
          clear hp
          go_wp2_with fail
          go_at_call 40
          refine (within_yes _ _ _ hi0 hi1).mono ?_
          rintro e w' ⟨rfl, rfl⟩
          go_wp2_with fail
          go_at_call 22
          refine (HN.out s[j] _).mono ?_
          rw [Hp.out]
          rintro e w' ⟨rfl, rfl⟩
          go_wp2_with fail
          go_ret
          exact ⟨ret_int (by rw [E.out, ← hj.out, hno.out]), rfl⟩
        · have hyes := Lib.hid (behN_yes blB s.data.toList j hlt' hp)
          have Hp := Lib.hid hp
          clear hp
          go_wp2_with fail
          go_at_call 40
          refine (within_yes _ _ _ hi0 hi1).mono ?_
          rintro e w' ⟨rfl, rfl⟩
          go_wp2_with fail
          go_at_call 22
          refine (HN.out s[j] _).mono ?_
          rw [Hp.out]
          rintro e w' ⟨rfl, rfl⟩
          go_wp2_with fail
          go_round
          case rel => exact ⟨j + 1, by go_num, Lib.hid (by rw [hyes.out, hj.out])⟩
          case measure => simp [intOf]; omega
      · have hend := Lib.hid (behN_end blB s.data.toList j (by rw [size_data]; omega))
        go_wp2_with fail
        go_at_call 40
        refine (within_no _ _ _ (.inr (by omega))).mono ?_
        rintro e w' ⟨rfl, rfl⟩
        go_wp2_with fail
        go_ret
        exact ⟨ret_int (by rw [E.out, ← hj.out, hend.out]), rfl⟩
set_option maxHeartbeats 1000000 in
theorem behind_na (s : ByteArray) (i : Int) (w : World) (hs : s.size ≤ 9223372036854775807) :
    Calls Tryd.prog 21 #[.string s, .int .i64 i, .func (.func 68) #[] #[]] w fun e w' => e = .returned (.int .i64 (behI naB s.data.toList i)) ∧ w = w' := by
  have HN := Lib.hid tells_name
  by_cases h0 : i < 0
  · have e : behI naB s.data.toList i = i := by unfold behI; rw [if_pos h0]
    have E := Lib.hid e
    clear e
    go_enter Tryd.func21, Tryd.ntmps21
    go_wp2_with fail
    go_loop [1] (fun t => t = .int .i64 i) (fun _ => 0)
    case atStart => rfl
    case round =>
      subst hrel
      go_wp2_with fail
      go_at_call 40
      refine (within_no _ _ _ (.inl h0)).mono ?_
      rintro e w' ⟨rfl, rfl⟩
      go_wp2_with fail
      go_ret
      exact ⟨ret_int E.out.symm, rfl⟩
  · obtain ⟨k, rfl⟩ : ∃ k : Nat, i = (k : Int) := ⟨i.toNat, by omega⟩
    obtain ⟨B, hB⟩ : ∃ B, behN naB s.data.toList k = B := ⟨_, rfl⟩
    have e : behI naB s.data.toList (k : Int) = (B : Int) := by unfold behI; rw [if_neg h0, Int.toNat_natCast, hB]
    have E := Lib.hid e
    have HB := Lib.hid hB
    clear e hB h0
    go_enter Tryd.func21, Tryd.ntmps21
    go_wp2_with fail
    go_loop [1] (fun t => ∃ j : Nat, t = .int .i64 j ∧ Hid (behN naB s.data.toList j = B)) (fun t => s.size - (intOf t).toNat)
    case atStart => exact ⟨k, rfl, HB⟩
    case round =>
      obtain ⟨j, rfl, hj⟩ := hrel
      by_cases hlt : j < s.size
      · have hlt' : j < s.data.toList.length := by rw [size_data]; exact hlt
        have hi0 : (0 : Int) ≤ (j : Int) := by omega
        have hi1 : (j : Int) < (s.size : Int) := by omega
        cases hp : naB s[j]
        · have hno := Lib.hid (behN_no naB s.data.toList j hlt' hp)
          have Hp := Lib.hid hp
          clear hp
          go_wp2_with fail
          go_at_call 40
          refine (within_yes _ _ _ hi0 hi1).mono ?_
          rintro e w' ⟨rfl, rfl⟩
          go_wp2_with fail
          go_at_call 68
          refine (HN.out s[j] _).mono ?_
          rw [Hp.out]
          rintro e w' ⟨rfl, rfl⟩
          go_wp2_with fail
          go_ret
          exact ⟨ret_int (by rw [E.out, ← hj.out, hno.out]), rfl⟩
        · have hyes := Lib.hid (behN_yes naB s.data.toList j hlt' hp)
          have Hp := Lib.hid hp
          clear hp
          go_wp2_with fail
          go_at_call 40
          refine (within_yes _ _ _ hi0 hi1).mono ?_
          rintro e w' ⟨rfl, rfl⟩
          go_wp2_with fail
          go_at_call 68
          refine (HN.out s[j] _).mono ?_
          rw [Hp.out]
          rintro e w' ⟨rfl, rfl⟩
          go_wp2_with fail
          go_round
          case rel => exact ⟨j + 1, by go_num, Lib.hid (by rw [hyes.out, hj.out])⟩
          case measure => simp [intOf]; omega
      · have hend := Lib.hid (behN_end naB s.data.toList j (by rw [size_data]; omega))
        go_wp2_with fail
        go_at_call 40
        refine (within_no _ _ _ (.inr (by omega))).mono ?_
        rintro e w' ⟨rfl, rfl⟩
        go_wp2_with fail
        go_ret
        exact ⟨ret_int (by rw [E.out, ← hj.out, hend.out]), rfl⟩
set_option maxHeartbeats 1000000 in
theorem behind_dg (s : ByteArray) (i : Int) (w : World) (hs : s.size ≤ 9223372036854775807) :
    Calls Tryd.prog 21 #[.string s, .int .i64 i, .func (.func 65) #[] #[]] w fun e w' => e = .returned (.int .i64 (behI dgB s.data.toList i)) ∧ w = w' := by
  have HN := Lib.hid tells_digit
  by_cases h0 : i < 0
  · have e : behI dgB s.data.toList i = i := by unfold behI; rw [if_pos h0]
    have E := Lib.hid e
    clear e
    go_enter Tryd.func21, Tryd.ntmps21
    go_wp2_with fail
    go_loop [1] (fun t => t = .int .i64 i) (fun _ => 0)
    case atStart => rfl
    case round =>
      subst hrel
      go_wp2_with fail
      go_at_call 40
      refine (within_no _ _ _ (.inl h0)).mono ?_
      rintro e w' ⟨rfl, rfl⟩
      go_wp2_with fail
      go_ret
      exact ⟨ret_int E.out.symm, rfl⟩
  · obtain ⟨k, rfl⟩ : ∃ k : Nat, i = (k : Int) := ⟨i.toNat, by omega⟩
    obtain ⟨B, hB⟩ : ∃ B, behN dgB s.data.toList k = B := ⟨_, rfl⟩
    have e : behI dgB s.data.toList (k : Int) = (B : Int) := by unfold behI; rw [if_neg h0, Int.toNat_natCast, hB]
    have E := Lib.hid e
    have HB := Lib.hid hB
    clear e hB h0
    go_enter Tryd.func21, Tryd.ntmps21
    go_wp2_with fail
    go_loop [1] (fun t => ∃ j : Nat, t = .int .i64 j ∧ Hid (behN dgB s.data.toList j = B)) (fun t => s.size - (intOf t).toNat)
    case atStart => exact ⟨k, rfl, HB⟩
    case round =>
      obtain ⟨j, rfl, hj⟩ := hrel
      by_cases hlt : j < s.size
      · have hlt' : j < s.data.toList.length := by rw [size_data]; exact hlt
        have hi0 : (0 : Int) ≤ (j : Int) := by omega
        have hi1 : (j : Int) < (s.size : Int) := by omega
        cases hp : dgB s[j]
        · have hno := Lib.hid (behN_no dgB s.data.toList j hlt' hp)
          have Hp := Lib.hid hp
          clear hp
          go_wp2_with fail
          go_at_call 40
          refine (within_yes _ _ _ hi0 hi1).mono ?_
          rintro e w' ⟨rfl, rfl⟩
          go_wp2_with fail
          go_at_call 65
          refine (HN.out s[j] _).mono ?_
          rw [Hp.out]
          rintro e w' ⟨rfl, rfl⟩
          go_wp2_with fail
          go_ret
          exact ⟨ret_int (by rw [E.out, ← hj.out, hno.out]), rfl⟩
        · have hyes := Lib.hid (behN_yes dgB s.data.toList j hlt' hp)
          have Hp := Lib.hid hp
          clear hp
          go_wp2_with fail
          go_at_call 40
          refine (within_yes _ _ _ hi0 hi1).mono ?_
          rintro e w' ⟨rfl, rfl⟩
          go_wp2_with fail
          go_at_call 65
          refine (HN.out s[j] _).mono ?_
          rw [Hp.out]
          rintro e w' ⟨rfl, rfl⟩
          go_wp2_with fail
          go_round
          case rel => exact ⟨j + 1, by go_num, Lib.hid (by rw [hyes.out, hj.out])⟩
          case measure => simp [intOf]; omega
      · have hend := Lib.hid (behN_end dgB s.data.toList j (by rw [size_data]; omega))
        go_wp2_with fail
        go_at_call 40
        refine (within_no _ _ _ (.inr (by omega))).mono ?_
        rintro e w' ⟨rfl, rfl⟩
        go_wp2_with fail
        go_ret
        exact ⟨ret_int (by rw [E.out, ← hj.out, hend.out]), rfl⟩
set_option maxHeartbeats 1000000 in
theorem behind_bi (s : ByteArray) (i : Int) (w : World) (hs : s.size ≤ 9223372036854775807) :
    Calls Tryd.prog 21 #[.string s, .int .i64 i, .func (.func 63) #[] #[]] w fun e w' => e = .returned (.int .i64 (behI biB s.data.toList i)) ∧ w = w' := by
  have HN := Lib.hid tells_big
  by_cases h0 : i < 0
  · have e : behI biB s.data.toList i = i := by unfold behI; rw [if_pos h0]
    have E := Lib.hid e
    clear e
    go_enter Tryd.func21, Tryd.ntmps21
    go_wp2_with fail
    go_loop [1] (fun t => t = .int .i64 i) (fun _ => 0)
    case atStart => rfl
    case round =>
      subst hrel
      go_wp2_with fail
      go_at_call 40
      refine (within_no _ _ _ (.inl h0)).mono ?_
      rintro e w' ⟨rfl, rfl⟩
      go_wp2_with fail
      go_ret
      exact ⟨ret_int E.out.symm, rfl⟩
  · obtain ⟨k, rfl⟩ : ∃ k : Nat, i = (k : Int) := ⟨i.toNat, by omega⟩
    obtain ⟨B, hB⟩ : ∃ B, behN biB s.data.toList k = B := ⟨_, rfl⟩
    have e : behI biB s.data.toList (k : Int) = (B : Int) := by unfold behI; rw [if_neg h0, Int.toNat_natCast, hB]
    have E := Lib.hid e
    have HB := Lib.hid hB
    clear e hB h0
    go_enter Tryd.func21, Tryd.ntmps21
    go_wp2_with fail
    go_loop [1] (fun t => ∃ j : Nat, t = .int .i64 j ∧ Hid (behN biB s.data.toList j = B)) (fun t => s.size - (intOf t).toNat)
    case atStart => exact ⟨k, rfl, HB⟩
    case round =>
      obtain ⟨j, rfl, hj⟩ := hrel
      by_cases hlt : j < s.size
      · have hlt' : j < s.data.toList.length := by rw [size_data]; exact hlt
        have hi0 : (0 : Int) ≤ (j : Int) := by omega
        have hi1 : (j : Int) < (s.size : Int) := by omega
        cases hp : biB s[j]
        · have hno := Lib.hid (behN_no biB s.data.toList j hlt' hp)
          have Hp := Lib.hid hp
          clear hp
          go_wp2_with fail
          go_at_call 40
          refine (within_yes _ _ _ hi0 hi1).mono ?_
          rintro e w' ⟨rfl, rfl⟩
          go_wp2_with fail
          go_at_call 63
          refine (HN.out s[j] _).mono ?_
          rw [Hp.out]
          rintro e w' ⟨rfl, rfl⟩
          go_wp2_with fail
          go_ret
          exact ⟨ret_int (by rw [E.out, ← hj.out, hno.out]), rfl⟩
        · have hyes := Lib.hid (behN_yes biB s.data.toList j hlt' hp)
          have Hp := Lib.hid hp
          clear hp
          go_wp2_with fail
          go_at_call 40
          refine (within_yes _ _ _ hi0 hi1).mono ?_
          rintro e w' ⟨rfl, rfl⟩
          go_wp2_with fail
          go_at_call 63
          refine (HN.out s[j] _).mono ?_
          rw [Hp.out]
          rintro e w' ⟨rfl, rfl⟩
          go_wp2_with fail
          go_round
          case rel => exact ⟨j + 1, by go_num, Lib.hid (by rw [hyes.out, hj.out])⟩
          case measure => simp [intOf]; omega
      · have hend := Lib.hid (behN_end biB s.data.toList j (by rw [size_data]; omega))
        go_wp2_with fail
        go_at_call 40
        refine (within_no _ _ _ (.inr (by omega))).mono ?_
        rintro e w' ⟨rfl, rfl⟩
        go_wp2_with fail
        go_ret
        exact ⟨ret_int (by rw [E.out, ← hj.out, hend.out]), rfl⟩
end Go.Proofs.YtlijmflikcjikaaDoor

/-
  Contracts of package scan: Spaces, Blank, Name, Number, Big, IsName.
-/
namespace Go.Proofs.YtlijmflikcjikaaDoor
open Go.RowKit

theorem spaces_any (s : ByteArray) (i : Int) (w : World) (hs : s.size ≤ 9223372036854775807) :
    Calls Tryd.prog 16 #[.string s, .int .i64 i] w fun e w' => e = .returned (.int .i64 (behI spB s.data.toList i)) ∧ w = w' := by
  go_enter Tryd.func16, Tryd.ntmps16
  go_wp2_with (go_at_call 21; refine (behind_sp _ _ _ hs).mono ?_; rintro e w' ⟨rfl, rfl⟩)
  go_ret
  exact ⟨rfl, rfl⟩
theorem blank_any (s : ByteArray) (i : Int) (w : World) (hs : s.size ≤ 9223372036854775807) :
    Calls Tryd.prog 11 #[.string s, .int .i64 i] w fun e w' => e = .returned (.int .i64 (behI blB s.data.toList i)) ∧ w = w' := by
  go_enter Tryd.func11, Tryd.ntmps11
  go_wp2_with (go_at_call 21; refine (behind_bl _ _ _ hs).mono ?_; rintro e w' ⟨rfl, rfl⟩)
  go_ret
  exact ⟨rfl, rfl⟩
/-- The place behind a name. -/
def nameI (l : List UInt8) (i : Int) : Int := if 0 ≤ i ∧ i < l.length ∧ leB (l.getD i.toNat 0) = true then behI naB l i else i
theorem getD_data (s : ByteArray) (j : Nat) (h : j < s.size) : s.data.toList.getD j 0 = s[j] := by
  rw [List.getD_eq_getElem?_getD, List.getElem?_eq_getElem (by rw [size_data]; exact h)]; rfl
set_option maxHeartbeats 1000000 in
theorem name_any (s : ByteArray) (i : Int) (w : World) (hs : s.size ≤ 9223372036854775807) :
    Calls Tryd.prog 50 #[.string s, .int .i64 i] w fun e w' => e = .returned (.int .i64 (nameI s.data.toList i)) ∧ w = w' := by
  by_cases hin : 0 ≤ i ∧ i < s.size
  · obtain ⟨h0, h1⟩ := hin
    obtain ⟨j, rfl⟩ : ∃ j : Nat, i = (j : Int) := ⟨i.toNat, by omega⟩
    have hj : j < s.size := by omega
    cases hl : leB s[j]
    · have e : nameI s.data.toList (j : Int) = j := by
        unfold nameI
        rw [if_neg]
        rintro ⟨_, _, h⟩
        rw [Int.toNat_natCast, getD_data s j hj, hl] at h
        cases h
      have E := Lib.hid e
      have Hl := Lib.hid hl
      clear e hl
      go_enter Tryd.func50, Tryd.ntmps50
      go_wp2_with (first | (go_at_call 40; refine (within_yes _ _ _ h0 h1).mono ?_; rintro e w' ⟨rfl, rfl⟩) | (go_at_call 67; refine (letter_any s[j] _).mono ?_; rw [Hl.out]; rintro e w' ⟨rfl, rfl⟩))
      go_ret
      exact ⟨ret_int E.out.symm, rfl⟩
    · have e : nameI s.data.toList (j : Int) = behI naB s.data.toList j := by
        unfold nameI
        rw [if_pos]
        exact ⟨h0, by rw [size_data]; exact h1, by rw [Int.toNat_natCast, getD_data s j hj, hl]⟩
      have E := Lib.hid e
      have Hl := Lib.hid hl
      clear e hl
      go_enter Tryd.func50, Tryd.ntmps50
      go_wp2_with (first | (go_at_call 40; refine (within_yes _ _ _ h0 h1).mono ?_; rintro e w' ⟨rfl, rfl⟩) | (go_at_call 67; refine (letter_any s[j] _).mono ?_; rw [Hl.out]; rintro e w' ⟨rfl, rfl⟩) | (go_at_call 21; refine (behind_na _ _ _ hs).mono ?_; rintro e w' ⟨rfl, rfl⟩))
      go_ret
      exact ⟨ret_int E.out.symm, rfl⟩
  · have e : nameI s.data.toList i = i := by
      unfold nameI
      rw [if_neg]
      rintro ⟨a, b, _⟩
      rw [size_data] at b
      exact hin ⟨a, b⟩
    have E := Lib.hid e
    clear e
    go_enter Tryd.func50, Tryd.ntmps50
    go_wp2_with (go_at_call 40; refine (within_no _ _ _ (by omega)).mono ?_; rintro e w' ⟨rfl, rfl⟩)
    go_ret
    exact ⟨ret_int E.out.symm, rfl⟩
/-- The place behind a sign that may stand there. -/
def sgnI (l : List UInt8) (c : UInt8) (i : Int) : Int := if 0 ≤ i ∧ i < l.length ∧ l.getD i.toNat 0 = c then i + 1 else i
def numI (l : List UInt8) (i : Int) : Int :=
  if sgnI l 45 i < behI dgB l (sgnI l 45 i) then
    if sgnI l 46 (behI dgB l (sgnI l 45 i)) < behI dgB l (sgnI l 46 (behI dgB l (sgnI l 45 i))) then behI dgB l (sgnI l 46 (behI dgB l (sgnI l 45 i)))
    else behI dgB l (sgnI l 45 i)
  else i
theorem num1_any (s : ByteArray) (c : UInt8) (i : Int) (b : Nat) (w : World) (hs : s.size ≤ 9223372036854775807) (hc : w.cell? ⟨b, 0, none⟩ = some (.string s)) :
    Calls Tryd.prog 69 #[.int .u8 (c.toNat : Int), .int .i64 i, .pointer (some ⟨b, 0, none⟩)] w fun e w' => e = .returned (.tuple #[.int .i64 (behI dgB s.data.toList (sgnI s.data.toList c i)), .bool (decide (sgnI s.data.toList c i < behI dgB s.data.toList (sgnI s.data.toList c i)))]) ∧ w = w' := by
  by_cases hin : 0 ≤ i ∧ i < s.size
  · obtain ⟨h0, h1⟩ := hin
    obtain ⟨j, rfl⟩ : ∃ j : Nat, i = (j : Int) := ⟨i.toNat, by omega⟩
    have hj : j < s.size := by omega
    by_cases hl : s[j] = c
    · have e : sgnI s.data.toList c (j : Int) = j + 1 := by
        unfold sgnI
        rw [if_pos]
        exact ⟨h0, by rw [size_data]; exact h1, by rw [Int.toNat_natCast, getD_data s j hj, hl]⟩
      rw [e]
      clear e
      have hq : ((s[j].toNat : Int) == (c.toNat : Int)) = true := by rw [hl]; simp
      clear hl
      go_enter Tryd.func69, Tryd.ntmps69
      go_wp2_with (first | (go_at_call 40; refine (within_yes _ _ _ h0 h1).mono ?_; rintro e w' ⟨rfl, rfl⟩) | (go_at_call 21; refine (behind_dg _ _ _ hs).mono ?_; rintro e w' ⟨rfl, rfl⟩))
      go_ret2
      exact ⟨rfl, rfl⟩
    · have e : sgnI s.data.toList c (j : Int) = j := by
        unfold sgnI
        rw [if_neg]
        rintro ⟨_, _, h⟩
        rw [Int.toNat_natCast, getD_data s j hj] at h
        exact hl h
      rw [e]
      clear e
      have hq : ((s[j].toNat : Int) == (c.toNat : Int)) = false := by
        apply beq_eq_false_iff_ne.2
        intro h
        exact hl (UInt8.toNat_inj.1 (by omega))
      clear hl
      go_enter Tryd.func69, Tryd.ntmps69
      go_wp2_with (first | (go_at_call 40; refine (within_yes _ _ _ h0 h1).mono ?_; rintro e w' ⟨rfl, rfl⟩) | (go_at_call 21; refine (behind_dg _ _ _ hs).mono ?_; rintro e w' ⟨rfl, rfl⟩))
      go_ret2
      exact ⟨rfl, rfl⟩
  · have e : sgnI s.data.toList c i = i := by
      unfold sgnI
      rw [if_neg]
      rintro ⟨a, b, _⟩
      rw [size_data] at b
      exact hin ⟨a, b⟩
    rw [e]
    clear e
    go_enter Tryd.func69, Tryd.ntmps69
    go_wp2_with (first | (go_at_call 40; refine (within_no _ _ _ (by omega)).mono ?_; rintro e w' ⟨rfl, rfl⟩) | (go_at_call 21; refine (behind_dg _ _ _ hs).mono ?_; rintro e w' ⟨rfl, rfl⟩))
    go_ret2
    exact ⟨rfl, rfl⟩
end Go.Proofs.YtlijmflikcjikaaDoor

/-
  Plain mathematics of package scan: names, numbers, and the longest piece that is so.
-/
namespace Go.Proofs.YtlijmflikcjikaaDoor

def at0 (l : List UInt8) (m : Nat) : UInt8 := l.getD m 0
/-- The piece of a text from i up to k. -/
def pc (l : List UInt8) (i k : Nat) : List UInt8 := (l.take k).drop i
theorem pc_length (l : List UInt8) (i k : Nat) (hk : k ≤ l.length) : (pc l i k).length = k - i := by
  unfold pc; rw [List.length_drop, List.length_take]; omega
theorem pc_at (l : List UInt8) (i k m : Nat) (h : i + m < k) : at0 (pc l i k) m = at0 l (i + m) := by
  unfold at0 pc
  rw [List.getD_eq_getElem?_getD, List.getD_eq_getElem?_getD, List.getElem?_drop, List.getElem?_take_of_lt h]
theorem at0_get (l : List UInt8) (m : Nat) (h : m < l.length) : at0 l m = l[m] := by
  unfold at0; rw [List.getD_eq_getElem?_getD, List.getElem?_eq_getElem h]; rfl
theorem all_at (p : UInt8 → Bool) (l : List UInt8) : l.all p = true ↔ ∀ m, m < l.length → p (at0 l m) = true := by
  rw [List.all_eq_true]
  constructor
  · intro h m hm
    rw [at0_get l m hm]
    exact h _ (List.getElem_mem hm)
  · intro h x hx
    obtain ⟨m, hm, rfl⟩ := List.getElem_of_mem hx
    rw [← at0_get l m hm]
    exact h m hm
theorem behN_in (p : UInt8 → Bool) (l : List UInt8) : ∀ (n k : Nat), l.length - k ≤ n → (∀ m, k ≤ m → m < behN p l k → p (at0 l m) = true) ∧ (behN p l k < l.length → p (at0 l (behN p l k)) = false)
  | 0, k, h => by
    have e := behN_end p l k (by omega)
    rw [e]
    exact ⟨fun m h1 h2 => by omega, fun h1 => by omega⟩
  | n + 1, k, h => by
    by_cases hk : k < l.length
    · cases hp : p l[k]
      · have e := behN_no p l k hk hp
        rw [e]
        exact ⟨fun m h1 h2 => by omega, fun _ => by rw [at0_get l k hk]; exact hp⟩
      · have e := behN_yes p l k hk hp
        obtain ⟨a, b⟩ := behN_in p l n (k + 1) (by omega)
        rw [e] at a b
        refine ⟨fun m h1 h2 => ?_, b⟩
        by_cases hm : m = k
        · subst hm; rw [at0_get l m hk]; exact hp
        · exact a m (by omega) h2
    · have e := behN_end p l k (by omega)
      rw [e]
      exact ⟨fun m h1 h2 => by omega, fun h1 => by omega⟩
theorem behN_so (p : UInt8 → Bool) (l : List UInt8) (k m : Nat) (h1 : k ≤ m) (h2 : m < behN p l k) : p (at0 l m) = true := (behN_in p l _ k (Nat.le_refl _)).1 m h1 h2
theorem behN_stop (p : UInt8 → Bool) (l : List UInt8) (k : Nat) (h : behN p l k < l.length) : p (at0 l (behN p l k)) = false := (behN_in p l _ k (Nat.le_refl _)).2 h

/-- The end of the longest piece from i on that is so, among those that end at n or ahead. -/
def longN (Q : List UInt8 → Bool) (l : List UInt8) (i : Nat) : Nat → Nat
  | 0 => i
  | k + 1 => if i < k + 1 ∧ Q (pc l i (k + 1)) = true then k + 1 else longN Q l i k
theorem longN_eq (Q : List UInt8 → Bool) (l : List UInt8) (i r : Nat) (hr : r = i ∨ (i < r ∧ Q (pc l i r) = true)) : ∀ n, (r ≤ n ∨ r = i) → (∀ k, r < k → k ≤ n → Q (pc l i k) = false) → longN Q l i n = r
  | 0, hn, h => by
    unfold longN
    omega
  | n + 1, hn, h => by
    unfold longN
    by_cases e : r = n + 1
    · subst e
      rcases hr with hr | ⟨h1, h2⟩
      · rw [if_neg (by omega)]
        exact longN_eq Q l i (n + 1) (.inl hr) n (.inr hr) (fun k a b => by omega)
      · rw [if_pos ⟨h1, h2⟩]
    · by_cases hlt : r < n + 1
      · rw [if_neg]
        · exact longN_eq Q l i r hr n (by omega) (fun k a b => h k a (by omega))
        · rintro ⟨_, hq⟩
          rw [h (n + 1) hlt (Nat.le_refl _)] at hq
          cases hq
      · have hi : r = i := by omega
        rw [if_neg (by omega)]
        exact longN_eq Q l i r hr n (.inr hi) (fun k a b => by omega)
/-- .. of any place. -/
def longI (Q : List UInt8 → Bool) (l : List UInt8) (i : Int) : Int := if i < 0 ∨ (l.length : Int) < i then i else (longN Q l i.toNat l.length : Int)

theorem long_all (p : UInt8 → Bool) (l : List UInt8) (i : Nat) (hi : i ≤ l.length) : longN (fun x => x.all p) l i l.length = behN p l i := by
  have h1 := behN_ge p l i
  have h2 := behN_le p l i hi
  apply longN_eq
  · by_cases e : behN p l i = i
    · exact .inl e
    · right
      refine ⟨by omega, (all_at _ _).2 fun m hm => ?_⟩
      rw [pc_length l i _ h2] at hm
      rw [pc_at l i _ m (by omega)]
      exact behN_so p l i _ (by omega) (by omega)
  · exact .inl h2
  · intro k hk hkn
    apply Bool.eq_false_iff.2
    intro hq
    have hq := (all_at _ _).1 hq (behN p l i - i) (by rw [pc_length l i k hkn]; omega)
    rw [pc_at l i k _ (by omega), show i + (behN p l i - i) = behN p l i by omega, behN_stop p l i (by omega)] at hq
    cases hq
theorem longI_all (p : UInt8 → Bool) (l : List UInt8) (i : Int) : longI (fun x => x.all p) l i = behI p l i := by
  unfold longI behI
  by_cases h0 : i < 0
  · rw [if_pos (.inl h0), if_pos h0]
  · rw [if_neg h0]
    by_cases h1 : (l.length : Int) < i
    · rw [if_pos (.inr h1), behN_end _ _ _ (by omega)]; omega
    · rw [if_neg (by omega), long_all p l _ (by omega)]

/-- A name, as the law reads it: sign by sign. -/
def goodAt (l : List UInt8) (k : Nat) : Bool := leB (at0 l k) || (decide (0 < k) && (dgB (at0 l k) || joB (at0 l k)))
def lnameB (l : List UInt8) : Bool := decide (0 < l.length ∧ ∀ k, k < l.length → goodAt l k = true)
theorem good_na {l : List UInt8} {k : Nat} (h : goodAt l k = true) : naB (at0 l k) = true := by
  unfold goodAt at h; unfold naB
  cases h1 : leB (at0 l k) <;> cases h2 : dgB (at0 l k) <;> cases h3 : joB (at0 l k) <;> simp_all
theorem na_good {l : List UInt8} {k : Nat} (hk : 0 < k) (h : naB (at0 l k) = true) : goodAt l k = true := by
  unfold naB at h; unfold goodAt
  cases h1 : leB (at0 l k) <;> cases h2 : dgB (at0 l k) <;> cases h3 : joB (at0 l k) <;> simp_all
theorem le_good {l : List UInt8} {k : Nat} (h : leB (at0 l k) = true) : goodAt l k = true := by
  unfold goodAt; rw [h]; rfl
theorem good_zero {l : List UInt8} (h : goodAt l 0 = true) : leB (at0 l 0) = true := by
  unfold goodAt at h; simpa using h
theorem le_na {c : UInt8} (h : leB c = true) : naB c = true := by unfold naB; rw [h]; rfl
theorem lname_iff (l : List UInt8) (i k : Nat) (hk : k ≤ l.length) : lnameB (pc l i k) = true ↔ (i < k ∧ leB (at0 l i) = true ∧ ∀ m, i ≤ m → m < k → naB (at0 l m) = true) := by
  unfold lnameB
  rw [decide_eq_true_iff, pc_length l i k hk]
  constructor
  · rintro ⟨h1, h2⟩
    refine ⟨by omega, ?_, ?_⟩
    · have := good_zero (h2 0 h1)
      rw [pc_at l i k 0 (by omega)] at this
      exact this
    · intro m hm hmk
      have := good_na (h2 (m - i) (by omega))
      rw [pc_at l i k _ (by omega), show i + (m - i) = m by omega] at this
      exact this
  · rintro ⟨h1, h2, h3⟩
    refine ⟨by omega, fun m hm => ?_⟩
    by_cases e : m = 0
    · subst e
      apply le_good
      rw [pc_at l i k 0 (by omega)]
      exact h2
    · apply na_good (by omega)
      rw [pc_at l i k m (by omega)]
      exact h3 _ (by omega) (by omega)
theorem long_name (l : List UInt8) (i : Nat) (hi : i ≤ l.length) : longN lnameB l i l.length = if i < l.length ∧ leB (at0 l i) = true then behN naB l i else i := by
  have h1 := behN_ge naB l i
  have h2 := behN_le naB l i hi
  by_cases hc : i < l.length ∧ leB (at0 l i) = true
  · rw [if_pos hc]
    have h3 : i < behN naB l i := by
      rw [← behN_yes naB l i hc.1 (by rw [← at0_get l i hc.1]; exact le_na hc.2)]
      exact behN_ge naB l (i + 1)
    apply longN_eq
    · exact .inr ⟨h3, (lname_iff l i _ h2).2 ⟨h3, hc.2, fun m a b => behN_so naB l i m a b⟩⟩
    · exact .inl h2
    · intro k hk hkn
      apply Bool.eq_false_iff.2
      intro hq
      have hq := ((lname_iff l i k hkn).1 hq).2.2 (behN naB l i) h1 hk
      rw [behN_stop naB l i (by omega)] at hq
      cases hq
  · rw [if_neg hc]
    apply longN_eq
    · exact .inl rfl
    · exact .inr rfl
    · intro k hk hkn
      apply Bool.eq_false_iff.2
      intro hq
      have hq := (lname_iff l i k hkn).1 hq
      exact hc ⟨by omega, hq.2.1⟩
end Go.Proofs.YtlijmflikcjikaaDoor

/-
  Plain mathematics of package scan: numbers, as the law reads them, and the longest one.
-/
namespace Go.Proofs.YtlijmflikcjikaaDoor
set_option linter.unusedVariables false

def ptAt (t : List UInt8) (m : Nat) : Bool := decide (at0 t m = 46 ∧ 0 < m ∧ m + 1 < t.length)
def okAt (t : List UInt8) (m : Nat) : Bool := ptAt t m || dgB (at0 t m)
def cntP (t : List UInt8) : Nat → Nat
  | 0 => 0
  | m + 1 => cntP t m + if ptAt t m = true then 1 else 0
def numB (t : List UInt8) : Bool := decide (0 < t.length ∧ (∀ m, m < t.length → okAt t m = true) ∧ cntP t t.length ≤ 1)
def strip (x : List UInt8) : List UInt8 := if at0 x 0 = 45 then x.drop 1 else x
def lnumB (x : List UInt8) : Bool := numB (strip x)
theorem cnt_mono (t : List UInt8) : ∀ (n m : Nat), m ≤ n → cntP t m ≤ cntP t n
  | 0, m, h => by rw [show m = 0 by omega]; exact Nat.le_refl _
  | n + 1, m, h => by
    by_cases e : m = n + 1
    · rw [e]; exact Nat.le_refl _
    · have := cnt_mono t n m (by omega)
      rw [cntP]; omega
theorem cnt_two (t : List UInt8) (p q n : Nat) (hpq : p < q) (hq : q < n) (h1 : ptAt t p = true) (h2 : ptAt t q = true) : 2 ≤ cntP t n := by
  have a := cnt_mono t n (q + 1) (by omega)
  have b := cnt_mono t q (p + 1) (by omega)
  rw [cntP, if_pos h2] at a
  rw [cntP, if_pos h1] at b
  omega
theorem cnt_none (t : List UInt8) : ∀ n, (∀ m, m < n → ptAt t m = false) → cntP t n = 0
  | 0, _ => rfl
  | n + 1, h => by
    rw [cntP, cnt_none t n (fun m hm => h m (by omega)), if_neg (by rw [h n (by omega)]; decide)]
theorem cnt_one (t : List UInt8) (p : Nat) : ∀ n, (∀ m, m < n → m ≠ p → ptAt t m = false) → cntP t n ≤ 1
  | 0, _ => by rw [cntP]; omega
  | n + 1, h => by
    rw [cntP]
    by_cases e : n = p
    · subst e
      rw [cnt_none t n (fun m hm => h m (by omega) (by omega))]
      split <;> omega
    · have := cnt_one t p n (fun m hm => h m (by omega))
      rw [if_neg (by rw [h n (by omega) e]; decide)]
      omega
theorem dg_46 : dgB 46 = false := by decide
theorem dg_45 : dgB 45 = false := by decide

/-- A piece behind its sign: the piece from a on. -/
theorem strip_pc (l : List UInt8) (i k : Nat) (hik : i < k) (hk : k ≤ l.length) : strip (pc l i k) = pc l (if at0 l i = 45 then i + 1 else i) k := by
  unfold strip
  rw [pc_at l i k 0 (by omega), Nat.add_zero]
  split
  · unfold pc; rw [List.drop_drop]
  · rfl
section
variable (l : List UInt8) (a k : Nat) (hk : k ≤ l.length)
include hk
theorem pt_pc (m : Nat) (h : a + m < k) : ptAt (pc l a k) m = decide (at0 l (a + m) = 46 ∧ 0 < m ∧ a + m + 1 < k) := by
  unfold ptAt
  rw [pc_at l a k m h, pc_length l a k hk]
  congr 1
  apply propext
  constructor
  · rintro ⟨x, y, z⟩; exact ⟨x, y, by omega⟩
  · rintro ⟨x, y, z⟩; exact ⟨x, y, by omega⟩
theorem ok_pc (m : Nat) (h : a + m < k) : okAt (pc l a k) m = (decide (at0 l (a + m) = 46 ∧ 0 < m ∧ a + m + 1 < k) || dgB (at0 l (a + m))) := by
  unfold okAt
  rw [pt_pc l a k hk m h, pc_at l a k m h]
/-- Digits alone. -/
theorem num_digits (h : a < k) (hd : ∀ m, a ≤ m → m < k → dgB (at0 l m) = true) : numB (pc l a k) = true := by
  unfold numB
  rw [decide_eq_true_iff, pc_length l a k hk]
  refine ⟨by omega, fun m hm => ?_, ?_⟩
  · rw [ok_pc l a k hk m (by omega), hd _ (by omega) (by omega)]; simp
  · rw [cnt_none]
    · omega
    · intro m hm
      rw [pt_pc l a k hk m (by omega)]
      apply decide_eq_false
      rintro ⟨x, _, _⟩
      have := hd (a + m) (by omega) (by omega)
      rw [x, dg_46] at this
      cases this
/-- Digits, a point, digits. -/
theorem num_point (e : Nat) (hae : a < e) (hek : e + 1 < k) (hp : at0 l e = 46) (hd1 : ∀ m, a ≤ m → m < e → dgB (at0 l m) = true) (hd2 : ∀ m, e + 1 ≤ m → m < k → dgB (at0 l m) = true) : numB (pc l a k) = true := by
  unfold numB
  rw [decide_eq_true_iff, pc_length l a k hk]
  have hdg : ∀ m, a ≤ m → m < k → m ≠ e → dgB (at0 l m) = true := fun m h1 h2 h3 => by
    by_cases h : m < e
    · exact hd1 m h1 h
    · exact hd2 m (by omega) h2
  refine ⟨by omega, fun m hm => ?_, ?_⟩
  · rw [ok_pc l a k hk m (by omega)]
    by_cases h : a + m = e
    · rw [decide_eq_true ⟨by rw [h]; exact hp, by omega, by omega⟩]; rfl
    · rw [hdg _ (by omega) (by omega) h]; simp
  · apply cnt_one _ (e - a)
    intro m hm hne
    rw [pt_pc l a k hk m (by omega)]
    apply decide_eq_false
    rintro ⟨x, _, _⟩
    have := hdg (a + m) (by omega) (by omega) (by omega)
    rw [x, dg_46] at this
    cases this
/-- What is none: a sign that is neither a digit nor a point where one may be. -/
theorem num_bad (p : Nat) (h1 : a ≤ p) (h2 : p < k) (hd : dgB (at0 l p) = false) (hn : ¬ (at0 l p = 46 ∧ a < p ∧ p + 1 < k)) : numB (pc l a k) = false := by
  unfold numB
  apply decide_eq_false
  rintro ⟨_, h, _⟩
  rw [pc_length l a k hk] at h
  have := h (p - a) (by omega)
  rw [ok_pc l a k hk _ (by omega), show a + (p - a) = p by omega, hd, Bool.or_false, decide_eq_true_iff] at this
  exact hn ⟨this.1, by omega, this.2.2⟩
/-- .. or two points. -/
theorem num_two (p q : Nat) (h1 : a < p) (hpq : p < q) (h2 : q < k) (hp : at0 l p = 46) (hd : dgB (at0 l q) = false) : numB (pc l a k) = false := by
  by_cases hq : at0 l q = 46 ∧ a < q ∧ q + 1 < k
  · unfold numB
    apply decide_eq_false
    rintro ⟨_, _, h⟩
    rw [pc_length l a k hk] at h
    have := cnt_two (pc l a k) (p - a) (q - a) (k - a) (by omega) (by omega) (by
      rw [pt_pc l a k hk _ (by omega), show a + (p - a) = p by omega]
      exact decide_eq_true ⟨hp, by omega, by omega⟩) (by
      rw [pt_pc l a k hk _ (by omega), show a + (q - a) = q by omega]
      exact decide_eq_true ⟨hq.1, by omega, by omega⟩)
    omega
  · exact num_bad l a k hk q (by omega) h2 hd hq
omit hk in
theorem num_empty (h : k ≤ a) : numB (pc l a k) = false := by
  unfold numB
  apply decide_eq_false
  rintro ⟨h0, _⟩
  have : (pc l a k).length = 0 := by unfold pc; rw [List.length_drop, List.length_take]; omega
  omega
end
/-- The place behind the longest number: as the program tells it, over places from 0 on. -/
def numN (l : List UInt8) (i : Nat) : Nat :=
  let a := if i < l.length ∧ at0 l i = 45 then i + 1 else i
  let e := behN dgB l a
  let b := if e < l.length ∧ at0 l e = 46 then e + 1 else e
  let e2 := behN dgB l b
  if a < e then (if b < e2 then e2 else e) else i
theorem long_num (l : List UInt8) (i : Nat) (hi : i ≤ l.length) : longN lnumB l i l.length = numN l i := by
  have hstrip : ∀ k, i < k → k ≤ l.length → lnumB (pc l i k) = numB (pc l (if i < l.length ∧ at0 l i = 45 then i + 1 else i) k) := by
    intro k h1 h2
    unfold lnumB
    rw [strip_pc l i k h1 h2]
    by_cases h : at0 l i = 45
    · rw [if_pos h, if_pos ⟨by omega, h⟩]
    · rw [if_neg h, if_neg (fun x => h x.2)]
  unfold numN
  dsimp only
  have hia : i ≤ (if i < l.length ∧ at0 l i = 45 then i + 1 else i) ∧ (if i < l.length ∧ at0 l i = 45 then i + 1 else i) ≤ l.length := by split <;> omega
  generalize (if i < l.length ∧ at0 l i = 45 then i + 1 else i) = a at *
  have he1 := behN_ge dgB l a
  have he2 := behN_le dgB l a hia.2
  have hso := behN_so dgB l a
  have hst := behN_stop dgB l a
  generalize behN dgB l a = e at *
  by_cases hae : a < e
  · rw [if_pos hae]
    by_cases hpt : e < l.length ∧ at0 l e = 46
    · rw [if_pos hpt]
      have hf1 := behN_ge dgB l (e + 1)
      have hf2 := behN_le dgB l (e + 1) (by omega)
      have hso2 := behN_so dgB l (e + 1)
      have hst2 := behN_stop dgB l (e + 1)
      generalize behN dgB l (e + 1) = e2 at *
      by_cases hb : e + 1 < e2
      · rw [if_pos hb]
        apply longN_eq
        · exact .inr ⟨by omega, by rw [hstrip _ (by omega) hf2]; exact num_point l a e2 hf2 e hae hb hpt.2 hso (fun m x y => hso2 m x y)⟩
        · exact .inl hf2
        · intro k h1 h2
          rw [hstrip k (by omega) h2]
          exact num_two l a k h2 e e2 hae (by omega) h1 hpt.2 (hst2 (by omega))
      · rw [if_neg hb]
        have e2e : e2 = e + 1 := by omega
        subst e2e
        apply longN_eq
        · exact .inr ⟨by omega, by rw [hstrip _ (by omega) he2]; exact num_digits l a e he2 hae hso⟩
        · exact .inl he2
        · intro k h1 h2
          rw [hstrip k (by omega) h2]
          by_cases hk1 : k = e + 1
          · exact num_bad l a k h2 e (by omega) h1 (hst (by omega)) (by omega)
          · exact num_two l a k h2 e (e + 1) hae (by omega) (by omega) hpt.2 (hst2 (by omega))
    · rw [if_neg hpt]
      have hb : behN dgB l e = e := by
        by_cases h : e < l.length
        · exact behN_no dgB l e h (by rw [← at0_get l e h]; exact hst h)
        · exact behN_end dgB l e (by omega)
      rw [hb, if_neg (by omega)]
      apply longN_eq
      · exact .inr ⟨by omega, by rw [hstrip _ (by omega) he2]; exact num_digits l a e he2 hae hso⟩
      · exact .inl he2
      · intro k h1 h2
        rw [hstrip k (by omega) h2]
        exact num_bad l a k h2 e (by omega) h1 (hst (by omega)) (fun h => hpt ⟨by omega, h.1⟩)
  · rw [if_neg hae]
    apply longN_eq
    · exact .inl rfl
    · exact .inr rfl
    · intro k h1 h2
      rw [hstrip k h1 h2]
      have : e = a := by omega
      subst this
      by_cases hka : k ≤ e
      · exact num_empty l e k hka
      · exact num_bad l e k h2 e (Nat.le_refl _) (by omega) (hst (by omega)) (by omega)

theorem longI_lo (Q : List UInt8 → Bool) (l : List UInt8) (i : Int) (h : i < 0) : longI Q l i = i := by unfold longI; rw [if_pos (.inl h)]
theorem longI_hi (Q : List UInt8 → Bool) (l : List UInt8) (i : Int) (h : (l.length : Int) < i) : longI Q l i = i := by unfold longI; rw [if_pos (.inr h)]
theorem longI_mid (Q : List UInt8 → Bool) (l : List UInt8) (k : Nat) (h : k ≤ l.length) : longI Q l (k : Int) = (longN Q l k l.length : Int) := by
  unfold longI; rw [if_neg (by omega), Int.toNat_natCast]
theorem sgn_nat (l : List UInt8) (c : UInt8) (k : Nat) : sgnI l c (k : Int) = ((if k < l.length ∧ at0 l k = c then k + 1 else k : Nat) : Int) := by
  unfold sgnI at0
  rw [Int.toNat_natCast]
  by_cases h : k < l.length ∧ l.getD k 0 = c
  · rw [if_pos h, if_pos ⟨by omega, by omega, h.2⟩]; rfl
  · rw [if_neg h, if_neg (fun x => h ⟨by omega, x.2.2⟩)]
theorem behI_nat (p : UInt8 → Bool) (l : List UInt8) (k : Nat) : behI p l (k : Int) = (behN p l k : Int) := by
  unfold behI
  rw [if_neg (by omega), Int.toNat_natCast]
theorem numI_nat (l : List UInt8) (k : Nat) : numI l (k : Int) = (numN l k : Int) := by
  unfold numI numN
  dsimp only
  rw [sgn_nat, behI_nat, sgn_nat, behI_nat]
  generalize (if k < l.length ∧ at0 l k = 45 then k + 1 else k) = a
  generalize behN dgB l a = e
  generalize (if e < l.length ∧ at0 l e = 46 then e + 1 else e) = b
  generalize behN dgB l b = e2
  by_cases h1 : a < e
  · by_cases h2 : b < e2
    · rw [if_pos (by omega), if_pos (by omega), if_pos h1, if_pos h2]
    · rw [if_pos (by omega), if_neg (by omega), if_pos h1, if_neg h2]
  · rw [if_neg (by omega), if_neg h1]
theorem numI_long (l : List UInt8) (i : Int) : numI l i = longI lnumB l i := by
  by_cases h0 : i < 0
  · rw [longI_lo _ _ _ h0]
    unfold numI
    have e1 : sgnI l 45 i = i := by unfold sgnI; rw [if_neg (by omega)]
    have e2 : behI dgB l i = i := by unfold behI; rw [if_pos h0]
    rw [e1, e2, if_neg (by omega)]
  · obtain ⟨k, rfl⟩ : ∃ k : Nat, i = (k : Int) := ⟨i.toNat, by omega⟩
    by_cases h1 : l.length < k
    · rw [longI_hi _ _ _ (by omega), numI_nat]
      unfold numN
      dsimp only
      have e1 : (if k < l.length ∧ at0 l k = 45 then k + 1 else k) = k := by rw [if_neg (by omega)]
      rw [e1, behN_end dgB l k (by omega), if_neg (by omega)]
    · rw [longI_mid _ _ _ (by omega), numI_nat, long_num l k (by omega)]
theorem nameI_long (l : List UInt8) (i : Int) : nameI l i = longI lnameB l i := by
  by_cases h0 : i < 0
  · rw [longI_lo _ _ _ h0]
    unfold nameI
    rw [if_neg (by omega)]
  · obtain ⟨k, rfl⟩ : ∃ k : Nat, i = (k : Int) := ⟨i.toNat, by omega⟩
    by_cases h1 : l.length < k
    · rw [longI_hi _ _ _ (by omega)]
      unfold nameI
      rw [if_neg (by omega)]
    · rw [longI_mid _ _ _ (by omega), long_name l k (by omega)]
      unfold nameI
      rw [Int.toNat_natCast, behI_nat]
      by_cases h : k < l.length ∧ leB (at0 l k) = true
      · have h' : (0 : Int) ≤ (k : Int) ∧ (k : Int) < l.length ∧ leB (l.getD k 0) = true := ⟨by omega, by omega, h.2⟩
        rw [if_pos h', if_pos h]
      · have h' : ¬ ((0 : Int) ≤ (k : Int) ∧ (k : Int) < l.length ∧ leB (l.getD k 0) = true) := fun x => h ⟨by omega, x.2.2⟩
        rw [if_neg h', if_neg h]
end Go.Proofs.YtlijmflikcjikaaDoor
