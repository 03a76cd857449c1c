/-
  Several texts put together (part 1): what the law and the program call, walked; their contracts.
-/
import Derived.Test.YtmceblemiboedaaDoorRows
import Derived.WalkKit
import Derived.ProofKit
import Derived.OpenShut
import Derived.ShutString
import Derived.Deep.DeepHandedRow
import Derived.Lib.LaidTab
import Derived.LaidSub
import Derived.MakeChecks
import Derived.PinnedBridge
import Derived.Test.YtmceblemiboedaaDoorProg
import Derived.Lib.SmallJoins
import Derived.WalkSpells
import Derived.WalkLawsBesides
import Derived.Outline
import Derived.Lib.Hide
import Derived.Below
import Derived.Lib.Strings
import Derived.Lib.OthersKept
import Derived.Lib.OwnKind
import Derived.Lib.Builder
import Derived.WalkSmall
import Derived.OneCell
import Derived.Laws.EntriesVeiled
import Derived.Lib.ValidU
/-
  The frame of a law's proof over this program: what a law's row asks behind the call, out of 'Below' alone; a world for the witness with the program's tables laid.
-/
namespace Go.Proofs.YtmceblemiboedaaDoor
open Go.ChangeShapes Go.WideShapes Go.ChangeAt Go.RowKit
set_option maxRecDepth 100000

theorem ownKnobNone : ownKnob Tryd.prog.godebug = none := by kernel_rfl
theorem laidOutYes : laidOutB Tryd.prog = true := by kernel_rfl

section
variable {H : Type} {enc : TypeId × Value → H} {P : Program}
/-- The arguments read as they did: only blocks of the call's own are new or written. -/
theorem readsOn (hl : laidOutB P = true) {W W' : World} (hb : Below W.heap.size W W') : ∀ (ts : List TypeId) (vs : List Value) (ds : List (DataW H)) (ps : List MemPlace),
    (∀ t ∈ ts, P.readableRec t = true ∧ t < P.types.size) → (∀ p ∈ ps, p.block < W.heap.size) →
    DataW.TrodAll enc P W 0 (fun _ => true) true ts vs ds ps → DataW.TrodAll enc P W' 0 (fun b => decide (b < W.heap.size)) true ts vs ds ps
  | [], vs, ds, ps, _, _, h => by
    obtain ⟨rfl, rfl, rfl⟩ := trodAll_nil h
    exact trodAll_mk0
  | t :: ts, vs, ds, ps, hts, hps, h => by
    obtain ⟨v, vs', d, ds', p, q, rfl, rfl, rfl, h0, h1⟩ := trodAll_cons h
    have ht := hts t (List.mem_cons_self ..)
    exact trodAll_cons_mk (Below.trod hl ht.1 ht.2 h0 hb fun x hx => hps x (List.mem_append_left _ hx))
      (readsOn hl hb ts vs' ds' q (fun u hu => hts u (List.mem_cons_of_mem _ hu)) (fun x hx => hps x (List.mem_append_right _ hx)) h1)

/-- What a law's row asks behind the call. -/
theorem lawPost (hl : laidOutB P = true) {f : Func} {s : ChangeSpec} {W W' : World} {args : Array Value} {ds gs : List (DataW H)} {before : List MemPlace} {tb : TypeId}
    (hW : DataW.Whole enc P f.params.toList s.vars false W args.toList ds gs before) (hv : s.vars = []) (hfn : s.fn H (ds ++ gs) = { results := [.lit (.bool true)], args := ds })
    (hrt : f.resultTypes = #[tb]) (htb : P.underlying tb = some .bool) (hpar : ∀ t ∈ f.params.toList, P.readableRec t = true ∧ t < P.types.size) (hb : Below W.heap.size W W') :
    s.post enc P f false true false false W args (.bool true) W' := by
  have hlt := hW.lt
  have hWhole := hW
  obtain ⟨p, q, hA, hV, rfl, _, _⟩ := hW
  rw [hv] at hV
  obtain ⟨rfl, rfl⟩ := trodVars_none hV
  rw [List.append_nil] at hlt
  refine ⟨ds, [], p ++ [], [], p, [], hWhole, ?_, ?_, ?_, hb.frame _, fun h => by cases h⟩
  · rw [hfn, hrt]
    exact trodAll_cons_mk (shut_bool htb true) trodAll_mk0
  · rw [hfn]
    exact readsOn hl hb _ _ _ _ hpar hlt hA
  · rw [hfn, hv]
    rfl
end

/-- A table of integers listed in a row is in the world. -/
theorem tab_of_laid {l : List (String × DataW Unit)} {W : World} (h : laidMetH Tryd.prog l W) (name : String) {k : IntKind} {zs : List Int} {g : Nat} {t e : TypeId} {n : Nat}
    (hf : (l.filter fun x => x.1 == name) = [(name, Lib.tabData k zs)]) (hh : ([(name, (Lib.tabData k zs : DataW Unit))].all fun x => x.2.handleName?.isNone) = true)
    (hg : Tryd.prog.globalNamed name = some g) (hty : (Tryd.prog.globals[g]?).map (·.type) = some t) (ht : Tryd.prog.underlying t = some (.array n e)) (he : Tryd.prog.underlying e = some (.int k)) (hce : Tryd.prog.cellsOf e = 1) (hct : Tryd.prog.cellsOf t = n) :
    Lib.TabIs Tryd.prog W name k zs := by
  have h1 := h.filter fun x => x.1 == name
  rw [hf] at h1
  have h2 := (laidMetH_iff.1 h1).1
  rw [show ([(name, (Lib.tabData k zs : DataW Unit))].filter fun x => x.2.handleName?.isNone) = [(name, Lib.tabData k zs)] from by
    rw [List.filter_eq_self]; exact List.all_eq_true.1 hh] at h2
  exact Lib.tabIs_of_head hg hty ht he hce hct h2

/-- The cells of the tables that the program's text lays, block by block: for a witness. -/
def tabCells (k : IntKind) (l : List Nat) : Array Value := (l.map fun n => Value.int k (Int.ofNat n)).toArray
def witnessTabs : List (Nat × Array Value) := [
 (0, tabCells .u8 Pinned.utf8FirstZ),
 (1, tabCells .u8 [128, 191, 160, 191, 128, 159, 144, 191, 128, 143, 0, 0, 0, 0, 0, 0, 0, 0, 0, 0, 0, 0, 0, 0, 0, 0, 0, 0, 0, 0, 0, 0]),
  (1000000, #[])]
def putCells (cs : Array Value) : Obj → Obj
  | .cells _ t frozen => .cells cs t frozen
  | o => o
noncomputable def laidWorld (os : Os) : World :=
  { World.holding Tryd.prog os ⟨#[], #[], []⟩ with heap := witnessTabs.foldl (fun h x => h.modify x.1 (putCells x.2)) (World.holding Tryd.prog os ⟨#[], #[], []⟩).heap }
end Go.Proofs.YtmceblemiboedaaDoor

namespace Go.Proofs.YtmceblemiboedaaDoor
open Go.RowKit

theorem size_data (s : ByteArray) : s.data.toList.length = s.size := by simp
theorem head_data (s : ByteArray) (h : 0 < s.size) : s.data.toList.head? = some s[0] := by
  rw [List.head?_eq_getElem?]
  rw [List.getElem?_eq_getElem (by simpa using h)]; rfl
theorem size_mk (l : List UInt8) : (⟨l.toArray⟩ : ByteArray).size = l.length := by show l.toArray.size = _; simp
theorem bcell {W w1 : World} (hb : Below W.heap.size W w1) : (∀ b o, b < W.heap.size → w1.cell? ⟨b, o, none⟩ = W.cell? ⟨b, o, none⟩) ∧ (∀ b o, b < W.heap.size → w1.frozen? ⟨b, o, none⟩ = W.frozen? ⟨b, o, none⟩) :=
  ⟨fun b o h => hb.cell (p := ⟨b, o, none⟩) h, fun b o h => hb.frozen (p := ⟨b, o, none⟩) h⟩
theorem dropWhile_le {α : Type} (p : α → Bool) : ∀ l : List α, (l.dropWhile p).length ≤ l.length
  | [] => by simp
  | x :: l => by
    rw [List.dropWhile_cons]
    split
    · have := dropWhile_le p l; simp only [List.length_cons]; omega
    · exact Nat.le_refl _
theorem extract_take (a : ByteArray) (k : Nat) : (a.extract 0 k).data.toList = a.data.toList.take k := by
  rw [Lib.extract_data]; simp
theorem bytes_eq {a b : ByteArray} (h : a.data.toList = b.data.toList) : a = b := by
  cases a; cases b; simp at h; rw [h]

theorem extract_drop (a : ByteArray) (k : Nat) : (a.extract k a.size).data.toList = a.data.toList.drop k := by
  rw [Lib.extract_data, ← size_data a, List.take_of_length_le (by simp)]

/-- A struct of three fields stored into a block of the call's own. -/
theorem Below.set3 {B : Nat} {a w : World} (h : Below B a w) {b : Nat} (hb : B ≤ b) (x y z : Value) : Below B a (((w.setCell ⟨b, 0, none⟩ x).setCell ⟨b, 1, none⟩ y).setCell ⟨b, 2, none⟩ z) :=
  ((h.setCell (p := ⟨b, 0, none⟩) hb _).setCell (p := ⟨b, 1, none⟩) hb _).setCell (p := ⟨b, 2, none⟩) hb _
theorem below_box {w w1 : World} {o : Obj} (h : Below (w.alloc o).heap.size (w.alloc o) w1) : Below w.heap.size w w1 :=
  ((Below.refl _ _).alloc (Nat.le_refl _) _).trans (h.mono (by simp))
theorem below_box2 {w w1 : World} {o o' : Obj} (h : Below ((w.alloc o).alloc o').heap.size ((w.alloc o).alloc o') w1) : Below w.heap.size w w1 :=
  (((Below.refl _ _).alloc (Nat.le_refl _) _).alloc (by simp) _).trans (h.mono (by simp; omega))
theorem below_new {B : Nat} {w W : World} (h : Below B w W) (hB : B ≤ w.heap.size) (o : Obj) : Below B w (W.alloc o) := h.alloc (Nat.le_trans hB h.size) o
theorem below_then {B : Nat} {w w1 w2 : World} (h : Below B w w1) (hB : B ≤ w.heap.size) (h2 : Below w1.heap.size w1 w2) : Below B w w2 :=
  h.trans (h2.mono (Nat.le_trans hB h.size))
theorem ret_bool {a b : Bool} (h : a = b) : Ending.returned (.bool a) = .returned (.bool b) := by rw [h]
theorem ret_int {k : IntKind} {a b : Int} (h : a = b) : Ending.returned (.int k a) = .returned (.int k b) := by rw [h]
theorem ret_str {a b : ByteArray} (h : a = b) : Ending.returned (.string a) = .returned (.string b) := by rw [h]
theorem take_succ (s : ByteArray) (k : Nat) (h : k < s.size) : s.data.toList.take (k + 1) = s.data.toList.take k ++ [s[k]] := by
  rw [List.take_succ_eq_append_getElem (by simpa using h)]; rfl

end Go.Proofs.YtmceblemiboedaaDoor

/-
  Package ast: the list of what is still to be asked: 'later'.
-/
namespace Go.Proofs.YtmceblemiboedaaDoor
open Go.RowKit
set_option linter.unusedVariables false

/-- What a call does to memory that may put questions off: below B nothing, and of what there is nothing but the list's own. -/
structure StepQ (B qb : Nat) (w w' : World) : Prop where
  below : Below B w w'
  kept : Lib.OthersKept 27 (some qb) w w'
theorem StepQ.refl (B qb : Nat) (w : World) : StepQ B qb w w := ⟨Below.refl _ _, Lib.OthersKept.refl _ _ _⟩
theorem StepQ.trans {B qb : Nat} {a b c : World} (h : StepQ B qb a b) (k : StepQ B qb b c) : StepQ B qb a c := ⟨h.below.trans k.below, h.kept.trans k.kept⟩
theorem StepQ.alloc {B qb : Nat} {a w : World} (h : StepQ B qb a w) (hB : B ≤ w.heap.size) (o : Obj) : StepQ B qb a (w.alloc o) := ⟨h.below.alloc hB o, h.kept.alloc o⟩
theorem StepQ.drew {B qb : Nat} {a w : World} (h : StepQ B qb a w) : StepQ B qb a w.drew := ⟨h.below.drew, h.kept.drew⟩
theorem StepQ.size {B qb : Nat} {a w : World} (h : StepQ B qb a w) : a.heap.size ≤ w.heap.size := h.below.size
/-- A block of the call's own, or of anything's, that is no list's. -/
def BoxAt (w : World) (k : Nat) (cs : Array Value) (t : TypeId) : Prop := w.heap[k]? = some (.cells cs t (0, 0))
theorem BoxAt.lt {w : World} {k : Nat} {cs : Array Value} {t : TypeId} (h : BoxAt w k cs t) : k < w.heap.size := (Array.getElem?_eq_some_iff.1 h).1
theorem BoxAt.step {B qb : Nat} {w w' : World} {k : Nat} {cs : Array Value} {t : TypeId} (h : BoxAt w k cs t) (hs : StepQ B qb w w') (hk : k ≠ qb) (ht : t ≠ 27) : BoxAt w' k cs t :=
  hs.kept k _ h (by intro e; exact hk (Option.some.inj e)) (by intro c fz e; cases e; exact ht rfl)
theorem BoxAt.cell {w : World} {k : Nat} {cs : Array Value} {t : TypeId} (h : BoxAt w k cs t) (o : Nat) : w.cell? ⟨k, o, none⟩ = cs[o]? := by
  rw [Lib.cell_of_heap h]
theorem BoxAt.new (w : World) (cs : Array Value) (t : TypeId) : BoxAt (w.alloc (.cells cs t)) w.heap.size cs t := by
  show (w.heap.push _)[w.heap.size]? = _
  simp
theorem BoxAt.alloc {w : World} {k : Nat} {cs : Array Value} {t : TypeId} (h : BoxAt w k cs t) (o : Obj) : BoxAt (w.alloc o) k cs t :=
  (Lib.alloc_old w o k h.lt).trans h

/-- The list at block qb. -/
def QAt (B qb : Nat) (fvs : List Value) (w : World) : Prop :=
  B ≤ qb ∧ ∃ v, BoxAt w qb #[v] 46 ∧ w.ownsRow B 27 1 v fvs.length fvs
theorem QAt.alloc {B qb : Nat} {fvs : List Value} {w : World} (h : QAt B qb fvs w) (o : Obj) : QAt B qb fvs (w.alloc o) := by
  obtain ⟨hB, v, hb, ho⟩ := h
  exact ⟨hB, v, hb.alloc o, ho.alloc o⟩
theorem QAt.drew {B qb : Nat} {fvs : List Value} {w : World} (h : QAt B qb fvs w) : QAt B qb fvs w.drew := h
theorem QAt.lt {B qb : Nat} {fvs : List Value} {w : World} (h : QAt B qb fvs w) : qb < w.heap.size := by
  obtain ⟨hB, v, hb, ho⟩ := h
  exact hb.lt
theorem infoFn : (Tryd.prog.info? 27).map (fun i => (i.zero, i.size, i.bytes)) = some (some .nilFunc, 1, 8) := by kernel_rfl
end Go.Proofs.YtmceblemiboedaaDoor

/-
  Package ast: entries as trees, and how they lie in memory.
-/
namespace Go.Proofs.YtmceblemiboedaaDoor
open Go.RowKit
set_option linter.unusedVariables false

mutual
/-- An expression. -/
inductive EX where
  | mk (kind : Int) (text name attr : ByteArray) (args : List AR) (inner : Option EX) (vars : List VA)
/-- An argument. -/
inductive AR where
  | mk (name : ByteArray) (value : EX)
/-- A variant. -/
inductive VA where
  | mk (key : ByteArray) (dflt : Bool) (value : List EL)
/-- A piece of a pattern. -/
inductive EL where
  | mk (text : ByteArray) (place : Option EX)
end

mutual
/-- How many nodes, and signs. -/
def EX.size : EX → Nat
  | .mk _ t n a args inner vars => 1 + t.size + n.size + a.size + sizeAs args + sizeO inner + sizeVs vars
def sizeAs : List AR → Nat
  | [] => 0
  | .mk n v :: r => n.size + v.size + sizeAs r
def sizeO : Option EX → Nat
  | none => 0
  | some e => e.size
def sizeVs : List VA → Nat
  | [] => 0
  | .mk k _ v :: r => 1 + k.size + sizeEs v + sizeVs r
def sizeEs : List EL → Nat
  | [] => 0
  | .mk t p :: r => 1 + t.size + sizeO p + sizeEs r
end

mutual
/-- Are two expressions the same? -/
def sameE : EX → EX → Bool
  | .mk k t n a al i vs, .mk k' t' n' a' al' i' vs' => decide (k = k') && decide (t = t') && decide (n = n') && decide (a = a') && sameAs al al' && sameO i i' && sameVs vs vs'
def sameAs : List AR → List AR → Bool
  | [], [] => true
  | .mk n v :: r, .mk n' v' :: r' => decide (n = n') && sameE v v' && sameAs r r'
  | _, _ => false
def sameO : Option EX → Option EX → Bool
  | none, none => true
  | some e, some e' => sameE e e'
  | _, _ => false
def sameVs : List VA → List VA → Bool
  | [], [] => true
  | .mk n d v :: r, .mk n' d' v' :: r' => decide (n = n') && (d == d') && sameEs v v' && sameVs r r'
  | _, _ => false
def sameEs : List EL → List EL → Bool
  | [], [] => true
  | .mk n p :: r, .mk n' p' :: r' => decide (n = n') && sameO p p' && sameEs r r'
  | _, _ => false
end

/-- The cells of an expression. -/
structure C7 where
  k : Value
  t : Value
  n : Value
  a : Value
  al : Value
  i : Value
  vs : Value
def C7.arr (c : C7) : Array Value := #[c.k, c.t, c.n, c.a, c.al, c.i, c.vs]
/-- Cells that lie one behind the other. -/
def CellsAt (W : World) (b o : Nat) (c : C7) : Prop :=
  W.cell? ⟨b, o, none⟩ = some c.k ∧ W.cell? ⟨b, o + 1, none⟩ = some c.t ∧ W.cell? ⟨b, o + 2, none⟩ = some c.n ∧ W.cell? ⟨b, o + 3, none⟩ = some c.a ∧
  W.cell? ⟨b, o + 4, none⟩ = some c.al ∧ W.cell? ⟨b, o + 5, none⟩ = some c.i ∧ W.cell? ⟨b, o + 6, none⟩ = some c.vs
/-- A list that lies in memory: where, how long. -/
def LieAt (P : Nat → Nat → Prop) (v : Value) (n : Nat) : Prop :=
  ∃ A c, v = .slice A n c ∧ n ≤ c ∧ c ≤ maxLen ∧ (0 < n → ∃ b o, A = some ⟨b, o, none⟩ ∧ P b o)

mutual
/-- These cells are that expression. -/
def ExAt (W : World) : EX → C7 → Prop
  | .mk k t n a al i vs, c => c.k = .int .i64 k ∧ c.t = .string t ∧ c.n = .string n ∧ c.a = .string a ∧
      LieAt (AsAt W al) c.al al.length ∧ OAt W i c.i ∧ LieAt (VsAt W vs) c.vs vs.length
def OAt (W : World) : Option EX → Value → Prop
  | none, v => v = .pointer none
  | some e, v => ∃ b o c, v = .pointer (some ⟨b, o, none⟩) ∧ b < W.heap.size ∧ CellsAt W b o c ∧ ExAt W e c
def AsAt (W : World) : List AR → Nat → Nat → Prop
  | [], _, _ => True
  | .mk n e :: r, b, o => b < W.heap.size ∧ W.cell? ⟨b, o, none⟩ = some (.string n) ∧ (∃ c, CellsAt W b (o + 1) c ∧ ExAt W e c) ∧ AsAt W r b (o + 8)
def VsAt (W : World) : List VA → Nat → Nat → Prop
  | [], _, _ => True
  | .mk n d v :: r, b, o => b < W.heap.size ∧ W.cell? ⟨b, o, none⟩ = some (.string n) ∧ W.cell? ⟨b, o + 1, none⟩ = some (.bool d) ∧
      (∃ u, W.cell? ⟨b, o + 2, none⟩ = some u ∧ LieAt (EsAt W v) u v.length) ∧ VsAt W r b (o + 3)
def EsAt (W : World) : List EL → Nat → Nat → Prop
  | [], _, _ => True
  | .mk t p :: r, b, o => b < W.heap.size ∧ W.cell? ⟨b, o, none⟩ = some (.string t) ∧ (∃ u, W.cell? ⟨b, o + 1, none⟩ = some u ∧ OAt W p u) ∧ EsAt W r b (o + 2)
end
/-- A pattern. -/
def PatAt (W : World) (l : List EL) (v : Value) : Prop := LieAt (EsAt W l) v l.length
end Go.Proofs.YtmceblemiboedaaDoor

/-
  Plain mathematics of package scan: the place behind all bytes that are such.
-/
namespace Go.Proofs.YtmceblemiboedaaDoor

/-- The place behind all bytes from k on that are such. -/
def behN (p : UInt8 → Bool) (l : List UInt8) (k : Nat) : Nat := k + ((l.drop k).takeWhile p).length
theorem behN_end (p : UInt8 → Bool) (l : List UInt8) (k : Nat) (h : l.length ≤ k) : behN p l k = k := by
  unfold behN; rw [List.drop_eq_nil_of_le h]; rfl
theorem behN_yes (p : UInt8 → Bool) (l : List UInt8) (k : Nat) (h : k < l.length) (hp : p l[k] = true) : behN p l (k + 1) = behN p l k := by
  unfold behN
  rw [List.drop_eq_getElem_cons h, List.takeWhile_cons, if_pos hp, List.length_cons]
  omega
theorem behN_no (p : UInt8 → Bool) (l : List UInt8) (k : Nat) (h : k < l.length) (hp : p l[k] = false) : behN p l k = k := by
  unfold behN
  rw [List.drop_eq_getElem_cons h, List.takeWhile_cons, if_neg (by simp [hp])]
  rfl
theorem behN_ge (p : UInt8 → Bool) (l : List UInt8) (k : Nat) : k ≤ behN p l k := by unfold behN; omega
theorem takeWhile_le (p : UInt8 → Bool) : ∀ l : List UInt8, (l.takeWhile p).length ≤ l.length
  | [] => Nat.le_refl _
  | c :: l => by
    rw [List.takeWhile_cons]
    split
    · have := takeWhile_le p l; simp only [List.length_cons]; omega
    · simp
theorem behN_le (p : UInt8 → Bool) (l : List UInt8) (k : Nat) (h : k ≤ l.length) : behN p l k ≤ l.length := by
  unfold behN
  have := takeWhile_le p (l.drop k)
  rw [List.length_drop] at this
  omega
/-- .. of any place: a place below 0 stays. -/
def behI (p : UInt8 → Bool) (l : List UInt8) (i : Int) : Int := if i < 0 then i else (behN p l i.toNat : Int)
def spB (c : UInt8) : Bool := decide ((c.toNat : Int) = 32)
def blB (c : UInt8) : Bool := decide ((c.toNat : Int) = 32 ∨ (c.toNat : Int) = 10)
def dgB (c : UInt8) : Bool := decide (48 ≤ (c.toNat : Int) ∧ (c.toNat : Int) ≤ 57)
def caB (c : UInt8) : Bool := decide (65 ≤ (c.toNat : Int) ∧ (c.toNat : Int) ≤ 90)
def leB (c : UInt8) : Bool := decide ((97 ≤ (c.toNat : Int) ∧ (c.toNat : Int) ≤ 122) ∨ (65 ≤ (c.toNat : Int) ∧ (c.toNat : Int) ≤ 90))
def joB (c : UInt8) : Bool := decide ((c.toNat : Int) = 95 ∨ (c.toNat : Int) = 45)
def naB (c : UInt8) : Bool := leB c || dgB c || joB c
def biB (c : UInt8) : Bool := caB c || dgB c || joB c
end Go.Proofs.YtmceblemiboedaaDoor

/-
  Contracts of package scan: what a byte is, isWithin, behind.
-/
namespace Go.Proofs.YtmceblemiboedaaDoor
open Go.RowKit

theorem within_yes (s : ByteArray) (i : Int) (w : World) (h0 : 0 ≤ i) (h1 : i < s.size) : Calls Tryd.prog 56 #[.string s, .int .i64 i] w fun e w' => e = .returned (.bool true) ∧ w = w' := by
  go_enter Tryd.func56, Tryd.ntmps56
  go_wp2
  go_ret
  exact ⟨rfl, rfl⟩
theorem within_no (s : ByteArray) (i : Int) (w : World) (h : i < 0 ∨ (s.size : Int) ≤ i) : Calls Tryd.prog 56 #[.string s, .int .i64 i] w fun e w' => e = .returned (.bool false) ∧ w = w' := by
  by_cases h0 : 0 ≤ i
  · have h1 : ¬ i < s.size := by omega
    go_enter Tryd.func56, Tryd.ntmps56
    go_wp2
    go_ret
    exact ⟨rfl, rfl⟩
  · go_enter Tryd.func56, Tryd.ntmps56
    go_wp2
    go_ret
    exact ⟨rfl, rfl⟩
theorem capital_any (c : UInt8) (w : World) : Calls Tryd.prog 74 #[.int .u8 (c.toNat : Int)] w fun e w' => e = .returned (.bool (caB c)) ∧ w = w' := by
  by_cases h : (65 : Int) ≤ (c.toNat : Int)
  all_goals
    go_enter Tryd.func74, Tryd.ntmps74
    go_wp2
    go_ret
    refine ⟨ret_bool ?_, rfl⟩
    rw [Bool.eq_iff_iff]
    simp [caB]
    omega
theorem digit_any (c : UInt8) (w : World) : Calls Tryd.prog 60 #[.int .u8 (c.toNat : Int)] w fun e w' => e = .returned (.bool (dgB c)) ∧ w = w' := by
  by_cases h : (48 : Int) ≤ (c.toNat : Int)
  all_goals
    go_enter Tryd.func60, Tryd.ntmps60
    go_wp2
    go_ret
    refine ⟨ret_bool ?_, rfl⟩
    rw [Bool.eq_iff_iff]
    simp [dgB]
    omega
theorem joint_any (c : UInt8) (w : World) : Calls Tryd.prog 61 #[.int .u8 (c.toNat : Int)] w fun e w' => e = .returned (.bool (joB c)) ∧ w = w' := by
  go_enter Tryd.func61, Tryd.ntmps61
  go_wp2
  all_goals
    go_ret
    refine ⟨ret_bool ?_, rfl⟩
    rw [Bool.eq_iff_iff]
    simp [joB, *]
theorem letter_any (c : UInt8) (w : World) : Calls Tryd.prog 57 #[.int .u8 (c.toNat : Int)] w fun e w' => e = .returned (.bool (leB c)) ∧ w = w' := by
  by_cases h1 : (97 : Int) ≤ (c.toNat : Int)
  · by_cases h2 : (c.toNat : Int) ≤ 122
    · go_enter Tryd.func57, Tryd.ntmps57
      go_wp2_with (go_at_call 74; refine (capital_any c _).mono ?_; rintro e w' ⟨rfl, rfl⟩)
      go_ret
      refine ⟨ret_bool ?_, rfl⟩
      simp [leB, h1, h2]
    · have hb : decide ((c.toNat : Int) ≤ 122) = false := by simp; omega
      go_enter Tryd.func57, Tryd.ntmps57
      go_wp2_with (go_at_call 74; refine (capital_any c _).mono ?_; rintro e w' ⟨rfl, rfl⟩)
      go_ret
      refine ⟨ret_bool ?_, rfl⟩
      simp only [leB, caB]
      rw [Bool.eq_iff_iff]
      simp
      omega
  · go_enter Tryd.func57, Tryd.ntmps57
    go_wp2_with (go_at_call 74; refine (capital_any c _).mono ?_; rintro e w' ⟨rfl, rfl⟩)
    go_ret
    refine ⟨ret_bool ?_, rfl⟩
    simp only [leB, caB]
    rw [Bool.eq_iff_iff]
    simp
    omega

/-- A function value that tells of a byte whether it is such. -/
def Tells (N : FuncId) (p : UInt8 → Bool) : Prop := ∀ (c : UInt8) (w : World), Calls Tryd.prog N #[.int .u8 (c.toNat : Int)] w fun e w' => e = .returned (.bool (p c)) ∧ w = w'
theorem tells_digit : Tells 60 dgB := digit_any
theorem tells_space : Tells 88 spB := fun c w => by
  go_enter Tryd.func88, Tryd.ntmps88
  go_wp2
  all_goals
    go_ret
    refine ⟨ret_bool ?_, rfl⟩
    rw [Bool.eq_iff_iff]
    simp [spB, *]
theorem tells_blank : Tells 86 blB := fun c w => by
  go_enter Tryd.func86, Tryd.ntmps86
  go_wp2
  all_goals
    go_ret
    refine ⟨ret_bool ?_, rfl⟩
    rw [Bool.eq_iff_iff]
    simp [blB, *]
theorem tells_name : Tells 59 naB := fun c w => by
  cases h1 : leB c
  · cases h2 : dgB c
    · go_enter Tryd.func59, Tryd.ntmps59
      go_wp2_with (first | (go_at_call 57; refine (letter_any c _).mono ?_; rw [h1]; rintro e w' ⟨rfl, rfl⟩) | (go_at_call 60; refine (digit_any c _).mono ?_; rw [h2]; rintro e w' ⟨rfl, rfl⟩) | (go_at_call 61; refine (joint_any c _).mono ?_; rintro e w' ⟨rfl, rfl⟩))
      go_ret
      exact ⟨ret_bool (by simp [naB, h1, h2]), rfl⟩
    · go_enter Tryd.func59, Tryd.ntmps59
      go_wp2_with (first | (go_at_call 57; refine (letter_any c _).mono ?_; rw [h1]; rintro e w' ⟨rfl, rfl⟩) | (go_at_call 60; refine (digit_any c _).mono ?_; rw [h2]; rintro e w' ⟨rfl, rfl⟩) | (go_at_call 61; refine (joint_any c _).mono ?_; rintro e w' ⟨rfl, rfl⟩))
      go_ret
      exact ⟨ret_bool (by simp [naB, h1, h2]), rfl⟩
  · go_enter Tryd.func59, Tryd.ntmps59
    go_wp2_with (first | (go_at_call 57; refine (letter_any c _).mono ?_; rw [h1]; rintro e w' ⟨rfl, rfl⟩) | (go_at_call 60; refine (digit_any c _).mono ?_; rintro e w' ⟨rfl, rfl⟩) | (go_at_call 61; refine (joint_any c _).mono ?_; rintro e w' ⟨rfl, rfl⟩))
    go_ret
    exact ⟨ret_bool (by simp [naB, h1]), rfl⟩
theorem tells_big : Tells 99 biB := fun c w => by
  cases h1 : caB c
  · cases h2 : dgB c
    · go_enter Tryd.func99, Tryd.ntmps99
      go_wp2_with (first | (go_at_call 74; refine (capital_any c _).mono ?_; rw [h1]; rintro e w' ⟨rfl, rfl⟩) | (go_at_call 60; refine (digit_any c _).mono ?_; rw [h2]; rintro e w' ⟨rfl, rfl⟩) | (go_at_call 61; refine (joint_any c _).mono ?_; rintro e w' ⟨rfl, rfl⟩))
      go_ret
      exact ⟨ret_bool (by simp [biB, h1, h2]), rfl⟩
    · go_enter Tryd.func99, Tryd.ntmps99
      go_wp2_with (first | (go_at_call 74; refine (capital_any c _).mono ?_; rw [h1]; rintro e w' ⟨rfl, rfl⟩) | (go_at_call 60; refine (digit_any c _).mono ?_; rw [h2]; rintro e w' ⟨rfl, rfl⟩) | (go_at_call 61; refine (joint_any c _).mono ?_; rintro e w' ⟨rfl, rfl⟩))
      go_ret
      exact ⟨ret_bool (by simp [biB, h1, h2]), rfl⟩
  · go_enter Tryd.func99, Tryd.ntmps99
    go_wp2_with (first | (go_at_call 74; refine (capital_any c _).mono ?_; rw [h1]; rintro e w' ⟨rfl, rfl⟩) | (go_at_call 60; refine (digit_any c _).mono ?_; rintro e w' ⟨rfl, rfl⟩) | (go_at_call 61; refine (joint_any c _).mono ?_; rintro e w' ⟨rfl, rfl⟩))
    go_ret
    exact ⟨ret_bool (by simp [biB, h1]), rfl⟩

end Go.Proofs.YtmceblemiboedaaDoor

/-
  Contracts of package scan: behind, for each of the functions that it is handed.
-/
namespace Go.Proofs.YtmceblemiboedaaDoor
open Go.RowKit

set_option maxHeartbeats 1000000 in
theorem behind_sp (s : ByteArray) (i : Int) (w : World) (hs : s.size ≤ 9223372036854775807) :
    Calls Tryd.prog 58 #[.string s, .int .i64 i, .func (.func 88) #[] #[]] w fun e w' => e = .returned (.int .i64 (behI spB s.data.toList i)) ∧ w = w' := by
  have HN := Lib.hid tells_space
  by_cases h0 : i < 0
  · have e : behI spB s.data.toList i = i := by unfold behI; rw [if_pos h0]
    have E := Lib.hid e
    clear e
    go_enter Tryd.func58, Tryd.ntmps58
    go_wp2_with fail
    go_loop [1] (fun t => t = .int .i64 i) (fun _ => 0)
    case atStart => rfl
    case round =>
      subst hrel
      go_wp2_with fail
      go_at_call 56
      refine (within_no _ _ _ (.inl h0)).mono ?_
      rintro e w' ⟨rfl, rfl⟩
      go_wp2_with fail
      go_ret
      exact ⟨ret_int E.out.symm, rfl⟩
  · obtain ⟨k, rfl⟩ : ∃ k : Nat, i = (k : Int) := ⟨i.toNat, by omega⟩
    obtain ⟨B, hB⟩ : ∃ B, behN spB s.data.toList k = B := ⟨_, rfl⟩
    have e : behI spB s.data.toList (k : Int) = (B : Int) := by unfold behI; rw [if_neg h0, Int.toNat_natCast, hB]
    have E := Lib.hid e
    have HB := Lib.hid hB
    clear e hB h0
    go_enter Tryd.func58, Tryd.ntmps58
    go_wp2_with fail
    go_loop [1] (fun t => ∃ j : Nat, t = .int .i64 j ∧ Hid (behN spB s.data.toList j = B)) (fun t => s.size - (intOf t).toNat)
    case atStart => exact ⟨k, rfl, HB⟩
    case round =>
      obtain ⟨j, rfl, hj⟩ := hrel
      by_cases hlt : j < s.size
      · have hlt' : j < s.data.toList.length := by rw [size_data]; exact hlt
        have hi0 : (0 : Int) ≤ (j : Int) := by omega
        have hi1 : (j : Int) < (s.size : Int) := by omega
        cases hp : spB s[j]
        · have hno := Lib.hid (behN_no spB s.data.toList j hlt' hp)
          have Hp := Lib.hid hp
          clear hp
          go_wp2_with fail
          go_at_call 56
          refine (within_yes _ _ _ hi0 hi1).mono ?_
          rintro e w' ⟨rfl, rfl⟩
          go_wp2_with fail
          go_at_call 88
          refine (HN.out s[j] _).mono ?_
          rw [Hp.out]
          rintro e w' ⟨rfl, rfl⟩
          go_wp2_with fail
          go_ret
          exact ⟨ret_int (by rw [E.out, ← hj.out, hno.out]), rfl⟩
        · have hyes := Lib.hid (behN_yes spB s.data.toList j hlt' hp)
          have Hp := Lib.hid hp
          clear hp
          go_wp2_with fail
          go_at_call 56
          refine (within_yes _ _ _ hi0 hi1).mono ?_
          rintro e w' ⟨rfl, rfl⟩
          go_wp2_with fail
          go_at_call 88
          refine (HN.out s[j] _).mono ?_
          rw [Hp.out]
          rintro e w' ⟨rfl, rfl⟩
          go_wp2_with fail
          go_round
          case rel => exact ⟨j + 1, by go_num, Lib.hid (by rw [hyes.out, hj.out])⟩
          case measure => simp [intOf]; omega
      · have hend := Lib.hid (behN_end spB s.data.toList j (by rw [size_data]; omega))
        go_wp2_with fail
        go_at_call 56
        refine (within_no _ _ _ (.inr (by omega))).mono ?_
        rintro e w' ⟨rfl, rfl⟩
        go_wp2_with fail
        go_ret
        exact ⟨ret_int (by rw [E.out, ← hj.out, hend.out]), rfl⟩
set_option maxHeartbeats 1000000 in
theorem behind_bl (s : ByteArray) (i : Int) (w : World) (hs : s.size ≤ 9223372036854775807) :
    Calls Tryd.prog 58 #[.string s, .int .i64 i, .func (.func 86) #[] #[]] w fun e w' => e = .returned (.int .i64 (behI blB s.data.toList i)) ∧ w = w' := by
  have HN := Lib.hid tells_blank
  by_cases h0 : i < 0
  · have e : behI blB s.data.toList i = i := by unfold behI; rw [if_pos h0]
    have E := Lib.hid e
    clear e
    go_enter Tryd.func58, Tryd.ntmps58
    go_wp2_with fail
    go_loop [1] (fun t => t = .int .i64 i) (fun _ => 0)
    case atStart => rfl
    case round =>
      subst hrel
      go_wp2_with fail
      go_at_call 56
      refine (within_no _ _ _ (.inl h0)).mono ?_
      rintro e w' ⟨rfl, rfl⟩
      go_wp2_with fail
      go_ret
      exact ⟨ret_int E.out.symm, rfl⟩
  · obtain ⟨k, rfl⟩ : ∃ k : Nat, i = (k : Int) := ⟨i.toNat, by omega⟩
    obtain ⟨B, hB⟩ : ∃ B, behN blB s.data.toList k = B := ⟨_, rfl⟩
    have e : behI blB s.data.toList (k : Int) = (B : Int) := by unfold behI; rw [if_neg h0, Int.toNat_natCast, hB]
    have E := Lib.hid e
    have HB := Lib.hid hB
    clear e hB h0
    go_enter Tryd.func58, Tryd.ntmps58
    go_wp2_with fail
    go_loop [1] (fun t => ∃ j : Nat, t = .int .i64 j ∧ Hid (behN blB s.data.toList j = B)) (fun t => s.size - (intOf t).toNat)
    case atStart => exact ⟨k, rfl, HB⟩
    case round =>
      obtain ⟨j, rfl, hj⟩ := hrel
      by_cases hlt : j < s.size
      · have hlt' : j < s.data.toList.length := by rw [size_data]; exact hlt
        have hi0 : (0 : Int) ≤ (j : Int) := by omega
        have hi1 : (j : Int) < (s.size : Int) := by omega
        cases hp : blB s[j]
        · have hno := Lib.hid (behN_no blB s.data.toList j hlt' hp)
          have Hp := Lib.hid hp
          clear hp
          go_wp2_with fail
          go_at_call 56
          refine (within_yes _ _ _ hi0 hi1).mono ?_
          rintro e w' ⟨rfl, rfl⟩
          go_wp2_with fail
          go_at_call 86
          refine (HN.out s[j] _).mono ?_
          rw [Hp.out]
          rintro e w' ⟨rfl, rfl⟩
          go_wp2_with fail
          go_ret
          exact ⟨ret_int (by rw [E.out, ← hj.out, hno.out]), rfl⟩
        · have hyes := Lib.hid (behN_yes blB s.data.toList j hlt' hp)
          have Hp := Lib.hid hp
          clear hp
          go_wp2_with fail
          go_at_call 56
          refine (within_yes _ _ _ hi0 hi1).mono ?_
          rintro e w' ⟨rfl, rfl⟩
          go_wp2_with fail
          go_at_call 86
          refine (HN.out s[j] _).mono ?_
          rw [Hp.out]
          rintro e w' ⟨rfl, rfl⟩
          go_wp2_with fail
          go_round
          case rel => exact ⟨j + 1, by go_num, Lib.hid (by rw [hyes.out, hj.out])⟩
          case measure => simp [intOf]; omega
      · have hend := Lib.hid (behN_end blB s.data.toList j (by rw [size_data]; omega))
        go_wp2_with fail
        go_at_call 56
        refine (within_no _ _ _ (.inr (by omega))).mono ?_
        rintro e w' ⟨rfl, rfl⟩
        go_wp2_with fail
        go_ret
        exact ⟨ret_int (by rw [E.out, ← hj.out, hend.out]), rfl⟩
set_option maxHeartbeats 1000000 in
theorem behind_na (s : ByteArray) (i : Int) (w : World) (hs : s.size ≤ 9223372036854775807) :
    Calls Tryd.prog 58 #[.string s, .int .i64 i, .func (.func 59) #[] #[]] w fun e w' => e = .returned (.int .i64 (behI naB s.data.toList i)) ∧ w = w' := by
  have HN := Lib.hid tells_name
  by_cases h0 : i < 0
  · have e : behI naB s.data.toList i = i := by unfold behI; rw [if_pos h0]
    have E := Lib.hid e
    clear e
    go_enter Tryd.func58, Tryd.ntmps58
    go_wp2_with fail
    go_loop [1] (fun t => t = .int .i64 i) (fun _ => 0)
    case atStart => rfl
    case round =>
      subst hrel
      go_wp2_with fail
      go_at_call 56
      refine (within_no _ _ _ (.inl h0)).mono ?_
      rintro e w' ⟨rfl, rfl⟩
      go_wp2_with fail
      go_ret
      exact ⟨ret_int E.out.symm, rfl⟩
  · obtain ⟨k, rfl⟩ : ∃ k : Nat, i = (k : Int) := ⟨i.toNat, by omega⟩
    obtain ⟨B, hB⟩ : ∃ B, behN naB s.data.toList k = B := ⟨_, rfl⟩
    have e : behI naB s.data.toList (k : Int) = (B : Int) := by unfold behI; rw [if_neg h0, Int.toNat_natCast, hB]
    have E := Lib.hid e
    have HB := Lib.hid hB
    clear e hB h0
    go_enter Tryd.func58, Tryd.ntmps58
    go_wp2_with fail
    go_loop [1] (fun t => ∃ j : Nat, t = .int .i64 j ∧ Hid (behN naB s.data.toList j = B)) (fun t => s.size - (intOf t).toNat)
    case atStart => exact ⟨k, rfl, HB⟩
    case round =>
      obtain ⟨j, rfl, hj⟩ := hrel
      by_cases hlt : j < s.size
      · have hlt' : j < s.data.toList.length := by rw [size_data]; exact hlt
        have hi0 : (0 : Int) ≤ (j : Int) := by omega
        have hi1 : (j : Int) < (s.size : Int) := by omega
        cases hp : naB s[j]
        · have hno := Lib.hid (behN_no naB s.data.toList j hlt' hp)
          have Hp := Lib.hid hp
          clear hp
          go_wp2_with fail
          go_at_call 56
          refine (within_yes _ _ _ hi0 hi1).mono ?_
          rintro e w' ⟨rfl, rfl⟩
          go_wp2_with fail
          go_at_call 59
          refine (HN.out s[j] _).mono ?_
          rw [Hp.out]
          rintro e w' ⟨rfl, rfl⟩
          go_wp2_with fail
          go_ret
          exact ⟨ret_int (by rw [E.out, ← hj.out, hno.out]), rfl⟩
        · have hyes := Lib.hid (behN_yes naB s.data.toList j hlt' hp)
          have Hp := Lib.hid hp
          clear hp
          go_wp2_with fail
          go_at_call 56
          refine (within_yes _ _ _ hi0 hi1).mono ?_
          rintro e w' ⟨rfl, rfl⟩
          go_wp2_with fail
          go_at_call 59
          refine (HN.out s[j] _).mono ?_
          rw [Hp.out]
          rintro e w' ⟨rfl, rfl⟩
          go_wp2_with fail
          go_round
          case rel => exact ⟨j + 1, by go_num, Lib.hid (by rw [hyes.out, hj.out])⟩
          case measure => simp [intOf]; omega
      · have hend := Lib.hid (behN_end naB s.data.toList j (by rw [size_data]; omega))
        go_wp2_with fail
        go_at_call 56
        refine (within_no _ _ _ (.inr (by omega))).mono ?_
        rintro e w' ⟨rfl, rfl⟩
        go_wp2_with fail
        go_ret
        exact ⟨ret_int (by rw [E.out, ← hj.out, hend.out]), rfl⟩
set_option maxHeartbeats 1000000 in
theorem behind_dg (s : ByteArray) (i : Int) (w : World) (hs : s.size ≤ 9223372036854775807) :
    Calls Tryd.prog 58 #[.string s, .int .i64 i, .func (.func 60) #[] #[]] w fun e w' => e = .returned (.int .i64 (behI dgB s.data.toList i)) ∧ w = w' := by
  have HN := Lib.hid tells_digit
  by_cases h0 : i < 0
  · have e : behI dgB s.data.toList i = i := by unfold behI; rw [if_pos h0]
    have E := Lib.hid e
    clear e
    go_enter Tryd.func58, Tryd.ntmps58
    go_wp2_with fail
    go_loop [1] (fun t => t = .int .i64 i) (fun _ => 0)
    case atStart => rfl
    case round =>
      subst hrel
      go_wp2_with fail
      go_at_call 56
      refine (within_no _ _ _ (.inl h0)).mono ?_
      rintro e w' ⟨rfl, rfl⟩
      go_wp2_with fail
      go_ret
      exact ⟨ret_int E.out.symm, rfl⟩
  · obtain ⟨k, rfl⟩ : ∃ k : Nat, i = (k : Int) := ⟨i.toNat, by omega⟩
    obtain ⟨B, hB⟩ : ∃ B, behN dgB s.data.toList k = B := ⟨_, rfl⟩
    have e : behI dgB s.data.toList (k : Int) = (B : Int) := by unfold behI; rw [if_neg h0, Int.toNat_natCast, hB]
    have E := Lib.hid e
    have HB := Lib.hid hB
    clear e hB h0
    go_enter Tryd.func58, Tryd.ntmps58
    go_wp2_with fail
    go_loop [1] (fun t => ∃ j : Nat, t = .int .i64 j ∧ Hid (behN dgB s.data.toList j = B)) (fun t => s.size - (intOf t).toNat)
    case atStart => exact ⟨k, rfl, HB⟩
    case round =>
      obtain ⟨j, rfl, hj⟩ := hrel
      by_cases hlt : j < s.size
      · have hlt' : j < s.data.toList.length := by rw [size_data]; exact hlt
        have hi0 : (0 : Int) ≤ (j : Int) := by omega
        have hi1 : (j : Int) < (s.size : Int) := by omega
        cases hp : dgB s[j]
        · have hno := Lib.hid (behN_no dgB s.data.toList j hlt' hp)
          have Hp := Lib.hid hp
          clear hp
          go_wp2_with fail
          go_at_call 56
          refine (within_yes _ _ _ hi0 hi1).mono ?_
          rintro e w' ⟨rfl, rfl⟩
          go_wp2_with fail
          go_at_call 60
          refine (HN.out s[j] _).mono ?_
          rw [Hp.out]
          rintro e w' ⟨rfl, rfl⟩
          go_wp2_with fail
          go_ret
          exact ⟨ret_int (by rw [E.out, ← hj.out, hno.out]), rfl⟩
        · have hyes := Lib.hid (behN_yes dgB s.data.toList j hlt' hp)
          have Hp := Lib.hid hp
          clear hp
          go_wp2_with fail
          go_at_call 56
          refine (within_yes _ _ _ hi0 hi1).mono ?_
          rintro e w' ⟨rfl, rfl⟩
          go_wp2_with fail
          go_at_call 60
          refine (HN.out s[j] _).mono ?_
          rw [Hp.out]
          rintro e w' ⟨rfl, rfl⟩
          go_wp2_with fail
          go_round
          case rel => exact ⟨j + 1, by go_num, Lib.hid (by rw [hyes.out, hj.out])⟩
          case measure => simp [intOf]; omega
      · have hend := Lib.hid (behN_end dgB s.data.toList j (by rw [size_data]; omega))
        go_wp2_with fail
        go_at_call 56
        refine (within_no _ _ _ (.inr (by omega))).mono ?_
        rintro e w' ⟨rfl, rfl⟩
        go_wp2_with fail
        go_ret
        exact ⟨ret_int (by rw [E.out, ← hj.out, hend.out]), rfl⟩
set_option maxHeartbeats 1000000 in
theorem behind_bi (s : ByteArray) (i : Int) (w : World) (hs : s.size ≤ 9223372036854775807) :
    Calls Tryd.prog 58 #[.string s, .int .i64 i, .func (.func 99) #[] #[]] w fun e w' => e = .returned (.int .i64 (behI biB s.data.toList i)) ∧ w = w' := by
  have HN := Lib.hid tells_big
  by_cases h0 : i < 0
  · have e : behI biB s.data.toList i = i := by unfold behI; rw [if_pos h0]
    have E := Lib.hid e
    clear e
    go_enter Tryd.func58, Tryd.ntmps58
    go_wp2_with fail
    go_loop [1] (fun t => t = .int .i64 i) (fun _ => 0)
    case atStart => rfl
    case round =>
      subst hrel
      go_wp2_with fail
      go_at_call 56
      refine (within_no _ _ _ (.inl h0)).mono ?_
      rintro e w' ⟨rfl, rfl⟩
      go_wp2_with fail
      go_ret
      exact ⟨ret_int E.out.symm, rfl⟩
  · obtain ⟨k, rfl⟩ : ∃ k : Nat, i = (k : Int) := ⟨i.toNat, by omega⟩
    obtain ⟨B, hB⟩ : ∃ B, behN biB s.data.toList k = B := ⟨_, rfl⟩
    have e : behI biB s.data.toList (k : Int) = (B : Int) := by unfold behI; rw [if_neg h0, Int.toNat_natCast, hB]
    have E := Lib.hid e
    have HB := Lib.hid hB
    clear e hB h0
    go_enter Tryd.func58, Tryd.ntmps58
    go_wp2_with fail
    go_loop [1] (fun t => ∃ j : Nat, t = .int .i64 j ∧ Hid (behN biB s.data.toList j = B)) (fun t => s.size - (intOf t).toNat)
    case atStart => exact ⟨k, rfl, HB⟩
    case round =>
      obtain ⟨j, rfl, hj⟩ := hrel
      by_cases hlt : j < s.size
      · have hlt' : j < s.data.toList.length := by rw [size_data]; exact hlt
        have hi0 : (0 : Int) ≤ (j : Int) := by omega
        have hi1 : (j : Int) < (s.size : Int) := by omega
        cases hp : biB s[j]
        · have hno := Lib.hid (behN_no biB s.data.toList j hlt' hp)
          have Hp := Lib.hid hp
          clear hp
          go_wp2_with fail
          go_at_call 56
          refine (within_yes _ _ _ hi0 hi1).mono ?_
          rintro e w' ⟨rfl, rfl⟩
          go_wp2_with fail
          go_at_call 99
          refine (HN.out s[j] _).mono ?_
          rw [Hp.out]
          rintro e w' ⟨rfl, rfl⟩
          go_wp2_with fail
          go_ret
          exact ⟨ret_int (by rw [E.out, ← hj.out, hno.out]), rfl⟩
        · have hyes := Lib.hid (behN_yes biB s.data.toList j hlt' hp)
          have Hp := Lib.hid hp
          clear hp
          go_wp2_with fail
          go_at_call 56
          refine (within_yes _ _ _ hi0 hi1).mono ?_
          rintro e w' ⟨rfl, rfl⟩
          go_wp2_with fail
          go_at_call 99
          refine (HN.out s[j] _).mono ?_
          rw [Hp.out]
          rintro e w' ⟨rfl, rfl⟩
          go_wp2_with fail
          go_round
          case rel => exact ⟨j + 1, by go_num, Lib.hid (by rw [hyes.out, hj.out])⟩
          case measure => simp [intOf]; omega
      · have hend := Lib.hid (behN_end biB s.data.toList j (by rw [size_data]; omega))
        go_wp2_with fail
        go_at_call 56
        refine (within_no _ _ _ (.inr (by omega))).mono ?_
        rintro e w' ⟨rfl, rfl⟩
        go_wp2_with fail
        go_ret
        exact ⟨ret_int (by rw [E.out, ← hj.out, hend.out]), rfl⟩
end Go.Proofs.YtmceblemiboedaaDoor

/-
  Contracts of package scan: Spaces, Blank, Name, Number, Big, IsName.
-/
namespace Go.Proofs.YtmceblemiboedaaDoor
open Go.RowKit

theorem spaces_any (s : ByteArray) (i : Int) (w : World) (hs : s.size ≤ 9223372036854775807) :
    Calls Tryd.prog 68 #[.string s, .int .i64 i] w fun e w' => e = .returned (.int .i64 (behI spB s.data.toList i)) ∧ w = w' := by
  go_enter Tryd.func68, Tryd.ntmps68
  go_wp2_with (go_at_call 58; refine (behind_sp _ _ _ hs).mono ?_; rintro e w' ⟨rfl, rfl⟩)
  go_ret
  exact ⟨rfl, rfl⟩
theorem blank_any (s : ByteArray) (i : Int) (w : World) (hs : s.size ≤ 9223372036854775807) :
    Calls Tryd.prog 66 #[.string s, .int .i64 i] w fun e w' => e = .returned (.int .i64 (behI blB s.data.toList i)) ∧ w = w' := by
  go_enter Tryd.func66, Tryd.ntmps66
  go_wp2_with (go_at_call 58; refine (behind_bl _ _ _ hs).mono ?_; rintro e w' ⟨rfl, rfl⟩)
  go_ret
  exact ⟨rfl, rfl⟩
/-- The place behind a name. -/
def nameI (l : List UInt8) (i : Int) : Int := if 0 ≤ i ∧ i < l.length ∧ leB (l.getD i.toNat 0) = true then behI naB l i else i
theorem getD_data (s : ByteArray) (j : Nat) (h : j < s.size) : s.data.toList.getD j 0 = s[j] := by
  rw [List.getD_eq_getElem?_getD, List.getElem?_eq_getElem (by rw [size_data]; exact h)]; rfl
set_option maxHeartbeats 1000000 in
theorem name_any (s : ByteArray) (i : Int) (w : World) (hs : s.size ≤ 9223372036854775807) :
    Calls Tryd.prog 39 #[.string s, .int .i64 i] w fun e w' => e = .returned (.int .i64 (nameI s.data.toList i)) ∧ w = w' := by
  by_cases hin : 0 ≤ i ∧ i < s.size
  · obtain ⟨h0, h1⟩ := hin
    obtain ⟨j, rfl⟩ : ∃ j : Nat, i = (j : Int) := ⟨i.toNat, by omega⟩
    have hj : j < s.size := by omega
    cases hl : leB s[j]
    · have e : nameI s.data.toList (j : Int) = j := by
        unfold nameI
        rw [if_neg]
        rintro ⟨_, _, h⟩
        rw [Int.toNat_natCast, getD_data s j hj, hl] at h
        cases h
      have E := Lib.hid e
      have Hl := Lib.hid hl
      clear e hl
      go_enter Tryd.func39, Tryd.ntmps39
      go_wp2_with (first | (go_at_call 56; refine (within_yes _ _ _ h0 h1).mono ?_; rintro e w' ⟨rfl, rfl⟩) | (go_at_call 57; refine (letter_any s[j] _).mono ?_; rw [Hl.out]; rintro e w' ⟨rfl, rfl⟩))
      go_ret
      exact ⟨ret_int E.out.symm, rfl⟩
    · have e : nameI s.data.toList (j : Int) = behI naB s.data.toList j := by
        unfold nameI
        rw [if_pos]
        exact ⟨h0, by rw [size_data]; exact h1, by rw [Int.toNat_natCast, getD_data s j hj, hl]⟩
      have E := Lib.hid e
      have Hl := Lib.hid hl
      clear e hl
      go_enter Tryd.func39, Tryd.ntmps39
      go_wp2_with (first | (go_at_call 56; refine (within_yes _ _ _ h0 h1).mono ?_; rintro e w' ⟨rfl, rfl⟩) | (go_at_call 57; refine (letter_any s[j] _).mono ?_; rw [Hl.out]; rintro e w' ⟨rfl, rfl⟩) | (go_at_call 58; refine (behind_na _ _ _ hs).mono ?_; rintro e w' ⟨rfl, rfl⟩))
      go_ret
      exact ⟨ret_int E.out.symm, rfl⟩
  · have e : nameI s.data.toList i = i := by
      unfold nameI
      rw [if_neg]
      rintro ⟨a, b, _⟩
      rw [size_data] at b
      exact hin ⟨a, b⟩
    have E := Lib.hid e
    clear e
    go_enter Tryd.func39, Tryd.ntmps39
    go_wp2_with (go_at_call 56; refine (within_no _ _ _ (by omega)).mono ?_; rintro e w' ⟨rfl, rfl⟩)
    go_ret
    exact ⟨ret_int E.out.symm, rfl⟩
/-- The place behind a sign that may stand there. -/
def sgnI (l : List UInt8) (c : UInt8) (i : Int) : Int := if 0 ≤ i ∧ i < l.length ∧ l.getD i.toNat 0 = c then i + 1 else i
def numI (l : List UInt8) (i : Int) : Int :=
  if sgnI l 45 i < behI dgB l (sgnI l 45 i) then
    if sgnI l 46 (behI dgB l (sgnI l 45 i)) < behI dgB l (sgnI l 46 (behI dgB l (sgnI l 45 i))) then behI dgB l (sgnI l 46 (behI dgB l (sgnI l 45 i)))
    else behI dgB l (sgnI l 45 i)
  else i
theorem num1_any (s : ByteArray) (c : UInt8) (i : Int) (b : Nat) (w : World) (hs : s.size ≤ 9223372036854775807) (hc : w.cell? ⟨b, 0, none⟩ = some (.string s)) :
    Calls Tryd.prog 102 #[.int .u8 (c.toNat : Int), .int .i64 i, .pointer (some ⟨b, 0, none⟩)] w fun e w' => e = .returned (.tuple #[.int .i64 (behI dgB s.data.toList (sgnI s.data.toList c i)), .bool (decide (sgnI s.data.toList c i < behI dgB s.data.toList (sgnI s.data.toList c i)))]) ∧ w = w' := by
  by_cases hin : 0 ≤ i ∧ i < s.size
  · obtain ⟨h0, h1⟩ := hin
    obtain ⟨j, rfl⟩ : ∃ j : Nat, i = (j : Int) := ⟨i.toNat, by omega⟩
    have hj : j < s.size := by omega
    by_cases hl : s[j] = c
    · have e : sgnI s.data.toList c (j : Int) = j + 1 := by
        unfold sgnI
        rw [if_pos]
        exact ⟨h0, by rw [size_data]; exact h1, by rw [Int.toNat_natCast, getD_data s j hj, hl]⟩
      rw [e]
      clear e
      have hq : ((s[j].toNat : Int) == (c.toNat : Int)) = true := by rw [hl]; simp
      clear hl
      go_enter Tryd.func102, Tryd.ntmps102
      go_wp2_with (first | (go_at_call 56; refine (within_yes _ _ _ h0 h1).mono ?_; rintro e w' ⟨rfl, rfl⟩) | (go_at_call 58; refine (behind_dg _ _ _ hs).mono ?_; rintro e w' ⟨rfl, rfl⟩))
      go_ret2
      exact ⟨rfl, rfl⟩
    · have e : sgnI s.data.toList c (j : Int) = j := by
        unfold sgnI
        rw [if_neg]
        rintro ⟨_, _, h⟩
        rw [Int.toNat_natCast, getD_data s j hj] at h
        exact hl h
      rw [e]
      clear e
      have hq : ((s[j].toNat : Int) == (c.toNat : Int)) = false := by
        apply beq_eq_false_iff_ne.2
        intro h
        exact hl (UInt8.toNat_inj.1 (by omega))
      clear hl
      go_enter Tryd.func102, Tryd.ntmps102
      go_wp2_with (first | (go_at_call 56; refine (within_yes _ _ _ h0 h1).mono ?_; rintro e w' ⟨rfl, rfl⟩) | (go_at_call 58; refine (behind_dg _ _ _ hs).mono ?_; rintro e w' ⟨rfl, rfl⟩))
      go_ret2
      exact ⟨rfl, rfl⟩
  · have e : sgnI s.data.toList c i = i := by
      unfold sgnI
      rw [if_neg]
      rintro ⟨a, b, _⟩
      rw [size_data] at b
      exact hin ⟨a, b⟩
    rw [e]
    clear e
    go_enter Tryd.func102, Tryd.ntmps102
    go_wp2_with (first | (go_at_call 56; refine (within_no _ _ _ (by omega)).mono ?_; rintro e w' ⟨rfl, rfl⟩) | (go_at_call 58; refine (behind_dg _ _ _ hs).mono ?_; rintro e w' ⟨rfl, rfl⟩))
    go_ret2
    exact ⟨rfl, rfl⟩
end Go.Proofs.YtmceblemiboedaaDoor

/-
  Contracts of package scan: Number, Big, IsName.
-/
namespace Go.Proofs.YtmceblemiboedaaDoor
open Go.RowKit

set_option maxHeartbeats 1000000 in
theorem number_any (s : ByteArray) (i : Int) (w : World) (hs : s.size ≤ 9223372036854775807) :
    Calls Tryd.prog 97 #[.string s, .int .i64 i] w fun e w' => e = .returned (.int .i64 (numI s.data.toList i)) ∧ Below w.heap.size w w' := by
  have hmf : ∀ (fn : Fn) (first cap : Array Value) (w : World), (Instr.makeFunc fn first cap).run Tryd.prog w = .ok (.func fn first cap) w := fun _ _ _ _ => rfl
  obtain ⟨a, ha⟩ : ∃ a, sgnI s.data.toList 45 i = a := ⟨_, rfl⟩
  obtain ⟨e1, he1⟩ : ∃ a1, behI dgB s.data.toList a = a1 := ⟨_, rfl⟩
  obtain ⟨b, hb⟩ : ∃ b, sgnI s.data.toList 46 e1 = b := ⟨_, rfl⟩
  obtain ⟨e2, he2⟩ : ∃ a2, behI dgB s.data.toList b = a2 := ⟨_, rfl⟩
  have hn : numI s.data.toList i = if a < e1 then if b < e2 then e2 else e1 else i := by
    unfold numI
    rw [ha, he1, hb, he2]
  have H1 : ∀ W p, W.cell? ⟨p, 0, none⟩ = some (.string s) → Calls Tryd.prog 102 #[.int .u8 45, .int .i64 i, .pointer (some ⟨p, 0, none⟩)] W fun e w' => e = .returned (.tuple #[.int .i64 e1, .bool (decide (a < e1))]) ∧ W = w' := by
    intro W p hc
    have h := num1_any s 45 i p W hs hc
    rw [ha, he1] at h
    exact h
  have H2 : ∀ W p, W.cell? ⟨p, 0, none⟩ = some (.string s) → Calls Tryd.prog 102 #[.int .u8 46, .int .i64 e1, .pointer (some ⟨p, 0, none⟩)] W fun e w' => e = .returned (.tuple #[.int .i64 e2, .bool (decide (b < e2))]) ∧ W = w' := by
    intro W p hc
    have h := num1_any s 46 e1 p W hs hc
    rw [hb, he2] at h
    exact h
  have HN := Lib.hid hn
  have K1 := Lib.hid H1
  have K2 := Lib.hid H2
  clear hn ha he1 hb he2 H1 H2
  by_cases h1 : a < e1
  · by_cases h2 : b < e2
    · have E := Lib.hid (show numI s.data.toList i = e2 by rw [HN.out, if_pos h1, if_pos h2])
      have d1 : decide (a < e1) = true := by simpa using h1
      have d2 : decide (b < e2) = true := by simpa using h2
      go_enter Tryd.func97, Tryd.ntmps97
      go_wp2_with fail
      go_at_call 102
      refine (K1.out _ _ (by simp)).mono ?_
      rintro e w' ⟨rfl, rfl⟩
      go_wp2_with fail
      go_at_call 102
      refine (K2.out _ _ (by simp)).mono ?_
      rintro e w' ⟨rfl, rfl⟩
      go_wp2_with fail
      go_ret
      exact ⟨ret_int E.out.symm, (Below.refl _ _).alloc (Nat.le_refl _) _⟩
    · have E := Lib.hid (show numI s.data.toList i = e1 by rw [HN.out, if_pos h1, if_neg h2])
      have d1 : decide (a < e1) = true := by simpa using h1
      have d2 : decide (b < e2) = false := by simpa using h2
      go_enter Tryd.func97, Tryd.ntmps97
      go_wp2_with fail
      go_at_call 102
      refine (K1.out _ _ (by simp)).mono ?_
      rintro e w' ⟨rfl, rfl⟩
      go_wp2_with fail
      go_at_call 102
      refine (K2.out _ _ (by simp)).mono ?_
      rintro e w' ⟨rfl, rfl⟩
      go_wp2_with fail
      go_ret
      exact ⟨ret_int E.out.symm, (Below.refl _ _).alloc (Nat.le_refl _) _⟩
  · have E := Lib.hid (show numI s.data.toList i = i by rw [HN.out, if_neg h1])
    have d1 : decide (a < e1) = false := by simpa using h1
    go_enter Tryd.func97, Tryd.ntmps97
    go_wp2_with fail
    go_at_call 102
    refine (K1.out _ _ (by simp)).mono ?_
    rintro e w' ⟨rfl, rfl⟩
    go_wp2_with fail
    go_ret
    exact ⟨ret_int E.out.symm, (Below.refl _ _).alloc (Nat.le_refl _) _⟩

def bigV (s : ByteArray) : Bool := !s.data.toList.isEmpty && (behI biB s.data.toList 0 == (s.size : Int))
theorem big_any (s : ByteArray) (w : World) (hs : s.size ≤ 9223372036854775807) :
    Calls Tryd.prog 84 #[.string s] w fun e w' => e = .returned (.bool (bigV s)) ∧ w = w' := by
  have hv : bigV s = (!s.toList.isEmpty && (behI biB s.data.toList 0 == (s.size : Int))) := by unfold bigV; rw [Lib.toList_data]
  have HV := Lib.hid hv
  clear hv
  go_enter Tryd.func84, Tryd.ntmps84
  go_wp2_with (go_at_call 58; refine (behind_bi _ _ _ hs).mono ?_; rintro e w' ⟨rfl, rfl⟩)
  all_goals
    go_ret
    exact ⟨ret_bool (by rw [HV.out] <;> simp [*]), rfl⟩
def isNameV (s : ByteArray) : Bool := !s.data.toList.isEmpty && (nameI s.data.toList 0 == (s.size : Int))
theorem isName_any (s : ByteArray) (w : World) (hs : s.size ≤ 9223372036854775807) :
    Calls Tryd.prog 25 #[.string s] w fun e w' => e = .returned (.bool (isNameV s)) ∧ w = w' := by
  have hv : isNameV s = (!s.toList.isEmpty && (nameI s.data.toList 0 == (s.size : Int))) := by unfold isNameV; rw [Lib.toList_data]
  have HV := Lib.hid hv
  clear hv
  go_enter Tryd.func25, Tryd.ntmps25
  go_wp2_with (go_at_call 39; refine (name_any _ _ _ hs).mono ?_; rintro e w' ⟨rfl, rfl⟩)
  all_goals
    go_ret
    exact ⟨ret_bool (by rw [HV.out] <;> simp [*]), rfl⟩
end Go.Proofs.YtmceblemiboedaaDoor

/-
  Plain mathematics of package scan: names, numbers, and the longest piece that is so.
-/
namespace Go.Proofs.YtmceblemiboedaaDoor

def at0 (l : List UInt8) (m : Nat) : UInt8 := l.getD m 0
/-- The piece of a text from i up to k. -/
def pc (l : List UInt8) (i k : Nat) : List UInt8 := (l.take k).drop i
theorem pc_length (l : List UInt8) (i k : Nat) (hk : k ≤ l.length) : (pc l i k).length = k - i := by
  unfold pc; rw [List.length_drop, List.length_take]; omega
theorem pc_at (l : List UInt8) (i k m : Nat) (h : i + m < k) : at0 (pc l i k) m = at0 l (i + m) := by
  unfold at0 pc
  rw [List.getD_eq_getElem?_getD, List.getD_eq_getElem?_getD, List.getElem?_drop, List.getElem?_take_of_lt h]
theorem at0_get (l : List UInt8) (m : Nat) (h : m < l.length) : at0 l m = l[m] := by
  unfold at0; rw [List.getD_eq_getElem?_getD, List.getElem?_eq_getElem h]; rfl
theorem all_at (p : UInt8 → Bool) (l : List UInt8) : l.all p = true ↔ ∀ m, m < l.length → p (at0 l m) = true := by
  rw [List.all_eq_true]
  constructor
  · intro h m hm
    rw [at0_get l m hm]
    exact h _ (List.getElem_mem hm)
  · intro h x hx
    obtain ⟨m, hm, rfl⟩ := List.getElem_of_mem hx
    rw [← at0_get l m hm]
    exact h m hm
theorem behN_in (p : UInt8 → Bool) (l : List UInt8) : ∀ (n k : Nat), l.length - k ≤ n → (∀ m, k ≤ m → m < behN p l k → p (at0 l m) = true) ∧ (behN p l k < l.length → p (at0 l (behN p l k)) = false)
  | 0, k, h => by
    have e := behN_end p l k (by omega)
    rw [e]
    exact ⟨fun m h1 h2 => by omega, fun h1 => by omega⟩
  | n + 1, k, h => by
    by_cases hk : k < l.length
    · cases hp : p l[k]
      · have e := behN_no p l k hk hp
        rw [e]
        exact ⟨fun m h1 h2 => by omega, fun _ => by rw [at0_get l k hk]; exact hp⟩
      · have e := behN_yes p l k hk hp
        obtain ⟨a, b⟩ := behN_in p l n (k + 1) (by omega)
        rw [e] at a b
        refine ⟨fun m h1 h2 => ?_, b⟩
        by_cases hm : m = k
        · subst hm; rw [at0_get l m hk]; exact hp
        · exact a m (by omega) h2
    · have e := behN_end p l k (by omega)
      rw [e]
      exact ⟨fun m h1 h2 => by omega, fun h1 => by omega⟩
theorem behN_so (p : UInt8 → Bool) (l : List UInt8) (k m : Nat) (h1 : k ≤ m) (h2 : m < behN p l k) : p (at0 l m) = true := (behN_in p l _ k (Nat.le_refl _)).1 m h1 h2
theorem behN_stop (p : UInt8 → Bool) (l : List UInt8) (k : Nat) (h : behN p l k < l.length) : p (at0 l (behN p l k)) = false := (behN_in p l _ k (Nat.le_refl _)).2 h

/-- The end of the longest piece from i on that is so, among those that end at n or ahead. -/
def longN (Q : List UInt8 → Bool) (l : List UInt8) (i : Nat) : Nat → Nat
  | 0 => i
  | k + 1 => if i < k + 1 ∧ Q (pc l i (k + 1)) = true then k + 1 else longN Q l i k
theorem longN_eq (Q : List UInt8 → Bool) (l : List UInt8) (i r : Nat) (hr : r = i ∨ (i < r ∧ Q (pc l i r) = true)) : ∀ n, (r ≤ n ∨ r = i) → (∀ k, r < k → k ≤ n → Q (pc l i k) = false) → longN Q l i n = r
  | 0, hn, h => by
    unfold longN
    omega
  | n + 1, hn, h => by
    unfold longN
    by_cases e : r = n + 1
    · subst e
      rcases hr with hr | ⟨h1, h2⟩
      · rw [if_neg (by omega)]
        exact longN_eq Q l i (n + 1) (.inl hr) n (.inr hr) (fun k a b => by omega)
      · rw [if_pos ⟨h1, h2⟩]
    · by_cases hlt : r < n + 1
      · rw [if_neg]
        · exact longN_eq Q l i r hr n (by omega) (fun k a b => h k a (by omega))
        · rintro ⟨_, hq⟩
          rw [h (n + 1) hlt (Nat.le_refl _)] at hq
          cases hq
      · have hi : r = i := by omega
        rw [if_neg (by omega)]
        exact longN_eq Q l i r hr n (.inr hi) (fun k a b => by omega)
/-- .. of any place. -/
def longI (Q : List UInt8 → Bool) (l : List UInt8) (i : Int) : Int := if i < 0 ∨ (l.length : Int) < i then i else (longN Q l i.toNat l.length : Int)

theorem long_all (p : UInt8 → Bool) (l : List UInt8) (i : Nat) (hi : i ≤ l.length) : longN (fun x => x.all p) l i l.length = behN p l i := by
  have h1 := behN_ge p l i
  have h2 := behN_le p l i hi
  apply longN_eq
  · by_cases e : behN p l i = i
    · exact .inl e
    · right
      refine ⟨by omega, (all_at _ _).2 fun m hm => ?_⟩
      rw [pc_length l i _ h2] at hm
      rw [pc_at l i _ m (by omega)]
      exact behN_so p l i _ (by omega) (by omega)
  · exact .inl h2
  · intro k hk hkn
    apply Bool.eq_false_iff.2
    intro hq
    have hq := (all_at _ _).1 hq (behN p l i - i) (by rw [pc_length l i k hkn]; omega)
    rw [pc_at l i k _ (by omega), show i + (behN p l i - i) = behN p l i by omega, behN_stop p l i (by omega)] at hq
    cases hq
theorem longI_all (p : UInt8 → Bool) (l : List UInt8) (i : Int) : longI (fun x => x.all p) l i = behI p l i := by
  unfold longI behI
  by_cases h0 : i < 0
  · rw [if_pos (.inl h0), if_pos h0]
  · rw [if_neg h0]
    by_cases h1 : (l.length : Int) < i
    · rw [if_pos (.inr h1), behN_end _ _ _ (by omega)]; omega
    · rw [if_neg (by omega), long_all p l _ (by omega)]

/-- A name, as the law reads it: sign by sign. -/
def goodAt (l : List UInt8) (k : Nat) : Bool := leB (at0 l k) || (decide (0 < k) && (dgB (at0 l k) || joB (at0 l k)))
def lnameB (l : List UInt8) : Bool := decide (0 < l.length ∧ ∀ k, k < l.length → goodAt l k = true)
theorem good_na {l : List UInt8} {k : Nat} (h : goodAt l k = true) : naB (at0 l k) = true := by
  unfold goodAt at h; unfold naB
  cases h1 : leB (at0 l k) <;> cases h2 : dgB (at0 l k) <;> cases h3 : joB (at0 l k) <;> simp_all
theorem na_good {l : List UInt8} {k : Nat} (hk : 0 < k) (h : naB (at0 l k) = true) : goodAt l k = true := by
  unfold naB at h; unfold goodAt
  cases h1 : leB (at0 l k) <;> cases h2 : dgB (at0 l k) <;> cases h3 : joB (at0 l k) <;> simp_all
theorem le_good {l : List UInt8} {k : Nat} (h : leB (at0 l k) = true) : goodAt l k = true := by
  unfold goodAt; rw [h]; rfl
theorem good_zero {l : List UInt8} (h : goodAt l 0 = true) : leB (at0 l 0) = true := by
  unfold goodAt at h; simpa using h
theorem le_na {c : UInt8} (h : leB c = true) : naB c = true := by unfold naB; rw [h]; rfl
theorem lname_iff (l : List UInt8) (i k : Nat) (hk : k ≤ l.length) : lnameB (pc l i k) = true ↔ (i < k ∧ leB (at0 l i) = true ∧ ∀ m, i ≤ m → m < k → naB (at0 l m) = true) := by
  unfold lnameB
  rw [decide_eq_true_iff, pc_length l i k hk]
  constructor
  · rintro ⟨h1, h2⟩
    refine ⟨by omega, ?_, ?_⟩
    · have := good_zero (h2 0 h1)
      rw [pc_at l i k 0 (by omega)] at this
      exact this
    · intro m hm hmk
      have := good_na (h2 (m - i) (by omega))
      rw [pc_at l i k _ (by omega), show i + (m - i) = m by omega] at this
      exact this
  · rintro ⟨h1, h2, h3⟩
    refine ⟨by omega, fun m hm => ?_⟩
    by_cases e : m = 0
    · subst e
      apply le_good
      rw [pc_at l i k 0 (by omega)]
      exact h2
    · apply na_good (by omega)
      rw [pc_at l i k m (by omega)]
      exact h3 _ (by omega) (by omega)
theorem long_name (l : List UInt8) (i : Nat) (hi : i ≤ l.length) : longN lnameB l i l.length = if i < l.length ∧ leB (at0 l i) = true then behN naB l i else i := by
  have h1 := behN_ge naB l i
  have h2 := behN_le naB l i hi
  by_cases hc : i < l.length ∧ leB (at0 l i) = true
  · rw [if_pos hc]
    have h3 : i < behN naB l i := by
      rw [← behN_yes naB l i hc.1 (by rw [← at0_get l i hc.1]; exact le_na hc.2)]
      exact behN_ge naB l (i + 1)
    apply longN_eq
    · exact .inr ⟨h3, (lname_iff l i _ h2).2 ⟨h3, hc.2, fun m a b => behN_so naB l i m a b⟩⟩
    · exact .inl h2
    · intro k hk hkn
      apply Bool.eq_false_iff.2
      intro hq
      have hq := ((lname_iff l i k hkn).1 hq).2.2 (behN naB l i) h1 hk
      rw [behN_stop naB l i (by omega)] at hq
      cases hq
  · rw [if_neg hc]
    apply longN_eq
    · exact .inl rfl
    · exact .inr rfl
    · intro k hk hkn
      apply Bool.eq_false_iff.2
      intro hq
      have hq := (lname_iff l i k hkn).1 hq
      exact hc ⟨by omega, hq.2.1⟩
end Go.Proofs.YtmceblemiboedaaDoor

/-
  Package ast: what may be, of trees; how two trees are the same.
-/
namespace Go.Proofs.YtmceblemiboedaaDoor
open Go.RowKit
set_option linter.unusedVariables false

/-- Is a text made of signs alone? Is it a number? -/
def validB (s : ByteArray) : Bool := Lib.validD s.data.toList
def isNum (s : ByteArray) : Bool := !s.data.toList.isEmpty && (numI s.data.toList 0 == (s.size : Int))
def emp (s : ByteArray) : Bool := s.toList.isEmpty
/-- Where an expression stands: inline, in braces, asked. -/
inductive Md where | inl | brc | ask
/-- What is asked of an expression's own fields, but for what stands within. -/
def inlP (k : Int) (t n a : ByteArray) (as0 i0 vs0 argsOk innerOk : Bool) : Bool :=
  if k = 0 then validB t && (emp n && emp a && as0 && i0 && vs0)
  else if k = 1 then isNum t && (emp n && emp a && as0 && i0 && vs0)
  else if k = 2 then isNameV n && (emp t && emp a && as0 && i0 && vs0)
  else if k = 3 then isNameV n && (emp a || isNameV a) && (emp t && as0 && i0 && vs0)
  else if k = 4 then isNameV n && argsOk && (emp t && emp a && i0 && vs0)
  else if k = 5 then isNameV n && bigV n && argsOk && (emp t && emp a && i0 && vs0)
  else if k = 6 then innerOk && (emp t && emp n && emp a && as0 && vs0)
  else false
def memB (n : ByteArray) (seen : List ByteArray) : Bool := seen.any fun s => decide (n = s)
/-- The names of arguments: first those without, then those with one, none twice, each of a text or a number. -/
def argNames : List ByteArray → List AR → Bool
  | _, [] => true
  | seen, .mk n (.mk k _ _ _ _ _ _) :: r =>
    if emp n then seen.isEmpty && argNames seen r
    else !memB n seen && isNameV n && (k == 0 || k == 1) && argNames (n :: seen) r
def vaDflt : VA → Bool | .mk _ d _ => d
def vaKey : VA → ByteArray | .mk k _ _ => k
def vaVal : VA → List EL | .mk _ _ v => v
def elText : EL → ByteArray | .mk t _ => t
def elPlace : EL → Option EX | .mk _ p => p
def arName : AR → ByteArray | .mk n _ => n
def arVal : AR → EX | .mk _ e => e
/-- A pattern's lines: '{' (or another sign) for each place. -/
def linesOf (c : UInt8) : List EL → List UInt8
  | [] => []
  | .mk t none :: r => t.data.toList ++ linesOf c r
  | .mk t (some _) :: r => c :: linesOf c r
def isMarkB (c : UInt8) : Bool := decide ((c.toNat : Int) = 46 ∨ (c.toNat : Int) = 42 ∨ (c.toNat : Int) = 91)
/-- A line that isn't empty begins behind this place; with something wrong behind its spaces; without spaces. -/
def newAt (l : List UInt8) (i : Nat) : Bool := (at0 l i == 10) && decide (i + 1 < l.length) && !(at0 l (i + 1) == 10)
def badAt (l : List UInt8) (i : Nat) : Bool := newAt l i && (at0 l (behN spB l (i + 1)) == 10 || isMarkB (at0 l (behN spB l (i + 1))))
def flushAt (l : List UInt8) (i : Nat) : Bool := newAt l i && !spB (at0 l (i + 1))
def anyTo (p : Nat → Bool) : Nat → Bool
  | 0 => false
  | m + 1 => anyTo p m || p m
def linesB (l : List UInt8) : Bool :=
  !blB (at0 l 0) && !blB (at0 l (l.length - 1)) && !anyTo (badAt l) l.length && (!isMarkB (at0 l 0) || !anyTo (newAt l) l.length || anyTo (flushAt l) l.length)
/-- A pattern's texts. -/
def textB (t : ByteArray) : Bool := validB t && !t.data.toList.contains 13
def textsB : Bool → List EL → Bool
  | _, [] => true
  | beside, .mk t none :: r => !emp t && textB t && !(t.data.toList.contains 123 || t.data.toList.contains 125) && !beside && textsB true r
  | _, .mk t (some _) :: r => emp t && textsB false r
/-- A pattern, but for its places. -/
def patL (l : List EL) : Bool := textsB false l && (l.isEmpty || linesB (linesOf 123 l))
/-- A Select's variants, but for what stands in them. -/
def varsL (vs : List VA) : Bool := vs.all (fun v => (isNameV (vaKey v) || isNum (vaKey v)) && !(vaVal v).isEmpty && patL (vaVal v)) && (vs.countP vaDflt == 1)

mutual
def okE : Md → EX → Nat → Bool
  | m, .mk k t n a al i vs, d =>
    match m with
    | .inl => inlP k t n a al.isEmpty i.isNone vs.isEmpty (argNames [] al && okAs al d) (okO .brc i (d + 1))
    | .brc => decide (d ≤ 20) && (if k = 7 then emp t && emp n && emp a && al.isEmpty && varsL vs && okVs vs d && okO .ask i d
        else inlP k t n a al.isEmpty i.isNone vs.isEmpty (argNames [] al && okAs al d) (okO .brc i (d + 1)))
    | .ask => if k = 4 then isNameV a && inlP k t n ByteArray.empty al.isEmpty i.isNone vs.isEmpty (argNames [] al && okAs al d) (okO .brc i (d + 1))
        else if k = 0 ∨ k = 1 ∨ k = 2 ∨ k = 5 then inlP k t n a al.isEmpty i.isNone vs.isEmpty (argNames [] al && okAs al d) (okO .brc i (d + 1)) else false
def okO : Md → Option EX → Nat → Bool
  | _, none, _ => false
  | m, some e, d => okE m e d
def okAs : List AR → Nat → Bool
  | [], _ => true
  | .mk _ e :: r, d => okE .inl e d && okAs r d
def okVs : List VA → Nat → Bool
  | [], _ => true
  | .mk _ _ v :: r, d => okEs v (d + 1) && okVs r d
def okEs : List EL → Nat → Bool
  | [], _ => true
  | .mk _ none :: r, d => okEs r d
  | .mk _ (some e) :: r, d => okE .brc e d && okEs r d
end
/-- May a pattern be, within so many braces? -/
def patB (l : List EL) (d : Nat) : Bool := patL l && okEs l (d + 1)

/-- What may still be to be asked. -/
inductive Qn where
  | same (a b : EX)
  | pats (a b : List EL)
  | may (m : Md) (e : EX) (d : Nat)
def Qn.ans : Qn → Bool
  | .same a b => sameE a b
  | .pats a b => sameEs a b
  | .may m e d => okE m e d
def Qn.size : Qn → Nat
  | .same a _ => a.size
  | .pats a _ => 1 + sizeEs a
  | .may _ e _ => e.size
def total : List Qn → Nat
  | [] => 0
  | q :: r => q.size + total r
theorem total_append (a b : List Qn) : total (a ++ b) = total a + total b := by
  induction a with
  | nil => simp [total]
  | cons q r ih => simp [total, ih]; omega
theorem EX.size_pos : ∀ e : EX, 1 ≤ e.size
  | .mk .. => by rw [EX.size]; omega
theorem Qn.size_pos (q : Qn) : 1 ≤ q.size := by
  cases q with
  | same a b => exact a.size_pos
  | pats a b => rw [Qn.size]; omega
  | may m e d => exact e.size_pos
theorem total_length : ∀ qs : List Qn, qs.length ≤ total qs
  | [] => Nat.le_refl _
  | q :: r => by have := total_length r; have := q.size_pos; simp only [List.length_cons, total]; omega
def answers (qs : List Qn) : Bool := qs.all Qn.ans
theorem answers_append (a b : List Qn) : answers (a ++ b) = (answers a && answers b) := by simp [answers]
end Go.Proofs.YtmceblemiboedaaDoor

/-
  Package ast: 'later': a question is put off.
-/
namespace Go.Proofs.YtmceblemiboedaaDoor
open Go.RowKit
set_option linter.unusedVariables false

set_option maxHeartbeats 1000000 in
set_option maxRecDepth 100000 in
theorem later_any {B qb : Nat} {fvs : List Value} {w : World} (N : FuncId) (caps : Array Value) (hq : QAt B qb fvs w) (hB : B ≤ w.heap.size) (hn : fvs.length ≤ 1000000000) :
    Calls Tryd.prog 42 #[.pointer (some ⟨qb, 0, none⟩), .func (.func N) #[] caps] w fun e w' => e = .returned (.bool true) ∧ QAt B qb (fvs ++ [.func (.func N) #[] caps]) w' ∧ StepQ B qb w w' := by
  obtain ⟨i0, hi, hz0, hz1, hz2⟩ := info_parts infoFn
  obtain ⟨hBq, v, hb, hown⟩ := hq
  have hlt := hb.lt
  have hne : v.ownBlock ≠ some qb := Lib.ownBlock_ne hown hb (by decide)
  have c0 : w.cell? ⟨qb, 0, none⟩ = some v := hb.cell 0
  have f0 : w.frozen? ⟨qb, 0, none⟩ = false := Lib.frozen_of_heap hb 0
  have hform : ∃ ao n cap, v = .slice ao n cap := by
    rcases hown.2 with ⟨hv, _⟩ | ⟨g, cap, cur, hv, _⟩
    · exact ⟨_, _, _, hv⟩
    · exact ⟨_, _, _, hv⟩
  obtain ⟨ao, n0, cap0, rfl⟩ := hform
  have Hn := Lib.hid hn
  clear hn
  go_enter Tryd.func42, Tryd.ntmps42
  go_wp2_with (at_builtin; go_loud (refine wpList_append_own _ rfl _ _ 44 rfl B 27 i0 .nilFunc 1 8 Tryd.underlying44 hi hz0 hz1 hz2 rfl (by decide) _ _ _ rfl (hown.alloc _) ⟨w.heap.size, 0, none⟩ 1 1 [.func (.func N) #[] caps] rfl rfl ?c1 ?c2 ?c3 ?c4 ?c5 ?_))
  case c1 =>
    intro j u hj
    match j, hj with
    | 0, hj => simp at hj; subst hj; simp [Addr.add]
  case c2 => intro u hu; simp at hu; subst hu; rfl
  case c3 => have := Hn.out; unfold maxLen; omega
  case c4 => have := Hn.out; omega
  case c5 => simp; omega
  intro v' w2 hown' hgrow _
  have hb2 : BoxAt w2 qb #[.slice ao n0 cap0] 46 := by
    unfold BoxAt
    rw [hgrow.block qb (by simp; omega) (fun e => hne e.symm), Lib.alloc_old w _ qb hlt]
    exact hb
  have d0 : w2.cell? ⟨qb, 0, none⟩ = some (.slice ao n0 cap0) := hb2.cell 0
  have f1 : w2.frozen? ⟨qb, 0, none⟩ = false := Lib.frozen_of_heap hb2 0
  obtain ⟨g, cap, rfl⟩ : ∃ g cap, v' = .slice (some ⟨g, 0, none⟩) (fvs.length + 1) cap := by
    rcases hown'.2 with ⟨_, h0⟩ | ⟨g, cap, cur, hv, _⟩
    · omega
    · exact ⟨g, cap, hv⟩
  go_wp2
  go_ret
  have hne' : (Value.slice (some ⟨g, 0, none⟩) (fvs.length + 1) cap).ownBlock ≠ some qb := Lib.ownBlock_ne hown' hb2 (by decide)
  refine ⟨rfl, ⟨hBq, .slice (some ⟨g, 0, none⟩) (fvs.length + 1) cap, ?_, ?_⟩, ⟨?_, ?_⟩⟩
  · unfold BoxAt at hb2 ⊢
    simp [World.setCell, Array.getElem?_modify, hb2]
  · simpa using ownsRow_setCell_other hown' (a := ⟨qb, 0, none⟩) hne' _
  · exact (((Below.refl B w).alloc hB _).grown hgrow (by simp; omega) (fun k hk => by
      rcases hown.2 with ⟨hv, _⟩ | ⟨g, cap, cur, hv, hg, _⟩
      · rw [hv] at hk; simp [Value.ownBlock] at hk
      · rw [hv] at hk; simp [Value.ownBlock] at hk; omega)).setCell (p := ⟨qb, 0, none⟩) hBq _
  · exact (((Lib.OthersKept.refl _ _ w).alloc _).grown hgrow (Lib.ownsRow_kind (hown.alloc _))).setCell ⟨qb, 0, none⟩ rfl _
end Go.Proofs.YtmceblemiboedaaDoor

/-
  Package ast: what stands in the list of questions; what a call asks.
-/
namespace Go.Proofs.YtmceblemiboedaaDoor
open Go.RowKit
set_option linter.unusedVariables false

def pt (k : Nat) : Value := .pointer (some ⟨k, 0, none⟩)
/-- That function value asks that. -/
def IsQ (W0 : World) (qb : Nat) (fv : Value) : Qn → World → Prop
  | .same a b, w => ∃ k1 k2 k3 pa pb, fv = .func (.func 52) #[] #[pt k1, pt k2, pt k3] ∧
      BoxAt w k1 #[pt qb] 52 ∧ BoxAt w k2 #[pa] 33 ∧ BoxAt w k3 #[pb] 33 ∧ OAt W0 (some a) pa ∧ OAt W0 (some b) pb
  | .pats a b, w => ∃ k1 k2 k3 b1 o1 b2 o2 u1 u2, fv = .func (.func 91) #[] #[pt k1, pt k2, pt k3] ∧
      BoxAt w k1 #[pt qb] 52 ∧ BoxAt w k2 #[.pointer (some ⟨b1, o1, none⟩)] 105 ∧ BoxAt w k3 #[.pointer (some ⟨b2, o2, none⟩)] 105 ∧
      b1 < W0.heap.size ∧ b2 < W0.heap.size ∧ W0.cell? ⟨b1, o1 + 2, none⟩ = some u1 ∧ W0.cell? ⟨b2, o2 + 2, none⟩ = some u2 ∧ PatAt W0 a u1 ∧ PatAt W0 b u2
  | .may .brc e d, w => ∃ N k1 k2 k3 p d', (N = 43 ∨ N = 85) ∧ d = d' + 1 ∧ d' ≤ 20 ∧ fv = .func (.func N) #[] #[pt k1, pt k2, pt k3] ∧
      BoxAt w k1 #[pt qb] 52 ∧ BoxAt w k2 #[p] 33 ∧ BoxAt w k3 #[.int .i64 (d' : Nat)] 3 ∧ OAt W0 (some e) p
  | .may .inl e d, w => ∃ k1 k2 k3 p, d ≤ 20 ∧ fv = .func (.func 98) #[] #[pt k1, pt k2, pt k3] ∧
      BoxAt w k1 #[pt qb] 52 ∧ BoxAt w k2 #[p] 33 ∧ BoxAt w k3 #[.int .i64 (d : Nat)] 3 ∧ OAt W0 (some e) p
  | .may .ask _ _, _ => False
theorem ne_of_box {w : World} {k qb : Nat} {cs cs' : Array Value} {t t' : TypeId} (h : BoxAt w k cs t) (h' : BoxAt w qb cs' t') (ht : t ≠ t') : k ≠ qb := by
  rintro rfl
  unfold BoxAt at h h'
  rw [h] at h'
  cases h'
  exact ht rfl
theorem IsQ.step {W0 : World} {qb : Nat} {fv : Value} {q : Qn} {w w' : World} {B : Nat} {cs : Array Value} (h : IsQ W0 qb fv q w) (hq : BoxAt w qb cs 46) (hs : StepQ B qb w w') : IsQ W0 qb fv q w' := by
  have go : ∀ {k c t}, BoxAt w k c t → t ≠ 46 → t ≠ 27 → BoxAt w' k c t := fun hb h1 h2 => hb.step hs (ne_of_box hb hq h1) h2
  match q, h with
  | .same a b, ⟨k1, k2, k3, pa, pb, e, b1, b2, b3, r⟩ => exact ⟨k1, k2, k3, pa, pb, e, go b1 (by decide) (by decide), go b2 (by decide) (by decide), go b3 (by decide) (by decide), r⟩
  | .pats a b, ⟨k1, k2, k3, x1, o1, x2, o2, u1, u2, e, b1, b2, b3, r⟩ => exact ⟨k1, k2, k3, x1, o1, x2, o2, u1, u2, e, go b1 (by decide) (by decide), go b2 (by decide) (by decide), go b3 (by decide) (by decide), r⟩
  | .may .brc a d, ⟨N, k1, k2, k3, p, d', hN, hd, hd2, e, b1, b2, b3, r⟩ => exact ⟨N, k1, k2, k3, p, d', hN, hd, hd2, e, go b1 (by decide) (by decide), go b2 (by decide) (by decide), go b3 (by decide) (by decide), r⟩
  | .may .inl a d, ⟨k1, k2, k3, p, hd, e, b1, b2, b3, r⟩ => exact ⟨k1, k2, k3, p, hd, e, go b1 (by decide) (by decide), go b2 (by decide) (by decide), go b3 (by decide) (by decide), r⟩
/-- They ask these, one by one. -/
def QZip (W0 : World) (qb : Nat) (w : World) : List Value → List Qn → Prop
  | [], [] => True
  | f :: fs, q :: qs => IsQ W0 qb f q w ∧ QZip W0 qb w fs qs
  | _, _ => False
theorem QZip.len {W0 : World} {qb : Nat} {w : World} : ∀ {fs : List Value} {qs : List Qn}, QZip W0 qb w fs qs → fs.length = qs.length
  | [], [], _ => rfl
  | f :: fs, q :: qs, h => by have := QZip.len h.2; simp [this]
  | [], q :: qs, h => h.elim
  | f :: fs, [], h => h.elim
theorem QZip.step {W0 : World} {qb : Nat} {w w' : World} {B : Nat} {cs : Array Value} (hq : BoxAt w qb cs 46) (hs : StepQ B qb w w') : ∀ {fs : List Value} {qs : List Qn}, QZip W0 qb w fs qs → QZip W0 qb w' fs qs
  | [], [], _ => trivial
  | f :: fs, q :: qs, h => ⟨h.1.step hq hs, QZip.step hq hs h.2⟩
  | [], q :: qs, h => h.elim
  | f :: fs, [], h => h.elim
theorem QZip.snoc {W0 : World} {qb : Nat} {w : World} {f : Value} {q : Qn} (hf : IsQ W0 qb f q w) : ∀ {fs : List Value} {qs : List Qn}, QZip W0 qb w fs qs → QZip W0 qb w (fs ++ [f]) (qs ++ [q])
  | [], [], _ => ⟨hf, trivial⟩
  | f :: fs, q :: qs, h => ⟨h.1, QZip.snoc hf h.2⟩
  | [], q :: qs, h => h.elim
  | f :: fs, [], h => h.elim
theorem QZip.pop {W0 : World} {qb : Nat} {w : World} {q : Qn} : ∀ {qs : List Qn} {fs : List Value}, QZip W0 qb w fs (qs ++ [q]) → ∃ fs' f, fs = fs' ++ [f] ∧ QZip W0 qb w fs' qs ∧ IsQ W0 qb f q w
  | [], [f], h => ⟨[], f, rfl, trivial, h.1⟩
  | [], [], h => h.elim
  | [], _ :: _ :: _, h => h.2.elim
  | q' :: qs, [], h => h.elim
  | q' :: qs, f :: fs, h => by
    obtain ⟨fs', g, rfl, h1, h2⟩ := QZip.pop (qs := qs) (fs := fs) h.2
    exact ⟨f :: fs', g, rfl, ⟨h.1, h1⟩, h2⟩

def qMax : Nat := 4000000
/-- The list at block qb asks these; what lies below is as it was at first. -/
def QsAt (W0 : World) (qb : Nat) (qs : List Qn) (w : World) : Prop := ∃ fvs, QAt W0.heap.size qb fvs w ∧ QZip W0 qb w fvs qs ∧ Below W0.heap.size W0 w
theorem QsAt.below {W0 : World} {qb : Nat} {qs : List Qn} {w : World} (h : QsAt W0 qb qs w) : Below W0.heap.size W0 w := by obtain ⟨_, _, _, h⟩ := h; exact h
theorem QsAt.box {W0 : World} {qb : Nat} {qs : List Qn} {w : World} (h : QsAt W0 qb qs w) : ∃ v, BoxAt w qb #[v] 46 := by obtain ⟨_, ⟨_, v, hb, _⟩, _⟩ := h; exact ⟨v, hb⟩
theorem QsAt.lt {W0 : World} {qb : Nat} {qs : List Qn} {w : World} (h : QsAt W0 qb qs w) : W0.heap.size ≤ qb ∧ qb < w.heap.size := by obtain ⟨_, ⟨h1, v, hb, _⟩, _⟩ := h; exact ⟨h1, hb.lt⟩
theorem QsAt.old {W0 : World} {qb : Nat} {qs : List Qn} {w : World} (h : QsAt W0 qb qs w) : W0.heap.size ≤ w.heap.size := h.below.size
theorem QsAt.alloc {W0 : World} {qb : Nat} {qs : List Qn} {w : World} (h : QsAt W0 qb qs w) (o : Obj) : QsAt W0 qb qs (w.alloc o) := by
  obtain ⟨v, hb⟩ := h.box
  have ho := h.old
  obtain ⟨fvs, h1, h2, h3⟩ := h
  exact ⟨fvs, h1.alloc o, h2.step hb ((StepQ.refl W0.heap.size _ _).alloc ho o), h3.alloc ho o⟩
theorem QsAt.drew {W0 : World} {qb : Nat} {qs : List Qn} {w : World} (h : QsAt W0 qb qs w) : QsAt W0 qb qs w.drew := by
  obtain ⟨v, hb⟩ := h.box
  obtain ⟨fvs, h1, h2, h3⟩ := h
  exact ⟨fvs, h1.drew, h2.step hb ((StepQ.refl W0.heap.size _ _).drew), h3.drew⟩

/-- What a call that asks leaves: b holds just if it says so and all that it has put off holds. -/
def Asked (W0 : World) (qb : Nat) (D : Qn → Prop) (qs : List Qn) (w : World) (b : Bool) (n : Nat) (e : Ending) (w' : World) : Prop :=
  ∃ r qs', e = .returned (.bool r) ∧ QsAt W0 qb (qs ++ qs') w' ∧ StepQ W0.heap.size qb w w' ∧ total qs' ≤ n ∧ b = (r && answers qs') ∧ ∀ q ∈ qs', D q
def Asks (W0 : World) (qb : Nat) (D : Qn → Prop) (f : FuncId) (args : Array Value) (w : World) (b : Bool) (n : Nat) : Prop :=
  ∀ qs, QsAt W0 qb qs w → total qs + n ≤ qMax → Calls Tryd.prog f args w (Asked W0 qb D qs w b n)
theorem Asks.at_ {W0 : World} {qb : Nat} {D : Qn → Prop} {f : FuncId} {args : Array Value} {w : World} {b : Bool} {n : Nat} (h : Asks W0 qb D f args w b n) {qs : List Qn} (hq : QsAt W0 qb qs w) (hn : total qs + n ≤ qMax) : Calls Tryd.prog f args w (Asked W0 qb D qs w b n) := h qs hq hn
/-- Nothing put off. -/
theorem Asked.plain {W0 : World} {qb : Nat} {D : Qn → Prop} {qs : List Qn} {w w' : World} {b r : Bool} {n : Nat} (hq : QsAt W0 qb qs w') (hs : StepQ W0.heap.size qb w w') (hb : b = r) : Asked W0 qb D qs w b n (.returned (.bool r)) w' :=
  ⟨r, [], rfl, by simpa using hq, hs, Nat.zero_le _, by simp [answers, hb], by simp⟩
/-- As a call behind some steps gives it. -/
theorem Asked.pre {W0 : World} {qb : Nat} {D : Qn → Prop} {qs : List Qn} {w w1 w' : World} {b : Bool} {n m : Nat} {e : Ending} (hs : StepQ W0.heap.size qb w w1) (h : Asked W0 qb D qs w1 b n e w') (hn : n ≤ m) : Asked W0 qb D qs w b m e w' := by
  obtain ⟨r, qs', h1, h2, h3, h4, h5, h6⟩ := h
  exact ⟨r, qs', h1, h2, hs.trans h3, Nat.le_trans h4 hn, h5, h6⟩
/-- 'later', of a question that the function value asks. -/
theorem later_q {W0 : World} {qb : Nat} {qs : List Qn} {w : World} (N : FuncId) (caps : Array Value) (q : Qn) (hf : IsQ W0 qb (.func (.func N) #[] caps) q w) (hq : QsAt W0 qb qs w) (hn : total qs + q.size ≤ qMax) :
    Calls Tryd.prog 42 #[pt qb, .func (.func N) #[] caps] w fun e w' => e = .returned (.bool true) ∧ QsAt W0 qb (qs ++ [q]) w' ∧ StepQ W0.heap.size qb w w' := by
  obtain ⟨v, hb⟩ := hq.box
  have ho := hq.old
  obtain ⟨fvs, h1, h2, h3⟩ := hq
  have hl := h2.len
  have := total_length qs
  refine (later_any N caps h1 ho (by unfold qMax at hn; omega)).mono ?_
  rintro e w' ⟨rfl, h4, h5⟩
  exact ⟨rfl, ⟨_, h4, (h2.step hb h5).snoc (hf.step hb h5), h3.trans h5.below⟩, h5⟩
end Go.Proofs.YtmceblemiboedaaDoor

/-
  Package ast: of the same cells there is one tree; a tree is the same as itself; elements by their place.
-/
namespace Go.Proofs.YtmceblemiboedaaDoor
open Go.RowKit
set_option linter.unusedVariables false

mutual
theorem sameE_refl : ∀ e : EX, sameE e e = true
  | .mk k t n a al i vs => by
    rw [sameE, sameAs_refl al, sameO_refl i, sameVs_refl vs]
    simp
theorem sameAs_refl : ∀ l : List AR, sameAs l l = true
  | [] => by rw [sameAs]
  | .mk n e :: r => by rw [sameAs, sameE_refl e, sameAs_refl r]; simp
theorem sameO_refl : ∀ i : Option EX, sameO i i = true
  | none => by rw [sameO]
  | some e => by rw [sameO]; exact sameE_refl e
theorem sameVs_refl : ∀ l : List VA, sameVs l l = true
  | [] => by rw [sameVs]
  | .mk n d v :: r => by rw [sameVs, sameEs_refl v, sameVs_refl r]; simp
theorem sameEs_refl : ∀ l : List EL, sameEs l l = true
  | [] => by rw [sameEs]
  | .mk n p :: r => by rw [sameEs, sameO_refl p, sameEs_refl r]; simp
end

theorem CellsAt.uniq {W : World} {b o : Nat} {c c' : C7} (h : CellsAt W b o c) (h' : CellsAt W b o c') : c = c' := by
  obtain ⟨h0, h1, h2, h3, h4, h5, h6⟩ := h
  obtain ⟨g0, g1, g2, g3, g4, g5, g6⟩ := h'
  cases c; cases c'
  simp_all
theorem LieAt.uniqLen {P Q : Nat → Nat → Prop} {v : Value} {n m : Nat} (h : LieAt P v n) (h' : LieAt Q v m) : n = m := by
  obtain ⟨A, c, e, _⟩ := h
  obtain ⟨A', c', e', _⟩ := h'
  rw [e] at e'
  cases e'; rfl
mutual
theorem ExAt.uniq {W : World} : ∀ (e e' : EX) (c : C7), ExAt W e c → ExAt W e' c → e = e'
  | .mk k t n a al i vs, .mk k' t' n' a' al' i' vs', c, h, h' => by
    rw [ExAt] at h h'
    obtain ⟨h1, h2, h3, h4, h5, h6, h7⟩ := h
    obtain ⟨g1, g2, g3, g4, g5, g6, g7⟩ := h'
    have el := h5.uniqLen g5
    have vl := h7.uniqLen g7
    have ea : al = al' := by
      obtain ⟨A, q, e1, _, _, r1⟩ := h5
      obtain ⟨A', q', e2, _, _, r2⟩ := g5
      rw [e1] at e2
      injection e2 with e2 _ _
      subst e2
      by_cases h0 : 0 < al.length
      · obtain ⟨b, o, e3, p1⟩ := r1 h0
        obtain ⟨b', o', e4, p2⟩ := r2 (by omega)
        rw [e3] at e4
        cases e4
        exact AsAt.uniq al al' b o el p1 p2
      · rw [List.eq_nil_of_length_eq_zero (by omega : al.length = 0), List.eq_nil_of_length_eq_zero (by omega : al'.length = 0)]
    have ev : vs = vs' := by
      obtain ⟨A, q, e1, _, _, r1⟩ := h7
      obtain ⟨A', q', e2, _, _, r2⟩ := g7
      rw [e1] at e2
      injection e2 with e2 _ _
      subst e2
      by_cases h0 : 0 < vs.length
      · obtain ⟨b, o, e3, p1⟩ := r1 h0
        obtain ⟨b', o', e4, p2⟩ := r2 (by omega)
        rw [e3] at e4
        cases e4
        exact VsAt.uniq vs vs' b o vl p1 p2
      · rw [List.eq_nil_of_length_eq_zero (by omega : vs.length = 0), List.eq_nil_of_length_eq_zero (by omega : vs'.length = 0)]
    have ei := OAt.uniq i i' _ h6 g6
    rw [h1] at g1; rw [h2] at g2; rw [h3] at g3; rw [h4] at g4
    cases g1; cases g2; cases g3; cases g4
    rw [ea, ev, ei]
theorem OAt.uniq {W : World} : ∀ (i i' : Option EX) (v : Value), OAt W i v → OAt W i' v → i = i'
  | none, none, v, h, h' => rfl
  | none, some e, v, h, h' => by
    simp only [OAt] at h h'
    obtain ⟨b, o, c, e, _⟩ := h'
    rw [h] at e; cases e
  | some e, none, v, h, h' => by
    simp only [OAt] at h h'
    obtain ⟨b, o, c, e, _⟩ := h
    rw [h'] at e; cases e
  | some e, some e', v, h, h' => by
    simp only [OAt] at h h'
    obtain ⟨b, o, c, e1, _, h1, h2⟩ := h
    obtain ⟨b', o', c', e2, _, g1, g2⟩ := h'
    rw [e1] at e2
    cases e2
    obtain rfl := h1.uniq g1
    rw [ExAt.uniq e e' c h2 g2]
theorem AsAt.uniq {W : World} : ∀ (l l' : List AR) (b o : Nat), l.length = l'.length → AsAt W l b o → AsAt W l' b o → l = l'
  | [], [], b, o, _, _, _ => rfl
  | [], _ :: _, b, o, hl, _, _ => by simp at hl
  | _ :: _, [], b, o, hl, _, _ => by simp at hl
  | .mk n e :: r, .mk n' e' :: r', b, o, hl, h, h' => by
    rw [AsAt] at h h'
    obtain ⟨_, h1, ⟨c, h2, h3⟩, h4⟩ := h
    obtain ⟨_, g1, ⟨c', g2, g3⟩, g4⟩ := h'
    obtain rfl := h2.uniq g2
    rw [h1] at g1
    cases g1
    rw [ExAt.uniq e e' c h3 g3, AsAt.uniq r r' b (o + 8) (by simpa using hl) h4 g4]
theorem VsAt.uniq {W : World} : ∀ (l l' : List VA) (b o : Nat), l.length = l'.length → VsAt W l b o → VsAt W l' b o → l = l'
  | [], [], b, o, _, _, _ => rfl
  | [], _ :: _, b, o, hl, _, _ => by simp at hl
  | _ :: _, [], b, o, hl, _, _ => by simp at hl
  | .mk n d v :: r, .mk n' d' v' :: r', b, o, hl, h, h' => by
    rw [VsAt] at h h'
    obtain ⟨_, h1, hd, ⟨c, h2, h3⟩, h4⟩ := h
    obtain ⟨_, g1, gd, ⟨c', g2, g3⟩, g4⟩ := h'
    rw [h2] at g2
    cases g2
    rw [h1] at g1
    cases g1
    rw [hd] at gd
    cases gd
    have hv := h3.uniqLen g3
    have ev : v = v' := by
      obtain ⟨A, q, e1, _, _, r1⟩ := h3
      obtain ⟨A', q', e2, _, _, r2⟩ := g3
      rw [e1] at e2
      injection e2 with e2 _ _
      subst e2
      by_cases h0 : 0 < v.length
      · obtain ⟨b, o, e3, p1⟩ := r1 h0
        obtain ⟨b', o', e4, p2⟩ := r2 (by omega)
        rw [e3] at e4
        cases e4
        exact EsAt.uniq v v' b o hv p1 p2
      · rw [List.eq_nil_of_length_eq_zero (by omega : v.length = 0), List.eq_nil_of_length_eq_zero (by omega : v'.length = 0)]
    rw [ev, VsAt.uniq r r' b (o + 3) (by simpa using hl) h4 g4]
theorem EsAt.uniq {W : World} : ∀ (l l' : List EL) (b o : Nat), l.length = l'.length → EsAt W l b o → EsAt W l' b o → l = l'
  | [], [], b, o, _, _, _ => rfl
  | [], _ :: _, b, o, hl, _, _ => by simp at hl
  | _ :: _, [], b, o, hl, _, _ => by simp at hl
  | .mk n p :: r, .mk n' p' :: r', b, o, hl, h, h' => by
    rw [EsAt] at h h'
    obtain ⟨_, h1, ⟨c, h2, h3⟩, h4⟩ := h
    obtain ⟨_, g1, ⟨c', g2, g3⟩, g4⟩ := h'
    rw [h2] at g2
    cases g2
    rw [h1] at g1
    cases g1
    rw [OAt.uniq p p' c h3 g3, EsAt.uniq r r' b (o + 2) (by simpa using hl) h4 g4]
end

theorem EsAt.get {W : World} : ∀ {l : List EL} {b o : Nat} (j : Nat) {t : ByteArray} {p : Option EX}, EsAt W l b o → l[j]? = some (.mk t p) →
    b < W.heap.size ∧ W.cell? ⟨b, o + j * 2, none⟩ = some (.string t) ∧ ∃ u, W.cell? ⟨b, o + j * 2 + 1, none⟩ = some u ∧ OAt W p u
  | [], b, o, j, t, p, h, hj => by simp at hj
  | .mk t' p' :: r, b, o, 0, t, p, h, hj => by
    rw [EsAt] at h
    simp at hj
    obtain ⟨rfl, rfl⟩ := hj
    obtain ⟨h0, h1, h2, _⟩ := h
    exact ⟨h0, by simpa using h1, by simpa using h2⟩
  | .mk t' p' :: r, b, o, j + 1, t, p, h, hj => by
    rw [EsAt] at h
    have := EsAt.get j h.2.2.2 (by simpa using hj)
    rw [show o + (j + 1) * 2 = o + 2 + j * 2 by omega]
    exact this
theorem AsAt.get {W : World} : ∀ {l : List AR} {b o : Nat} (j : Nat) {t : ByteArray} {e : EX}, AsAt W l b o → l[j]? = some (.mk t e) →
    b < W.heap.size ∧ W.cell? ⟨b, o + j * 8, none⟩ = some (.string t) ∧ ∃ c, CellsAt W b (o + j * 8 + 1) c ∧ ExAt W e c
  | [], b, o, j, t, p, h, hj => by simp at hj
  | .mk t' p' :: r, b, o, 0, t, p, h, hj => by
    rw [AsAt] at h
    simp at hj
    obtain ⟨rfl, rfl⟩ := hj
    obtain ⟨h0, h1, h2, _⟩ := h
    exact ⟨h0, by simpa using h1, by simpa using h2⟩
  | .mk t' p' :: r, b, o, j + 1, t, p, h, hj => by
    rw [AsAt] at h
    have := AsAt.get j h.2.2.2 (by simpa using hj)
    rw [show o + (j + 1) * 8 = o + 8 + j * 8 by omega]
    exact this
theorem VsAt.get {W : World} : ∀ {l : List VA} {b o : Nat} (j : Nat) {t : ByteArray} {d : Bool} {v : List EL}, VsAt W l b o → l[j]? = some (.mk t d v) →
    b < W.heap.size ∧ W.cell? ⟨b, o + j * 3, none⟩ = some (.string t) ∧ W.cell? ⟨b, o + j * 3 + 1, none⟩ = some (.bool d) ∧ ∃ u, W.cell? ⟨b, o + j * 3 + 2, none⟩ = some u ∧ PatAt W v u
  | [], b, o, j, t, d, p, h, hj => by simp at hj
  | .mk t' d' p' :: r, b, o, 0, t, d, p, h, hj => by
    rw [VsAt] at h
    simp at hj
    obtain ⟨rfl, rfl, rfl⟩ := hj
    obtain ⟨h0, h1, hd, h2, _⟩ := h
    exact ⟨h0, by simpa using h1, by simpa using hd, by simpa [PatAt] using h2⟩
  | .mk t' d' p' :: r, b, o, j + 1, t, d, p, h, hj => by
    rw [VsAt] at h
    have := VsAt.get j h.2.2.2.2 (by simpa using hj)
    rw [show o + (j + 1) * 3 = o + 3 + j * 3 by omega]
    exact this
end Go.Proofs.YtmceblemiboedaaDoor
