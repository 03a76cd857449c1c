/-
  Several texts put together (part 5): what the law and the program call, walked; their contracts.
-/
import Derived.Test.YtpgiboblonlddaaGreatDoorQ4
import Derived.Lib.OthersKept
import Derived.Lib.OwnKind
import Derived.Lib.Builder
import Derived.WalkSmall
import Derived.OneCell
import Derived.Laws.EntriesVeiled
import Derived.Laws.AppendOwn
import Derived.Laws.Pointers
import Derived.Defers
import Derived.Laws.LoneSync
import Derived.Laws.NewBlocks
import Derived.RegionTactic
import Derived.RegionCalls
import Derived.ChangeAlike
import Derived.ChangeMaps5
import Derived.Maps.Own
import Derived.Maps.Keyed
import Derived.IntWalk
namespace Go.Proofs.YtpgiboblonlddaaGreatDoor
open Go.RowKit
set_option linter.unusedVariables false
def pt (k : Nat) : Value := .pointer (some ⟨k, 0, none⟩)
def BoxAt (w : World) (k : Nat) (cs : Array Value) (t : TypeId) : Prop := w.heap[k]? = some (.cells cs t (0, 0))
theorem BoxAt.lt {w : World} {k : Nat} {cs : Array Value} {t : TypeId} (h : BoxAt w k cs t) : k < w.heap.size := (Array.getElem?_eq_some_iff.1 h).1
theorem BoxAt.cell {w : World} {k : Nat} {cs : Array Value} {t : TypeId} (h : BoxAt w k cs t) (o : Nat) : w.cell? ⟨k, o, none⟩ = cs[o]? := by
  rw [Lib.cell_of_heap h]
theorem BoxAt.new (w : World) (cs : Array Value) (t : TypeId) : BoxAt (w.alloc (.cells cs t)) w.heap.size cs t := by
  show (w.heap.push _)[w.heap.size]? = _
  simp
theorem BoxAt.alloc {w : World} {k : Nat} {cs : Array Value} {t : TypeId} (h : BoxAt w k cs t) (o : Obj) : BoxAt (w.alloc o) k cs t :=
  (Lib.alloc_old w o k h.lt).trans h
theorem BoxAt.later {w w' : World} {k : Nat} {c : Array Value} {t : TypeId} (h : BoxAt w k c t) (hb : Below w.heap.size w w') : BoxAt w' k c t := (hb.block k h.lt).trans h
theorem BoxAt.setOther {w : World} {k : Nat} {cs : Array Value} {t : TypeId} (h : BoxAt w k cs t) (p : Addr) (v : Value) (hp : k ≠ p.block) : BoxAt (w.setCell p v) k cs t :=
  (Below.heap_setCell w p v k hp).trans h
theorem BoxAt.new' (w : World) (k : Nat) (cs : Array Value) (t : TypeId) (h : k = w.heap.size) : BoxAt (w.alloc (.cells cs t)) k cs t := by rw [h]; exact BoxAt.new w cs t
theorem drop_cons {α : Type} (l : List α) (i : Nat) (x : α) (h : l[i]? = some x) : l.drop i = x :: l.drop (i + 1) := by
  obtain ⟨hi, rfl⟩ := List.getElem?_eq_some_iff.1 h
  exact List.drop_eq_getElem_cons hi
end Go.Proofs.YtpgiboblonlddaaGreatDoor

namespace Go.Proofs.YtpgiboblonlddaaGreatDoor
open Go.RowKit
set_option linter.unusedVariables false
mutual
inductive EX where
  | mk (kind : Int) (text name attr : ByteArray) (args : List AR) (inner : Option EX) (vars : List VA)
inductive AR where
  | mk (name : ByteArray) (value : EX)
inductive VA where
  | mk (key : ByteArray) (dflt : Bool) (value : List EL)
inductive EL where
  | mk (text : ByteArray) (place : Option EX)
end
mutual
def EX.size : EX → Nat
  | .mk _ t n a args inner vars => 1 + t.size + n.size + a.size + sizeAs args + sizeO inner + sizeVs vars
def sizeAs : List AR → Nat
  | [] => 0
  | .mk n v :: r => n.size + v.size + sizeAs r
def sizeO : Option EX → Nat
  | none => 0
  | some e => e.size
def sizeVs : List VA → Nat
  | [] => 0
  | .mk k _ v :: r => 1 + k.size + sizeEs v + sizeVs r
def sizeEs : List EL → Nat
  | [] => 0
  | .mk t p :: r => 1 + t.size + sizeO p + sizeEs r
end
mutual
def sameE : EX → EX → Bool
  | .mk k t n a al i vs, .mk k' t' n' a' al' i' vs' => decide (k = k') && decide (t = t') && decide (n = n') && decide (a = a') && sameAs al al' && sameO i i' && sameVs vs vs'
def sameAs : List AR → List AR → Bool
  | [], [] => true
  | .mk n v :: r, .mk n' v' :: r' => decide (n = n') && sameE v v' && sameAs r r'
  | _, _ => false
def sameO : Option EX → Option EX → Bool
  | none, none => true
  | some e, some e' => sameE e e'
  | _, _ => false
def sameVs : List VA → List VA → Bool
  | [], [] => true
  | .mk n d v :: r, .mk n' d' v' :: r' => decide (n = n') && (d == d') && sameEs v v' && sameVs r r'
  | _, _ => false
def sameEs : List EL → List EL → Bool
  | [], [] => true
  | .mk n p :: r, .mk n' p' :: r' => decide (n = n') && sameO p p' && sameEs r r'
  | _, _ => false
end
structure C7 where
  k : Value
  t : Value
  n : Value
  a : Value
  al : Value
  i : Value
  vs : Value
def CellsAt (W : World) (b o : Nat) (c : C7) : Prop :=
  W.cell? ⟨b, o, none⟩ = some c.k ∧ W.cell? ⟨b, o + 1, none⟩ = some c.t ∧ W.cell? ⟨b, o + 2, none⟩ = some c.n ∧ W.cell? ⟨b, o + 3, none⟩ = some c.a ∧
  W.cell? ⟨b, o + 4, none⟩ = some c.al ∧ W.cell? ⟨b, o + 5, none⟩ = some c.i ∧ W.cell? ⟨b, o + 6, none⟩ = some c.vs
def LieAt (P : Nat → Nat → Prop) (v : Value) (n : Nat) : Prop :=
  ∃ A c, v = .slice A n c ∧ n ≤ c ∧ c ≤ maxLen ∧ (0 < n → ∃ b o, A = some ⟨b, o, none⟩ ∧ P b o)
mutual
def ExAt (W : World) : EX → C7 → Prop
  | .mk k t n a al i vs, c => c.k = .int .i64 k ∧ c.t = .string t ∧ c.n = .string n ∧ c.a = .string a ∧
      LieAt (AsAt W al) c.al al.length ∧ OAt W i c.i ∧ LieAt (VsAt W vs) c.vs vs.length
def OAt (W : World) : Option EX → Value → Prop
  | none, v => v = .pointer none
  | some e, v => ∃ b o c, v = .pointer (some ⟨b, o, none⟩) ∧ b < W.heap.size ∧ CellsAt W b o c ∧ ExAt W e c
def AsAt (W : World) : List AR → Nat → Nat → Prop
  | [], _, _ => True
  | .mk n e :: r, b, o => b < W.heap.size ∧ W.cell? ⟨b, o, none⟩ = some (.string n) ∧ (∃ c, CellsAt W b (o + 1) c ∧ ExAt W e c) ∧ AsAt W r b (o + 8)
def VsAt (W : World) : List VA → Nat → Nat → Prop
  | [], _, _ => True
  | .mk n d v :: r, b, o => b < W.heap.size ∧ W.cell? ⟨b, o, none⟩ = some (.string n) ∧ W.cell? ⟨b, o + 1, none⟩ = some (.bool d) ∧
      (∃ u, W.cell? ⟨b, o + 2, none⟩ = some u ∧ LieAt (EsAt W v) u v.length) ∧ VsAt W r b (o + 3)
def EsAt (W : World) : List EL → Nat → Nat → Prop
  | [], _, _ => True
  | .mk t p :: r, b, o => b < W.heap.size ∧ W.cell? ⟨b, o, none⟩ = some (.string t) ∧ (∃ u, W.cell? ⟨b, o + 1, none⟩ = some u ∧ OAt W p u) ∧ EsAt W r b (o + 2)
end
def PatAt (W : World) (l : List EL) (v : Value) : Prop := LieAt (EsAt W l) v l.length
def emp (s : ByteArray) : Bool := s.toList.isEmpty
def vaDflt : VA → Bool | .mk _ d _ => d
def memB (n : ByteArray) (seen : List ByteArray) : Bool := seen.any fun s => decide (n = s)
def arName : AR → ByteArray | .mk n _ => n
def exV (k : Int) (t n a : ByteArray) (A1 : Option Addr) (n1 c1 : Nat) (i : Option Addr) (A2 : Option Addr) (n2 c2 : Nat) : Value :=
  .agg #[.int .i64 k, .string t, .string n, .string a, .slice A1 n1 c1, .pointer i, .slice A2 n2 c2]
theorem LieAt.imp {P Q : Nat → Nat → Prop} {v : Value} {n : Nat} (h : LieAt P v n) (hi : ∀ b o, P b o → Q b o) : LieAt Q v n := by
  obtain ⟨A, c, h1, h2, h3, h4⟩ := h
  exact ⟨A, c, h1, h2, h3, fun h0 => by obtain ⟨b, o, e, hp⟩ := h4 h0; exact ⟨b, o, e, hi b o hp⟩⟩
theorem CellsAt.under {W0 W : World} {b o : Nat} {c : C7} (h : CellsAt W0 b o c) (hb : b < W0.heap.size) (g : Below W0.heap.size W0 W) : CellsAt W b o c := by
  obtain ⟨k0, k1, k2, k3, k4, k5, k6⟩ := h
  exact ⟨(g.cell (p := ⟨b, _, none⟩) hb).trans k0, (g.cell (p := ⟨b, _, none⟩) hb).trans k1, (g.cell (p := ⟨b, _, none⟩) hb).trans k2, (g.cell (p := ⟨b, _, none⟩) hb).trans k3, (g.cell (p := ⟨b, _, none⟩) hb).trans k4, (g.cell (p := ⟨b, _, none⟩) hb).trans k5, (g.cell (p := ⟨b, _, none⟩) hb).trans k6⟩
end Go.Proofs.YtpgiboblonlddaaGreatDoor

namespace Go.Proofs.YtpgiboblonlddaaGreatDoor
open Go.RowKit
set_option linter.unusedVariables false
structure Kp (rb : Nat) (w w' : World) : Prop where
  below : Below rb w w'
  others : ∀ k, k < w.heap.size → k ≠ rb → w'.heap[k]? = w.heap[k]?
theorem Kp.size {rb : Nat} {w w' : World} (h : Kp rb w w') : w.heap.size ≤ w'.heap.size := h.below.size
theorem Kp.refl (rb : Nat) (w : World) : Kp rb w w := ⟨Below.refl _ _, fun _ _ _ => rfl⟩
theorem Kp.trans {rb : Nat} {a b c : World} (h : Kp rb a b) (k : Kp rb b c) : Kp rb a c :=
  ⟨h.below.trans k.below, fun j hj hn => (k.others j (Nat.lt_of_lt_of_le hj h.size) hn).trans (h.others j hj hn)⟩
theorem Kp.of_below {rb : Nat} {w w' : World} (hb : Below w.heap.size w w') (hr : rb ≤ w.heap.size) : Kp rb w w' := ⟨hb.mono hr, fun k hk _ => hb.block k hk⟩
theorem Kp.alloc {rb : Nat} {a w : World} (h : Kp rb a w) (hr : rb ≤ w.heap.size) (o : Obj) : Kp rb a (w.alloc o) := h.trans (Kp.of_below ((Below.refl _ _).alloc (Nat.le_refl _) _) hr)
theorem Kp.drew {rb : Nat} {a w : World} (h : Kp rb a w) : Kp rb a w.drew := ⟨h.below.drew, fun k hk hn => h.others k hk hn⟩
theorem Kp.setCell {rb : Nat} {a w : World} (h : Kp rb a w) (o : Nat) (v : Value) : Kp rb a (w.setCell ⟨rb, o, none⟩ v) :=
  ⟨h.below.setCell (p := ⟨rb, o, none⟩) (Nat.le_refl _) v, fun k hk hn => by
    rw [← h.others k hk hn]
    simp only [World.setCell]
    rw [Array.getElem?_modify, if_neg (fun e => hn e.symm)]⟩
theorem BoxAt.kp {rb : Nat} {w w' : World} {k : Nat} {cs : Array Value} {t : TypeId} (h : BoxAt w k cs t) (g : Kp rb w w') (hk : k ≠ rb) : BoxAt w' k cs t := (g.others k h.lt hk).trans h
theorem BoxAt.drew {w : World} {k : Nat} {cs : Array Value} {t : TypeId} (h : BoxAt w k cs t) : BoxAt w.drew k cs t := h
end Go.Proofs.YtpgiboblonlddaaGreatDoor

namespace Go.Proofs.YtpgiboblonlddaaGreatDoor
open Go.RowKit
set_option linter.unusedVariables false
def LieN (P : Nat → Nat → Prop) (v : Value) (n : Nat) : Prop := LieAt P v n ∧ (n = 0 → v = .slice none 0 0)
theorem LieN.imp {P Q : Nat → Nat → Prop} {v : Value} {n : Nat} (h : LieN P v n) (hi : ∀ b o, P b o → Q b o) : LieN Q v n := ⟨LieAt.imp h.1 hi, h.2⟩
theorem LieN.nil (P : Nat → Nat → Prop) : LieN P (.slice none 0 0) 0 := ⟨⟨none, 0, rfl, Nat.le_refl _, Nat.zero_le _, fun h => absurd h (by simp)⟩, fun _ => rfl⟩
mutual
def ExF (W : World) (F : Nat → Prop) : EX → C7 → Prop
  | .mk k t n a al i vs, c => c.k = .int .i64 k ∧ c.t = .string t ∧ c.n = .string n ∧ c.a = .string a ∧
      LieN (AsF W F al) c.al al.length ∧ OF W F i c.i ∧ LieAt (VsF W F vs) c.vs vs.length
def OF (W : World) (F : Nat → Prop) : Option EX → Value → Prop
  | none, v => v = .pointer none
  | some e, v => ∃ b o c, v = .pointer (some ⟨b, o, none⟩) ∧ F b ∧ CellsAt W b o c ∧ ExF W F e c
def AsF (W : World) (F : Nat → Prop) : List AR → Nat → Nat → Prop
  | [], _, _ => True
  | .mk n e :: r, b, o => F b ∧ W.cell? ⟨b, o, none⟩ = some (.string n) ∧ (∃ c, CellsAt W b (o + 1) c ∧ ExF W F e c) ∧ AsF W F r b (o + 8)
def VsF (W : World) (F : Nat → Prop) : List VA → Nat → Nat → Prop
  | [], _, _ => True
  | .mk n d v :: r, b, o => F b ∧ W.cell? ⟨b, o, none⟩ = some (.string n) ∧ W.cell? ⟨b, o + 1, none⟩ = some (.bool d) ∧
      (∃ u, W.cell? ⟨b, o + 2, none⟩ = some u ∧ LieAt (EsF W F v) u v.length) ∧ VsF W F r b (o + 3)
def EsF (W : World) (F : Nat → Prop) : List EL → Nat → Nat → Prop
  | [], _, _ => True
  | .mk t p :: r, b, o => F b ∧ W.cell? ⟨b, o, none⟩ = some (.string t) ∧ (∃ u, W.cell? ⟨b, o + 1, none⟩ = some u ∧ OF W F p u) ∧ EsF W F r b (o + 2)
end
def PatF (W : World) (F : Nat → Prop) (l : List EL) (v : Value) : Prop := LieAt (EsF W F l) v l.length
theorem cell_same {W W' : World} {b : Nat} (h : W'.heap[b]? = W.heap[b]?) (o : Nat) : W'.cell? ⟨b, o, none⟩ = W.cell? ⟨b, o, none⟩ := by
  unfold World.cell?; simp only [h]
theorem CellsAt.same {W W' : World} {b o : Nat} {c : C7} (h : CellsAt W b o c) (g : W'.heap[b]? = W.heap[b]?) : CellsAt W' b o c := by
  obtain ⟨k0, k1, k2, k3, k4, k5, k6⟩ := h
  exact ⟨(cell_same g _).trans k0, (cell_same g _).trans k1, (cell_same g _).trans k2, (cell_same g _).trans k3, (cell_same g _).trans k4, (cell_same g _).trans k5, (cell_same g _).trans k6⟩
mutual
theorem ExF.carry {W W' : World} {F F' : Nat → Prop} (g : ∀ b, F b → F' b ∧ W'.heap[b]? = W.heap[b]?) : ∀ (e : EX) (c : C7), ExF W F e c → ExF W' F' e c
  | .mk k t n a al i vs, c, h => by
    rw [ExF] at h ⊢
    obtain ⟨h1, h2, h3, h4, h5, h6, h7⟩ := h
    exact ⟨h1, h2, h3, h4, h5.imp (fun b o => AsF.carry g al b o), OF.carry g i _ h6, h7.imp (fun b o => VsF.carry g vs b o)⟩
theorem OF.carry {W W' : World} {F F' : Nat → Prop} (g : ∀ b, F b → F' b ∧ W'.heap[b]? = W.heap[b]?) : ∀ (i : Option EX) (v : Value), OF W F i v → OF W' F' i v
  | none, v, h => by simp only [OF] at h ⊢; exact h
  | some e, v, h => by
    simp only [OF] at h ⊢
    obtain ⟨b, o, c, e1, hb, hc, hx⟩ := h
    exact ⟨b, o, c, e1, (g b hb).1, hc.same (g b hb).2, ExF.carry g e c hx⟩
theorem AsF.carry {W W' : World} {F F' : Nat → Prop} (g : ∀ b, F b → F' b ∧ W'.heap[b]? = W.heap[b]?) : ∀ (l : List AR) (b o : Nat), AsF W F l b o → AsF W' F' l b o
  | [], b, o, _ => by rw [AsF]; trivial
  | .mk n e :: r, b, o, h => by
    rw [AsF] at h ⊢
    obtain ⟨hb, h1, ⟨c, h2, h3⟩, h4⟩ := h
    exact ⟨(g b hb).1, (cell_same (g b hb).2 _).trans h1, ⟨c, h2.same (g b hb).2, ExF.carry g e c h3⟩, AsF.carry g r b _ h4⟩
theorem VsF.carry {W W' : World} {F F' : Nat → Prop} (g : ∀ b, F b → F' b ∧ W'.heap[b]? = W.heap[b]?) : ∀ (l : List VA) (b o : Nat), VsF W F l b o → VsF W' F' l b o
  | [], b, o, _ => by rw [VsF]; trivial
  | .mk n d v :: r, b, o, h => by
    rw [VsF] at h ⊢
    obtain ⟨hb, h1, h2, ⟨u, h3, h5⟩, h4⟩ := h
    exact ⟨(g b hb).1, (cell_same (g b hb).2 _).trans h1, (cell_same (g b hb).2 _).trans h2, ⟨u, (cell_same (g b hb).2 _).trans h3, h5.imp (fun b o => EsF.carry g v b o)⟩, VsF.carry g r b _ h4⟩
theorem EsF.carry {W W' : World} {F F' : Nat → Prop} (g : ∀ b, F b → F' b ∧ W'.heap[b]? = W.heap[b]?) : ∀ (l : List EL) (b o : Nat), EsF W F l b o → EsF W' F' l b o
  | [], b, o, _ => by rw [EsF]; trivial
  | .mk t p :: r, b, o, h => by
    rw [EsF] at h ⊢
    obtain ⟨hb, h1, ⟨u, h3, h5⟩, h4⟩ := h
    exact ⟨(g b hb).1, (cell_same (g b hb).2 _).trans h1, ⟨u, (cell_same (g b hb).2 _).trans h3, OF.carry g p u h5⟩, EsF.carry g r b _ h4⟩
end
theorem PatF.carry {W W' : World} {F F' : Nat → Prop} (g : ∀ b, F b → F' b ∧ W'.heap[b]? = W.heap[b]?) {l : List EL} {v : Value} (h : PatF W F l v) : PatF W' F' l v := LieAt.imp h (fun b o => EsF.carry g l b o)
mutual
theorem ExF.at_ {W : World} {F : Nat → Prop} (g : ∀ b, F b → b < W.heap.size) : ∀ (e : EX) (c : C7), ExF W F e c → ExAt W e c
  | .mk k t n a al i vs, c, h => by
    rw [ExF] at h
    rw [ExAt]
    obtain ⟨h1, h2, h3, h4, h5, h6, h7⟩ := h
    exact ⟨h1, h2, h3, h4, h5.1.imp (fun b o => AsF.at_ g al b o), OF.at_ g i _ h6, h7.imp (fun b o => VsF.at_ g vs b o)⟩
theorem OF.at_ {W : World} {F : Nat → Prop} (g : ∀ b, F b → b < W.heap.size) : ∀ (i : Option EX) (v : Value), OF W F i v → OAt W i v
  | none, v, h => by simp only [OF] at h; simp only [OAt]; exact h
  | some e, v, h => by
    simp only [OF] at h
    simp only [OAt]
    obtain ⟨b, o, c, e1, hb, hc, hx⟩ := h
    exact ⟨b, o, c, e1, g b hb, hc, ExF.at_ g e c hx⟩
theorem AsF.at_ {W : World} {F : Nat → Prop} (g : ∀ b, F b → b < W.heap.size) : ∀ (l : List AR) (b o : Nat), AsF W F l b o → AsAt W l b o
  | [], b, o, _ => by rw [AsAt]; trivial
  | .mk n e :: r, b, o, h => by
    rw [AsF] at h
    rw [AsAt]
    obtain ⟨hb, h1, ⟨c, h2, h3⟩, h4⟩ := h
    exact ⟨g b hb, h1, ⟨c, h2, ExF.at_ g e c h3⟩, AsF.at_ g r b _ h4⟩
theorem VsF.at_ {W : World} {F : Nat → Prop} (g : ∀ b, F b → b < W.heap.size) : ∀ (l : List VA) (b o : Nat), VsF W F l b o → VsAt W l b o
  | [], b, o, _ => by rw [VsAt]; trivial
  | .mk n d v :: r, b, o, h => by
    rw [VsF] at h
    rw [VsAt]
    obtain ⟨hb, h1, h2, ⟨u, h3, h5⟩, h4⟩ := h
    exact ⟨g b hb, h1, h2, ⟨u, h3, h5.imp (fun b o => EsF.at_ g v b o)⟩, VsF.at_ g r b _ h4⟩
theorem EsF.at_ {W : World} {F : Nat → Prop} (g : ∀ b, F b → b < W.heap.size) : ∀ (l : List EL) (b o : Nat), EsF W F l b o → EsAt W l b o
  | [], b, o, _ => by rw [EsAt]; trivial
  | .mk t p :: r, b, o, h => by
    rw [EsF] at h
    rw [EsAt]
    obtain ⟨hb, h1, ⟨u, h3, h5⟩, h4⟩ := h
    exact ⟨g b hb, h1, ⟨u, h3, OF.at_ g p u h5⟩, EsF.at_ g r b _ h4⟩
end
def Since (B : Nat) (W : World) : Nat → Prop := fun b => B ≤ b ∧ b < W.heap.size
def Rd (rb : Nat) (s : ByteArray) (i : Nat) (w : World) : Prop := BoxAt w rb #[.string s, .int .i64 (i : Nat)] 272
theorem Rd.lt {rb : Nat} {s : ByteArray} {i : Nat} {w : World} (h : Rd rb s i w) : rb < w.heap.size := BoxAt.lt h
theorem Rd.alloc {rb : Nat} {s : ByteArray} {i : Nat} {w : World} (h : Rd rb s i w) (o : Obj) : Rd rb s i (w.alloc o) := BoxAt.alloc h o
theorem Rd.set {rb : Nat} {s : ByteArray} {i : Nat} {w : World} (h : Rd rb s i w) (j : Nat) : Rd rb s j (w.setCell ⟨rb, 1, none⟩ (.int .i64 (j : Nat))) := by
  unfold Rd BoxAt at h ⊢
  simp [World.setCell, Array.getElem?_modify, h]
theorem Rd.set' {rb : Nat} {s : ByteArray} {i j : Nat} {v : Int} {w : World} (h : Rd rb s i w) (hv : v = (j : Nat)) : Rd rb s j (w.setCell ⟨rb, 1, none⟩ (.int .i64 v)) := by rw [hv]; exact h.set j
theorem Rd.later {rb : Nat} {s : ByteArray} {i : Nat} {w w' : World} (h : Rd rb s i w) (g : Below w.heap.size w w') : Rd rb s i w' := (g.block rb h.lt).trans h
theorem Rd.c0 {rb : Nat} {s : ByteArray} {i : Nat} {w : World} (h : Rd rb s i w) : w.cell? ⟨rb, 0, none⟩ = some (.string s) := BoxAt.cell h 0
theorem Rd.c1 {rb : Nat} {s : ByteArray} {i : Nat} {w : World} (h : Rd rb s i w) : w.cell? ⟨rb, 1, none⟩ = some (.int .i64 (i : Nat)) := BoxAt.cell h 1
theorem Rd.f {rb : Nat} {s : ByteArray} {i : Nat} {w : World} (h : Rd rb s i w) (o : Nat) : w.frozen? ⟨rb, o, none⟩ = false := Lib.frozen_of_heap h o
end Go.Proofs.YtpgiboblonlddaaGreatDoor

namespace Go.Proofs.YtpgiboblonlddaaGreatDoor
open Go.RowKit Go Go.Op
set_option linter.unusedVariables false
section
variable {P : Program} (w : World)
theorem run_append_where (base : Nat) (t ty e : TypeId) (i : TypeInfo) (z : Value) (size bytes : Nat) (ht : P.underlying t = some (.slice e)) (hi : P.info? e = some i) (hz : i.zero = some z)
    (hsize : i.size = size) (hby : i.bytes = bytes) (hzs : z.cells.size = size) (hsz : 0 < size)
    (v : Value) (n : Nat) (xs : List Value) (hown : w.ownsRow base e size v n xs)
    (a : Addr) (m c : Nat) (news : List Value) (hl : news.length = m * size) (hnews : ∀ j u, news[j]? = some u → w.cell? (a.add j) = some u) (h1 : ∀ u ∈ news, u.oneCell' = true)
    (h63 : n + m ≤ maxLen) (hbytes : (n + m) * bytes ≤ 140737488355328) (hbase : base ≤ w.heap.size) (hm0 : 0 < m) :
    ∃ v' w', (Builtin.append_ #[t, t] ty #[v, .slice (some a) m c]).run P w = .ok v' w' ∧ w'.ownsRow base e size v' (n + m) (xs ++ news) ∧ w.grownBy w' v.ownBlock ∧
      (v'.ownBlock = v.ownBlock ∨ v'.ownBlock = some w.heap.size) := by
  obtain ⟨v', w', hr, h2, h3, _⟩ := run_append_own (P := P) w base t ty e i z size bytes ht hi hz hsize hby hzs hsz v n xs hown a m c news hl hnews h1 h63 hbytes hbase
  refine ⟨v', w', hr, h2, h3, ?_⟩
  subst hsize
  subst hby
  have hsmall : n + m ≤ 9223372036854775807 := by simp only [maxLen] at h63; omega
  rcases hown.2 with ⟨rfl, rfl⟩ | ⟨g, cap, cur, rfl, hbg, hg, hnc, hcm, hcs, htake⟩
  · have hr2 := run_append_nil (P := P) w t ty e i z ht hi hz a m c news hl hnews (by omega) (by omega) (by have hb := hbytes; simp only [Nat.zero_add] at hb; omega)
    have hv := hr.symm.trans hr2
    injection hv with e1 _
    rw [e1]
    exact .inr rfl
  · by_cases hroom : n + m ≤ cap
    · have hfit : n * i.size + news.length ≤ cur.size := by rw [hl, hcs, ← Nat.add_mul]; exact Nat.mul_le_mul_right _ hroom
      have hr2 := run_append_room (P := P) w t ty e i ht hi g n cap cur hg a m c news hl hnews h1 hroom hfit
      have hv := hr.symm.trans hr2
      injection hv with e1 _
      rw [e1]
      exact .inl rfl
    · have holds : ∀ j u, xs[j]? = some u → w.cell? ((⟨g, 0, none⟩ : Addr).add j) = some u := hown.cells (g := g) rfl
      have hr2 := run_append_grow (P := P) w t ty e i z ht hi hz ⟨g, 0, none⟩ n cap xs hown.1 holds a m c news hl hnews (by omega) (by omega) (growslice_fits (by omega) hbytes)
      have hv := hr.symm.trans hr2
      injection hv with e1 _
      rw [e1]
      exact .inr rfl
theorem wpList_append_where {ops : Array Oper} {rest : List Oper} {o : Oper} {a : Act} {Q : Exit → Act → World → Prop} (hgd : o.guard = none) (s x : Operand) (t : TypeId)
    (ho : o.op = .call { callee := .builtin .append, args := #[s, x], argTypes := #[t, t] })
    (base : Nat) (e : TypeId) (i : TypeInfo) (z : Value) (size bytes : Nat) (ht : P.underlying t = some (.slice e)) (hi : P.info? e = some i) (hz : i.zero = some z)
    (hsize : i.size = size) (hby : i.bytes = bytes) (hzs : z.cells.size = size) (hsz : 0 < size)
    (v : Value) (n : Nat) (xs : List Value) (hs : a.eval s = v) (hown : w.ownsRow base e size v n xs)
    (ad : Addr) (m c : Nat) (news : List Value) (hx : a.eval x = .slice (some ad) m c) (hl : news.length = m * size) (hnews : ∀ j u, news[j]? = some u → w.cell? (ad.add j) = some u) (h1 : ∀ u ∈ news, u.oneCell' = true)
    (h63 : n + m ≤ maxLen) (hbytes : (n + m) * bytes ≤ 140737488355328) (hbase : base ≤ w.heap.size) (hm0 : 0 < m)
    (h : ∀ v' w', w'.ownsRow base e size v' (n + m) (xs ++ news) → w.grownBy w' v.ownBlock → (v'.ownBlock = v.ownBlock ∨ v'.ownBlock = some w.heap.size) → wpList P ops Q rest (a.put o.dst v') w') : wpList P ops Q (o :: rest) a w := by
  refine wpList_plain hgd fun K hK => ?_
  obtain ⟨v', w', hr, h2, h3, h4⟩ := run_append_where (P := P) w base t o.type e i z size bytes ht hi hz hsize hby hzs hsz v n xs hown ad m c news hl hnews h1 h63 hbytes hbase hm0
  unfold Oper.wp execOp
  simp only [ho, resolve, invoke, builtin, Sem.run_bind, Sem.run_pure, Result.andThen_ok, List.map_toArray, List.map_cons, List.map_nil, hs, hx, hr]
  exact hK _ _ (h v' w' h2 h3 h4)
end
end Go.Proofs.YtpgiboblonlddaaGreatDoor

namespace Go.Proofs.YtpgiboblonlddaaGreatDoor
open Go.RowKit Go.ChangeMaps
open Go.Maps (Keyed string_keyed)
set_option linter.unusedVariables false
set_option linter.unusedSimpArgs false
theorem check_str {P : Program} {k : TypeId} (hk : P.underlying k = some .string) (w : World) (em : Bool) (s : ByteArray) : (Instr.checkKey em 10000 k (.string s)).run P w = .ok () w := by
  have h : ∀ n, (Instr.checkKey em (n + 1) k (.string s)).run P w = .ok () w := fun n => by simp [Instr.checkKey, run_underlying hk, Result.andThen]
  exact h 9999
theorem run_ins {P : Program} {t k e : TypeId} (ht : P.underlying t = some (.map k e)) (hk : P.underlying k = some .string) (w : World) (es es' : Array MapEntry) (c : Nat) (s : ByteArray) (v : Value)
    (hn : Instr.findNow .string (.string s) es.toList 0 = some none) (he : es.push { key := .string s, val := v, born := c } = es') :
    (Instr.mapUpdate t (.map (some w.heap.size)) (.string s) v).run P (w.alloc (.map es c)) = .ok () (w.alloc (.map es' (c + 1))) := by
  have hb : (w.alloc (.map es c)).heap[w.heap.size]? = some (.map es c) := by
    show (w.heap.push _)[w.heap.size]? = _
    simp
  have h1 : (Instr.findKey k (.string s) es.toList).run P (w.alloc (.map es c)) = .ok none (w.alloc (.map es c)) := by
    simp [Instr.findKey, run_underlying hk, hn, Result.andThen]
  have hc := check_str hk (w.alloc (.map es c)) false s
  have hrun : (Instr.mapUpdate t (.map (some w.heap.size)) (.string s) v).run P (w.alloc (.map es c)) = .ok () (setBlock (w.alloc (.map es c)) w.heap.size (.map (es.push { key := .string s, val := v, born := c }) (c + 1))) := by
    simp [Instr.mapUpdate, run_underlying ht, MapKept.run_getObj_map hb, hc, h1, MapKept.run_setObj_map _ hb, Result.andThen, setBlock]
  rw [hrun, he]
  congr 1
  have h : (w.heap.push (.map es c)).setIfInBounds w.heap.size (.map es' (c + 1)) = w.heap.push (.map es' (c + 1)) := by
    apply Array.toList_inj.1
    simp [List.set_append]
  show ({ w with heap := (w.heap.push (.map es c)).setIfInBounds w.heap.size (.map es' (c + 1)) } : World) = { w with heap := w.heap.push (.map es' (c + 1)) }
  rw [h]
theorem run_look {P : Program} {t k e : TypeId} (ht : P.underlying t = some (.map k e)) (hk : P.underlying k = some .string) (w : World) {z : Value} (hz : (zeroValue e).run P w = .ok z w) (b : Nat) (es : Array MapEntry) (c : Nat)
    (hb : w.heap[b]? = some (.map es c)) (s : ByteArray) (r : Option (Nat × Value)) (hn : Instr.findNow .string (.string s) es.toList 0 = some r) :
    (Instr.lookup t (.map (some b)) (.string s) true).run P w = .ok (.tuple #[(r.map (·.2)).getD z, .bool r.isSome]) w := by
  have h1 : (Instr.findKey k (.string s) es.toList).run P w = .ok r w := by
    simp [Instr.findKey, run_underlying hk, hn, Result.andThen]
  have hc := check_str hk w es.isEmpty s
  cases r with
  | none => simp [Instr.lookup, run_underlying ht, MapKept.run_getObj_map hb, hc, h1, hz, Result.andThen]
  | some p => simp [Instr.lookup, run_underlying ht, MapKept.run_getObj_map hb, hc, h1, Result.andThen]
theorem run_put_new {P : Program} {t k e : TypeId} (ht : P.underlying t = some (.map k e)) (hk : P.underlying k = some .string) (w : World) (b : Nat) (es : Array MapEntry) (c : Nat) (hb : w.heap[b]? = some (.map es c)) (s : ByteArray) (v : Value)
    (hn : Instr.findNow .string (.string s) es.toList 0 = some none) :
    (Instr.mapUpdate t (.map (some b)) (.string s) v).run P w = .ok () (setBlock w b (.map (es.push { key := .string s, val := v, born := c }) (c + 1))) := by
  have h1 : (Instr.findKey k (.string s) es.toList).run P w = .ok none w := by
    simp [Instr.findKey, run_underlying hk, hn, Result.andThen]
  have hc := check_str hk w false s
  simp [Instr.mapUpdate, run_underlying ht, MapKept.run_getObj_map hb, hc, h1, MapKept.run_setObj_map _ hb, Result.andThen, setBlock]
theorem run_put_old {P : Program} {t k e : TypeId} (ht : P.underlying t = some (.map k e)) (hk : P.underlying k = some .string) (w : World) (b : Nat) (es : Array MapEntry) (c : Nat) (hb : w.heap[b]? = some (.map es c)) (s : ByteArray) (v : Value) (i : Nat) (old : Value) (x : MapEntry)
    (hn : Instr.findNow .string (.string s) es.toList 0 = some (some (i, old))) (hi : es[i]? = some x) (hx : x.key = .string s) :
    (Instr.mapUpdate t (.map (some b)) (.string s) v).run P w = .ok () (setBlock w b (.map (es.modify i fun y => { y with key := .string s, val := v }) c)) := by
  have h1 : (Instr.findKey k (.string s) es.toList).run P w = .ok (some (i, old)) w := by
    simp [Instr.findKey, run_underlying hk, hn, Result.andThen]
  have hc := check_str hk w false s
  have hb2 : (s == s) = true := by
    show (s.data == s.data) = true
    exact beq_self_eq_true _
  have hs : Instr.sameBits 10000 (.string s) (.string s) = true := by
    unfold Instr.sameBits
    exact hb2
  have hK : (Instr.keyThatStays (.string s) (.string s)).run P w = .ok (.string s) w := by
    simp [Instr.keyThatStays, hs]
  simp [Instr.mapUpdate, run_underlying ht, MapKept.run_getObj_map hb, hc, h1, hi, hx, hK, MapKept.run_setObj_map _ hb, Result.andThen, setBlock]
end Go.Proofs.YtpgiboblonlddaaGreatDoor

namespace Go.Proofs.YtpgiboblonlddaaGreatDoor
open Go.RowKit Go.ChangeMaps
open Go.Maps (Keyed string_keyed)
set_option linter.unusedVariables false
set_option linter.unusedSimpArgs false
theorem BoxAt.set {w : World} {k : Nat} {cs : Array Value} {t : TypeId} (h : BoxAt w k cs t) (o : Nat) (v : Value) : BoxAt (w.setCell ⟨k, o, none⟩ v) k (cs.setIfInBounds o v) t := by
  unfold BoxAt at h ⊢
  simp [World.setCell, Array.getElem?_modify, h]
theorem BoxAt.z {w : World} {k : Nat} {cs : Array Value} {t : TypeId} (h : BoxAt w k cs t) (o : Nat) : w.frozen? ⟨k, o, none⟩ = false := Lib.frozen_of_heap h o
def sgV (p q : List UInt8) : Value := .agg #[.string ⟨p.toArray⟩, .string ⟨q.toArray⟩]
def langs : List (List UInt8 × List UInt8 × List UInt8) := [([100, 101], [44], [46]), ([110, 108], [44], [46]), ([101, 115], [44], [46]), ([102, 114], [44], [226, 128, 175]), ([114, 117], [44], [194, 160]), ([99, 115], [44], [194, 160]), ([112, 108], [44], [194, 160]), ([115, 118], [44], [194, 160])]
def entOf (i : Nat) (x : List UInt8 × List UInt8 × List UInt8) : MapEntry := { key := .string ⟨x.1.toArray⟩, val := sgV x.2.1 x.2.2, born := i }
def tabE (n : Nat) : Array MapEntry := ((langs.take n).zipIdx.map fun x => entOf x.2 x.1).toArray
def sgn (s : ByteArray) : List UInt8 × List UInt8 := match langs.find? (fun x => s == ⟨x.1.toArray⟩) with
  | some x => (x.2.1, x.2.2)
  | none => ([46], [44])
theorem find_go (s : ByteArray) : ∀ (l : List (List UInt8 × List UInt8 × List UInt8)) (i j : Nat), ∃ r, Instr.findNow .string (.string s) ((l.zipIdx i).map fun x => entOf x.2 x.1) j = some r ∧
    r.map (·.2) = (l.find? (fun x => s == ⟨x.1.toArray⟩)).map (fun x => sgV x.2.1 x.2.2)
  | [], i, j => ⟨none, rfl, rfl⟩
  | x :: r, i, j => by
    rw [List.zipIdx_cons, List.map_cons, List.find?_cons]
    show ∃ q, (match (some (s == ⟨x.1.toArray⟩) : Option Bool) with | some true => some (some (j, sgV x.2.1 x.2.2)) | some false => Instr.findNow .string (.string s) _ (j + 1) | none => none) = some q ∧ _
    cases h : (s == ⟨x.1.toArray⟩) with
    | true => exact ⟨some (j, sgV x.2.1 x.2.2), rfl, rfl⟩
    | false => exact find_go s r (i + 1) (j + 1)
theorem find_tab (s : ByteArray) : ∃ r, Instr.findNow .string (.string s) (tabE 8).toList 0 = some r ∧ (r.isSome = true → r.map (·.2) = some (sgV (sgn s).1 (sgn s).2)) ∧ (r.isSome = false → sgn s = ([46], [44])) := by
  obtain ⟨r, h1, h2⟩ := find_go s langs 0 0
  refine ⟨r, h1, ?_, ?_⟩
  · intro hr
    unfold sgn
    rw [h2]
    cases hf : langs.find? (fun x => s == ⟨x.1.toArray⟩) with
    | none => rw [hf] at h2; cases r with
      | none => cases hr
      | some p => cases h2
    | some x => rfl
  · intro hr
    unfold sgn
    cases hf : langs.find? (fun x => s == ⟨x.1.toArray⟩) with
    | none => rfl
    | some x => rw [hf] at h2; cases r with
      | none => cases h2
      | some p => cases hr
theorem sgn_len (s : ByteArray) : (sgn s).1.length = 1 ∧ (sgn s).2.length ≤ 3 := by
  unfold sgn
  split
  · next x h =>
    have := List.mem_of_find?_eq_some h
    unfold langs at this
    simp only [List.mem_cons, List.not_mem_nil, or_false] at this
    rcases this with rfl | rfl | rfl | rfl | rfl | rfl | rfl | rfl <;> decide
  · decide
def MarksAt (w : World) (b : Nat) (made : Bool) (n : Nat) : Prop :=
  ∃ x : Value, BoxAt w b #[.int .u32 (if made then 1 else 0), .int .i32 0, .int .u32 0, x, .int .i64 (n : Int)] 55 ∧ (made = true → ∃ mb, x = .map (some mb) ∧ mb ≠ b ∧ w.heap[mb]? = some (.map (tabE 8) 8))
theorem MarksAt.lt {w : World} {b n : Nat} {made : Bool} (h : MarksAt w b made n) : b < w.heap.size := by
  obtain ⟨x, h, _⟩ := h
  exact h.lt
theorem MarksAt.later {w w' : World} {b n : Nat} {made : Bool} (h : MarksAt w b made n) (g : Below w.heap.size w w') : MarksAt w' b made n := by
  obtain ⟨x, h1, h2⟩ := h
  refine ⟨x, h1.later g, fun hm => ?_⟩
  obtain ⟨mb, e1, e2, e3⟩ := h2 hm
  exact ⟨mb, e1, e2, (g.block mb (Array.getElem?_eq_some_iff.1 e3).1).trans e3⟩
theorem MarksAt.drew {w : World} {b n : Nat} {made : Bool} (h : MarksAt w b made n) : MarksAt w.drew b made n := h
end Go.Proofs.YtpgiboblonlddaaGreatDoor

namespace Go.Proofs.YtpgiboblonlddaaGreatDoor
open Go.RowKit Go.ChangeMaps
set_option linter.unusedVariables false
set_option linter.unusedSimpArgs false
def MapAt (W : World) (b : Nat) (es : Array MapEntry) (c : Nat) : Prop := W.heap[b]? = some (.map es c)
theorem MapAt.lt {W : World} {b c : Nat} {es : Array MapEntry} (h : MapAt W b es c) : b < W.heap.size := (Array.getElem?_eq_some_iff.1 h).1
theorem MapAt.later {W W' : World} {b c : Nat} {es : Array MapEntry} (h : MapAt W b es c) (g : Below W.heap.size W W') : MapAt W' b es c := (g.block b h.lt).trans h
theorem MapAt.alloc {W : World} {b c : Nat} {es : Array MapEntry} (h : MapAt W b es c) (o : Obj) : MapAt (W.alloc o) b es c := h.later ((Below.refl _ _).alloc (Nat.le_refl _) o)
theorem MapAt.new (W : World) (b : Nat) (es : Array MapEntry) (c : Nat) (hb : b = W.heap.size) : MapAt (W.alloc (.map es c)) b es c := by
  subst hb
  show (W.heap.push _)[W.heap.size]? = _
  simp
theorem MapAt.setCell {W : World} {b c : Nat} {es : Array MapEntry} (h : MapAt W b es c) (p : Addr) (v : Value) (hp : b ≠ p.block) : MapAt (W.setCell p v) b es c := (Below.heap_setCell W p v b hp).trans h
theorem MapAt.set {W : World} {b c : Nat} {es : Array MapEntry} (h : MapAt W b es c) (es' : Array MapEntry) (c' : Nat) : MapAt (setBlock W b (.map es' c')) b es' c' := by
  have hl := h.lt
  unfold MapAt setBlock
  simp [hl]
theorem beqT {a b : ByteArray} : (a == b) = true ↔ a = b := by
  constructor
  · intro h
    have h1 : (a.data == b.data) = true := h
    have h2 : a.data = b.data := by simpa using h1
    obtain ⟨x⟩ := a
    obtain ⟨y⟩ := b
    simp only at h2
    rw [h2]
  · rintro rfl
    show (a.data == a.data) = true
    exact beq_self_eq_true _
end Go.Proofs.YtpgiboblonlddaaGreatDoor

namespace Go.Proofs.YtpgiboblonlddaaGreatDoor
open Go.RowKit
set_option linter.unusedVariables false
set_option linter.unusedSimpArgs false
inductive AT where
  | mk (name : ByteArray) (value : List EL)
def sizeTs : List AT → Nat
  | [] => 0
  | .mk n v :: r => 1 + n.size + sizeEs v + sizeTs r
def TsAt (W : World) : List AT → Nat → Nat → Prop
  | [], _, _ => True
  | .mk n v :: r, b, o => b < W.heap.size ∧ W.cell? ⟨b, o, none⟩ = some (.string n) ∧ (∃ u, W.cell? ⟨b, o + 1, none⟩ = some u ∧ PatAt W v u) ∧ TsAt W r b (o + 2)
theorem TsAt.get {W : World} : ∀ {l : List AT} {b o : Nat} (j : Nat) {t : ByteArray} {v : List EL}, TsAt W l b o → l[j]? = some (.mk t v) →
    b < W.heap.size ∧ W.cell? ⟨b, o + j * 2, none⟩ = some (.string t) ∧ ∃ u, W.cell? ⟨b, o + j * 2 + 1, none⟩ = some u ∧ PatAt W v u
  | [], b, o, j, t, p, h, hj => by simp at hj
  | .mk t' p' :: r, b, o, 0, t, p, h, hj => by
    rw [TsAt] at h
    simp at hj
    obtain ⟨rfl, rfl⟩ := hj
    obtain ⟨h0, h1, h2, _⟩ := h
    exact ⟨h0, by simpa using h1, by simpa using h2⟩
  | .mk t' p' :: r, b, o, j + 1, t, p, h, hj => by
    rw [TsAt] at h
    have := TsAt.get j h.2.2.2 (by simpa using hj)
    rw [show o + (j + 1) * 2 = o + 2 + j * 2 by omega]
    exact this
theorem ats_get {W0 : World} {l : List AT} {v : Value} (h : LieAt (TsAt W0 l) v l.length) {i : Nat} (hi : i < l.length) : ∃ b o c, v = .slice (some ⟨b, o, none⟩) l.length c ∧ b < W0.heap.size ∧
    ∀ j t p, l[j]? = some (.mk t p) → W0.cell? ⟨b, o + j * 2, none⟩ = some (.string t) ∧ ∃ u, W0.cell? ⟨b, o + j * 2 + 1, none⟩ = some u ∧ PatAt W0 p u := by
  obtain ⟨A, c, rfl, _, _, h2⟩ := h
  obtain ⟨b, o, rfl, h3⟩ := h2 (by omega)
  have h0 : l[0]? = some l[0] := List.getElem?_eq_getElem (by omega)
  refine ⟨b, o, c, rfl, ?_, fun j t p hj => ⟨(h3.get j hj).2.1, (h3.get j hj).2.2⟩⟩
  cases e : l[0]'(by omega) with
  | mk t p => rw [e] at h0; exact (h3.get 0 h0).1
theorem sizeTs_length : ∀ l : List AT, l.length ≤ sizeTs l
  | [] => Nat.zero_le _
  | .mk t p :: r => by have := sizeTs_length r; rw [sizeTs, List.length_cons]; omega
def entV (ty level : Int) (text name : ByteArray) (v u : Value) (fr tu : Int) : Value := .agg #[.int .i64 ty, .int .i64 level, .string text, .string name, v, u, .int .i64 fr, .int .i64 tu]
end Go.Proofs.YtpgiboblonlddaaGreatDoor

namespace Go.Proofs.YtpgiboblonlddaaGreatDoor
open Go.RowKit Go.ChangeMaps
set_option linter.unusedVariables false
set_option linter.unusedSimpArgs false
def lastA (nm : ByteArray) : List AT → Bool × List EL → Bool × List EL
  | [], z => z
  | .mk t p :: r, z => lastA nm r (if t = nm then (true, p) else z)
def attrF (val : List EL) (ats : List AT) (nm : ByteArray) : Bool × List EL := if nm.size = 0 then (decide (0 < val.length), val) else lastA nm ats (false, [])
theorem nil_pat (W : World) : PatAt W [] (.slice none 0 0) := ⟨none, 0, rfl, Nat.le_refl _, Nat.zero_le _, fun h => absurd h (by simp)⟩
theorem lastA_size (nm : ByteArray) : ∀ (l : List AT) (z : Bool × List EL), sizeEs (lastA nm l z).2 ≤ sizeEs z.2 + sizeTs l
  | [], z => by simp [lastA]
  | .mk t p :: r, z => by
    rw [lastA, sizeTs]
    have := lastA_size nm r (if t = nm then (true, p) else z)
    split at this
    · rw [if_pos (by assumption)]; dsimp only at this; omega
    · rw [if_neg (by assumption)]; omega
theorem sizeEs_len8 : ∀ l : List EL, l.length ≤ sizeEs l
  | [] => Nat.zero_le _
  | .mk t p :: r => by rw [sizeEs, List.length_cons]; have := sizeEs_len8 r; omega
theorem mem_Ts8 : ∀ {l : List AT} {n : ByteArray} {v : List EL}, AT.mk n v ∈ l → sizeEs v ≤ sizeTs l
  | .mk n' v' :: r, n, v, h => by
    rw [sizeTs]
    rcases List.mem_cons.1 h with h | h
    · cases h; omega
    · have := mem_Ts8 h; omega
end Go.Proofs.YtpgiboblonlddaaGreatDoor

namespace Go.Proofs.YtpgiboblonlddaaGreatDoor
open Go.RowKit
set_option linter.unusedVariables false
set_option linter.unusedSimpArgs false
mutual
theorem ExAt.later {W0 W : World} (g : Below W0.heap.size W0 W) : ∀ (e : EX) (c : C7), ExAt W0 e c → ExAt W e c
  | .mk k t n a al i vs, c, h => by
    rw [ExAt] at h ⊢
    obtain ⟨h1, h2, h3, h4, h5, h6, h7⟩ := h
    exact ⟨h1, h2, h3, h4, h5.imp (fun b o => AsAt.later g al b o), OAt.later g i _ h6, h7.imp (fun b o => VsAt.later g vs b o)⟩
theorem OAt.later {W0 W : World} (g : Below W0.heap.size W0 W) : ∀ (i : Option EX) (v : Value), OAt W0 i v → OAt W i v
  | none, v, h => by simp only [OAt] at h ⊢; exact h
  | some e, v, h => by
    simp only [OAt] at h ⊢
    obtain ⟨b, o, c, e1, hb, hc, hx⟩ := h
    exact ⟨b, o, c, e1, Nat.lt_of_lt_of_le hb g.size, hc.under hb g, ExAt.later g e c hx⟩
theorem AsAt.later {W0 W : World} (g : Below W0.heap.size W0 W) : ∀ (l : List AR) (b o : Nat), AsAt W0 l b o → AsAt W l b o
  | [], b, o, _ => by rw [AsAt]; trivial
  | .mk n e :: r, b, o, h => by
    rw [AsAt] at h ⊢
    obtain ⟨hb, h1, ⟨c, h2, h3⟩, h4⟩ := h
    exact ⟨Nat.lt_of_lt_of_le hb g.size, (g.cell (p := ⟨b, o, none⟩) hb).trans h1, ⟨c, h2.under hb g, ExAt.later g e c h3⟩, AsAt.later g r b _ h4⟩
theorem VsAt.later {W0 W : World} (g : Below W0.heap.size W0 W) : ∀ (l : List VA) (b o : Nat), VsAt W0 l b o → VsAt W l b o
  | [], b, o, _ => by rw [VsAt]; trivial
  | .mk n d v :: r, b, o, h => by
    rw [VsAt] at h ⊢
    obtain ⟨hb, h1, h2, ⟨u, h3, h5⟩, h4⟩ := h
    exact ⟨Nat.lt_of_lt_of_le hb g.size, (g.cell (p := ⟨b, o, none⟩) hb).trans h1, (g.cell (p := ⟨b, o + 1, none⟩) hb).trans h2, ⟨u, (g.cell (p := ⟨b, o + 2, none⟩) hb).trans h3, h5.imp (fun b o => EsAt.later g v b o)⟩, VsAt.later g r b _ h4⟩
theorem EsAt.later {W0 W : World} (g : Below W0.heap.size W0 W) : ∀ (l : List EL) (b o : Nat), EsAt W0 l b o → EsAt W l b o
  | [], b, o, _ => by rw [EsAt]; trivial
  | .mk t p :: r, b, o, h => by
    rw [EsAt] at h ⊢
    obtain ⟨hb, h1, ⟨u, h3, h5⟩, h4⟩ := h
    exact ⟨Nat.lt_of_lt_of_le hb g.size, (g.cell (p := ⟨b, o, none⟩) hb).trans h1, ⟨u, (g.cell (p := ⟨b, o + 1, none⟩) hb).trans h3, OAt.later g p u h5⟩, EsAt.later g r b _ h4⟩
end
theorem PatAt.later {W0 W : World} {l : List EL} {v : Value} (h : PatAt W0 l v) (g : Below W0.heap.size W0 W) : PatAt W l v := LieAt.imp h (fun b o => EsAt.later g l b o)
theorem TsAt.later {W0 W : World} (g : Below W0.heap.size W0 W) : ∀ (l : List AT) (b o : Nat), TsAt W0 l b o → TsAt W l b o
  | [], b, o, _ => by rw [TsAt]; trivial
  | .mk n v :: r, b, o, h => by
    rw [TsAt] at h ⊢
    obtain ⟨hb, h1, ⟨u, h3, h5⟩, h4⟩ := h
    exact ⟨Nat.lt_of_lt_of_le hb g.size, (g.cell (p := ⟨b, o, none⟩) hb).trans h1, ⟨u, (g.cell (p := ⟨b, o + 1, none⟩) hb).trans h3, h5.later g⟩, TsAt.later g r b _ h4⟩
end Go.Proofs.YtpgiboblonlddaaGreatDoor

namespace Go.Proofs.YtpgiboblonlddaaGreatDoor
open Go.RowKit Go.ChangeMaps
set_option linter.unusedVariables false
set_option linter.unusedSimpArgs false
theorem race_off (w : World) : (callFunc 209 #[]).run Tryz.prog w = .ok (.value (.tuple #[])) w := run_call_mark0 Tryz.func209 (by kernel_rfl) (by kernel_rfl) (by kernel_rfl) .disable (by kernel_rfl) w
theorem race_on (w : World) : (callFunc 211 #[]).run Tryz.prog w = .ok (.value (.tuple #[])) w := run_call_mark0 Tryz.func211 (by kernel_rfl) (by kernel_rfl) (by kernel_rfl) .enable (by kernel_rfl) w
theorem race_in (a : Addr) (w : World) : (callFunc 212 #[.pointer (some a)]).run Tryz.prog w = .ok (.value (.tuple #[])) w := run_call_marked Tryz.func212 (by kernel_rfl) (by kernel_rfl) (by kernel_rfl) .acquire (by kernel_rfl) a w
theorem race_out (a : Addr) (w : World) : (callFunc 214 #[.pointer (some a)]).run Tryz.prog w = .ok (.value (.tuple #[])) w := run_call_marked Tryz.func214 (by kernel_rfl) (by kernel_rfl) (by kernel_rfl) .releaseMerge (by kernel_rfl) a w
theorem add_anyM (b o : Nat) (n : Nat) (hn : n ≤ 1000) (w : World) (hc : w.cell? ⟨b, o, none⟩ = some (.int .i64 (n : Int))) (hz : w.frozen? ⟨b, o, none⟩ = false) :
    Calls Tryz.prog 84 #[.pointer (some ⟨b, o, none⟩), .int .i64 1] w fun e w' => e = .returned (.int .i64 ((n + 1 : Nat) : Int)) ∧ w' = w.setCell ⟨b, o, none⟩ (.int .i64 ((n + 1 : Nat) : Int)) := by
  have hw : IntKind.i64.wrap ((n : Int) + 1) = ((n + 1 : Nat) : Int) := (IntWalk.i64_in _ (by omega)).trans (by omega)
  have hadd := run_call_add (P := Tryz.prog) Tryz.func120 (by kernel_rfl) (by kernel_rfl) (by kernel_rfl) .i64 (by kernel_rfl) (y := 1) (s := ((n + 1 : Nat) : Int)) hc hz (by simp [go_sem, hw])
  clear hw
  go_enter Tryz.func84, Tryz.ntmps84
  go_wp2
  go_ret
  exact ⟨rfl, rfl⟩
theorem store_deferred (a : Addr) (x : Value) (u : FrameMode) (w : World) (hc : w.cell? a = some x) (hz : w.frozen? a = false) :
    CallsD Tryz.prog 157 #[.pointer (some a), .bool true] u w fun e u' w' => u' = u ∧ (e = .returned (.tuple #[]) ∧ w' = w.drew.setCell a (.int .u32 1)) := by
  have hc' : w.drew.cell? a = some x := by go_simp
  have hz' : w.drew.frozen? a = false := by go_simp
  have hst := run_call_store (P := Tryz.prog) Tryz.func187 (by kernel_rfl) (by kernel_rfl) (by kernel_rfl) (by kernel_rfl) (k := .u32) (y := 1) hc' hz'
  go_enter_d Tryz.func157, Tryz.ntmps157
  go_wp2
  go_region_calls
  all_goals (go_end0; exact ⟨rfl, rfl⟩)
set_option maxRecDepth 100000 in
set_option maxHeartbeats 1600000 in
theorem unlock_deferred (a : Addr) (u : FrameMode) (w : World) (hc : w.cell? a = some (.int .i32 1)) (hz : w.frozen? a = false) :
    CallsD Tryz.prog 156 #[.pointer (some a)] u w fun e u' w' => u' = u ∧ (e = .returned (.tuple #[]) ∧ w' = w.setCell a (.int .i32 0)) := by
  have hd := race_off
  have he := race_on
  have hr := race_out
  have hadd := run_call_add (P := Tryz.prog) Tryz.func215 (by kernel_rfl) (by kernel_rfl) (by kernel_rfl) .i32 (by kernel_rfl) (y := -1) (s := 0) hc hz (by simp [go_sem]; rfl)
  have hcv := run_convert_to_unsafe (P := Tryz.prog) (src := 290) (dst := 232) Tryz.underlying290 Tryz.underlying232 (by kernel_rfl) hc
  go_enter_d Tryz.func156, Tryz.ntmps156
  go_wp2
  go_end0
  go_wp2
  go_end0
  exact ⟨rfl, rfl⟩
set_option maxRecDepth 100000 in
set_option maxHeartbeats 1600000 in
theorem lock_free (a : Addr) (w : World) (hc : w.cell? a = some (.int .i32 0)) (hz : w.frozen? a = false) :
    Calls Tryz.prog 155 #[.pointer (some a)] w fun e w' => e = .returned (.tuple #[]) ∧ w' = w.setCell a (.int .i32 1) := by
  have hd := race_off
  have he := race_on
  have ha := race_in
  have hcas := run_call_cas_hit (P := Tryz.prog) Tryz.func210 (by kernel_rfl) (by kernel_rfl) (by kernel_rfl) .i32 (by kernel_rfl) (y := 1) hc hz
  have hc' : (w.setCell a (.int .i32 1)).cell? a = some (.int .i32 1) := World.cell?_setCell_same w a _ hc
  have hcv := run_convert_to_unsafe (P := Tryz.prog) (src := 290) (dst := 232) Tryz.underlying290 Tryz.underlying232 (by kernel_rfl) hc'
  go_enter Tryz.func155, Tryz.ntmps155
  go_wp2
  first | go_end0 | (simp only [Exit.inBlock, Exit.then]; refine bodyPost_ret (results_none rfl _ _ _) rfl ?_) | refine bodyPost_ret (results_none rfl _ _ _) rfl ?_
  go_wp2
  go_end0
  exact ⟨rfl, rfl⟩
end Go.Proofs.YtpgiboblonlddaaGreatDoor
