/-
  Several texts put together (part 5): what the law and the program call, walked; their contracts.
-/
import Derived.Test.YtgdkpamlkpncgaaGreatDoorR4
import Derived.Lib.OthersKept
import Derived.Lib.OwnKind
import Derived.Lib.Builder
import Derived.WalkSmall
import Derived.OneCell
import Derived.Laws.EntriesVeiled
import Derived.Laws.AppendOwn
namespace Go.Proofs.YtgdkpamlkpncgaaGreatDoor
open Go.RowKit
set_option linter.unusedVariables false
set_option linter.unusedSimpArgs false
def pt (k : Nat) : Value:=.pointer (some ⟨k,0,none⟩)
def BoxAt (w : World) (k : Nat) (cs : Array Value) (t : TypeId) : Prop:=w.heap[k]? = some (.cells cs t (0,0))
theorem BoxAt.lt {w : World} {k : Nat} {cs : Array Value} {t : TypeId} (h : BoxAt w k cs t) : k < w.heap.size:=(Array.getElem?_eq_some_iff.1 h).1
theorem BoxAt.cell {w : World} {k : Nat} {cs : Array Value} {t : TypeId} (h : BoxAt w k cs t) (o : Nat) : w.cell? ⟨k,o,none⟩ = cs[o]?:=by
 rw [Lib.cell_of_heap h]
theorem BoxAt.new (w : World) (cs : Array Value) (t : TypeId) : BoxAt (w.alloc (.cells cs t)) w.heap.size cs t:=by
 show (w.heap.push _)[w.heap.size]? = _
 simp
theorem BoxAt.alloc {w : World} {k : Nat} {cs : Array Value} {t : TypeId} (h : BoxAt w k cs t) (o : Obj) : BoxAt (w.alloc o) k cs t :=
 (Lib.alloc_old w o k h.lt).trans h
theorem BoxAt.later {w w' : World} {k : Nat} {c : Array Value} {t : TypeId} (h : BoxAt w k c t) (hb : Below w.heap.size w w') : BoxAt w' k c t:=(hb.block k h.lt).trans h
theorem BoxAt.setOther {w : World} {k : Nat} {cs : Array Value} {t : TypeId} (h : BoxAt w k cs t) (p : Addr) (v : Value) (hp : k ≠ p.block) : BoxAt (w.setCell p v) k cs t :=
 (Below.heap_setCell w p v k hp).trans h
theorem BoxAt.new' (w : World) (k : Nat) (cs : Array Value) (t : TypeId) (h : k = w.heap.size) : BoxAt (w.alloc (.cells cs t)) k cs t:=by rw [h]; exact BoxAt.new w cs t
theorem take_snoc {α : Type} (l : List α) (i : Nat) (x : α) (h : l[i]? = some x) : l.take (i + 1) = l.take i ++ [x]:=by
 rw [List.take_add_one,h]; rfl
theorem drop_cons {α : Type} (l : List α) (i : Nat) (x : α) (h : l[i]? = some x) : l.drop i = x :: l.drop (i + 1):=by
 obtain ⟨hi,rfl⟩:=List.getElem?_eq_some_iff.1 h
 exact List.drop_eq_getElem_cons hi
mutual
inductive EX where
 | mk (kind : Int) (text name attr : ByteArray) (args : List AR) (inner : Option EX) (vars : List VA)
inductive AR where
 | mk (name : ByteArray) (value : EX)
inductive VA where
 | mk (key : ByteArray) (dflt : Bool) (value : List EL)
inductive EL where
 | mk (text : ByteArray) (place : Option EX)
end
mutual
def EX.size : EX -> Nat
 | .mk _ t n a args inner vars=>1 + t.size + n.size + a.size + sizeAs args + sizeO inner + sizeVs vars
def sizeAs : List AR -> Nat
 | []=>0
 | .mk n v :: r=>n.size + v.size + sizeAs r
def sizeO : Option EX -> Nat
 | none=>0
 | some e=>e.size
def sizeVs : List VA -> Nat
 | []=>0
 | .mk k _ v :: r=>1 + k.size + sizeEs v + sizeVs r
def sizeEs : List EL -> Nat
 | []=>0
 | .mk t p :: r=>1 + t.size + sizeO p + sizeEs r
end
mutual
def sameE : EX -> EX -> Bool
 | .mk k t n a al i vs,.mk k' t' n' a' al' i' vs'=>decide (k = k') && decide (t = t') && decide (n = n') && decide (a = a') && sameAs al al' && sameO i i' && sameVs vs vs'
def sameAs : List AR -> List AR -> Bool
 | [],[]=>true
 | .mk n v :: r,.mk n' v' :: r'=>decide (n = n') && sameE v v' && sameAs r r'
 | _,_=>false
def sameO : Option EX -> Option EX -> Bool
 | none,none=>true
 | some e,some e'=>sameE e e'
 | _,_=>false
def sameVs : List VA -> List VA -> Bool
 | [],[]=>true
 | .mk n d v :: r,.mk n' d' v' :: r'=>decide (n = n') && (d == d') && sameEs v v' && sameVs r r'
 | _,_=>false
def sameEs : List EL -> List EL -> Bool
 | [],[]=>true
 | .mk n p :: r,.mk n' p' :: r'=>decide (n = n') && sameO p p' && sameEs r r'
 | _,_=>false
end
structure C7 where
 k : Value
 t : Value
 n : Value
 a : Value
 al : Value
 i : Value
 vs : Value
def C7.arr (c : C7) : Array Value:=#[c.k,c.t,c.n,c.a,c.al,c.i,c.vs]
def CellsAt (W : World) (b o : Nat) (c : C7) : Prop :=
 W.cell? ⟨b,o,none⟩ = some c.k /\ W.cell? ⟨b,o + 1,none⟩ = some c.t /\ W.cell? ⟨b,o + 2,none⟩ = some c.n /\ W.cell? ⟨b,o + 3,none⟩ = some c.a /\
 W.cell? ⟨b,o + 4,none⟩ = some c.al /\ W.cell? ⟨b,o + 5,none⟩ = some c.i /\ W.cell? ⟨b,o + 6,none⟩ = some c.vs
def LieAt (P : Nat -> Nat -> Prop) (v : Value) (n : Nat) : Prop :=
 ∃ A c,v = .slice A n c /\ n <= c /\ c <= maxLen /\ (0 < n -> ∃ b o,A = some ⟨b,o,none⟩ /\ P b o)
mutual
def ExAt (W : World) : EX -> C7 -> Prop
 | .mk k t n a al i vs,c=>c.k = .int .i64 k /\ c.t = .string t /\ c.n = .string n /\ c.a = .string a /\
   LieAt (AsAt W al) c.al al.length /\ OAt W i c.i /\ LieAt (VsAt W vs) c.vs vs.length
def OAt (W : World) : Option EX -> Value -> Prop
 | none,v=>v = .pointer none
 | some e,v=>∃ b o c,v = .pointer (some ⟨b,o,none⟩) /\ b < W.heap.size /\ CellsAt W b o c /\ ExAt W e c
def AsAt (W : World) : List AR -> Nat -> Nat -> Prop
 | [],_,_=>True
 | .mk n e :: r,b,o=>b < W.heap.size /\ W.cell? ⟨b,o,none⟩ = some (.string n) /\ (∃ c,CellsAt W b (o + 1) c /\ ExAt W e c) /\ AsAt W r b (o + 8)
def VsAt (W : World) : List VA -> Nat -> Nat -> Prop
 | [],_,_=>True
 | .mk n d v :: r,b,o=>b < W.heap.size /\ W.cell? ⟨b,o,none⟩ = some (.string n) /\ W.cell? ⟨b,o + 1,none⟩ = some (.bool d) /\
   (∃ u,W.cell? ⟨b,o + 2,none⟩ = some u /\ LieAt (EsAt W v) u v.length) /\ VsAt W r b (o + 3)
def EsAt (W : World) : List EL -> Nat -> Nat -> Prop
 | [],_,_=>True
 | .mk t p :: r,b,o=>b < W.heap.size /\ W.cell? ⟨b,o,none⟩ = some (.string t) /\ (∃ u,W.cell? ⟨b,o + 1,none⟩ = some u /\ OAt W p u) /\ EsAt W r b (o + 2)
end
def PatAt (W : World) (l : List EL) (v : Value) : Prop:=LieAt (EsAt W l) v l.length
def emp (s : ByteArray) : Bool:=s.toList.isEmpty
def vaDflt : VA -> Bool | .mk _ d _=>d
def vaKey : VA -> ByteArray | .mk k _ _=>k
def vaVal : VA -> List EL | .mk _ _ v=>v
def elText : EL -> ByteArray | .mk t _=>t
def memB (n : ByteArray) (seen : List ByteArray) : Bool:=seen.any fun s=>decide (n = s)
def arName : AR -> ByteArray | .mk n _=>n
def exV (k : Int) (t n a : ByteArray) (A1 : Option Addr) (n1 c1 : Nat) (i : Option Addr) (A2 : Option Addr) (n2 c2 : Nat) : Value :=
 .agg #[.int .i64 k,.string t,.string n,.string a,.slice A1 n1 c1,.pointer i,.slice A2 n2 c2]
theorem LieAt.imp {P Q : Nat -> Nat -> Prop} {v : Value} {n : Nat} (h : LieAt P v n) (hi : ∀ b o,P b o -> Q b o) : LieAt Q v n:=by
 obtain ⟨A,c,h1,h2,h3,h4⟩:=h
 exact ⟨A,c,h1,h2,h3,fun h0=>by obtain ⟨b,o,e,hp⟩:=h4 h0; exact ⟨b,o,e,hi b o hp⟩⟩
theorem CellsAt.under {W0 W : World} {b o : Nat} {c : C7} (h : CellsAt W0 b o c) (hb : b < W0.heap.size) (g : Below W0.heap.size W0 W) : CellsAt W b o c:=by
 obtain ⟨k0,k1,k2,k3,k4,k5,k6⟩:=h
 exact ⟨(g.cell (p:=⟨b,_,none⟩) hb).trans k0,(g.cell (p:=⟨b,_,none⟩) hb).trans k1,(g.cell (p:=⟨b,_,none⟩) hb).trans k2,(g.cell (p:=⟨b,_,none⟩) hb).trans k3,(g.cell (p:=⟨b,_,none⟩) hb).trans k4,(g.cell (p:=⟨b,_,none⟩) hb).trans k5,(g.cell (p:=⟨b,_,none⟩) hb).trans k6⟩
theorem ex_shape {W : World} {e : EX} {c : C7} (h : ExAt W e c) : ∃ (k2 : Int) (t2 n3 a2 : ByteArray) (B1 : Option Addr) (m1 q1 : Nat) (p2 : Option Addr) (B2 : Option Addr) (m2 q2 : Nat),c = ⟨.int .i64 k2,.string t2,.string n3,.string a2,.slice B1 m1 q1,.pointer p2,.slice B2 m2 q2⟩:=by
 obtain ⟨ck,ct,cn,ca,cal,ci,cvs⟩:=c
 obtain ⟨k2,t2,n2',a2,al2,i2,vs2⟩:=e
 rw [ExAt] at h
 obtain ⟨e1,e2,e3,e4,⟨B1,q1,e5,_⟩,e6,⟨B2,q2,e7,_⟩⟩:=h
 obtain ⟨p2,e8⟩ : ∃ p,ci = .pointer p:=by
  cases i2 with
  | none=>simp only [OAt] at e6; exact ⟨_,e6⟩
  | some e=>simp only [OAt] at e6; obtain ⟨b,o,c,h,_⟩:=e6; exact ⟨_,h⟩
 simp only at e1 e2 e3 e4 e5 e7
 subst e1 e2 e3 e4 e5 e8 e7
 exact ⟨_,_,_,_,_,_,_,_,_,_,_,rfl⟩
structure Kp (rb : Nat) (w w' : World) : Prop where
 below : Below rb w w'
 others : ∀ k,k < w.heap.size -> k ≠ rb -> w'.heap[k]? = w.heap[k]?
theorem Kp.size {rb : Nat} {w w' : World} (h : Kp rb w w') : w.heap.size <= w'.heap.size:=h.below.size
theorem Kp.refl (rb : Nat) (w : World) : Kp rb w w:=⟨Below.refl _ _,fun _ _ _=>rfl⟩
theorem Kp.trans {rb : Nat} {a b c : World} (h : Kp rb a b) (k : Kp rb b c) : Kp rb a c :=
 ⟨h.below.trans k.below,fun j hj hn=>(k.others j (Nat.lt_of_lt_of_le hj h.size) hn).trans (h.others j hj hn)⟩
theorem Kp.of_below {rb : Nat} {w w' : World} (hb : Below w.heap.size w w') (hr : rb <= w.heap.size) : Kp rb w w':=⟨hb.mono hr,fun k hk _=>hb.block k hk⟩
theorem Kp.alloc {rb : Nat} {a w : World} (h : Kp rb a w) (hr : rb <= w.heap.size) (o : Obj) : Kp rb a (w.alloc o):=h.trans (Kp.of_below ((Below.refl _ _).alloc (Nat.le_refl _) _) hr)
theorem Kp.drew {rb : Nat} {a w : World} (h : Kp rb a w) : Kp rb a w.drew:=⟨h.below.drew,fun k hk hn=>h.others k hk hn⟩
theorem Kp.setCell {rb : Nat} {a w : World} (h : Kp rb a w) (o : Nat) (v : Value) : Kp rb a (w.setCell ⟨rb,o,none⟩ v) :=
 ⟨h.below.setCell (p:=⟨rb,o,none⟩) (Nat.le_refl _) v,fun k hk hn=>by
  rw [<- h.others k hk hn]
  simp only [World.setCell]
  rw [Array.getElem?_modify,if_neg (fun e=>hn e.symm)]⟩
theorem BoxAt.kp {rb : Nat} {w w' : World} {k : Nat} {cs : Array Value} {t : TypeId} (h : BoxAt w k cs t) (g : Kp rb w w') (hk : k ≠ rb) : BoxAt w' k cs t:=(g.others k h.lt hk).trans h
theorem BoxAt.drew {w : World} {k : Nat} {cs : Array Value} {t : TypeId} (h : BoxAt w k cs t) : BoxAt w.drew k cs t:=h
def LieN (P : Nat -> Nat -> Prop) (v : Value) (n : Nat) : Prop:=LieAt P v n /\ (n = 0 -> v = .slice none 0 0)
theorem LieN.imp {P Q : Nat -> Nat -> Prop} {v : Value} {n : Nat} (h : LieN P v n) (hi : ∀ b o,P b o -> Q b o) : LieN Q v n:=⟨LieAt.imp h.1 hi,h.2⟩
theorem LieN.nil (P : Nat -> Nat -> Prop) : LieN P (.slice none 0 0) 0:=⟨⟨none,0,rfl,Nat.le_refl _,Nat.zero_le _,fun h=>absurd h (by simp)⟩,fun _=>rfl⟩
mutual
def ExF (W : World) (F : Nat -> Prop) : EX -> C7 -> Prop
 | .mk k t n a al i vs,c=>c.k = .int .i64 k /\ c.t = .string t /\ c.n = .string n /\ c.a = .string a /\
   LieN (AsF W F al) c.al al.length /\ OF W F i c.i /\ LieAt (VsF W F vs) c.vs vs.length
def OF (W : World) (F : Nat -> Prop) : Option EX -> Value -> Prop
 | none,v=>v = .pointer none
 | some e,v=>∃ b o c,v = .pointer (some ⟨b,o,none⟩) /\ F b /\ CellsAt W b o c /\ ExF W F e c
def AsF (W : World) (F : Nat -> Prop) : List AR -> Nat -> Nat -> Prop
 | [],_,_=>True
 | .mk n e :: r,b,o=>F b /\ W.cell? ⟨b,o,none⟩ = some (.string n) /\ (∃ c,CellsAt W b (o + 1) c /\ ExF W F e c) /\ AsF W F r b (o + 8)
def VsF (W : World) (F : Nat -> Prop) : List VA -> Nat -> Nat -> Prop
 | [],_,_=>True
 | .mk n d v :: r,b,o=>F b /\ W.cell? ⟨b,o,none⟩ = some (.string n) /\ W.cell? ⟨b,o + 1,none⟩ = some (.bool d) /\
   (∃ u,W.cell? ⟨b,o + 2,none⟩ = some u /\ LieAt (EsF W F v) u v.length) /\ VsF W F r b (o + 3)
def EsF (W : World) (F : Nat -> Prop) : List EL -> Nat -> Nat -> Prop
 | [],_,_=>True
 | .mk t p :: r,b,o=>F b /\ W.cell? ⟨b,o,none⟩ = some (.string t) /\ (∃ u,W.cell? ⟨b,o + 1,none⟩ = some u /\ OF W F p u) /\ EsF W F r b (o + 2)
end
def PatF (W : World) (F : Nat -> Prop) (l : List EL) (v : Value) : Prop:=LieAt (EsF W F l) v l.length
theorem cell_same {W W' : World} {b : Nat} (h : W'.heap[b]? = W.heap[b]?) (o : Nat) : W'.cell? ⟨b,o,none⟩ = W.cell? ⟨b,o,none⟩:=by
 unfold World.cell?; simp only [h]
theorem CellsAt.same {W W' : World} {b o : Nat} {c : C7} (h : CellsAt W b o c) (g : W'.heap[b]? = W.heap[b]?) : CellsAt W' b o c:=by
 obtain ⟨k0,k1,k2,k3,k4,k5,k6⟩:=h
 exact ⟨(cell_same g _).trans k0,(cell_same g _).trans k1,(cell_same g _).trans k2,(cell_same g _).trans k3,(cell_same g _).trans k4,(cell_same g _).trans k5,(cell_same g _).trans k6⟩
mutual
theorem ExF.carry {W W' : World} {F F' : Nat -> Prop} (g : ∀ b,F b -> F' b /\ W'.heap[b]? = W.heap[b]?) : ∀ (e : EX) (c : C7),ExF W F e c -> ExF W' F' e c
 | .mk k t n a al i vs,c,h=>by
  rw [ExF] at h ⊢
  obtain ⟨h1,h2,h3,h4,h5,h6,h7⟩:=h
  exact ⟨h1,h2,h3,h4,h5.imp (fun b o=>AsF.carry g al b o),OF.carry g i _ h6,h7.imp (fun b o=>VsF.carry g vs b o)⟩
theorem OF.carry {W W' : World} {F F' : Nat -> Prop} (g : ∀ b,F b -> F' b /\ W'.heap[b]? = W.heap[b]?) : ∀ (i : Option EX) (v : Value),OF W F i v -> OF W' F' i v
 | none,v,h=>by simp only [OF] at h ⊢; exact h
 | some e,v,h=>by
  simp only [OF] at h ⊢
  obtain ⟨b,o,c,e1,hb,hc,hx⟩:=h
  exact ⟨b,o,c,e1,(g b hb).1,hc.same (g b hb).2,ExF.carry g e c hx⟩
theorem AsF.carry {W W' : World} {F F' : Nat -> Prop} (g : ∀ b,F b -> F' b /\ W'.heap[b]? = W.heap[b]?) : ∀ (l : List AR) (b o : Nat),AsF W F l b o -> AsF W' F' l b o
 | [],b,o,_=>by rw [AsF]; trivial
 | .mk n e :: r,b,o,h=>by
  rw [AsF] at h ⊢
  obtain ⟨hb,h1,⟨c,h2,h3⟩,h4⟩:=h
  exact ⟨(g b hb).1,(cell_same (g b hb).2 _).trans h1,⟨c,h2.same (g b hb).2,ExF.carry g e c h3⟩,AsF.carry g r b _ h4⟩
theorem VsF.carry {W W' : World} {F F' : Nat -> Prop} (g : ∀ b,F b -> F' b /\ W'.heap[b]? = W.heap[b]?) : ∀ (l : List VA) (b o : Nat),VsF W F l b o -> VsF W' F' l b o
 | [],b,o,_=>by rw [VsF]; trivial
 | .mk n d v :: r,b,o,h=>by
  rw [VsF] at h ⊢
  obtain ⟨hb,h1,h2,⟨u,h3,h5⟩,h4⟩:=h
  exact ⟨(g b hb).1,(cell_same (g b hb).2 _).trans h1,(cell_same (g b hb).2 _).trans h2,⟨u,(cell_same (g b hb).2 _).trans h3,h5.imp (fun b o=>EsF.carry g v b o)⟩,VsF.carry g r b _ h4⟩
theorem EsF.carry {W W' : World} {F F' : Nat -> Prop} (g : ∀ b,F b -> F' b /\ W'.heap[b]? = W.heap[b]?) : ∀ (l : List EL) (b o : Nat),EsF W F l b o -> EsF W' F' l b o
 | [],b,o,_=>by rw [EsF]; trivial
 | .mk t p :: r,b,o,h=>by
  rw [EsF] at h ⊢
  obtain ⟨hb,h1,⟨u,h3,h5⟩,h4⟩:=h
  exact ⟨(g b hb).1,(cell_same (g b hb).2 _).trans h1,⟨u,(cell_same (g b hb).2 _).trans h3,OF.carry g p u h5⟩,EsF.carry g r b _ h4⟩
end
theorem PatF.carry {W W' : World} {F F' : Nat -> Prop} (g : ∀ b,F b -> F' b /\ W'.heap[b]? = W.heap[b]?) {l : List EL} {v : Value} (h : PatF W F l v) : PatF W' F' l v:=LieAt.imp h (fun b o=>EsF.carry g l b o)
mutual
theorem ExF.at_ {W : World} {F : Nat -> Prop} (g : ∀ b,F b -> b < W.heap.size) : ∀ (e : EX) (c : C7),ExF W F e c -> ExAt W e c
 | .mk k t n a al i vs,c,h=>by
  rw [ExF] at h
  rw [ExAt]
  obtain ⟨h1,h2,h3,h4,h5,h6,h7⟩:=h
  exact ⟨h1,h2,h3,h4,h5.1.imp (fun b o=>AsF.at_ g al b o),OF.at_ g i _ h6,h7.imp (fun b o=>VsF.at_ g vs b o)⟩
theorem OF.at_ {W : World} {F : Nat -> Prop} (g : ∀ b,F b -> b < W.heap.size) : ∀ (i : Option EX) (v : Value),OF W F i v -> OAt W i v
 | none,v,h=>by simp only [OF] at h; simp only [OAt]; exact h
 | some e,v,h=>by
  simp only [OF] at h
  simp only [OAt]
  obtain ⟨b,o,c,e1,hb,hc,hx⟩:=h
  exact ⟨b,o,c,e1,g b hb,hc,ExF.at_ g e c hx⟩
theorem AsF.at_ {W : World} {F : Nat -> Prop} (g : ∀ b,F b -> b < W.heap.size) : ∀ (l : List AR) (b o : Nat),AsF W F l b o -> AsAt W l b o
 | [],b,o,_=>by rw [AsAt]; trivial
 | .mk n e :: r,b,o,h=>by
  rw [AsF] at h
  rw [AsAt]
  obtain ⟨hb,h1,⟨c,h2,h3⟩,h4⟩:=h
  exact ⟨g b hb,h1,⟨c,h2,ExF.at_ g e c h3⟩,AsF.at_ g r b _ h4⟩
theorem VsF.at_ {W : World} {F : Nat -> Prop} (g : ∀ b,F b -> b < W.heap.size) : ∀ (l : List VA) (b o : Nat),VsF W F l b o -> VsAt W l b o
 | [],b,o,_=>by rw [VsAt]; trivial
 | .mk n d v :: r,b,o,h=>by
  rw [VsF] at h
  rw [VsAt]
  obtain ⟨hb,h1,h2,⟨u,h3,h5⟩,h4⟩:=h
  exact ⟨g b hb,h1,h2,⟨u,h3,h5.imp (fun b o=>EsF.at_ g v b o)⟩,VsF.at_ g r b _ h4⟩
theorem EsF.at_ {W : World} {F : Nat -> Prop} (g : ∀ b,F b -> b < W.heap.size) : ∀ (l : List EL) (b o : Nat),EsF W F l b o -> EsAt W l b o
 | [],b,o,_=>by rw [EsAt]; trivial
 | .mk t p :: r,b,o,h=>by
  rw [EsF] at h
  rw [EsAt]
  obtain ⟨hb,h1,⟨u,h3,h5⟩,h4⟩:=h
  exact ⟨g b hb,h1,⟨u,h3,OF.at_ g p u h5⟩,EsF.at_ g r b _ h4⟩
end
def Since (B : Nat) (W : World) : Nat -> Prop:=fun b=>B <= b /\ b < W.heap.size
def Rd (rb : Nat) (s : ByteArray) (i : Nat) (w : World) : Prop:=BoxAt w rb #[.string s,.int .i64 (i : Nat)] 240
theorem Rd.lt {rb : Nat} {s : ByteArray} {i : Nat} {w : World} (h : Rd rb s i w) : rb < w.heap.size:=BoxAt.lt h
theorem Rd.alloc {rb : Nat} {s : ByteArray} {i : Nat} {w : World} (h : Rd rb s i w) (o : Obj) : Rd rb s i (w.alloc o):=BoxAt.alloc h o
theorem Rd.set {rb : Nat} {s : ByteArray} {i : Nat} {w : World} (h : Rd rb s i w) (j : Nat) : Rd rb s j (w.setCell ⟨rb,1,none⟩ (.int .i64 (j : Nat))):=by
 unfold Rd BoxAt at h ⊢
 simp [World.setCell,Array.getElem?_modify,h]
theorem Rd.set' {rb : Nat} {s : ByteArray} {i j : Nat} {v : Int} {w : World} (h : Rd rb s i w) (hv : v = (j : Nat)) : Rd rb s j (w.setCell ⟨rb,1,none⟩ (.int .i64 v)):=by rw [hv]; exact h.set j
theorem Rd.later {rb : Nat} {s : ByteArray} {i : Nat} {w w' : World} (h : Rd rb s i w) (g : Below w.heap.size w w') : Rd rb s i w':=(g.block rb h.lt).trans h
theorem Rd.c0 {rb : Nat} {s : ByteArray} {i : Nat} {w : World} (h : Rd rb s i w) : w.cell? ⟨rb,0,none⟩ = some (.string s):=BoxAt.cell h 0
theorem Rd.c1 {rb : Nat} {s : ByteArray} {i : Nat} {w : World} (h : Rd rb s i w) : w.cell? ⟨rb,1,none⟩ = some (.int .i64 (i : Nat)):=BoxAt.cell h 1
theorem Rd.f {rb : Nat} {s : ByteArray} {i : Nat} {w : World} (h : Rd rb s i w) (o : Nat) : w.frozen? ⟨rb,o,none⟩ = false:=Lib.frozen_of_heap h o
inductive AT where
 | mk (name : ByteArray) (value : List EL)
def sizeTs : List AT -> Nat
 | []=>0
 | .mk n v :: r=>1 + n.size + sizeEs v + sizeTs r
def TsAt (W : World) : List AT -> Nat -> Nat -> Prop
 | [],_,_=>True
 | .mk n v :: r,b,o=>b < W.heap.size /\ W.cell? ⟨b,o,none⟩ = some (.string n) /\ (∃ u,W.cell? ⟨b,o + 1,none⟩ = some u /\ PatAt W v u) /\ TsAt W r b (o + 2)
theorem TsAt.get {W : World} : ∀ {l : List AT} {b o : Nat} (j : Nat) {t : ByteArray} {v : List EL},TsAt W l b o -> l[j]? = some (.mk t v) ->
  b < W.heap.size /\ W.cell? ⟨b,o + j * 2,none⟩ = some (.string t) /\ ∃ u,W.cell? ⟨b,o + j * 2 + 1,none⟩ = some u /\ PatAt W v u
 | [],b,o,j,t,p,h,hj=>by simp at hj
 | .mk t' p' :: r,b,o,0,t,p,h,hj=>by
  rw [TsAt] at h
  simp at hj
  obtain ⟨rfl,rfl⟩:=hj
  obtain ⟨h0,h1,h2,_⟩:=h
  exact ⟨h0,by simpa using h1,by simpa using h2⟩
 | .mk t' p' :: r,b,o,j + 1,t,p,h,hj=>by
  rw [TsAt] at h
  have:=TsAt.get j h.2.2.2 (by simpa using hj)
  rw [show o + (j + 1) * 2 = o + 2 + j * 2 by omega]
  exact this
theorem ats_get {W0 : World} {l : List AT} {v : Value} (h : LieAt (TsAt W0 l) v l.length) {i : Nat} (hi : i < l.length) : ∃ b o c,v = .slice (some ⟨b,o,none⟩) l.length c /\ b < W0.heap.size /\
  ∀ j t p,l[j]? = some (.mk t p) -> W0.cell? ⟨b,o + j * 2,none⟩ = some (.string t) /\ ∃ u,W0.cell? ⟨b,o + j * 2 + 1,none⟩ = some u /\ PatAt W0 p u:=by
 obtain ⟨A,c,rfl,_,_,h2⟩:=h
 obtain ⟨b,o,rfl,h3⟩:=h2 (by omega)
 have h0 : l[0]? = some l[0]:=List.getElem?_eq_getElem (by omega)
 refine ⟨b,o,c,rfl,?_,fun j t p hj=>⟨(h3.get j hj).2.1,(h3.get j hj).2.2⟩⟩
 cases e : l[0]'(by omega) with
 | mk t p=>rw [e] at h0; exact (h3.get 0 h0).1
theorem sizeTs_length : ∀ l : List AT,l.length <= sizeTs l
 | []=>Nat.zero_le _
 | .mk t p :: r=>by have:=sizeTs_length r; rw [sizeTs,List.length_cons]; omega
theorem sizeTs_append : ∀ a b : List AT,sizeTs (a ++ b) = sizeTs a + sizeTs b
 | [],b=>by rw [List.nil_append,sizeTs]; omega
 | .mk t p :: r,b=>by rw [List.cons_append,sizeTs,sizeTs,sizeTs_append r b]; omega
theorem sizeTs_take (l : List AT) (i : Nat) : sizeTs (l.take i) <= sizeTs l:=by
 have:=sizeTs_append (l.take i) (l.drop i)
 rw [List.take_append_drop] at this
 omega
def entV (ty level : Int) (text name : ByteArray) (v u : Value) (fr tu : Int) : Value:=.agg #[.int .i64 ty,.int .i64 level,.string text,.string name,v,u,.int .i64 fr,.int .i64 tu]
end Go.Proofs.YtgdkpamlkpncgaaGreatDoor
namespace Go.Proofs.YtgdkpamlkpncgaaGreatDoor
open Go.RowKit Go Go.Op
set_option linter.unusedVariables false
set_option linter.unusedSimpArgs false
section
variable {P : Program} (w : World)
theorem run_append_where (base : Nat) (t ty e : TypeId) (i : TypeInfo) (z : Value) (size bytes : Nat) (ht : P.underlying t = some (.slice e)) (hi : P.info? e = some i) (hz : i.zero = some z)
  (hsize : i.size = size) (hby : i.bytes = bytes) (hzs : z.cells.size = size) (hsz : 0 < size)
  (v : Value) (n : Nat) (xs : List Value) (hown : w.ownsRow base e size v n xs)
  (a : Addr) (m c : Nat) (news : List Value) (hl : news.length = m * size) (hnews : ∀ j u,news[j]? = some u -> w.cell? (a.add j) = some u) (h1 : ∀ u ∈ news,u.oneCell' = true)
  (h63 : n + m <= maxLen) (hbytes : (n + m) * bytes <= 140737488355328) (hbase : base <= w.heap.size) (hm0 : 0 < m) :
  ∃ v' w',(Builtin.append_ #[t,t] ty #[v,.slice (some a) m c]).run P w = .ok v' w' /\ w'.ownsRow base e size v' (n + m) (xs ++ news) /\ w.grownBy w' v.ownBlock /\
   (v'.ownBlock = v.ownBlock ∨ v'.ownBlock = some w.heap.size):=by
 obtain ⟨v',w',hr,h2,h3,_⟩:=run_append_own (P:=P) w base t ty e i z size bytes ht hi hz hsize hby hzs hsz v n xs hown a m c news hl hnews h1 h63 hbytes hbase
 refine ⟨v',w',hr,h2,h3,?_⟩
 subst hsize
 subst hby
 have hsmall : n + m <= 9223372036854775807:=by simp only [maxLen] at h63; omega
 rcases hown.2 with ⟨rfl,rfl⟩ | ⟨g,cap,cur,rfl,hbg,hg,hnc,hcm,hcs,htake⟩
 ·have hr2:=run_append_nil (P:=P) w t ty e i z ht hi hz a m c news hl hnews (by omega) (by omega) (by have hb:=hbytes; simp only [Nat.zero_add] at hb; omega)
  have hv:=hr.symm.trans hr2
  injection hv with e1 _
  rw [e1]
  exact .inr rfl
 ·by_cases hroom : n + m <= cap
  ·have hfit : n * i.size + news.length <= cur.size:=by rw [hl,hcs,<- Nat.add_mul]; exact Nat.mul_le_mul_right _ hroom
   have hr2:=run_append_room (P:=P) w t ty e i ht hi g n cap cur hg a m c news hl hnews h1 hroom hfit
   have hv:=hr.symm.trans hr2
   injection hv with e1 _
   rw [e1]
   exact .inl rfl
  ·have holds : ∀ j u,xs[j]? = some u -> w.cell? ((⟨g,0,none⟩ : Addr).add j) = some u:=hown.cells (g:=g) rfl
   have hr2:=run_append_grow (P:=P) w t ty e i z ht hi hz ⟨g,0,none⟩ n cap xs hown.1 holds a m c news hl hnews (by omega) (by omega) (growslice_fits (by omega) hbytes)
   have hv:=hr.symm.trans hr2
   injection hv with e1 _
   rw [e1]
   exact .inr rfl
theorem wpList_append_where {ops : Array Oper} {rest : List Oper} {o : Oper} {a : Act} {Q : Exit -> Act -> World -> Prop} (hgd : o.guard = none) (s x : Operand) (t : TypeId)
  (ho : o.op = .call { callee:=.builtin .append,args:=#[s,x],argTypes:=#[t,t] })
  (base : Nat) (e : TypeId) (i : TypeInfo) (z : Value) (size bytes : Nat) (ht : P.underlying t = some (.slice e)) (hi : P.info? e = some i) (hz : i.zero = some z)
  (hsize : i.size = size) (hby : i.bytes = bytes) (hzs : z.cells.size = size) (hsz : 0 < size)
  (v : Value) (n : Nat) (xs : List Value) (hs : a.eval s = v) (hown : w.ownsRow base e size v n xs)
  (ad : Addr) (m c : Nat) (news : List Value) (hx : a.eval x = .slice (some ad) m c) (hl : news.length = m * size) (hnews : ∀ j u,news[j]? = some u -> w.cell? (ad.add j) = some u) (h1 : ∀ u ∈ news,u.oneCell' = true)
  (h63 : n + m <= maxLen) (hbytes : (n + m) * bytes <= 140737488355328) (hbase : base <= w.heap.size) (hm0 : 0 < m)
  (h : ∀ v' w',w'.ownsRow base e size v' (n + m) (xs ++ news) -> w.grownBy w' v.ownBlock -> (v'.ownBlock = v.ownBlock ∨ v'.ownBlock = some w.heap.size) -> wpList P ops Q rest (a.put o.dst v') w') : wpList P ops Q (o :: rest) a w:=by
 refine wpList_plain hgd fun K hK=>?_
 obtain ⟨v',w',hr,h2,h3,h4⟩:=run_append_where (P:=P) w base t o.type e i z size bytes ht hi hz hsize hby hzs hsz v n xs hown ad m c news hl hnews h1 h63 hbytes hbase hm0
 unfold Oper.wp execOp
 simp only [ho,resolve,invoke,builtin,Sem.run_bind,Sem.run_pure,Result.andThen_ok,List.map_toArray,List.map_cons,List.map_nil,hs,hx,hr]
 exact hK _ _ (h v' w' h2 h3 h4)
end
end Go.Proofs.YtgdkpamlkpncgaaGreatDoor
namespace Go.Proofs.YtgdkpamlkpncgaaGreatDoor
open Go.RowKit
set_option linter.unusedVariables false
set_option linter.unusedSimpArgs false
mutual
theorem ExAt.later {W0 W : World} (g : Below W0.heap.size W0 W) : ∀ (e : EX) (c : C7),ExAt W0 e c -> ExAt W e c
 | .mk k t n a al i vs,c,h=>by
  rw [ExAt] at h ⊢
  obtain ⟨h1,h2,h3,h4,h5,h6,h7⟩:=h
  exact ⟨h1,h2,h3,h4,h5.imp (fun b o=>AsAt.later g al b o),OAt.later g i _ h6,h7.imp (fun b o=>VsAt.later g vs b o)⟩
theorem OAt.later {W0 W : World} (g : Below W0.heap.size W0 W) : ∀ (i : Option EX) (v : Value),OAt W0 i v -> OAt W i v
 | none,v,h=>by simp only [OAt] at h ⊢; exact h
 | some e,v,h=>by
  simp only [OAt] at h ⊢
  obtain ⟨b,o,c,e1,hb,hc,hx⟩:=h
  exact ⟨b,o,c,e1,Nat.lt_of_lt_of_le hb g.size,hc.under hb g,ExAt.later g e c hx⟩
theorem AsAt.later {W0 W : World} (g : Below W0.heap.size W0 W) : ∀ (l : List AR) (b o : Nat),AsAt W0 l b o -> AsAt W l b o
 | [],b,o,_=>by rw [AsAt]; trivial
 | .mk n e :: r,b,o,h=>by
  rw [AsAt] at h ⊢
  obtain ⟨hb,h1,⟨c,h2,h3⟩,h4⟩:=h
  exact ⟨Nat.lt_of_lt_of_le hb g.size,(g.cell (p:=⟨b,o,none⟩) hb).trans h1,⟨c,h2.under hb g,ExAt.later g e c h3⟩,AsAt.later g r b _ h4⟩
theorem VsAt.later {W0 W : World} (g : Below W0.heap.size W0 W) : ∀ (l : List VA) (b o : Nat),VsAt W0 l b o -> VsAt W l b o
 | [],b,o,_=>by rw [VsAt]; trivial
 | .mk n d v :: r,b,o,h=>by
  rw [VsAt] at h ⊢
  obtain ⟨hb,h1,h2,⟨u,h3,h5⟩,h4⟩:=h
  exact ⟨Nat.lt_of_lt_of_le hb g.size,(g.cell (p:=⟨b,o,none⟩) hb).trans h1,(g.cell (p:=⟨b,o + 1,none⟩) hb).trans h2,⟨u,(g.cell (p:=⟨b,o + 2,none⟩) hb).trans h3,h5.imp (fun b o=>EsAt.later g v b o)⟩,VsAt.later g r b _ h4⟩
theorem EsAt.later {W0 W : World} (g : Below W0.heap.size W0 W) : ∀ (l : List EL) (b o : Nat),EsAt W0 l b o -> EsAt W l b o
 | [],b,o,_=>by rw [EsAt]; trivial
 | .mk t p :: r,b,o,h=>by
  rw [EsAt] at h ⊢
  obtain ⟨hb,h1,⟨u,h3,h5⟩,h4⟩:=h
  exact ⟨Nat.lt_of_lt_of_le hb g.size,(g.cell (p:=⟨b,o,none⟩) hb).trans h1,⟨u,(g.cell (p:=⟨b,o + 1,none⟩) hb).trans h3,OAt.later g p u h5⟩,EsAt.later g r b _ h4⟩
end
theorem PatAt.later {W0 W : World} {l : List EL} {v : Value} (h : PatAt W0 l v) (g : Below W0.heap.size W0 W) : PatAt W l v:=LieAt.imp h (fun b o=>EsAt.later g l b o)
theorem TsAt.later {W0 W : World} (g : Below W0.heap.size W0 W) : ∀ (l : List AT) (b o : Nat),TsAt W0 l b o -> TsAt W l b o
 | [],b,o,_=>by rw [TsAt]; trivial
 | .mk n v :: r,b,o,h=>by
  rw [TsAt] at h ⊢
  obtain ⟨hb,h1,⟨u,h3,h5⟩,h4⟩:=h
  exact ⟨Nat.lt_of_lt_of_le hb g.size,(g.cell (p:=⟨b,o,none⟩) hb).trans h1,⟨u,(g.cell (p:=⟨b,o + 1,none⟩) hb).trans h3,h5.later g⟩,TsAt.later g r b _ h4⟩
end Go.Proofs.YtgdkpamlkpncgaaGreatDoor
