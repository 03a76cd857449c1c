/-
  Several texts put together (part 32): what the law and the program call, walked; their contracts.
-/
import Derived.Test.YtgdkpamlkpncgaaGreatDoorRows
import Derived.Test.YtgdkpamlkpncgaaGreatDoorR5
import Derived.ChangeArms
import Derived.ChangeOld
import Derived.DataReads
import Derived.KernelRfl
namespace Go.Proofs.YtgdkpamlkpncgaaGreatDoor
open Go.RowKit
set_option linter.unusedVariables false
set_option linter.unusedSimpArgs false
theorem LieAt.imp' {P Q : Nat -> Nat -> Prop} {v : Value} {n : Nat} (h : LieAt P v n) (hi : ∀ b o,P b o -> Q b o) : LieAt Q v n:=by
 obtain ⟨A,c,h1,h2,h3,h4⟩:=h
 exact ⟨A,c,h1,h2,h3,fun h0=>by obtain ⟨b,o,e,hp⟩:=h4 h0; exact ⟨b,o,e,hi b o hp⟩⟩
section
variable {H : Type} {enc : TypeId × Value -> H} {W : World} {sp : Nat -> Bool} {held : Bool}
theorem cells_at {base n : Nat} {a : Addr} {cs : List Value} (hn : 0 < n) (h : W.cells? base a n = some cs) : ∃ b o,a = ⟨b,o,none⟩ /\ b < W.heap.size /\ cs.length = n /\ ∀ i,i < n -> W.cell? ⟨b,o + i,none⟩ = cs[i]?:=by
 obtain ⟨_,hl,hc⟩:=World.cells?_some h
 have hb:=World.cells?_block h hn
 obtain ⟨b,o,s⟩:=a
 have h0:=hc 0 hn
 rw [show (Addr.add ⟨b,o,s⟩ 0) = ⟨b,o,s⟩ from by simp [Addr.add],List.getElem?_eq_getElem (by omega)] at h0
 have hs : s = none:=by
  cases s with
  | none=>rfl
  | some k =>
   exfalso
   unfold World.cell? at h0
   split at h0 <;> simp at h0
 subst hs
 refine ⟨b,o,rfl,hb,hl,fun i hi=>?_⟩
 rw [<- hc i hi]
 congr 1
 unfold Addr.add
 split
 ·next h=>subst h; rfl
 ·rfl
theorem bulk_pos {d : DataW H} : 1 <= Rows.uptoBulk d:=by
 cases d with
 | lit l=>cases l <;> simp [Rows.uptoBulk]
 | nil=>simp [Rows.uptoBulk]
 | ptr d=>simp [Rows.uptoBulk]
 | slice elems spare=>simp [Rows.uptoBulk]
 | agg parts=>simp [Rows.uptoBulk]
 | iface t d=>simp [Rows.uptoBulk]
 | map entries=>simp [Rows.uptoBulk]
 | held h=>simp [Rows.uptoBulk]
theorem list2 {α : Type} {l : List α} (h : l.length = 2) : ∃ a b,l = [a,b]:=by
 match l,h with
 | [a,b],_=>exact ⟨_,_,rfl⟩
theorem list3 {α : Type} {l : List α} (h : l.length = 3) : ∃ a b c,l = [a,b,c]:=by
 match l,h with
 | [a,b,c],_=>exact ⟨_,_,_,rfl⟩
theorem list7 {α : Type} {l : List α} (h : l.length = 7) : ∃ a b c d e f g,l = [a,b,c,d,e,f,g]:=by
 match l,h with
 | [a,b,c,d,e,f,g],_=>exact ⟨_,_,_,_,_,_,_,rfl⟩
theorem list8 {α : Type} {l : List α} (h : l.length = 8) : ∃ a b c d e f g k,l = [a,b,c,d,e,f,g,k]:=by
 match l,h with
 | [a,b,c,d,e,f,g,k],_=>exact ⟨_,_,_,_,_,_,_,_,rfl⟩
def sumOf {α : Type} (sz : α -> Nat) : List α -> Nat
 | []=>0
 | x :: r=>sz x + sumOf sz r
theorem row_open {α : Type} (k : Nat) (Q : α -> Nat -> Prop) (sz : α -> Nat) : ∀ (elems : List (DataW H × List MemPlace)) (o : Nat),(∀ i y,elems[i]? = some y -> ∃ e,Q e (o + i * k) /\ sz e <= Rows.uptoBulk y.1) ->
  ∃ l : List α,l.length = elems.length /\ (∀ i e,l[i]? = some e -> Q e (o + i * k)) /\ sumOf sz l <= Rows.uptoBulkAll (elems.map (·.1))
 | [],o,h=>⟨[],rfl,fun i e he=>by simp at he,by simp [sumOf]⟩
 | y :: r,o,h=>by
  obtain ⟨e,he,hs⟩:=h 0 y rfl
  obtain ⟨l,h1,h2,h3⟩:=row_open k Q sz r (o + k) (fun i y hy=>by
   obtain ⟨e,he,hs⟩:=h (i + 1) y (by simpa using hy)
   rw [Nat.add_mul,Nat.one_mul,Nat.add_comm (i * k) k,<- Nat.add_assoc] at he
   exact ⟨e,he,hs⟩)
  refine ⟨e :: l,by simp [h1],fun i x hx=>?_,?_⟩
  ·cases i with
   | zero=>simp at hx; subst hx; exact he
   | succ i =>
    have:=h2 i x (by simpa using hx)
    rw [Nat.add_mul,Nat.one_mul,Nat.add_comm (i * k) k,<- Nat.add_assoc]
    exact this
  ·rw [sumOf,List.map_cons,Rows.uptoBulkAll]; omega
theorem slice_open {α : Type} {t e : TypeId} {n k : Nat} (hk : 0 < k) (hu : Tryz.prog.underlying t = some (.slice e)) (hc : Tryz.prog.cellsOf e = k) (Q : Nat -> α -> Nat -> Prop) (sz : α -> Nat)
  (hE : ∀ m,m < n -> ∀ cs y,DataW.trod enc Tryz.prog W 0 sp held m e cs = some y -> ∀ b o,b < W.heap.size -> (∀ i,i < k -> W.cell? ⟨b,o + i,none⟩ = cs[i]?) -> ∃ x,Q b x o /\ sz x <= Rows.uptoBulk y.1)
  {cs : List Value} {x : DataW H × List MemPlace} (h : DataW.trod enc Tryz.prog W 0 sp held n t cs = some x) :
  ∃ v l,cs = [v] /\ LieAt (fun b o=>∀ i e,l[i]? = some e -> Q b e (o + i * k)) v l.length /\ sumOf sz l + 1 <= Rows.uptoBulk x.1:=by
 rcases DataW.trod_slice hu h with ⟨rfl,rfl⟩ | ⟨a,len,cap,elems,rest,n',hn,rfl,rfl,_,h1,h2,h3,h4,_,_⟩
 ·exact ⟨_,[],rfl,⟨none,0,rfl,Nat.le_refl _,Nat.zero_le _,fun h=>absurd h (by simp)⟩,by simp [sumOf,Rows.uptoBulk]⟩
 ·have hel : ∀ i y,elems[i]? = some y -> ∃ cs',W.cells? 0 (a.add (i * k)) k = some cs' /\ DataW.trod enc Tryz.prog W 0 sp held n' e cs' = some y:=by
   intro i y hy
   have hi : i < len:=by rw [<- h3]; exact (List.getElem?_eq_some_iff.1 hy).1
   have h5:=h4 i hi
   rw [hy,hc,Option.bind_eq_some_iff] at h5
   exact h5
  by_cases h0 : 0 < len
  ·obtain ⟨cs0,hc0,_⟩:=hel 0 _ (List.getElem?_eq_getElem (by omega))
   rw [Nat.zero_mul] at hc0
   rw [show a.add 0 = a by simp [Addr.add]] at hc0
   obtain ⟨b,o,rfl,hb,_,_⟩:=cells_at hk hc0
   obtain ⟨l,l1,l2,l3⟩:=row_open k (Q b) sz elems o (fun i y hy=>by
    obtain ⟨cs',g1,g2⟩:=hel i y hy
    obtain ⟨b',o',e1,hb',_,g3⟩:=cells_at hk g1
    have e2 : (Addr.add ⟨b,o,none⟩ (i * k)) = ⟨b,o + i * k,none⟩:=by
     unfold Addr.add
     split
     ·next h=>rw [h]; rfl
     ·rfl
    rw [e2] at e1
    cases e1
    exact hE n' (by omega) cs' y g2 b _ hb' g3)
   refine ⟨_,l,rfl,⟨some ⟨b,o,none⟩,cap,by rw [l1,h3],by omega,h2,fun _=>⟨b,o,rfl,l2⟩⟩,?_⟩
   simp only [Rows.uptoBulk]; omega
  ·have e0 : len = 0:=by omega
   subst e0
   refine ⟨_,[],rfl,⟨some a,cap,rfl,Nat.zero_le _,h2,fun h=>absurd h (by simp)⟩,?_⟩
   simp only [Rows.uptoBulk,sumOf]; omega
def QEL (W : World) (b : Nat) : EL -> Nat -> Prop
 | .mk t p,o=>b < W.heap.size /\ W.cell? ⟨b,o,none⟩ = some (.string t) /\ ∃ u,W.cell? ⟨b,o + 1,none⟩ = some u /\ OAt W p u
theorem es_of {W : World} {b : Nat} : ∀ (l : List EL) (o : Nat),(∀ i e,l[i]? = some e -> QEL W b e (o + i * 2)) -> EsAt W l b o
 | [],o,h=>by rw [EsAt]; trivial
 | .mk t p :: r,o,h=>by
  rw [EsAt]
  obtain ⟨h0,h1,h2⟩:=h 0 _ rfl
  rw [Nat.zero_mul,Nat.add_zero] at h1 h2
  exact ⟨h0,h1,h2,es_of r (o + 2) (fun i e he=>by have:=h (i + 1) e (by simpa using he); rw [Nat.add_mul,Nat.one_mul,Nat.add_comm (i * 2) 2,<- Nat.add_assoc] at this; exact this)⟩
def QAR (W : World) (b : Nat) : AR -> Nat -> Prop
 | .mk n e,o=>b < W.heap.size /\ W.cell? ⟨b,o,none⟩ = some (.string n) /\ ∃ c,CellsAt W b (o + 1) c /\ ExAt W e c
theorem as_of {W : World} {b : Nat} : ∀ (l : List AR) (o : Nat),(∀ i e,l[i]? = some e -> QAR W b e (o + i * 8)) -> AsAt W l b o
 | [],o,h=>by rw [AsAt]; trivial
 | .mk t p :: r,o,h=>by
  rw [AsAt]
  obtain ⟨h0,h1,h2⟩:=h 0 _ rfl
  rw [Nat.zero_mul,Nat.add_zero] at h1 h2
  exact ⟨h0,h1,h2,as_of r (o + 8) (fun i e he=>by have:=h (i + 1) e (by simpa using he); rw [Nat.add_mul,Nat.one_mul,Nat.add_comm (i * 8) 8,<- Nat.add_assoc] at this; exact this)⟩
def QVA (W : World) (b : Nat) : VA -> Nat -> Prop
 | .mk n d v,o=>b < W.heap.size /\ W.cell? ⟨b,o,none⟩ = some (.string n) /\ W.cell? ⟨b,o + 1,none⟩ = some (.bool d) /\ ∃ u,W.cell? ⟨b,o + 2,none⟩ = some u /\ LieAt (EsAt W v) u v.length
theorem vs_of {W : World} {b : Nat} : ∀ (l : List VA) (o : Nat),(∀ i e,l[i]? = some e -> QVA W b e (o + i * 3)) -> VsAt W l b o
 | [],o,h=>by rw [VsAt]; trivial
 | .mk t d p :: r,o,h=>by
  rw [VsAt]
  obtain ⟨h0,h1,h3,h2⟩:=h 0 _ rfl
  rw [Nat.zero_mul,Nat.add_zero] at h1 h2 h3
  exact ⟨h0,h1,h3,h2,vs_of r (o + 3) (fun i e he=>by have:=h (i + 1) e (by simpa using he); rw [Nat.add_mul,Nat.one_mul,Nat.add_comm (i * 3) 3,<- Nat.add_assoc] at this; exact this)⟩
def QAT (W : World) (b : Nat) : AT -> Nat -> Prop
 | .mk n v,o=>b < W.heap.size /\ W.cell? ⟨b,o,none⟩ = some (.string n) /\ ∃ u,W.cell? ⟨b,o + 1,none⟩ = some u /\ PatAt W v u
theorem ts_of {W : World} {b : Nat} : ∀ (l : List AT) (o : Nat),(∀ i e,l[i]? = some e -> QAT W b e (o + i * 2)) -> TsAt W l b o
 | [],o,h=>by rw [TsAt]; trivial
 | .mk t p :: r,o,h=>by
  rw [TsAt]
  obtain ⟨h0,h1,h2⟩:=h 0 _ rfl
  rw [Nat.zero_mul,Nat.add_zero] at h1 h2
  exact ⟨h0,h1,h2,ts_of r (o + 2) (fun i e he=>by have:=h (i + 1) e (by simpa using he); rw [Nat.add_mul,Nat.one_mul,Nat.add_comm (i * 2) 2,<- Nat.add_assoc] at this; exact this)⟩
def szEL : EL -> Nat | .mk t p=>1 + t.size + sizeO p
def szAR : AR -> Nat | .mk n v=>n.size + v.size
def szVA : VA -> Nat | .mk k _ v=>1 + k.size + sizeEs v
def szAT : AT -> Nat | .mk n v=>1 + n.size + sizeEs v
theorem sumEL : ∀ l,sumOf szEL l = sizeEs l
 | []=>by rw [sumOf,sizeEs]
 | .mk t p :: r=>by rw [sumOf,sizeEs,sumEL r,szEL]
theorem sumAR : ∀ l,sumOf szAR l = sizeAs l
 | []=>by rw [sumOf,sizeAs]
 | .mk t p :: r=>by rw [sumOf,sizeAs,sumAR r,szAR]
theorem sumVA : ∀ l,sumOf szVA l = sizeVs l
 | []=>by rw [sumOf,sizeVs]
 | .mk t d p :: r=>by rw [sumOf,sizeVs,sumVA r,szVA]
theorem sumAT : ∀ l,sumOf szAT l = sizeTs l
 | []=>by rw [sumOf,sizeTs]
 | .mk t p :: r=>by rw [sumOf,sizeTs,sumAT r,szAT]
def OpenE (enc : TypeId × Value -> H) (W : World) (sp : Nat -> Bool) (held : Bool) (n : Nat) : Prop:=∀ cs x,DataW.trod enc Tryz.prog W 0 sp held n 48 cs = some x ->
 ∃ e c,cs = [c.k,c.t,c.n,c.a,c.al,c.i,c.vs] /\ ExAt W e c /\ e.size <= Rows.uptoBulk x.1
theorem c_kind : Tryz.prog.cellsOf 44 = 1:=by kernel_rfl
theorem c_str : Tryz.prog.cellsOf 9 = 1:=by kernel_rfl
theorem c_args : Tryz.prog.cellsOf 45 = 1:=by kernel_rfl
theorem c_ptr : Tryz.prog.cellsOf 43 = 1:=by kernel_rfl
theorem c_vars : Tryz.prog.cellsOf 46 = 1:=by kernel_rfl
theorem c_els : Tryz.prog.cellsOf 31 = 1:=by kernel_rfl
theorem c_boo : Tryz.prog.cellsOf 4 = 1:=by kernel_rfl
theorem c_attrs : Tryz.prog.cellsOf 32 = 1:=by kernel_rfl
theorem c_typ : Tryz.prog.cellsOf 30 = 1:=by kernel_rfl
theorem c_int : Tryz.prog.cellsOf 3 = 1:=by kernel_rfl
theorem many_cells : Tryz.prog.cellsOf 48 = 7 /\ Tryz.prog.cellsOf 127 = 8 /\ Tryz.prog.cellsOf 129 = 3 /\ Tryz.prog.cellsOf 50 = 2 /\ Tryz.prog.cellsOf 64 = 2 /\ Tryz.prog.cellsOf 34 = 8:=by
 refine ⟨?_,?_,?_,?_,?_,?_⟩ <;> kernel_rfl
set_option maxRecDepth 100000 in
theorem open_ptr {n : Nat} (ih : ∀ m,m < n -> OpenE enc W sp held m) {cs : List Value} {x : DataW H × List MemPlace} (h : DataW.trod enc Tryz.prog W 0 sp held n 43 cs = some x) :
  ∃ v p,cs = [v] /\ OAt W p v /\ sizeO p + 1 <= Rows.uptoBulk x.1:=by
 rcases DataW.trod_pointer Tryz.underlying43 h with ⟨rfl,rfl⟩ | ⟨a,cs',y,n',hn,rfl,rfl,hc,hy⟩
 ·exact ⟨_,none,rfl,by simp only [OAt],by simp [sizeO,Rows.uptoBulk]⟩
 ·rw [many_cells.1] at hc
  obtain ⟨b,o,rfl,hb,_,hcell⟩:=cells_at (by decide) hc
  obtain ⟨e,c,rfl,hex,hs⟩:=ih n' (by omega) cs' y hy
  refine ⟨_,some e,rfl,?_,?_⟩
  ·simp only [OAt]
   refine ⟨b,o,c,rfl,hb,?_,hex⟩
   refine ⟨?_,?_,?_,?_,?_,?_,?_⟩
   ·exact (hcell 0 (by decide)).trans rfl
   ·exact (hcell 1 (by decide)).trans rfl
   ·exact (hcell 2 (by decide)).trans rfl
   ·exact (hcell 3 (by decide)).trans rfl
   ·exact (hcell 4 (by decide)).trans rfl
   ·exact (hcell 5 (by decide)).trans rfl
   ·exact (hcell 6 (by decide)).trans rfl
  ·have : sizeO (some e) = e.size:=by rw [sizeO]
   simp only [Rows.uptoBulk]; omega
theorem open_el {n : Nat} (ih : ∀ m,m < n -> OpenE enc W sp held m) {cs : List Value} {x : DataW H × List MemPlace} (h : DataW.trod enc Tryz.prog W 0 sp held n 50 cs = some x) :
  ∀ b o,b < W.heap.size -> (∀ i,i < 2 -> W.cell? ⟨b,o + i,none⟩ = cs[i]?) -> ∃ e,QEL W b e o /\ szEL e <= Rows.uptoBulk x.1:=by
 intro b o hb hcell
 obtain ⟨xs,n',rfl,rfl,hl,hx,hf⟩:=DataW.trod_struct Tryz.underlying50 h
 rw [many_cells.2.2.2.1] at hl
 obtain ⟨c0,c1,rfl⟩:=list2 hl
 obtain ⟨x0,x1,rfl⟩:=list2 hx
 have f0 : DataW.trod enc Tryz.prog W 0 sp held n' 9 [c0] = some x0:=by
  have:=hf 0 _ rfl
  change DataW.trod enc Tryz.prog W 0 sp held n' 9 ((List.drop 0 [c0,c1]).take (Tryz.prog.cellsOf 9)) = some x0 at this
  rw [c_str] at this
  exact this
 have f1 : DataW.trod enc Tryz.prog W 0 sp held n' 43 [c1] = some x1:=by
  have:=hf 1 _ rfl
  change DataW.trod enc Tryz.prog W 0 sp held n' 43 ((List.drop 1 [c0,c1]).take (Tryz.prog.cellsOf 43)) = some x1 at this
  rw [c_ptr] at this
  exact this
 obtain ⟨s,e0,rfl,_⟩:=DataW.trod_string Tryz.underlying9 f0
 obtain ⟨v,p,e1,hp,hs⟩:=open_ptr (fun m hm=>ih m (by omega)) f1
 cases e0
 cases e1
 refine ⟨.mk s p,⟨hb,by simpa using hcell 0 (by decide),_,hcell 1 (by decide),hp⟩,?_⟩
 simp only [szEL,List.map_cons,List.map_nil,Rows.uptoBulk,Rows.uptoBulkAll]
 simp
 omega
theorem open_pat {n : Nat} (ih : ∀ m,m < n -> OpenE enc W sp held m) {cs : List Value} {x : DataW H × List MemPlace} (h : DataW.trod enc Tryz.prog W 0 sp held n 31 cs = some x) :
  ∃ v l,cs = [v] /\ PatAt W l v /\ sizeEs l + 1 <= Rows.uptoBulk x.1:=by
 obtain ⟨v,l,e,hl,hs⟩:=slice_open (k:=2) (by decide) Tryz.underlying31 many_cells.2.2.2.1 (QEL W) szEL (fun m hm cs y hy b o hb hc=>open_el (fun m' hm'=>ih m' (by omega)) hy b o hb hc) h
 exact ⟨v,l,e,hl.imp' (fun b o hq=>es_of l o hq),by rw [<- sumEL]; exact hs⟩
theorem open_va {n : Nat} (ih : ∀ m,m < n -> OpenE enc W sp held m) {cs : List Value} {x : DataW H × List MemPlace} (h : DataW.trod enc Tryz.prog W 0 sp held n 129 cs = some x) :
  ∀ b o,b < W.heap.size -> (∀ i,i < 3 -> W.cell? ⟨b,o + i,none⟩ = cs[i]?) -> ∃ e,QVA W b e o /\ szVA e <= Rows.uptoBulk x.1:=by
 intro b o hb hcell
 obtain ⟨xs,n',rfl,rfl,hl,hx,hf⟩:=DataW.trod_struct Tryz.underlying129 h
 rw [many_cells.2.2.1] at hl
 obtain ⟨c0,c1,c2,rfl⟩:=list3 hl
 obtain ⟨x0,x1,x2,rfl⟩:=list3 hx
 have f0 : DataW.trod enc Tryz.prog W 0 sp held n' 9 [c0] = some x0:=by
  have:=hf 0 _ rfl
  change DataW.trod enc Tryz.prog W 0 sp held n' 9 ((List.drop 0 [c0,c1,c2]).take (Tryz.prog.cellsOf 9)) = some x0 at this
  rw [c_str] at this
  exact this
 have f1 : DataW.trod enc Tryz.prog W 0 sp held n' 4 [c1] = some x1:=by
  have:=hf 1 _ rfl
  change DataW.trod enc Tryz.prog W 0 sp held n' 4 ((List.drop 1 [c0,c1,c2]).take (Tryz.prog.cellsOf 4)) = some x1 at this
  rw [c_boo] at this
  exact this
 have f2 : DataW.trod enc Tryz.prog W 0 sp held n' 31 [c2] = some x2:=by
  have:=hf 2 _ rfl
  change DataW.trod enc Tryz.prog W 0 sp held n' 31 ((List.drop 2 [c0,c1,c2]).take (Tryz.prog.cellsOf 31)) = some x2 at this
  rw [c_els] at this
  exact this
 obtain ⟨s,e0,rfl,_⟩:=DataW.trod_string Tryz.underlying9 f0
 obtain ⟨d,e2,rfl⟩:=DataW.trod_bool Tryz.underlying4 f1
 obtain ⟨v,l,e1,hp,hs⟩:=open_pat (fun m hm=>ih m (by omega)) f2
 cases e0
 cases e1
 cases e2
 refine ⟨.mk s d l,⟨hb,by simpa using hcell 0 (by decide),hcell 1 (by decide),_,hcell 2 (by decide),hp⟩,?_⟩
 simp only [szVA,List.map_cons,List.map_nil,Rows.uptoBulk,Rows.uptoBulkAll]
 simp
 omega
theorem open_ar {n : Nat} (ih : ∀ m,m < n -> OpenE enc W sp held m) {cs : List Value} {x : DataW H × List MemPlace} (h : DataW.trod enc Tryz.prog W 0 sp held n 127 cs = some x) :
  ∀ b o,b < W.heap.size -> (∀ i,i < 8 -> W.cell? ⟨b,o + i,none⟩ = cs[i]?) -> ∃ e,QAR W b e o /\ szAR e <= Rows.uptoBulk x.1:=by
 intro b o hb hcell
 obtain ⟨xs,n',rfl,rfl,hl,hx,hf⟩:=DataW.trod_struct Tryz.underlying127 h
 rw [many_cells.2.1] at hl
 obtain ⟨c0,c1,c2,c3,c4,c5,c6,c7,rfl⟩:=list8 hl
 obtain ⟨x0,x1,rfl⟩:=list2 hx
 have f0 : DataW.trod enc Tryz.prog W 0 sp held n' 9 [c0] = some x0:=by
  have:=hf 0 _ rfl
  change DataW.trod enc Tryz.prog W 0 sp held n' 9 ((List.drop 0 [c0,c1,c2,c3,c4,c5,c6,c7]).take (Tryz.prog.cellsOf 9)) = some x0 at this
  rw [c_str] at this
  exact this
 have f1 : DataW.trod enc Tryz.prog W 0 sp held n' 48 [c1,c2,c3,c4,c5,c6,c7] = some x1:=by
  have:=hf 1 _ rfl
  change DataW.trod enc Tryz.prog W 0 sp held n' 48 ((List.drop 1 [c0,c1,c2,c3,c4,c5,c6,c7]).take (Tryz.prog.cellsOf 48)) = some x1 at this
  rw [many_cells.1] at this
  exact this
 obtain ⟨s,e0,rfl,_⟩:=DataW.trod_string Tryz.underlying9 f0
 obtain ⟨e,c,e1,hp,hs⟩:=ih n' (by omega) _ _ f1
 cases e0
 cases e1
 refine ⟨.mk s e,⟨hb,by simpa using hcell 0 (by decide),c,⟨hcell 1 (by decide),hcell 2 (by decide),hcell 3 (by decide),hcell 4 (by decide),hcell 5 (by decide),hcell 6 (by decide),hcell 7 (by decide)⟩,hp⟩,?_⟩
 simp only [szAR,List.map_cons,List.map_nil,Rows.uptoBulk,Rows.uptoBulkAll]
 simp
 omega
theorem open_ex {n : Nat} (ih : ∀ m,m < n -> OpenE enc W sp held m) : OpenE enc W sp held n:=by
 intro cs x h
 obtain ⟨xs,n',rfl,rfl,hl,hx,hf⟩:=DataW.trod_struct Tryz.underlying48 h
 rw [many_cells.1] at hl
 obtain ⟨c0,c1,c2,c3,c4,c5,c6,rfl⟩:=list7 hl
 obtain ⟨x0,x1,x2,x3,x4,x5,x6,rfl⟩:=list7 hx
 have f0 : DataW.trod enc Tryz.prog W 0 sp held n' 44 [c0] = some x0:=by
  have:=hf 0 _ rfl
  change DataW.trod enc Tryz.prog W 0 sp held n' 44 ((List.drop 0 [c0,c1,c2,c3,c4,c5,c6]).take (Tryz.prog.cellsOf 44)) = some x0 at this
  rw [c_kind] at this
  exact this
 have f1 : DataW.trod enc Tryz.prog W 0 sp held n' 9 [c1] = some x1:=by
  have:=hf 1 _ rfl
  change DataW.trod enc Tryz.prog W 0 sp held n' 9 ((List.drop 1 [c0,c1,c2,c3,c4,c5,c6]).take (Tryz.prog.cellsOf 9)) = some x1 at this
  rw [c_str] at this
  exact this
 have f2 : DataW.trod enc Tryz.prog W 0 sp held n' 9 [c2] = some x2:=by
  have:=hf 2 _ rfl
  change DataW.trod enc Tryz.prog W 0 sp held n' 9 ((List.drop 2 [c0,c1,c2,c3,c4,c5,c6]).take (Tryz.prog.cellsOf 9)) = some x2 at this
  rw [c_str] at this
  exact this
 have f3 : DataW.trod enc Tryz.prog W 0 sp held n' 9 [c3] = some x3:=by
  have:=hf 3 _ rfl
  change DataW.trod enc Tryz.prog W 0 sp held n' 9 ((List.drop 3 [c0,c1,c2,c3,c4,c5,c6]).take (Tryz.prog.cellsOf 9)) = some x3 at this
  rw [c_str] at this
  exact this
 have f4 : DataW.trod enc Tryz.prog W 0 sp held n' 45 [c4] = some x4:=by
  have:=hf 4 _ rfl
  change DataW.trod enc Tryz.prog W 0 sp held n' 45 ((List.drop 4 [c0,c1,c2,c3,c4,c5,c6]).take (Tryz.prog.cellsOf 45)) = some x4 at this
  rw [c_args] at this
  exact this
 have f5 : DataW.trod enc Tryz.prog W 0 sp held n' 43 [c5] = some x5:=by
  have:=hf 5 _ rfl
  change DataW.trod enc Tryz.prog W 0 sp held n' 43 ((List.drop 5 [c0,c1,c2,c3,c4,c5,c6]).take (Tryz.prog.cellsOf 43)) = some x5 at this
  rw [c_ptr] at this
  exact this
 have f6 : DataW.trod enc Tryz.prog W 0 sp held n' 46 [c6] = some x6:=by
  have:=hf 6 _ rfl
  change DataW.trod enc Tryz.prog W 0 sp held n' 46 ((List.drop 6 [c0,c1,c2,c3,c4,c5,c6]).take (Tryz.prog.cellsOf 46)) = some x6 at this
  rw [c_vars] at this
  exact this
 obtain ⟨k,e0,rfl,_⟩:=DataW.trod_int Tryz.underlying44 f0
 obtain ⟨t,e1,rfl,_⟩:=DataW.trod_string Tryz.underlying9 f1
 obtain ⟨nm,e2,rfl,_⟩:=DataW.trod_string Tryz.underlying9 f2
 obtain ⟨a,e3,rfl,_⟩:=DataW.trod_string Tryz.underlying9 f3
 obtain ⟨v4,al,e4,hal,hs4⟩:=slice_open (k:=8) (by decide) Tryz.underlying45 many_cells.2.1 (QAR W) szAR (fun m hm cs y hy b o hb hc=>open_ar (fun m' hm'=>ih m' (by omega)) hy b o hb hc) f4
 obtain ⟨v5,p,e5,hp,hs5⟩:=open_ptr (fun m hm=>ih m (by omega)) f5
 obtain ⟨v6,vs,e6,hvs,hs6⟩:=slice_open (k:=3) (by decide) Tryz.underlying46 many_cells.2.2.1 (QVA W) szVA (fun m hm cs y hy b o hb hc=>open_va (fun m' hm'=>ih m' (by omega)) hy b o hb hc) f6
 cases e0
 cases e1
 cases e2
 cases e3
 cases e4
 cases e5
 cases e6
 refine ⟨.mk k t nm a al p vs,⟨_,_,_,_,_,_,_⟩,rfl,?_,?_⟩
 ·rw [ExAt]
  exact ⟨rfl,rfl,rfl,rfl,hal.imp' (fun b o hq=>as_of al o hq),hp,hvs.imp' (fun b o hq=>vs_of vs o hq)⟩
 ·rw [EX.size]
  rw [sumAR] at hs4
  rw [sumVA] at hs6
  simp only [List.map_cons,List.map_nil,Rows.uptoBulk,Rows.uptoBulkAll]
  simp
  omega
theorem open_all : ∀ n,OpenE enc W sp held n:=by
 intro n
 induction n using Nat.strongRecOn with
 | _ n ih=>exact open_ex ih
theorem open_at {n : Nat} {cs : List Value} {x : DataW H × List MemPlace} (h : DataW.trod enc Tryz.prog W 0 sp held n 64 cs = some x) :
  ∀ b o,b < W.heap.size -> (∀ i,i < 2 -> W.cell? ⟨b,o + i,none⟩ = cs[i]?) -> ∃ e,QAT W b e o /\ szAT e <= Rows.uptoBulk x.1:=by
 intro b o hb hcell
 obtain ⟨xs,n',rfl,rfl,hl,hx,hf⟩:=DataW.trod_struct Tryz.underlying64 h
 rw [many_cells.2.2.2.2.1] at hl
 obtain ⟨c0,c1,rfl⟩:=list2 hl
 obtain ⟨x0,x1,rfl⟩:=list2 hx
 have f0 : DataW.trod enc Tryz.prog W 0 sp held n' 9 [c0] = some x0:=by
  have:=hf 0 _ rfl
  change DataW.trod enc Tryz.prog W 0 sp held n' 9 ((List.drop 0 [c0,c1]).take (Tryz.prog.cellsOf 9)) = some x0 at this
  rw [c_str] at this
  exact this
 have f1 : DataW.trod enc Tryz.prog W 0 sp held n' 31 [c1] = some x1:=by
  have:=hf 1 _ rfl
  change DataW.trod enc Tryz.prog W 0 sp held n' 31 ((List.drop 1 [c0,c1]).take (Tryz.prog.cellsOf 31)) = some x1 at this
  rw [c_els] at this
  exact this
 obtain ⟨s,e0,rfl,_⟩:=DataW.trod_string Tryz.underlying9 f0
 obtain ⟨v,l,e1,hp,hs⟩:=open_pat (fun m _=>open_all m) f1
 cases e0
 cases e1
 refine ⟨.mk s l,⟨hb,by simpa using hcell 0 (by decide),_,hcell 1 (by decide),hp⟩,?_⟩
 simp only [szAT,List.map_cons,List.map_nil,Rows.uptoBulk,Rows.uptoBulkAll]
 simp
 omega
theorem open_entry {n : Nat} {cs : List Value} {x : DataW H × List MemPlace} (h : DataW.trod enc Tryz.prog W 0 sp held n 34 cs = some x) :
  ∃ (ty level : Int) (text name : ByteArray) (val : List EL) (ats : List AT) (v u : Value) (fr tu : Int),cs = [.int .i64 ty,.int .i64 level,.string text,.string name,v,u,.int .i64 fr,.int .i64 tu] /\ PatAt W val v /\ LieAt (TsAt W ats) u ats.length /\
   text.size + name.size + sizeEs val + sizeTs ats <= Rows.uptoBulk x.1:=by
 obtain ⟨xs,n',rfl,rfl,hl,hx,hf⟩:=DataW.trod_struct Tryz.underlying34 h
 rw [many_cells.2.2.2.2.2] at hl
 obtain ⟨c0,c1,c2,c3,c4,c5,c6,c7,rfl⟩:=list8 hl
 obtain ⟨x0,x1,x2,x3,x4,x5,x6,x7,rfl⟩:=list8 hx
 have f0 : DataW.trod enc Tryz.prog W 0 sp held n' 30 [c0] = some x0:=by
  have:=hf 0 _ rfl
  change DataW.trod enc Tryz.prog W 0 sp held n' 30 ((List.drop 0 [c0,c1,c2,c3,c4,c5,c6,c7]).take (Tryz.prog.cellsOf 30)) = some x0 at this
  rw [c_typ] at this
  exact this
 have f1 : DataW.trod enc Tryz.prog W 0 sp held n' 3 [c1] = some x1:=by
  have:=hf 1 _ rfl
  change DataW.trod enc Tryz.prog W 0 sp held n' 3 ((List.drop 1 [c0,c1,c2,c3,c4,c5,c6,c7]).take (Tryz.prog.cellsOf 3)) = some x1 at this
  rw [c_int] at this
  exact this
 have f2 : DataW.trod enc Tryz.prog W 0 sp held n' 9 [c2] = some x2:=by
  have:=hf 2 _ rfl
  change DataW.trod enc Tryz.prog W 0 sp held n' 9 ((List.drop 2 [c0,c1,c2,c3,c4,c5,c6,c7]).take (Tryz.prog.cellsOf 9)) = some x2 at this
  rw [c_str] at this
  exact this
 have f3 : DataW.trod enc Tryz.prog W 0 sp held n' 9 [c3] = some x3:=by
  have:=hf 3 _ rfl
  change DataW.trod enc Tryz.prog W 0 sp held n' 9 ((List.drop 3 [c0,c1,c2,c3,c4,c5,c6,c7]).take (Tryz.prog.cellsOf 9)) = some x3 at this
  rw [c_str] at this
  exact this
 have f4 : DataW.trod enc Tryz.prog W 0 sp held n' 31 [c4] = some x4:=by
  have:=hf 4 _ rfl
  change DataW.trod enc Tryz.prog W 0 sp held n' 31 ((List.drop 4 [c0,c1,c2,c3,c4,c5,c6,c7]).take (Tryz.prog.cellsOf 31)) = some x4 at this
  rw [c_els] at this
  exact this
 have f5 : DataW.trod enc Tryz.prog W 0 sp held n' 32 [c5] = some x5:=by
  have:=hf 5 _ rfl
  change DataW.trod enc Tryz.prog W 0 sp held n' 32 ((List.drop 5 [c0,c1,c2,c3,c4,c5,c6,c7]).take (Tryz.prog.cellsOf 32)) = some x5 at this
  rw [c_attrs] at this
  exact this
 have f6 : DataW.trod enc Tryz.prog W 0 sp held n' 3 [c6] = some x6:=by
  have:=hf 6 _ rfl
  change DataW.trod enc Tryz.prog W 0 sp held n' 3 ((List.drop 6 [c0,c1,c2,c3,c4,c5,c6,c7]).take (Tryz.prog.cellsOf 3)) = some x6 at this
  rw [c_int] at this
  exact this
 have f7 : DataW.trod enc Tryz.prog W 0 sp held n' 3 [c7] = some x7:=by
  have:=hf 7 _ rfl
  change DataW.trod enc Tryz.prog W 0 sp held n' 3 ((List.drop 7 [c0,c1,c2,c3,c4,c5,c6,c7]).take (Tryz.prog.cellsOf 3)) = some x7 at this
  rw [c_int] at this
  exact this
 obtain ⟨ty,e0,rfl,_⟩:=DataW.trod_int Tryz.underlying30 f0
 obtain ⟨lv,e1,rfl,_⟩:=DataW.trod_int Tryz.underlying3 f1
 obtain ⟨t,e2,rfl,_⟩:=DataW.trod_string Tryz.underlying9 f2
 obtain ⟨nm,e3,rfl,_⟩:=DataW.trod_string Tryz.underlying9 f3
 obtain ⟨v4,val,e4,hv,hs4⟩:=open_pat (fun m _=>open_all m) f4
 obtain ⟨v5,ats,e5,hu,hs5⟩:=slice_open (k:=2) (by decide) Tryz.underlying32 many_cells.2.2.2.2.1 (QAT W) szAT (fun m hm cs y hy b o hb hc=>open_at hy b o hb hc) f5
 obtain ⟨fr,e6,rfl,_⟩:=DataW.trod_int Tryz.underlying3 f6
 obtain ⟨tu,e7,rfl,_⟩:=DataW.trod_int Tryz.underlying3 f7
 cases e0
 cases e1
 cases e2
 cases e3
 cases e4
 cases e5
 cases e6
 cases e7
 refine ⟨ty,lv,t,nm,val,ats,_,_,fr,tu,rfl,hv,hu.imp' (fun b o hq=>ts_of ats o hq),?_⟩
 rw [sumAT] at hs5
 simp only [List.map_cons,List.map_nil,Rows.uptoBulk,Rows.uptoBulkAll]
 simp
 omega
end
end Go.Proofs.YtgdkpamlkpncgaaGreatDoor
