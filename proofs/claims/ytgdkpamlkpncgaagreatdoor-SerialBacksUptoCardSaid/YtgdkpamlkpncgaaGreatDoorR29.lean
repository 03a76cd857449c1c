/-
  Several texts put together (part 29): what the law and the program call, walked; their contracts.
-/
import Derived.Test.YtgdkpamlkpncgaaGreatDoorR28
import Derived.Deep.RegionLaw
import Derived.Deep.RegionHeld3
import Derived.StillTailTactics
import Derived.BigRegion
import Derived.Lib.OwnKind
import Derived.WalkSpells
namespace Go.Proofs.YtgdkpamlkpncgaaGreatDoor
open Go.RowKit Go.Maps
open _root_.Go.Lib (hid)
set_option linter.unusedVariables false
set_option linter.unusedSimpArgs false
theorem infoA : (Tryz.prog.info? 127).map (fun i=>(i.zero,i.size,i.bytes)) = some (some (.agg #[.string ⟨#[]⟩,.int .i64 0,.string ⟨#[]⟩,.string ⟨#[]⟩,.string ⟨#[]⟩,.slice none 0 0,.pointer none,.slice none 0 0]),8,128):=by kernel_rfl
theorem infoC : (Tryz.prog.info? 369).map (fun i=>(i.zero,i.size,i.bytes)) = some (some (.agg #[.int .i64 0,.string ⟨#[]⟩,.string ⟨#[]⟩,.string ⟨#[]⟩,.slice none 0 0,.pointer none,.slice none 0 0,.map none,.bool false]),9,128):=by kernel_rfl
theorem step_append_own {P : Program} {ops : Array Oper} {o : Oper} {a : Act} {w : World} {K : Act -> World -> Prop} {Q : Exit -> Act -> World -> Prop} {E : Prop}
  (hg : o.guard = none) (s x : Operand) (t : TypeId) (hop : o.op = Op.call { callee:=Callee.builtin Builtin.append,args:=#[s,x],argTypes:=#[t,t] })
  (base : Nat) (e : TypeId) (i : TypeInfo) (z : Value) (size bytes : Nat) (h1 : P.underlying t = some (.slice e)) (h2 : P.info? e = some i) (h3 : i.zero = some z) (h4 : i.size = size) (h5 : i.bytes = bytes) (h6 : z.cells.size = size) (h7 : 0 < size)
  (v : Value) (n : Nat) (olds : List Value) (hs : a.eval s = v) (hown : w.ownsRow base e size v n olds)
  (ad : Addr) (m c : Nat) (news : List Value) (hx : a.eval x = .slice (some ad) m c) (hn : news.length = m * size) (hc : ∀ j u,news[j]? = some u -> w.cell? (ad.add j) = some u) (h1c : ∀ u ∈ news,u.oneCell' = true)
  (b1 : n + m <= maxLen) (b2 : (n + m) * bytes <= 140737488355328) (hB : base <= w.heap.size) (hm0 : 0 < m)
  (hK : ∀ v' w',w'.ownsRow base e size v' (n + m) (olds ++ news) -> w.grownBy w' v.ownBlock -> (v'.ownBlock = v.ownBlock ∨ v'.ownBlock = some w.heap.size) -> K (a.put o.dst v') w') :
  if Region.wanted o (yielded ops a.tmps) = true then Oper.wp P o a w K Q else E:=by
 have hw : Region.wanted o (yielded ops a.tmps) = true:=by simp [Region.wanted,hg]
 rw [if_pos hw]
 obtain ⟨v',w',hrun,r1,r2,r3⟩:=run_append_where (P:=P) w base t o.type e i z size bytes h1 h2 h3 h4 h5 h6 h7 v n olds hown ad m c news hn hc h1c b1 b2 hB hm0
 unfold Oper.wp
 simp [execOp,hop,resolve,invoke,builtin,hs,hx,hrun,Result.andThen]
 exact hK v' w' r1 r2 r3
theorem own_form {w : World} {B : Nat} {e : TypeId} {size : Nat} {v : Value} {n : Nat} {xs : List Value} (h : w.ownsRow B e size v n xs) : ∃ A c,v = .slice A n c:=by
 rcases h.2 with ⟨rfl,h0⟩ | ⟨g,cap,cur,rfl,_⟩
 ·exact ⟨none,0,by rw [h0]⟩
 ·exact ⟨_,_,rfl⟩
theorem new8 (w : World) (t : TypeId) {x0 x1 x2 x3 x4 x5 x6 x7 : Value} : ∀ j u,([x0,x1,x2,x3,x4,x5,x6,x7] : List Value)[j]? = some u -> (w.alloc (.cells #[x0,x1,x2,x3,x4,x5,x6,x7] t)).cell? ((⟨w.heap.size,0,none⟩ : Addr).add j) = some u:=by
 intro j u hj
 rw [Addr.add_mid,Nat.zero_add]
 have:=BoxAt.cell (BoxAt.new w #[x0,x1,x2,x3,x4,x5,x6,x7] t) j
 rw [this]
 simpa using hj
theorem row_at {w : World} {B : Nat} {e : TypeId} {g n cap : Nat} {ys new : List Value} (h : w.ownsRow B e 8 (.slice (some ⟨g,0,none⟩) (n + 1) cap) (n + 1) (ys ++ new)) (hl : ys.length = n * 8) (j : Nat) (x : Value) (hj : new[j]? = some x) : w.cell? ⟨g,n * 8 + j,none⟩ = some x:=by
 have hlt : j < new.length:=by
  by_cases h : j < new.length
  ·exact h
  ·rw [List.getElem?_eq_none (by omega)] at hj; cases hj
 have h1:=h.1
 rw [List.length_append,hl] at h1
 rw [h.cellAt (n * 8 + j) (by omega),List.getElem?_append_right (by omega),hl,Nat.add_sub_cancel_left]
 exact hj
theorem own_some {w : World} {B : Nat} {e : TypeId} {size : Nat} {v : Value} {n : Nat} {xs : List Value} (h : w.ownsRow B e size v (n + 1) xs) : ∃ g cap,v = .slice (some ⟨g,0,none⟩) (n + 1) cap:=by
 rcases h.2 with ⟨rfl,h0⟩ | ⟨g,cap,cur,rfl,_⟩
 ·omega
 ·exact ⟨_,_,rfl⟩
theorem row_at0 {w : World} {B : Nat} {e : TypeId} {g n cap : Nat} {ys new : List Value} (h : w.ownsRow B e 8 (.slice (some ⟨g,0,none⟩) (n + 1) cap) (n + 1) (ys ++ new)) (hl : ys.length = n * 8) (x : Value) (hj : new[0]? = some x) : w.cell? ⟨g,n * 8,none⟩ = some x:=row_at h hl 0 x hj
theorem own_ne {v : Value} {g gA n c sz : Nat} (h : (Value.slice (some ⟨gA,0,none⟩) n c).ownBlock = v.ownBlock ∨ (Value.slice (some ⟨gA,0,none⟩) n c).ownBlock = some sz) (hne : some g ≠ v.ownBlock) (hg : g < sz) : ¬ g = gA:=by
 intro e
 subst e
 rcases h with h | h
 ·exact hne h
 ·have:=Option.some.inj h
  simp at this
  omega
theorem own_ne' {v : Value} {g gA n c sz : Nat} (h : (Value.slice (some ⟨gA,0,none⟩) n c).ownBlock = v.ownBlock ∨ (Value.slice (some ⟨gA,0,none⟩) n c).ownBlock = some sz) (hne : some g ≠ v.ownBlock) (hg : g < sz) : ¬ gA = g:=fun e=>own_ne h hne hg e.symm
structure Added (B g o : Nat) (cs : Array Value) (al nv : Value) (n : Nat) (ys : List Value) (seen' : List ByteArray) (new : List Value) (w w' : World) : Prop where
 below : Below B w w'
 ex : ∃ al' nv',w'.heap[g]? = some (.cells (((cs.setIfInBounds (o + 7) nv').setIfInBounds (o + 4) al').setIfInBounds (o + 8) (.bool true)) 369 (0,0)) /\ w'.ownsRow B 127 8 al' (n + 1) (ys ++ new) /\ NmOk B w' nv' seen' (n + 1) /\
  (al'.ownBlock = al.ownBlock ∨ ∃ b,al'.ownBlock = some b /\ w.heap.size <= b) /\ (nv' = nv ∨ ∃ b,nv' = .map (some b) /\ w.heap.size <= b)
 kept : ∀ k,k < w.heap.size -> k ≠ g -> al.ownBlock ≠ some k -> nv ≠ .map (some k) -> w'.heap[k]? = w.heap[k]?
abbrev set8o (w : World) (b o : Nat) (x0 x1 x2 x3 x4 x5 x6 x7 : Value) : World :=
 (((((((w.setCell ⟨b,o,none⟩ x0).setCell ⟨b,o + 1,none⟩ x1).setCell ⟨b,o + 2,none⟩ x2).setCell ⟨b,o + 3,none⟩ x3).setCell ⟨b,o + 4,none⟩ x4).setCell ⟨b,o + 5,none⟩ x5).setCell ⟨b,o + 6,none⟩ x6).setCell ⟨b,o + 7,none⟩ x7
theorem set8o_heap (w : World) (b o : Nat) (x0 x1 x2 x3 x4 x5 x6 x7 : Value) (k : Nat) (hk : k ≠ b) : (set8o w b o x0 x1 x2 x3 x4 x5 x6 x7).heap[k]? = w.heap[k]?:=by
 unfold set8o
 iterate 8 rw [Below.heap_setCell _ _ _ k hk]
theorem below_set8o {B : Nat} {a w : World} (h : Below B a w) {b : Nat} (hb : B <= b) (o : Nat) (x0 x1 x2 x3 x4 x5 x6 x7 : Value) : Below B a (set8o w b o x0 x1 x2 x3 x4 x5 x6 x7) :=
 (((((((h.setCell (p:=⟨b,o,none⟩) hb x0).setCell (p:=⟨b,o + 1,none⟩) hb x1).setCell (p:=⟨b,o + 2,none⟩) hb x2).setCell (p:=⟨b,o + 3,none⟩) hb x3).setCell (p:=⟨b,o + 4,none⟩) hb x4).setCell (p:=⟨b,o + 5,none⟩) hb x5).setCell (p:=⟨b,o + 6,none⟩) hb x6).setCell (p:=⟨b,o + 7,none⟩) hb x7
theorem row_set8 {w : World} {B : Nat} {e : TypeId} {g n cap : Nat} {ys : List Value} {z0 z1 z2 z3 z4 z5 z6 z7 : Value} (h : w.ownsRow B e 8 (.slice (some ⟨g,0,none⟩) (n + 1) cap) (n + 1) (ys ++ [z0,z1,z2,z3,z4,z5,z6,z7])) (hl : ys.length = n * 8) (x0 x1 x2 x3 x4 x5 x6 x7 : Value) :
  (set8o w g (n * 8) x0 x1 x2 x3 x4 x5 x6 x7).ownsRow B e 8 (.slice (some ⟨g,0,none⟩) (n + 1) cap) (n + 1) (ys ++ [x0,x1,x2,x3,x4,x5,x6,x7]):=by
 have e : ∀ (zs : List Value) (j : Nat) (u : Value),(ys ++ zs).set (n * 8 + j) u = ys ++ zs.set j u:=fun zs j u=>by
  rw [List.set_append_right _ _ (by omega),hl,Nat.add_sub_cancel_left]
 have e0 : ∀ (zs : List Value) (u : Value),(ys ++ zs).set (n * 8) u = ys ++ zs.set 0 u:=fun zs u=>e zs 0 u
 have h0:=(h.stored (n * 8) x0).1
 rw [e0] at h0
 have h1:=(h0.stored (n * 8 + 1) x1).1
 rw [e] at h1
 have h2:=(h1.stored (n * 8 + 2) x2).1
 rw [e] at h2
 have h3:=(h2.stored (n * 8 + 3) x3).1
 rw [e] at h3
 have h4:=(h3.stored (n * 8 + 4) x4).1
 rw [e] at h4
 have h5:=(h4.stored (n * 8 + 5) x5).1
 rw [e] at h5
 have h6:=(h5.stored (n * 8 + 6) x6).1
 rw [e] at h6
 have h7:=(h6.stored (n * 8 + 7) x7).1
 rw [e] at h7
 exact h7
structure AddMid (B g o : Nat) (cs : Array Value) (al : Value) (n : Nat) (ys : List Value) (new : List Value) (w w' : World) : Prop where
 below : Below B w w'
 ex : ∃ al',w'.heap[g]? = some (.cells (cs.setIfInBounds (o + 4) al') 369 (0,0)) /\ w'.ownsRow B 127 8 al' (n + 1) (ys ++ new) /\ (al'.ownBlock = al.ownBlock ∨ ∃ b,al'.ownBlock = some b /\ w.heap.size <= b)
 kept : ∀ k,k < w.heap.size -> k ≠ g -> al.ownBlock ≠ some k -> w'.heap[k]? = w.heap[k]?
section
variable {B g o n gA cA : Nat} {cs : Array Value} {Al : Option Addr} {cl : Nat} {ys : List Value} {w1 X w' : World} {z0 z1 z2 z3 z4 z5 z6 z7 x0 x1 x2 x3 x4 x5 x6 x7 : Value}
theorem mid_pre (hB : B <= w1.heap.size) (hX : Below w1.heap.size w1 X) (hg : w1.heap[g]? = some (.cells cs 369 (0,0))) (hal : w1.ownsRow B 127 8 (.slice Al n cl) n ys) (hne : some g ≠ (Value.slice Al n cl).ownBlock)
  (hgrow : X.grownBy w' (Value.slice Al n cl).ownBlock) : Below B w1 w' /\ w'.heap[g]? = some (.cells cs 369 (0,0)) /\ ∀ k,k < w1.heap.size -> (Value.slice Al n cl).ownBlock ≠ some k -> w'.heap[k]? = w1.heap[k]?:=by
 have hk : ∀ k,k < w1.heap.size -> (Value.slice Al n cl).ownBlock ≠ some k -> w'.heap[k]? = w1.heap[k]?:=fun k hk hn=>(hgrow.block k (Nat.lt_of_lt_of_le hk hX.size) (fun e=>hn e.symm)).trans (hX.block k hk)
 have hgl:=(Array.getElem?_eq_some_iff.1 hg).1
 refine ⟨(hX.mono hB).grown hgrow (Nat.le_trans hB hX.size) (fun k e=>(hal.lt k e).1),?_,hk⟩
 rw [hk g hgl (fun e=>hne e.symm)]
 exact hg
theorem mid_a (hB : B <= w1.heap.size) (hX : Below w1.heap.size w1 X) (hXs : X.heap.size = w1.heap.size + 1) (hg : w1.heap[g]? = some (.cells cs 369 (0,0))) (hBg : B <= g) (hal : w1.ownsRow B 127 8 (.slice Al n cl) n ys) (hne : some g ≠ (Value.slice Al n cl).ownBlock)
  (hgrow : X.grownBy w' (Value.slice Al n cl).ownBlock) (hown : w'.ownsRow B 127 8 (.slice (some ⟨gA,0,none⟩) (n + 1) cA) (n + 1) (ys ++ [z0,z1,z2,z3,z4,z5,z6,z7]))
  (hwh : (Value.slice (some ⟨gA,0,none⟩) (n + 1) cA).ownBlock = (Value.slice Al n cl).ownBlock ∨ (Value.slice (some ⟨gA,0,none⟩) (n + 1) cA).ownBlock = some X.heap.size) (hga : ¬ g = gA) :
  AddMid B g o cs (.slice Al n cl) n ys [x0,x1,x2,x3,x4,x5,x6,x7] w1 ((set8o w' gA (n * 8) x0 x1 x2 x3 x4 x5 x6 x7).setCell ⟨g,o + 4,none⟩ (.slice (some ⟨gA,0,none⟩) (n + 1) cA)):=by
 obtain ⟨h1,h2,h3⟩:=mid_pre hB hX hg hal hne hgrow
 have hgB : B <= gA:=(hown.lt gA rfl).1
 refine ⟨(below_set8o h1 hgB _ _ _ _ _ _ _ _ _).setCell (p:=⟨g,o + 4,none⟩) hBg _,⟨.slice (some ⟨gA,0,none⟩) (n + 1) cA,?_,?_,hwh.imp id (fun h=>⟨_,h,hX.size⟩)⟩,fun k hk hkg hka=>?_⟩
 ·refine heap_setCell_same _ g (o + 4) cs _ _ ?_
  rw [set8o_heap _ _ _ _ _ _ _ _ _ _ _ g hga,h2]
 ·refine ownsRow_setCell_other (row_set8 hown hal.1 _ _ _ _ _ _ _ _) (a:=⟨g,o + 4,none⟩) (fun e=>hga (by simpa [Value.ownBlock] using e.symm)) _
 ·rw [Below.heap_setCell _ _ _ k hkg,set8o_heap _ _ _ _ _ _ _ _ _ _ _ k ?_]
  ·exact h3 k hk hka
  ·rintro rfl
   rcases hwh with h | h
   ·exact hka h.symm
   ·have:=Option.some.inj h; simp at this; omega
theorem mid_b (hB : B <= w1.heap.size) (hX : Below w1.heap.size w1 X) (hXs : X.heap.size = w1.heap.size + 1) (hg : w1.heap[g]? = some (.cells cs 369 (0,0))) (hBg : B <= g) (hal : w1.ownsRow B 127 8 (.slice Al n cl) n ys) (hne : some g ≠ (Value.slice Al n cl).ownBlock)
  (hgrow : X.grownBy w' (Value.slice Al n cl).ownBlock) (hown : w'.ownsRow B 127 8 (.slice (some ⟨gA,0,none⟩) (n + 1) cA) (n + 1) (ys ++ [z0,z1,z2,z3,z4,z5,z6,z7]))
  (hwh : (Value.slice (some ⟨gA,0,none⟩) (n + 1) cA).ownBlock = (Value.slice Al n cl).ownBlock ∨ (Value.slice (some ⟨gA,0,none⟩) (n + 1) cA).ownBlock = some X.heap.size) (hga : ¬ g = gA) :
  AddMid B g o cs (.slice Al n cl) n ys [x0,x1,x2,x3,x4,x5,x6,x7] w1 (set8o (w'.setCell ⟨g,o + 4,none⟩ (.slice (some ⟨gA,0,none⟩) (n + 1) cA)) gA (n * 8) x0 x1 x2 x3 x4 x5 x6 x7):=by
 obtain ⟨h1,h2,h3⟩:=mid_pre hB hX hg hal hne hgrow
 have hgB : B <= gA:=(hown.lt gA rfl).1
 refine ⟨below_set8o (h1.setCell (p:=⟨g,o + 4,none⟩) hBg _) hgB _ _ _ _ _ _ _ _ _,⟨.slice (some ⟨gA,0,none⟩) (n + 1) cA,?_,?_,hwh.imp id (fun h=>⟨_,h,hX.size⟩)⟩,fun k hk hkg hka=>?_⟩
 ·rw [set8o_heap _ _ _ _ _ _ _ _ _ _ _ g hga]
  exact heap_setCell_same _ g (o + 4) cs _ _ h2
 ·exact row_set8 (ownsRow_setCell_other hown (a:=⟨g,o + 4,none⟩) (fun e=>hga (by simpa [Value.ownBlock] using e.symm)) _) hal.1 _ _ _ _ _ _ _ _
 ·rw [set8o_heap _ _ _ _ _ _ _ _ _ _ _ k ?_,Below.heap_setCell _ _ _ k hkg]
  ·exact h3 k hk hka
  ·rintro rfl
   rcases hwh with h | h
   ·exact hka h.symm
   ·have:=Option.some.inj h; simp at this; omega
end
theorem NmOk.kept {B n : Nat} {W W' : World} {v : Value} {seen : List ByteArray} (h : NmOk B W v seen n) (g : ∀ b,v = .map (some b) -> W'.heap[b]? = W.heap[b]?) : NmOk B W' v seen n:=by
 rcases h with h | ⟨b,rfl,hb,h0,D,⟨es,clock,h1,h2⟩,h3⟩
 ·exact .inl h
 ·exact .inr ⟨b,rfl,hb,h0,D,⟨es,clock,(g b rfl).trans h1,h2⟩,h3⟩
theorem NmOk.map {B n : Nat} {W : World} {b : Nat} {seen : List ByteArray} (h : NmOk B W (.map (some b)) seen n) : ∃ es c,W.heap[b]? = some (.map es c):=by
 rcases h with ⟨h,_⟩ | ⟨b',h,hb,h0,D,⟨es,clock,h1,h2⟩,h3⟩
 ·cases h
 ·cases h; exact ⟨es,clock,h1⟩
theorem NmOk.mono {B n m : Nat} {W : World} {v : Value} {seen : List ByteArray} (h : NmOk B W v seen n) (hm : n <= m) : NmOk B W v seen m:=by
 rcases h with h | ⟨b,rfl,hb,h0,hN⟩
 ·exact .inl h
 ·exact .inr ⟨b,rfl,hb,h0,hN.mono hm⟩
theorem set_same {cs : Array Value} {i : Nat} {v : Value} (h : cs[i]? = some v) : cs.setIfInBounds i v = cs:=by
 apply Array.ext_getElem?
 intro j
 rw [Array.getElem?_setIfInBounds]
 split
 ·next e=>subst e; rw [h]; simp [(Array.getElem?_eq_some_iff.1 h).1]
 ·rfl
theorem own_cells {w : World} {B : Nat} {e : TypeId} {size : Nat} {v : Value} {n : Nat} {xs : List Value} (h : w.ownsRow B e size v n xs) {b : Nat} (hb : v.ownBlock = some b) : ∃ cs t fz,w.heap[b]? = some (.cells cs t fz):=by
 obtain ⟨c,fz,hh⟩:=Lib.ownsRow_kind h b hb
 exact ⟨_,_,_,hh⟩
theorem row_blocks {w w' : World} {B : Nat} {e : TypeId} {size : Nat} {v : Value} {n : Nat} {xs : List Value} (h : w.ownsRow B e size v n xs) (g : ∀ b,v.ownBlock = some b -> w'.heap[b]? = w.heap[b]?) : w'.ownsRow B e size v n xs:=by
 refine ⟨h.1,?_⟩
 rcases h.2 with h0 | ⟨gb,cap,cur,rfl,hb,hg,r⟩
 ·exact .inl h0
 ·exact .inr ⟨gb,cap,cur,rfl,hb,(g gb rfl).trans hg,r⟩
theorem BoxAt.kept_cell {w : World} {k : Nat} {cs : Array Value} {t : TypeId} (h : BoxAt w k cs t) {b : Nat} (hb : k ≠ b) (o : Nat) (v : Value) : BoxAt (w.setCell ⟨b,o,none⟩ v) k cs t:=(Below.heap_setCell _ _ _ k hb).trans h
theorem added_end {B g o n : Nat} {cs : Array Value} {al nv nv' : Value} {ys new : List Value} {seen : List ByteArray} {w w1 wc : World} (h1 : Below B w w1) (hk : ∀ k,k < w.heap.size -> k ≠ g -> nv ≠ .map (some k) -> w1.heap[k]? = w.heap[k]?)
  (hg : w1.heap[g]? = some (.cells (cs.setIfInBounds (o + 7) nv') 369 (0,0))) (hBg : B <= g) (hal : w1.ownsRow B 127 8 al n ys) (hnm : NmOk B w1 nv' seen (n + 1)) (hnv : nv' = nv ∨ ∃ b,nv' = .map (some b) /\ w.heap.size <= b)
  (hm : AddMid B g o (cs.setIfInBounds (o + 7) nv') al n ys new w1 wc) : Below B w (wc.setCell ⟨g,o + 8,none⟩ (.bool true)) /\ Added B g o cs al nv n ys seen new w (wc.setCell ⟨g,o + 8,none⟩ (.bool true)):=by
 obtain ⟨hm1,⟨al',hm2,hm3,hm4⟩,hm5⟩:=hm
 have hgl:=(Array.getElem?_eq_some_iff.1 hg).1
 have hb:=(h1.trans hm1).setCell (p:=⟨g,o + 8,none⟩) hBg (.bool true)
 have hgB : ∀ b,al'.ownBlock = some b -> b ≠ g:=fun b hab e=>by
  subst e
  obtain ⟨c,fz,hh⟩:=Lib.ownsRow_kind hm3 b hab
  rw [hm2] at hh
  simp at hh
 refine ⟨hb,hb,⟨al',nv',heap_setCell_same wc g (o + 8) _ _ _ hm2,ownsRow_setCell_other hm3 (a:=⟨g,o + 8,none⟩) (fun e=>hgB _ e rfl) _,hnm.kept fun b e=>?_,?_,hnv⟩,fun k hk1 hk2 hk3 hk4=>?_⟩
 ·subst e
  obtain ⟨es,c,hmap⟩:=hnm.map
  have hne : b ≠ g:=by rintro rfl; rw [hmap] at hg; cases hg
  rw [Below.heap_setCell _ _ _ b hne]
  refine hm5 b (Array.getElem?_eq_some_iff.1 hmap).1 hne fun e=>?_
  obtain ⟨c1,t1,fz,hh⟩:=own_cells hal e
  rw [hmap] at hh; cases hh
 ·rcases hm4 with h | ⟨b,h,hb⟩
  ·exact .inl h
  ·exact .inr ⟨b,h,Nat.le_trans h1.size hb⟩
 ·rw [Below.heap_setCell _ _ _ k hk2,hm5 k (Nat.lt_of_lt_of_le hk1 h1.size) hk2 hk3,hk k hk1 hk2 hk4]
def exArgs : EX -> List AR | .mk _ _ _ _ al _ _=>al
def FrAt (B : Nat) (W : World) (F : Nat -> Prop) (f : Fr) (c : C7) (nv : Value) (bs : List Nat) : Prop :=
 ExF W F f.e ⟨c.k,c.t,c.n,c.a,.slice none 0 0,c.i,c.vs⟩ /\ exArgs f.e = [] /\ (f.xs = [] -> c.al = .slice none 0 0) /\ OwnA B W F c.al f.xs /\ NmOk B W nv (seenOf f.xs) f.xs.length /\ bs = c.al.ownBlock.toList ++ (mapBlockOf nv).toList
def FrsZ (B : Nat) (W : World) (F : Nat -> Prop) : List Fr -> List Value -> List Nat -> Prop
 | [],xs,bs=>xs = [] /\ bs = []
 | f :: r,xs,bs=>∃ c nv ys b1 bs',xs = c.k :: c.t :: c.n :: c.a :: c.al :: c.i :: c.vs :: nv :: .bool f.want :: ys /\ bs = b1 ++ bs' /\ FrAt B W F f c nv b1 /\ FrsZ B W F r ys bs'
theorem OwnA.carry {B : Nat} {W W' : World} {F F' : Nat -> Prop} {v : Value} {acc : List AR} (h : OwnA B W F v acc) (hb : ∀ b,v.ownBlock = some b -> W'.heap[b]? = W.heap[b]?) (g : ∀ b,F b -> F' b /\ W'.heap[b]? = W.heap[b]?) : OwnA B W' F' v acc:=by
 obtain ⟨xs,h1,h2⟩:=h
 exact ⟨xs,row_blocks h1 hb,h2.carry g⟩
theorem FrAt.carry {B : Nat} {W W' : World} {F F' : Nat -> Prop} {f : Fr} {c : C7} {nv : Value} {bs : List Nat} (h : FrAt B W F f c nv bs) (hb : ∀ b ∈ bs,W'.heap[b]? = W.heap[b]?) (g : ∀ b,F b -> F' b /\ W'.heap[b]? = W.heap[b]?) : FrAt B W' F' f c nv bs:=by
 obtain ⟨h1,h2,h3,h4,h5,rfl⟩:=h
 refine ⟨ExF.carry g _ _ h1,h2,h3,h4.carry (fun b e=>hb b (by simp [e])) g,h5.kept (fun b e=>hb b (by subst e; simp [mapBlockOf])),rfl⟩
theorem FrsZ.carry {B : Nat} {W W' : World} {F F' : Nat -> Prop} (g : ∀ b,F b -> F' b /\ W'.heap[b]? = W.heap[b]?) : ∀ (fs : List Fr) (xs : List Value) (bs : List Nat),FrsZ B W F fs xs bs -> (∀ b ∈ bs,W'.heap[b]? = W.heap[b]?) -> FrsZ B W' F' fs xs bs
 | [],xs,bs,h,_=>by rw [FrsZ] at h ⊢; exact h
 | f :: r,xs,bs,h,hb=>by
  rw [FrsZ] at h
  obtain ⟨c,nv,ys,b1,bs',rfl,rfl,h1,h2⟩:=h
  rw [FrsZ]
  exact ⟨c,nv,ys,b1,bs',rfl,rfl,h1.carry (fun b e=>hb b (List.mem_append_left _ e)) g,FrsZ.carry g r ys bs' h2 (fun b e=>hb b (List.mem_append_right _ e))⟩
theorem FrsZ.length {B : Nat} {W : World} {F : Nat -> Prop} : ∀ (fs : List Fr) (xs : List Value) (bs : List Nat),FrsZ B W F fs xs bs -> xs.length = fs.length * 9
 | [],xs,bs,h=>by rw [FrsZ] at h; rw [h.1]; rfl
 | f :: r,xs,bs,h=>by
  rw [FrsZ] at h
  obtain ⟨c,nv,ys,b1,bs',rfl,rfl,h1,h2⟩:=h
  have:=FrsZ.length r ys bs' h2
  simp only [List.length_cons,this]
  omega
theorem FrsZ.split {B : Nat} {W : World} {F : Nat -> Prop} : ∀ (fs gs : List Fr) (xs : List Value) (bs : List Nat),FrsZ B W F (fs ++ gs) xs bs -> ∃ x1 x2 b1 b2,xs = x1 ++ x2 /\ bs = b1 ++ b2 /\ FrsZ B W F fs x1 b1 /\ FrsZ B W F gs x2 b2
 | [],gs,xs,bs,h=>⟨[],xs,[],bs,rfl,rfl,⟨rfl,rfl⟩,h⟩
 | f :: r,gs,xs,bs,h=>by
  rw [List.cons_append,FrsZ] at h
  obtain ⟨c,nv,ys,b1,bs',rfl,rfl,h1,h2⟩:=h
  obtain ⟨x1,x2,d1,d2,rfl,rfl,h3,h4⟩:=FrsZ.split r gs ys bs' h2
  refine ⟨c.k :: c.t :: c.n :: c.a :: c.al :: c.i :: c.vs :: nv :: .bool f.want :: x1,x2,b1 ++ d1,d2,by simp,by simp,?_,h4⟩
  rw [FrsZ]
  exact ⟨c,nv,x1,b1,d1,rfl,rfl,h1,h3⟩
theorem FrsZ.join {B : Nat} {W : World} {F : Nat -> Prop} {gs : List Fr} {x2 : List Value} {b2 : List Nat} (h2 : FrsZ B W F gs x2 b2) : ∀ (fs : List Fr) (x1 : List Value) (b1 : List Nat),FrsZ B W F fs x1 b1 -> FrsZ B W F (fs ++ gs) (x1 ++ x2) (b1 ++ b2)
 | [],x1,b1,h=>by rw [FrsZ] at h; obtain ⟨rfl,rfl⟩:=h; exact h2
 | f :: r,xs,bs,h=>by
  rw [FrsZ] at h
  obtain ⟨c,nv,ys,b1,bs',rfl,rfl,h1,h3⟩:=h
  rw [List.cons_append,FrsZ]
  exact ⟨c,nv,ys ++ x2,b1,bs' ++ b2,by simp,by simp,h1,FrsZ.join h2 r ys bs' h3⟩
def FS (B : Nat) (W : World) (g : Nat) (b1 b2 : List Nat) : Nat -> Prop:=fun b=>B <= b /\ b < W.heap.size /\ b ∉ g :: (b1 ++ b2)
structure StP (B : Nat) (W : World) (g cap : Nat) (cs : Array Value) (x1 ys : List Value) (c : C7) (nv : Value) (b1 b2 : List Nat) (fs : List Fr) (top : Fr) : Prop where
 hg : W.heap[g]? = some (.cells cs 369 (0,0))
 hB : B <= g
 hc1 : fs.length + 1 <= cap
 hc2 : cap <= maxLen
 hcs : cs.size = cap * 9
 hx : x1.length = fs.length * 9
 htk : cs.toList.take ((fs.length + 1) * 9) = x1 ++ [c.k,c.t,c.n,c.a,c.al,c.i,c.vs,nv,.bool top.want]
 low : FrsZ B W (FS B W g b1 b2) fs x1 b1
 hd : ExF W (FS B W g b1 b2) top.e ⟨c.k,c.t,c.n,c.a,.slice none 0 0,c.i,c.vs⟩
 ha : exArgs top.e = []
 h0 : top.xs = [] -> c.al = .slice none 0 0
 hal : W.ownsRow B 127 8 c.al top.xs.length ys
 hz : AZip W (FS B W g b1 b2) top.xs ys
 hnm : NmOk B W nv (seenOf top.xs) top.xs.length
 hb2 : b2 = c.al.ownBlock.toList ++ (mapBlockOf nv).toList
 nodup : (g :: (b1 ++ b2)).Nodup
 own : ∀ b ∈ b1 ++ b2,B <= b /\ b < W.heap.size
def StAt (B : Nat) (W : World) (v : Value) (fs : List Fr) (top : Fr) : Prop:=∃ g cap cs x1 ys c nv b1 b2,v = .slice (some ⟨g,0,none⟩) (fs.length + 1) cap /\ StP B W g cap cs x1 ys c nv b1 b2 fs top
section
variable {B g cap rb : Nat} {W W' : World} {cs : Array Value} {x1 ys : List Value} {c : C7} {nv v : Value} {b1 b2 : List Nat} {fs : List Fr} {top : Fr}
theorem StP.lt (h : StP B W g cap cs x1 ys c nv b1 b2 fs top) : g < W.heap.size:=(Array.getElem?_eq_some_iff.1 h.hg).1
theorem StP.al_mem (h : StP B W g cap cs x1 ys c nv b1 b2 fs top) {b : Nat} (e : c.al.ownBlock = some b) : b ∈ b2:=by rw [h.hb2,e]; simp
theorem StP.nm_mem (h : StP B W g cap cs x1 ys c nv b1 b2 fs top) {b : Nat} (e : nv = .map (some b)) : b ∈ b2:=by rw [h.hb2,e]; simp [mapBlockOf]
theorem StP.cell (h : StP B W g cap cs x1 ys c nv b1 b2 fs top) (j : Nat) (u : Value) (hj : [c.k,c.t,c.n,c.a,c.al,c.i,c.vs,nv,.bool top.want][j]? = some u) : cs[fs.length * 9 + j]? = some u:=by
 have hlt : j < 9:=by
  by_cases h : j < 9
  ·exact h
  ·rw [List.getElem?_eq_none (by simp; omega)] at hj; cases hj
 have e : (cs.toList.take ((fs.length + 1) * 9))[fs.length * 9 + j]? = some u:=by
  rw [h.htk,List.getElem?_append_right (by rw [h.hx]; omega),h.hx,Nat.add_sub_cancel_left]
  exact hj
 rw [List.getElem?_take,if_pos (by omega)] at e
 simpa using e
theorem StP.kept (h : StP B W g cap cs x1 ys c nv b1 b2 fs top) (hs : W.heap.size <= W'.heap.size) (hk : ∀ b,B <= b -> b < W.heap.size -> W'.heap[b]? = W.heap[b]?) : StP B W' g cap cs x1 ys c nv b1 b2 fs top:=by
 have g1 : ∀ b,FS B W g b1 b2 b -> FS B W' g b1 b2 b /\ W'.heap[b]? = W.heap[b]?:=fun b hb=>⟨⟨hb.1,Nat.lt_of_lt_of_le hb.2.1 hs,hb.2.2⟩,hk b hb.1 hb.2.1⟩
 have g2 : ∀ b ∈ b1 ++ b2,W'.heap[b]? = W.heap[b]?:=fun b hb=>hk b (h.own b hb).1 (h.own b hb).2
 exact { h with
  hg:=(hk g h.hB h.lt).trans h.hg
  low:=FrsZ.carry g1 _ _ _ h.low (fun b hb=>g2 b (List.mem_append_left _ hb))
  hd:=ExF.carry g1 _ _ h.hd
  hal:=row_blocks h.hal fun b e=>g2 b (List.mem_append_right _ (h.al_mem e))
  hz:=h.hz.carry g1
  hnm:=h.hnm.kept fun b e=>g2 b (List.mem_append_right _ (h.nm_mem e))
  own:=fun b hb=>⟨(h.own b hb).1,Nat.lt_of_lt_of_le (h.own b hb).2 hs⟩ }
theorem StAt.kp (h : StAt B W v fs top) (g : Kp rb W W') (hrb : rb < B) : StAt B W' v fs top:=by
 obtain ⟨g0,cap,cs,x1,ys,c,nv,b1,b2,e,h⟩:=h
 exact ⟨g0,cap,cs,x1,ys,c,nv,b1,b2,e,h.kept g.size (fun b h1 h2=>g.others b h2 (by omega))⟩
theorem StP.wantSet (h : StP B W g cap cs x1 ys c nv b1 b2 fs top) (q : Bool) : StP B (W.setCell ⟨g,fs.length * 9 + 8,none⟩ (.bool q)) g cap (cs.setIfInBounds (fs.length * 9 + 8) (.bool q)) x1 ys c nv b1 b2 fs ⟨top.e,top.xs,q⟩:=by
 have hk : ∀ b,b ≠ g -> (W.setCell ⟨g,fs.length * 9 + 8,none⟩ (.bool q)).heap[b]? = W.heap[b]?:=fun b hb=>Below.heap_setCell _ _ _ b hb
 have hs : (W.setCell ⟨g,fs.length * 9 + 8,none⟩ (.bool q)).heap.size = W.heap.size:=World.size_setCell _ _ _
 have hng : ∀ b ∈ b1 ++ b2,b ≠ g:=fun b hb e=>(List.nodup_cons.1 h.nodup).1 (e ▸ hb)
 have g1 : ∀ b,FS B W g b1 b2 b -> FS B (W.setCell ⟨g,fs.length * 9 + 8,none⟩ (.bool q)) g b1 b2 b /\ (W.setCell ⟨g,fs.length * 9 + 8,none⟩ (.bool q)).heap[b]? = W.heap[b]?:=fun b hb=>⟨⟨hb.1,by rw [hs]; exact hb.2.1,hb.2.2⟩,hk b (fun e=>hb.2.2 (by rw [e]; exact List.mem_cons_self))⟩
 exact { hB:=h.hB,hc1:=h.hc1,hc2:=h.hc2,hx:=h.hx,ha:=h.ha,hb2:=h.hb2,nodup:=h.nodup,h0:=h.h0
         hg:=heap_setCell_same W g _ cs _ _ h.hg
         hcs:=by rw [Array.size_setIfInBounds]; exact h.hcs
         htk:=by
          have e : cs.toList.take ((fs.length + 1) * 9) = x1 ++ [c.k,c.t,c.n,c.a,c.al,c.i,c.vs,nv,.bool top.want]:=h.htk
          rw [Array.toList_setIfInBounds,List.take_set,e,List.set_append_right _ _ (by rw [h.hx]; omega),h.hx,Nat.add_sub_cancel_left]
          rfl
         low:=FrsZ.carry g1 _ _ _ h.low (fun b hb=>hk b (hng b (List.mem_append_left _ hb)))
         hd:=ExF.carry g1 _ _ h.hd
         hal:=row_blocks h.hal fun b e=>hk b (hng b (List.mem_append_right _ (h.al_mem e)))
         hz:=h.hz.carry g1
         hnm:=h.hnm.kept fun b e=>hk b (hng b (List.mem_append_right _ (h.nm_mem e)))
         own:=fun b hb=>by rw [hs]; exact h.own b hb }
theorem StP.whole (h : StP B W g cap cs x1 ys c nv b1 b2 fs top) {F : Nat -> Prop} (hF : ∀ b,FS B W g b1 b2 b -> F b) (hal : ∀ b,c.al.ownBlock = some b -> F b) : ExF W F (withArgs top.e top.xs) c:=by
 have hd:=ExF.carry (F':=F) (fun b hb=>⟨hF b hb,rfl⟩) _ _ h.hd
 have hz:=h.hz.carry (F':=F) (fun b hb=>⟨hF b hb,rfl⟩)
 have ho:=h.hal
 obtain ⟨k,t,n,a,al,i,vs⟩:=c
 cases hte : top.e with
 | mk k' t' n' a' al' i' vs' =>
  rw [hte] at hd
  rw [ExF] at hd
  rw [withArgs,ExF]
  obtain ⟨e1,e2,e3,e4,_,e6,e7⟩:=hd
  refine ⟨e1,e2,e3,e4,?_,e6,e7⟩
  rcases ho.2 with ⟨rfl,h0⟩ | ⟨g',cap',cur,rfl,hb,hg,hc1,hc2,hcs',htk⟩
  ·have : top.xs = []:=List.eq_nil_of_length_eq_zero h0
   rw [this]
   exact LieN.nil _
  ·refine ⟨⟨some ⟨g',0,none⟩,cap',rfl,hc1,hc2,fun _=>⟨g',0,rfl,AZip.as (hal g' rfl) _ _ 0 (fun j x hx=>?_) hz⟩⟩,fun h0=>?_⟩
   ·have:=ho.cells (g:=g') rfl j x hx
    rw [Addr.add_mid] at this
    exact this
   ·have:=h.h0 (List.eq_nil_of_length_eq_zero h0)
    cases this
end
section
variable {B g cap rb : Nat} {W W' : World} {cs : Array Value} {x1 ys : List Value} {c : C7} {nv v : Value} {b1 b2 : List Nat} {fs : List Fr} {top : Fr}
theorem own_sub (al nv : Value) (b : Nat) : b ∈ al.ownBlock.toList ++ (mapBlockOf nv).toList ↔ al.ownBlock = some b ∨ nv = .map (some b):=by
 rw [List.mem_append,Option.mem_toList,Option.mem_toList]
 constructor
 ·rintro (h | h)
  ·exact .inl h
  ·right
   cases nv <;> simp [mapBlockOf] at h
   subst h
   rfl
 ·rintro (h | h)
  ·exact .inl h
  ·right; subst h; rfl
theorem StP.added (h : StP B W g cap cs x1 ys c nv b1 b2 fs top) {X : ByteArray} {y : EX} {cy : C7} (hy : ExF W (FS B W g b1 b2) y cy)
  (A : Added B g (fs.length * 9) cs c.al nv top.xs.length ys (seenOf (top.xs ++ [.mk X y])) [.string X,cy.k,cy.t,cy.n,cy.a,cy.al,cy.i,cy.vs] W W') :
  StAt B W' (.slice (some ⟨g,0,none⟩) (fs.length + 1) cap) fs ⟨top.e,top.xs ++ [.mk X y],true⟩:=by
 obtain ⟨hb,⟨al',nv',hg',ho',hn',hal',hnv'⟩,hk⟩:=A
 have hnd:=List.nodup_cons.1 h.nodup
 have hnd2:=List.nodup_append.1 hnd.2
 have hs:=hb.size
 have hng : ∀ b ∈ b1 ++ b2,b ≠ g:=fun b hb e=>hnd.1 (e ▸ hb)
 have hal1 : ∀ b,al'.ownBlock = some b -> b ∈ b2 ∨ W.heap.size <= b:=fun b e=>by
  rcases hal' with h1 | ⟨b',h1,h2⟩
  ·exact .inl (h.al_mem (h1 ▸ e))
  ·right; rw [e] at h1; cases h1; exact h2
 have hnv1 : ∀ b,nv' = .map (some b) -> b ∈ b2 ∨ W.heap.size <= b:=fun b e=>by
  rcases hnv' with h1 | ⟨b',h1,h2⟩
  ·exact .inl (h.nm_mem (h1 ▸ e))
  ·right; rw [e] at h1; cases h1; exact h2
 have hnew : ∀ b ∈ al'.ownBlock.toList ++ (mapBlockOf nv').toList,b ∈ b2 ∨ W.heap.size <= b:=fun b hb=>by
  rcases (own_sub _ _ _).1 hb with e | e
  ·exact hal1 b e
  ·exact hnv1 b e
 have hk1 : ∀ b ∈ b1,W'.heap[b]? = W.heap[b]?:=fun b hb=>hk b (h.own b (List.mem_append_left _ hb)).2 (hng b (List.mem_append_left _ hb)) (fun e=>hnd2.2.2 b hb b (h.al_mem e) rfl) (fun e=>hnd2.2.2 b hb b (h.nm_mem e) rfl)
 have g1 : ∀ b,FS B W g b1 b2 b -> FS B W' g b1 (al'.ownBlock.toList ++ (mapBlockOf nv').toList) b /\ W'.heap[b]? = W.heap[b]?:=fun b hF=>by
  obtain ⟨f1,f2,f3⟩:=hF
  simp only [List.mem_cons,List.mem_append,not_or] at f3
  obtain ⟨f3,f4,f5⟩:=f3
  refine ⟨⟨f1,Nat.lt_of_lt_of_le f2 hs,?_⟩,hk b f2 f3 (fun e=>f5 (h.al_mem e)) (fun e=>f5 (h.nm_mem e))⟩
  intro hm
  rcases List.mem_cons.1 hm with e | hm
  ·exact f3 e
  ·rcases List.mem_append.1 hm with hm | hm
   ·exact f4 hm
   ·rcases hnew b hm with e | e
    ·exact f5 e
    ·omega
 have hlt' : ∀ b ∈ al'.ownBlock.toList ++ (mapBlockOf nv').toList,B <= b /\ b < W'.heap.size:=fun b hb=>by
  rcases (own_sub _ _ _).1 hb with e | e
  ·exact ho'.lt b e
  ·obtain ⟨es,clock,hm⟩:=(e ▸ hn').map
   rcases hn' with ⟨e1,_⟩ | ⟨b',e1,hB,_⟩
   ·rw [e] at e1; cases e1
   ·rw [e] at e1; cases e1; exact ⟨hB,(Array.getElem?_eq_some_iff.1 hm).1⟩
 refine ⟨g,cap,(((cs.setIfInBounds (fs.length * 9 + 7) nv').setIfInBounds (fs.length * 9 + 4) al').setIfInBounds (fs.length * 9 + 8) (.bool true)),x1,ys ++ [.string X,cy.k,cy.t,cy.n,cy.a,cy.al,cy.i,cy.vs],⟨c.k,c.t,c.n,c.a,al',c.i,c.vs⟩,nv',b1,al'.ownBlock.toList ++ (mapBlockOf nv').toList,rfl,?_⟩
 exact { hB:=h.hB,hc1:=h.hc1,hc2:=h.hc2,hx:=h.hx,ha:=h.ha,hb2:=rfl,hg:=hg'
         hcs:=by rw [Array.size_setIfInBounds,Array.size_setIfInBounds,Array.size_setIfInBounds]; exact h.hcs
         htk:=by
          have e : cs.toList.take ((fs.length + 1) * 9) = x1 ++ [c.k,c.t,c.n,c.a,c.al,c.i,c.vs,nv,.bool top.want]:=h.htk
          rw [Array.toList_setIfInBounds,Array.toList_setIfInBounds,Array.toList_setIfInBounds,List.take_set,List.take_set,List.take_set,e]
          rw [List.set_append_right _ _ (by rw [h.hx]; omega),List.set_append_right _ _ (by rw [h.hx]; omega),List.set_append_right _ _ (by rw [h.hx]; omega),h.hx,Nat.add_sub_cancel_left,Nat.add_sub_cancel_left,Nat.add_sub_cancel_left]
          rfl
         low:=FrsZ.carry g1 _ _ _ h.low hk1
         hd:=ExF.carry g1 _ _ h.hd
         h0:=fun e=>absurd e (by simp)
         hal:=by rw [List.length_append]; exact ho'
         hz:=AZip.snoc (ExF.carry g1 _ _ hy) _ _ (h.hz.carry g1)
         hnm:=by rw [List.length_append]; exact hn'
         own:=fun b hb=>by
          rcases List.mem_append.1 hb with hb | hb
          ·exact ⟨(h.own b (List.mem_append_left _ hb)).1,Nat.lt_of_lt_of_le (h.own b (List.mem_append_left _ hb)).2 hs⟩
          ·exact hlt' b hb
         nodup:=by
          refine List.nodup_cons.2 ⟨fun hm=>?_,List.nodup_append.2 ⟨hnd2.1,?_,fun b hb1 b' hb2 e=>?_⟩⟩
          ·rcases List.mem_append.1 hm with hm | hm
           ·exact hnd.1 (List.mem_append_left _ hm)
           ·rcases hnew g hm with e | e
            ·exact hnd.1 (List.mem_append_right _ e)
            ·have:=h.lt; omega
          ·refine List.nodup_append.2 ⟨by cases al'.ownBlock <;> simp,by cases mapBlockOf nv' <;> simp,fun b hb1 b' hb2 e=>?_⟩
           subst e
           have e1 : al'.ownBlock = some b:=by simpa using hb1
           have e2 : nv' = .map (some b):=by
            have : mapBlockOf nv' = some b:=by simpa using hb2
            cases nv' <;> simp [mapBlockOf] at this
            rw [this]
           obtain ⟨c1,t1,fz,hh⟩:=own_cells ho' e1
           obtain ⟨es,clock,hm⟩:=(e2 ▸ hn').map
           rw [hm] at hh
           cases hh
          ·subst e
           rcases hnew b hb2 with e | e
           ·exact hnd2.2.2 b hb1 b e rfl
           ·have:=(h.own b (List.mem_append_left _ hb1)).2; omega }
theorem StP.row (h : StP B W g cap cs x1 ys c nv b1 b2 fs top) : W.ownsRow B 369 9 (.slice (some ⟨g,0,none⟩) (fs.length + 1) cap) (fs.length + 1) (x1 ++ [c.k,c.t,c.n,c.a,c.al,c.i,c.vs,nv,.bool top.want]) :=
 ⟨by rw [List.length_append,h.hx]; simp; omega,.inr ⟨g,cap,cs,rfl,h.hB,h.hg,h.hc1,h.hc2,h.hcs,h.htk⟩⟩
theorem StP.pop {f2 : Fr} (h : StP B W g cap cs x1 ys c nv b1 b2 (fs ++ [f2]) top) : ∃ x1' ys' c' nv' b1' b2',StP B W g cap cs x1' ys' c' nv' b1' b2' fs f2 /\ ExF W (FS B W g b1' b2') (withArgs top.e top.xs) c:=by
 obtain ⟨xa,xb,ba,bb,rfl,rfl,h1,h2⟩:=h.low.split fs [f2]
 rw [FrsZ] at h2
 obtain ⟨c',nv',ys0,b1',bs',rfl,rfl,⟨hd,ha,h00,⟨ys',hal,hz⟩,hnm,rfl⟩,h3⟩:=h2
 rw [FrsZ] at h3
 obtain ⟨rfl,rfl⟩:=h3
 rw [List.append_nil] at h
 have hF : ∀ b,FS B W g (ba ++ (c'.al.ownBlock.toList ++ (mapBlockOf nv').toList)) b2 b -> FS B W g ba (c'.al.ownBlock.toList ++ (mapBlockOf nv').toList) b:=fun b hb=>⟨hb.1,hb.2.1,fun hm=>hb.2.2 (by
  rcases List.mem_cons.1 hm with e | hm
  ·rw [e]; exact List.mem_cons_self
  ·exact List.mem_cons_of_mem _ (List.mem_append_left _ hm))⟩
 have g1 : ∀ b,FS B W g (ba ++ (c'.al.ownBlock.toList ++ (mapBlockOf nv').toList ++ [])) b2 b -> FS B W g ba (c'.al.ownBlock.toList ++ (mapBlockOf nv').toList) b /\ W.heap[b]? = W.heap[b]?:=fun b hb=>⟨hF b (by rw [List.append_nil] at hb; exact hb),rfl⟩
 have hnd:=List.nodup_cons.1 h.nodup
 have hnd2:=List.nodup_append.1 hnd.2
 have hxl:=h1.length
 refine ⟨xa,ys',c',nv',ba,c'.al.ownBlock.toList ++ (mapBlockOf nv').toList,?_,h.whole hF fun b e=>⟨(h.own b (List.mem_append_right _ (h.al_mem e))).1,(h.own b (List.mem_append_right _ (h.al_mem e))).2,fun hm=>?_⟩⟩
 ·exact { hg:=h.hg,hB:=h.hB,hc2:=h.hc2,hcs:=h.hcs,ha:=ha,hb2:=rfl,h0:=h00,hal:=hal,hnm:=hnm
          hc1:=by have:=h.hc1; rw [List.length_append,List.length_singleton] at this; omega
          hx:=hxl
          htk:=by
           have e : cs.toList.take ((fs.length + 1 + 1) * 9) = (xa ++ [c'.k,c'.t,c'.n,c'.a,c'.al,c'.i,c'.vs,nv',.bool f2.want]) ++ [c.k,c.t,c.n,c.a,c.al,c.i,c.vs,nv,.bool top.want]:=by
            have:=h.htk
            rw [List.length_append,List.length_singleton] at this
            exact this
           have e2 : cs.toList.take ((fs.length + 1) * 9) = (cs.toList.take ((fs.length + 1 + 1) * 9)).take ((fs.length + 1) * 9):=by rw [List.take_take,Nat.min_eq_left (by omega)]
           rw [e2,e,List.take_append_of_le_length (by rw [List.length_append,hxl]; simp; omega),List.take_of_length_le (by rw [List.length_append,hxl]; simp; omega)]
          low:=FrsZ.carry g1 _ _ _ h1 (fun _ _=>rfl)
          hd:=ExF.carry g1 _ _ hd
          hz:=hz.carry g1
          nodup:=List.nodup_cons.2 ⟨fun hm=>hnd.1 (List.mem_append_left _ hm),hnd2.1⟩
          own:=fun b hb=>h.own b (List.mem_append_left _ hb) }
 ·rcases List.mem_cons.1 hm with e1 | hm
  ·subst e1
   exact hnd.1 (List.mem_append_right _ (h.al_mem e))
  ·exact hnd2.2.2 b hm b (h.al_mem e) rfl
theorem StP.push (h : StP B W g cap cs x1 ys c nv b1 b2 fs top) {e : EX} {ce : C7} (he : ExF W (FS B W g b1 b2) e ce) (hea : exArgs e = []) (hn : ce.al = .slice none 0 0)
  (ho : W'.ownsRow B 369 9 v (fs.length + 1 + 1) (x1 ++ [c.k,c.t,c.n,c.a,c.al,c.i,c.vs,nv,.bool top.want] ++ [ce.k,ce.t,ce.n,ce.a,ce.al,ce.i,ce.vs,.map none,.bool false]))
  (hgr : W.grownBy W' (some g)) (hw : v.ownBlock = some g ∨ v.ownBlock = some W.heap.size) : StAt B W' v (fs ++ [top]) ⟨e,[],false⟩:=by
 have hnd:=List.nodup_cons.1 h.nodup
 have hs:=hgr.size
 have hng : ∀ b ∈ b1 ++ b2,b ≠ g:=fun b hb e=>hnd.1 (e ▸ hb)
 have hk : ∀ b,b < W.heap.size -> b ≠ g -> W'.heap[b]? = W.heap[b]?:=fun b hb hn=>hgr.block b hb (fun e=>hn (Option.some.inj e))
 rcases ho.2 with ⟨_,h0⟩ | ⟨g',cap',cur,rfl,hBg,hg',hc1',hc2',hcs',htk'⟩
 ·omega
 have hgg : g' = g ∨ g' = W.heap.size:=by
  rcases hw with e | e
  ·exact .inl (Option.some.inj e)
  ·exact .inr (Option.some.inj e)
 have hgn : ∀ b,b < W.heap.size -> b ≠ g -> b ≠ g':=fun b h1 h2 e=>by rcases hgg with e2 | e2 <;> omega
 have g1 : ∀ b,FS B W g b1 b2 b -> FS B W' g' (b1 ++ b2) [] b /\ W'.heap[b]? = W.heap[b]?:=fun b hb=>by
  obtain ⟨f1,f2,f3⟩:=hb
  have f4 : b ≠ g:=fun e=>f3 (by rw [e]; exact List.mem_cons_self)
  refine ⟨⟨f1,Nat.lt_of_lt_of_le f2 hs,fun hm=>?_⟩,hk b f2 f4⟩
  rw [List.append_nil] at hm
  rcases List.mem_cons.1 hm with e | hm
  ·exact hgn b f2 f4 e
  ·exact f3 (List.mem_cons_of_mem _ hm)
 have hkb : ∀ b ∈ b1 ++ b2,W'.heap[b]? = W.heap[b]?:=fun b hb=>hk b (h.own b hb).2 (hng b hb)
 refine ⟨g',cap',cur,x1 ++ [c.k,c.t,c.n,c.a,c.al,c.i,c.vs,nv,.bool top.want],[],ce,.map none,b1 ++ b2,[],by rw [List.length_append,List.length_singleton],?_⟩
 exact { hg:=hg',hB:=hBg,hc2:=hc2',hcs:=hcs',ha:=hea,h0:=fun _=>hn
         hc1:=by rw [List.length_append,List.length_singleton]; exact hc1'
         hx:=by rw [List.length_append,List.length_append,h.hx]; simp; omega
         htk:=by rw [List.length_append,List.length_singleton,htk']
         low:=by
          refine FrsZ.join (x2:=[c.k,c.t,c.n,c.a,c.al,c.i,c.vs,nv,.bool top.want]) (b2:=b2) ?_ fs x1 b1 (FrsZ.carry g1 _ _ _ h.low (fun b hb=>hkb b (List.mem_append_left _ hb)))
          rw [FrsZ]
          refine ⟨c,nv,[],b2,[],rfl,by simp,⟨ExF.carry g1 _ _ h.hd,h.ha,h.h0,⟨ys,row_blocks h.hal fun b e=>hkb b (List.mem_append_right _ (h.al_mem e)),h.hz.carry g1⟩,h.hnm.kept fun b e=>hkb b (List.mem_append_right _ (h.nm_mem e)),h.hb2⟩,?_⟩
          rw [FrsZ]
          exact ⟨rfl,rfl⟩
         hd:=by
          have:=ExF.carry g1 _ _ he
          obtain ⟨k,t,n,a,al,i,vs⟩:=ce
          dsimp only at hn
          subst hn
          exact this
         hal:=by rw [hn]; exact World.ownsRow_nil _ _ _ _
         hz:=by rw [AZip]
         hnm:=.inl ⟨rfl,rfl⟩
         hb2:=by rw [hn]; rfl
         nodup:=by
          rw [List.append_nil]
          exact List.nodup_cons.2 ⟨fun hm=>hgn g' (h.own g' hm).2 (hng g' hm) rfl,hnd.2⟩
         own:=fun b hb=>by
          rw [List.append_nil] at hb
          exact ⟨(h.own b hb).1,Nat.lt_of_lt_of_le (h.own b hb).2 hs⟩ }
theorem st_first {e : EX} {ce : C7} {F : Nat -> Prop} (he : ExF W F e ce) (hF : ∀ b,F b -> B <= b /\ b < W.heap.size) (hBW : B <= W.heap.size) (hea : exArgs e = []) (hn : ce.al = .slice none 0 0) :
  StAt B (W.alloc (.cells #[ce.k,ce.t,ce.n,ce.a,ce.al,ce.i,ce.vs,.map none,.bool false] 369)) (.slice (some ⟨W.heap.size,0,none⟩) 1 1) [] ⟨e,[],false⟩:=by
 have g1 : ∀ b,F b -> FS B (W.alloc (.cells #[ce.k,ce.t,ce.n,ce.a,ce.al,ce.i,ce.vs,.map none,.bool false] 369)) W.heap.size [] [] b /\ (W.alloc (.cells #[ce.k,ce.t,ce.n,ce.a,ce.al,ce.i,ce.vs,.map none,.bool false] 369)).heap[b]? = W.heap[b]?:=fun b hb=>by
  obtain ⟨h1,h2⟩:=hF b hb
  exact ⟨⟨h1,by rw [World.size_alloc]; omega,fun hm=>by simp at hm; omega⟩,Lib.alloc_old _ _ b h2⟩
 refine ⟨W.heap.size,1,#[ce.k,ce.t,ce.n,ce.a,ce.al,ce.i,ce.vs,.map none,.bool false],[],[],ce,.map none,[],[],rfl,?_⟩
 exact { hg:=heap_alloc_new W _,hB:=hBW,hc1:=Nat.le_refl _,hc2:=by decide,hcs:=rfl,hx:=rfl,htk:=rfl,ha:=hea,h0:=fun _=>hn
         low:=by rw [FrsZ]; exact ⟨rfl,rfl⟩
         hd:=by
          have:=ExF.carry g1 _ _ he
          obtain ⟨k,t,n,a,al,i,vs⟩:=ce
          dsimp only at hn
          subst hn
          exact this
         hal:=by rw [hn]; exact World.ownsRow_nil _ _ _ _
         hz:=by rw [AZip]
         hnm:=.inl ⟨rfl,rfl⟩
         hb2:=by rw [hn]; rfl
         nodup:=by simp
         own:=fun b hb=>by simp at hb }
end
set_option maxHeartbeats 4000000 in
set_option maxRecDepth 100000 in
theorem add_empty {B g o : Nat} (cs : Array Value) (al nv : Value) (n : Nat) (ys : List Value) (seen : List ByteArray) (X : ByteArray) (k : Int) (t nn a : ByteArray) (A1 : Option Addr) (n1 c1 : Nat) (p : Option Addr) (A2 : Option Addr) (n2 c2 : Nat) (w : World)
  (hg : w.heap[g]? = some (.cells cs 369 (0,0))) (hBg : B <= g) (ho : o + 9 <= cs.size) (hc4 : cs[o + 4]? = some al) (hc7 : cs[o + 7]? = some nv) {c8 : Value} (hc8 : cs[o + 8]? = some c8) (hal : w.ownsRow B 127 8 al n ys) (hne : al.ownBlock ≠ some g) (hnm : NmOk B w nv seen n) (hn : n <= 1000000000) (hX : X.size <= 1000000000) (ho2 : o <= 100000000000) (hx : emp X = true) :
  Calls Tryz.prog 266 #[.pointer (some ⟨g,o,none⟩),arV X k t nn a A1 n1 c1 p A2 n2 c2] w fun e w' =>
   e = .returned (.bool (decide (seen.length = 0) && !((k == 4) && !emp a))) /\ Below B w w' /\
   ((decide (seen.length = 0) && !((k == 4) && !emp a)) = true -> Added B g o cs al nv n ys seen [.string X,.int .i64 k,.string t,.string nn,.string a,.slice A1 n1 c1,.pointer p,.slice A2 n2 c2] w w'):=by
 have hgl:=(Array.getElem?_eq_some_iff.1 hg).1
 obtain ⟨Al,cl,rfl⟩ : ∃ A c,al = .slice A n c:=own_form hal
 obtain ⟨i0,hi0,hz0,hz1,hz2⟩:=info_parts infoA
 have d4 : w.cell? ⟨g,o + 4,none⟩ = some (.slice Al n cl):=(cell_of_row w g (o + 4) cs _ (0,0) hg).trans hc4
 have d7 : w.cell? ⟨g,o + 7,none⟩ = some nv:=(cell_of_row w g (o + 7) cs _ (0,0) hg).trans hc7
 have hBw : B <= w.heap.size:=by omega
 have HG:=hid hg
 have HAl:=hid hal
 have HT:=hid (fun W=>termsAttr_any k t nn a A1 n1 c1 p A2 n2 c2 W)
 obtain ⟨ta,hta⟩ : ∃ q,((k == 4) && !emp a) = q:=⟨_,rfl⟩
 rw [hta] at HT ⊢
 unfold exV at HT
 unfold arV
 have hNe:=hid (show some g ≠ (Value.slice Al n cl).ownBlock from fun h=>hne h.symm)
 have hset:=set_same hc7
 clear hta hg hal hne hc4 hc7
 have hx' : X.toList.isEmpty = true:=hx
 clear hx
 rcases hnm with ⟨rfl,rfl⟩ | ⟨b,rfl,hb,h0,hN⟩
 case inr =>
  obtain ⟨D,hD1,hD2,hD3⟩:=hN
  have hlen : decide (seen.length = 0) = false:=decide_eq_false (by omega)
  rw [hlen,Bool.false_and]
  obtain ⟨z,hz⟩ : ∃ z,Maps.size D = z:=⟨_,rfl⟩
  have hlen2 : ∀ ob,(Builtin.len_ #[264] 3 #[.map (some b)]).run Tryz.prog (w.alloc ob) = .ok (.int .i64 (z : Nat)) (w.alloc ob):=fun ob=>by
   rw [<- hz]
   exact (hD1.alloc ob).len Tryz.underlying264 _
  rw [hD3] at hz
  have hs : decide ((0 : Int) < (z : Nat)) = true:=decide_eq_true (by omega)
  have hs' : (0 : Int) < (z : Nat):=by omega
  clear hD1 hD2 hlen hz h0
  go_enter Tryz.func266,Tryz.ntmps266
  go_wp2
  go_ret
  exact ⟨rfl,(Below.refl B w).alloc hBw _,fun h=>by cases h⟩
 case inl =>
  have Hset:=hid hset
  clear hset
  have hlen2 : ∀ ob,(Builtin.len_ #[264] 3 #[.map none]).run Tryz.prog (w.alloc ob) = .ok (.int .i64 0) (w.alloc ob):=fun ob=>Maps.len_nil Tryz.underlying264 _
  have e0 : (decide (([] : List ByteArray).length = 0) && !ta) = !ta:=by simp
  rw [e0]
  cases ta
  case true =>
   go_enter Tryz.func266,Tryz.ntmps266
   go_wp2_with fail
   go_at_call 238
   refine (HT.out _).mono ?_
   rintro e w1 ⟨rfl,hb1⟩
   have HB:=hid (((Below.refl w.heap.size w).alloc (Nat.le_refl _) (.cells #[.string X,.int .i64 k,.string t,.string nn,.string a,.slice A1 n1 c1,.pointer p,.slice A2 n2 c2] 127)).trans (hb1.mono (by simp)))
   clear hb1
   go_wp2
   go_ret
   exact ⟨rfl,HB.out.mono hBw,fun h=>by cases h⟩
  go_enter Tryz.func266,Tryz.ntmps266
  go_wp2_with fail
  go_at_call 238
  refine (HT.out _).mono ?_
  rintro e w1 ⟨rfl,hb1⟩
  have HB:=hid (((Below.refl w.heap.size w).alloc (Nat.le_refl _) (.cells #[.string X,.int .i64 k,.string t,.string nn,.string a,.slice A1 n1 c1,.pointer p,.slice A2 n2 c2] 127)).trans (hb1.mono (by simp)))
  have hbox:=(BoxAt.new w #[.string X,.int .i64 k,.string t,.string nn,.string a,.slice A1 n1 c1,.pointer p,.slice A2 n2 c2] 127).later hb1
  have hsz:=HB.out.size
  have HBox:=hid hbox
  have hbl:=hbox.lt
  have e4 : w1.cell? ⟨g,o + 4,none⟩ = some (.slice Al n cl):=(HB.out.cell (p:=⟨g,o + 4,none⟩) hgl).trans d4
  have hgr : w1.heap[g]? = some (.cells cs 369 (0,0)):=(HB.out.block g hgl).trans HG.out
  have HAl1:=hid (HAl.out.kept (⟨HB.out.os,HB.out.tape,HB.out.output,HB.out.size,fun k hk _=>HB.out.block k hk⟩ : w.grownBy w1 none) (by by_cases h : (Value.slice Al n cl).ownBlock = none; exact .inl h; exact .inr h))
  have HGr:=hid hgr
  obtain ⟨q0,q1,q2,q3,q4,q5,q6,q7,p0,p1,p2,p3,p4,p5,p6,p7⟩:=cells8 hbox
  clear hb1 hbox hgr d4 d7
  have hn0 : (n : Int) <= 1000000000:=by omega
  have fg : ∀ j,w1.frozen? ⟨g,j,none⟩ = false:=fun j=>Lib.frozen_of_heap HGr.out j
  have hAL:=hid HAl1.out.1
  have hg1 : g < w1.heap.size:=by omega
  have E4:=hid (fun ob : Obj=>(((Below.refl w1.heap.size w1).alloc (Nat.le_refl _) ob).cell (p:=⟨g,o + 4,none⟩) hg1).trans e4)
  have hG2:=hid (fun ob : Obj=>show g < (w1.alloc ob).heap.size by rw [World.size_alloc]; omega)
  have F4:=hid (fun ob : Obj=>(((Below.refl w1.heap.size w1).alloc (Nat.le_refl _) ob).frozen (p:=⟨g,o + 4,none⟩) hg1).trans (fg (o + 4)))
  have x1 : (n : Int) < (n : Int) + 1:=by omega
  have x2 : (n : Int) < ((n + 1 : Nat) : Int):=by omega
  have x3 : (0 : Int) <= (n : Int):=by omega
  have B1:=hid (show n + 1 <= maxLen by unfold maxLen; omega)
  have B2:=hid (show (n + 1) * 128 <= 140737488355328 by omega)
  have B3:=hid (show B <= w1.heap.size by omega)
  go_wp2_with fail
  go_cut [] (fun wx=>AddMid B g o cs (.slice Al n cl) n ys [.string X,.int .i64 k,.string t,.string nn,.string a,.slice A1 n1 c1,.pointer p,.slice A2 n2 c2] w1 wx)
  case first =>
   go_region_law (refine step_append_own rfl (.tmp 57) (.tmp 60) 45 rfl B 127 i0 (.agg #[.string ⟨#[]⟩,.int .i64 0,.string ⟨#[]⟩,.string ⟨#[]⟩,.string ⟨#[]⟩,.slice none 0 0,.pointer none,.slice none 0 0]) 8 128 Tryz.underlying45 hi0 hz0 hz1 hz2 rfl (by decide) (.slice Al n cl) n ys (by simp [Act.eval,Act.put]) (HAl1.out.drew.alloc _) ⟨w1.heap.size,0,none⟩ 1 1 [.string ⟨#[]⟩,.int .i64 0,.string ⟨#[]⟩,.string ⟨#[]⟩,.string ⟨#[]⟩,.slice none 0 0,.pointer none,.slice none 0 0] (by simp [Act.eval,Act.put]) rfl (new8 _ _) (by simp [Value.oneCell']) B1.out B2.out (by show B <= (w1.alloc _).heap.size; rw [World.size_alloc]; exact Nat.le_succ_of_le B3.out) (by decide) ?_; intro v' w' hown hgrow hwh; obtain ⟨gA,cA,rfl⟩:=own_some hown; have hZ:=hown.1; have s0:=row_at0 hown (ys:=ys) hAL.out _ rfl; have s1:=row_at hown (ys:=ys) hAL.out 1 _ rfl; have s2:=row_at hown (ys:=ys) hAL.out 2 _ rfl; have s3:=row_at hown (ys:=ys) hAL.out 3 _ rfl; have s4:=row_at hown (ys:=ys) hAL.out 4 _ rfl; have s5:=row_at hown (ys:=ys) hAL.out 5 _ rfl; have s6:=row_at hown (ys:=ys) hAL.out 6 _ rfl; have s7:=row_at hown (ys:=ys) hAL.out 7 _ rfl; have sf:=fun j=>hown.frozenAt j; have s4':=hgrow.cell (a:=⟨g,o + 4,none⟩) (E4.out _) hNe.out; have ng:=own_ne hwh hNe.out (hG2.out _); have ng2:=own_ne' hwh hNe.out (hG2.out _); have f4':=(World.frozen?_of_block (a:=⟨g,o + 4,none⟩) (hgrow.block g (hG2.out _) hNe.out)).trans (F4.out _); have hOwn:=hid hown; have hGrow:=hid hgrow; have hWh:=hid hwh; clear hown hgrow hwh)
   all_goals (go_wp2_with fail; go_meet)
   all_goals first | with_reducible exact mid_a B3.out (Below.alloc (Below.refl _ _) (Nat.le_refl _) _).drew (by simp) HGr.out hBg HAl1.out hNe.out hGrow.out hOwn.out hWh.out ng | with_reducible exact mid_b B3.out (Below.alloc (Below.refl _ _) (Nat.le_refl _) _).drew (by simp) HGr.out hBg HAl1.out hNe.out hGrow.out hOwn.out hWh.out ng
  case rest =>
  have Hcut:=hid hcut
  obtain ⟨_,⟨al',hm2,_,_⟩,_⟩:=hcut
  have k8 : wc.cell? ⟨g,o + 8,none⟩ = some c8:=by
   rw [cell_of_row wc g (o + 8) _ _ (0,0) hm2]
   simpa using hc8
  have f8 : wc.frozen? ⟨g,o + 8,none⟩ = false:=Lib.frozen_of_heap hm2 (o + 8)
  clear hm2
  go_wp2
  go_ret
  have hE:=added_end (nv':=.map none) (HB.out.mono hBw) (fun k hk _ _=>HB.out.block k hk) (by rw [Hset.out]; exact HGr.out) hBg HAl1.out (.inl ⟨rfl,rfl⟩) (.inl rfl) (by rw [Hset.out]; exact Hcut.out)
  exact ⟨rfl,hE.1,fun _=>hE.2⟩
set_option maxHeartbeats 4000000 in
set_option maxRecDepth 100000 in
theorem add_named {B g o : Nat} (cs : Array Value) (al nv : Value) (n : Nat) (ys : List Value) (seen : List ByteArray) (X : ByteArray) (k : Int) (t nn a : ByteArray) (A1 : Option Addr) (n1 c1 : Nat) (p : Option Addr) (A2 : Option Addr) (n2 c2 : Nat) (w : World)
  (hg : w.heap[g]? = some (.cells cs 369 (0,0))) (hBg : B <= g) (ho : o + 9 <= cs.size) (hc4 : cs[o + 4]? = some al) (hc7 : cs[o + 7]? = some nv) {c8 : Value} (hc8 : cs[o + 8]? = some c8) (hal : w.ownsRow B 127 8 al n ys) (hne : al.ownBlock ≠ some g) (hnm : NmOk B w nv seen n) (hn : n <= 1000000000) (hX : X.size <= 1000000000) (ho2 : o <= 100000000000) (hx : emp X = false) :
  Calls Tryz.prog 266 #[.pointer (some ⟨g,o,none⟩),arV X k t nn a A1 n1 c1 p A2 n2 c2] w fun e w' =>
   e = .returned (.bool !memB X seen) /\ Below B w w' /\
   ((!memB X seen) = true -> Added B g o cs al nv n ys (X :: seen) [.string X,.int .i64 k,.string t,.string nn,.string a,.slice A1 n1 c1,.pointer p,.slice A2 n2 c2] w w'):=by
 have hgl:=(Array.getElem?_eq_some_iff.1 hg).1
 obtain ⟨Al,cl,rfl⟩ : ∃ A c,al = .slice A n c:=own_form hal
 obtain ⟨i0,hi0,hz0,hz1,hz2⟩:=info_parts infoA
 have d4 : w.cell? ⟨g,o + 4,none⟩ = some (.slice Al n cl):=(cell_of_row w g (o + 4) cs _ (0,0) hg).trans hc4
 have d7 : w.cell? ⟨g,o + 7,none⟩ = some nv:=(cell_of_row w g (o + 7) cs _ (0,0) hg).trans hc7
 have hBw : B <= w.heap.size:=by omega
 have HG:=hid hg
 have HAl:=hid hal
 unfold arV
 have hNe:=hid (show some g ≠ (Value.slice Al n cl).ownBlock from fun h=>hne h.symm)
 have hset:=set_same hc7
 have Hc4:=hid hc4
 clear hg hal hne hc4 hc7
 have hx' : X.toList.isEmpty = false:=hx
 have hkey:=key_str X (by omega)
 have hmm:=@run_makeMap_plain Tryz.prog
 clear hx
 rcases hnm with ⟨rfl,rfl⟩ | ⟨b2,rfl,hb,h0,hN⟩
 case inl =>
  have hlook : ∀ W,(Instr.lookup 264 (.map none) (.string X) true).run Tryz.prog W = .ok (.tuple #[.agg #[],.bool false]) W:=fun W=>Maps.look_nil true keyLaw Tryz.underlying264 (zeroUnit W) hkey
  have HKey:=hid hkey
  have heq : ∀ W,(binOp .eql 264 (.map none) (.map none)).run Tryz.prog W = .ok (.bool true) W:=fun W=>run_eql_map_nil W _ _ _ none Tryz.underlying264
  clear hkey
  go_enter Tryz.func266,Tryz.ntmps266
  go_wp2_with fail
  go_region
  generalize hW1 : World.drew _ = W1
  have hb1 : Below w.heap.size w W1:=by
   rw [<- hW1]
   exact (((Below.refl _ w).alloc (Nat.le_refl _) _).alloc (by simp) _).drew
  have hs1 : W1.heap.size = w.heap.size + 1 + 1:=by rw [<- hW1]; simp
  have hbox : BoxAt W1 w.heap.size #[.string X,.int .i64 k,.string t,.string nn,.string a,.slice A1 n1 c1,.pointer p,.slice A2 n2 c2] 127:=by
   rw [<- hW1]
   exact (BoxAt.new w _ _).alloc _
  clear hW1
  have hg1 : W1.heap[g]? = some (.cells cs 369 (0,0)):=(hb1.block g hgl).trans HG.out
  have e7 : W1.cell? ⟨g,o + 7,none⟩ = some (.map none):=(hb1.cell (p:=⟨g,o + 7,none⟩) hgl).trans d7
  have f7 : W1.frozen? ⟨g,o + 7,none⟩ = false:=Lib.frozen_of_heap hg1 (o + 7)
  have hgl1 : g < W1.heap.size:=by omega
  have q0:=hbox.cell 0
  simp at q0
  have HBox:=hid hbox
  have HG1:=hid hg1
  have HB1:=hid hb1
  have HS1:=hid hs1
  clear hbox hg1 hb1 hs1 d7 d4
  go_wp2_with fail
  generalize hW2 : World.alloc (World.setCell _ _ _) _ = W2
  have hM:=NamesAt.made (W1.setCell ⟨g,o + 7,none⟩ (.map (some W1.heap.size)))
  rw [hW2,World.size_setCell] at hM
  have hszs : (W1.setCell ⟨g,o + 7,none⟩ (.map (some W1.heap.size))).heap.size = W1.heap.size:=World.size_setCell _ _ _
  have hold : ∀ k,k < W1.heap.size -> k ≠ g -> W2.heap[k]? = W1.heap[k]?:=fun k hk hne=>by
   rw [<- hW2,Lib.alloc_old _ _ k (by rw [hszs]; exact hk),Below.heap_setCell _ _ _ k hne]
  have hg2 : W2.heap[g]? = some (.cells (cs.setIfInBounds (o + 7) (.map (some W1.heap.size))) 369 (0,0)):=by
   rw [<- hW2,Lib.alloc_old _ _ g (by rw [hszs]; exact hgl1)]
   exact heap_setCell_same _ g (o + 7) cs _ _ HG1.out
  have hb2 : Below B w W2:=by
   rw [<- hW2]
   exact ((HB1.out.mono hBw).setCell (p:=⟨g,o + 7,none⟩) hBg _).alloc (by rw [hszs,HS1.out]; omega) _
  have hk2 : ∀ k,k < w.heap.size -> k ≠ g -> W2.heap[k]? = w.heap[k]?:=fun k hk hne=>(hold k (by rw [HS1.out]; omega) hne).trans (HB1.out.block k hk)
  have hbx2 : BoxAt W2 w.heap.size #[.string X,.int .i64 k,.string t,.string nn,.string a,.slice A1 n1 c1,.pointer p,.slice A2 n2 c2] 127:=(hold _ (by rw [HS1.out]; omega) (by omega)).trans HBox.out
  have hN2 : NamesAt W2 W1.heap.size n []:=hM.mono (Nat.zero_le n)
  have hal2 : W2.ownsRow B 127 8 (.slice Al n cl) n ys:=row_blocks HAl.out fun b hb=>hk2 b (HAl.out.lt b hb).2 (fun e=>hNe.out (by rw [hb,e]))
  have hnb : B <= W1.heap.size:=by rw [HS1.out]; omega
  have hnv : (Value.map (some W1.heap.size)) = Value.map none ∨ ∃ b,Value.map (some W1.heap.size) = .map (some b) /\ w.heap.size <= b:=.inr ⟨_,rfl,by rw [HS1.out]; omega⟩
  have hsz2 : w.heap.size < W2.heap.size:=hbx2.lt
  have hzM : memB X ([] : List ByteArray) = false:=rfl
  have hkb : ∀ k,k < w.heap.size -> Value.map none ≠ .map (some k) -> k ≠ W1.heap.size:=fun k hk _=>by rw [HS1.out]; omega
  obtain ⟨b2,hb2e⟩ : ∃ b2,W1.heap.size = b2:=⟨_,rfl⟩
  rw [hb2e] at hg2 hN2 hnb hnv hkb hszs hM hW2
  clear hold hszs hM hW2 hb2e hgl1 HG1 HB1 HS1 HBox e7 f7 q0
  --TAIL1
  have hgl2:=(Array.getElem?_eq_some_iff.1 hg2).1
  have hmp:=owns_map hN2.choose_spec.1
  obtain ⟨D,hD1,hD2,hD3⟩:=hN2
  have e7' : W2.cell? ⟨g,o + 7,none⟩ = some (.map (some b2)):=by
   rw [cell_of_row W2 g (o + 7) _ _ (0,0) hg2,Array.getElem?_setIfInBounds,if_pos rfl,if_pos (by omega)]
  have qX:=hbx2.cell 0
  simp at qX
  have him : n < maxLen:=by unfold maxLen; omega
  have HD1:=hid hD1
  have HD2:=hid hD2
  have HD3:=hid hD3
  have HIm:=hid him
  have HG2:=hid hg2
  have HBx2:=hid hbx2
  have HMp:=hid hmp
  have HAl2:=hid hal2
  have HB2:=hid hb2
  have HK2:=hid hk2
  have HKB:=hid hkb
  have HNv:=hid hnv
  have HZM:=hid hzM
  have Hsz2:=hid hsz2
  have Hnb:=hid hnb
  clear hD1 hD2 hD3 him hg2 hbx2 hmp hal2 hb2 hk2 hkb hnv hzM hsz2 hnb
  go_still_tail 7,(by kernel_rfl)
  change wpList _ _ _ _ _ W2.drew
  go_wp2_with (at_mapUpdate; refine wpList_mapUpdate_own _ rfl _ _ _ 264 rfl 9 148 keyLaw Tryz.underlying264 (unitElem (H:=Unit)) b2 n D rfl HD1.out.drew HIm.out _ _ _ rfl rfl HKey.out _ [] unitElem_mk ?_; intro w6 hown6 hg6; skip)
  have hput:=names_put (HD1.out.tidy keyLaw) HD2.out HD3.out X HZM.out (.agg [])
  have hgr : w6.heap[g]? = some (.cells (cs.setIfInBounds (o + 7) (.map (some b2))) 369 (0,0)):=grown_cells hg6 HMp.out HG2.out
  have hbox : BoxAt w6 w.heap.size #[.string X,.int .i64 k,.string t,.string nn,.string a,.slice A1 n1 c1,.pointer p,.slice A2 n2 c2] 127:=grown_cells hg6 HMp.out HBx2.out
  have hb6 : Below B w w6:=HB2.out.drew.grown hg6 (Nat.le_trans hBw HB2.out.size) (fun kk e=>by have:=Option.some.inj e; have:=Hnb.out; omega)
  have hk6 : ∀ k,k < w.heap.size -> k ≠ g -> Value.map none ≠ .map (some k) -> w6.heap[k]? = w.heap[k]?:=fun k h1 h2 h3=>by
   rw [hg6.block k (show k < W2.heap.size from Nat.lt_trans h1 Hsz2.out) (fun e=>HKB.out k h1 h3 (Option.some.inj e))]
   exact HK2.out k h1 h2
  have hal6 : w6.ownsRow B 127 8 (.slice Al n cl) n ys:=row_blocks HAl2.out fun b hb=>hg6.block b (show b < W2.heap.size from (HAl2.out.lt b hb).2) (fun e=>by
   obtain ⟨c0,t0,fz,hh⟩:=own_cells HAl2.out hb
   obtain ⟨es,c,hm⟩:=HMp.out
   have:=Option.some.inj e
   subst this
   rw [hm] at hh; cases hh)
  have hnm6 : NmOk B w6 (.map (some b2)) (X :: []) (n + 1):=.inr ⟨b2,rfl,Hnb.out,by simp,D.put (.string X.data.toList) (.agg []),hown6,hput.1,hput.2⟩
  have hbl:=hbox.lt
  have hg6l:=(Array.getElem?_eq_some_iff.1 hgr).1
  have e4 : w6.cell? ⟨g,o + 4,none⟩ = some (.slice Al n cl):=by
   rw [cell_of_row w6 g (o + 4) _ _ (0,0) hgr,Array.getElem?_setIfInBounds,if_neg (by omega)]
   exact Hc4.out
  obtain ⟨q0,q1,q2,q3,q4,q5,q6,q7,p0,p1,p2,p3,p4,p5,p6,p7⟩:=cells8 hbox
  have HGr:=hid hgr
  have HB6:=hid hb6
  have HK6:=hid hk6
  have HAl1:=hid hal6
  have HNm6:=hid hnm6
  clear hput hgr hbox hb6 hk6 hal6 hnm6 hown6 hg6 qX e7' hgl2
  have hn0 : (n : Int) <= 1000000000:=by omega
  have fg : ∀ j,w6.frozen? ⟨g,j,none⟩ = false:=fun j=>Lib.frozen_of_heap HGr.out j
  have hAL:=hid HAl1.out.1
  have hg1 : g < w6.heap.size:=hg6l
  have E4:=hid (fun ob : Obj=>(((Below.refl w6.heap.size w6).alloc (Nat.le_refl _) ob).cell (p:=⟨g,o + 4,none⟩) hg1).trans e4)
  have hG2:=hid (fun ob : Obj=>show g < (w6.alloc ob).heap.size by rw [World.size_alloc]; omega)
  have F4:=hid (fun ob : Obj=>(((Below.refl w6.heap.size w6).alloc (Nat.le_refl _) ob).frozen (p:=⟨g,o + 4,none⟩) hg1).trans (fg (o + 4)))
  have x1 : (n : Int) < (n : Int) + 1:=by omega
  have x2 : (n : Int) < ((n + 1 : Nat) : Int):=by omega
  have x3 : (0 : Int) <= (n : Int):=by omega
  have B1:=hid (show n + 1 <= maxLen by unfold maxLen; omega)
  have B2:=hid (show (n + 1) * 128 <= 140737488355328 by omega)
  have B3:=hid (show B <= w6.heap.size by omega)
  go_wp2_with fail
  dsimp only [Act.put]
  go_cut [] (fun wx=>AddMid B g o (cs.setIfInBounds (o + 7) (.map (some b2))) (.slice Al n cl) n ys [.string X,.int .i64 k,.string t,.string nn,.string a,.slice A1 n1 c1,.pointer p,.slice A2 n2 c2] w6 wx)
  case first =>
   go_region_law (refine step_append_own rfl (.tmp 57) (.tmp 60) 45 rfl B 127 i0 (.agg #[.string ⟨#[]⟩,.int .i64 0,.string ⟨#[]⟩,.string ⟨#[]⟩,.string ⟨#[]⟩,.slice none 0 0,.pointer none,.slice none 0 0]) 8 128 Tryz.underlying45 hi0 hz0 hz1 hz2 rfl (by decide) (.slice Al n cl) n ys (by simp [Act.eval,Act.put]) (HAl1.out.drew.alloc _) ⟨w6.heap.size,0,none⟩ 1 1 [.string ⟨#[]⟩,.int .i64 0,.string ⟨#[]⟩,.string ⟨#[]⟩,.string ⟨#[]⟩,.slice none 0 0,.pointer none,.slice none 0 0] (by simp [Act.eval,Act.put]) rfl (new8 _ _) (by simp [Value.oneCell']) B1.out B2.out (by show B <= (w6.alloc _).heap.size; rw [World.size_alloc]; exact Nat.le_succ_of_le B3.out) (by decide) ?_; intro v' w' hown hgrow hwh; obtain ⟨gA,cA,rfl⟩:=own_some hown; have hZ:=hown.1; have s0:=row_at0 hown (ys:=ys) hAL.out _ rfl; have s1:=row_at hown (ys:=ys) hAL.out 1 _ rfl; have s2:=row_at hown (ys:=ys) hAL.out 2 _ rfl; have s3:=row_at hown (ys:=ys) hAL.out 3 _ rfl; have s4:=row_at hown (ys:=ys) hAL.out 4 _ rfl; have s5:=row_at hown (ys:=ys) hAL.out 5 _ rfl; have s6:=row_at hown (ys:=ys) hAL.out 6 _ rfl; have s7:=row_at hown (ys:=ys) hAL.out 7 _ rfl; have sf:=fun j=>hown.frozenAt j; have s4':=hgrow.cell (a:=⟨g,o + 4,none⟩) (E4.out _) hNe.out; have ng:=own_ne hwh hNe.out (hG2.out _); have ng2:=own_ne' hwh hNe.out (hG2.out _); have f4':=(World.frozen?_of_block (a:=⟨g,o + 4,none⟩) (hgrow.block g (hG2.out _) hNe.out)).trans (F4.out _); have hOwn:=hid hown; have hGrow:=hid hgrow; have hWh:=hid hwh; clear hown hgrow hwh)
   all_goals (go_wp2_with fail; go_meet)
   all_goals first | with_reducible exact mid_a B3.out (Below.alloc (Below.refl _ _) (Nat.le_refl _) _).drew (by simp) HGr.out hBg HAl1.out hNe.out hGrow.out hOwn.out hWh.out ng | with_reducible exact mid_b B3.out (Below.alloc (Below.refl _ _) (Nat.le_refl _) _).drew (by simp) HGr.out hBg HAl1.out hNe.out hGrow.out hOwn.out hWh.out ng
  case rest =>
  have Hcut:=hid hcut
  obtain ⟨_,⟨al',hm2,_,_⟩,_⟩:=hcut
  have k8 : wc.cell? ⟨g,o + 8,none⟩ = some c8:=by
   rw [cell_of_row wc g (o + 8) _ _ (0,0) hm2,Array.getElem?_setIfInBounds,if_neg (by omega),Array.getElem?_setIfInBounds,if_neg (by omega)]
   exact hc8
  have f8 : wc.frozen? ⟨g,o + 8,none⟩ = false:=Lib.frozen_of_heap hm2 (o + 8)
  clear hm2
  go_wp2
  go_ret
  have hE:=added_end (nv:=Value.map none) (nv':=.map (some b2)) HB6.out HK6.out HGr.out hBg HAl1.out HNm6.out HNv.out Hcut.out
  exact ⟨rfl,hE.1,fun _=>hE.2⟩
  --END1
 case inr =>
  obtain ⟨D0,hD01,hD02,hD03⟩:=hN
  have hN : NamesAt w b2 n seen:=⟨D0,hD01,hD02,hD03⟩
  obtain ⟨z,hz⟩ : ∃ z,memB X seen = z:=⟨_,rfl⟩
  have hl0 : ∀ W,W.heap[b2]? = w.heap[b2]? -> (Instr.lookup 264 (.map (some b2)) (.string X) true).run Tryz.prog W = .ok (.tuple #[.agg #[],.bool z]) W:=fun W hW=>by
   obtain ⟨es,clock,h1,h2⟩:=hD01
   obtain ⟨v,ps,hrun,hv⟩:=World.ownsMap.look_ok (w:=W) (zd:=.agg []) (zp:=[]) ⟨es,clock,hW.trans h1,h2⟩ keyLaw Tryz.underlying264 (zeroUnit W) unitElem_mk hkey
   obtain ⟨rfl,_⟩:=unitElem_inv hv
   rw [hrun,hD02 X,hz]
  have hbl : b2 < w.heap.size:=by obtain ⟨es,clock,h1,h2⟩:=hD01; exact (Array.getElem?_eq_some_iff.1 h1).1
  have hlook1 : ∀ o1,(Instr.lookup 264 (.map (some b2)) (.string X) true).run Tryz.prog (w.alloc o1).drew = .ok (.tuple #[.agg #[],.bool z]) (w.alloc o1).drew:=fun o1=>hl0 _ (Lib.alloc_old _ _ b2 hbl)
  have hlook2 : ∀ o1 o2,(Instr.lookup 264 (.map (some b2)) (.string X) true).run Tryz.prog ((w.alloc o1).alloc o2).drew = .ok (.tuple #[.agg #[],.bool z]) ((w.alloc o1).alloc o2).drew:=fun o1 o2=>hl0 _ ((Lib.alloc_old _ _ b2 (by rw [World.size_alloc]; omega)).trans (Lib.alloc_old _ _ b2 hbl))
  have heq : ∀ W,(binOp .eql 264 (.map (some b2)) (.map none)).run Tryz.prog W = .ok (.bool false) W:=fun W=>run_eql_map_nil W _ _ _ (some b2) Tryz.underlying264
  have HKey:=hid hkey
  have HN:=hid hN
  have Hz:=hid hz
  rw [hz]
  clear hkey hN hz hl0 hD01 hD02 hD03
  cases z
  case true =>
   go_enter Tryz.func266,Tryz.ntmps266
   go_wp2_with fail
   go_region
   go_wp2
   go_ret
   exact ⟨rfl,(((Below.refl B w).alloc hBw _).alloc (by rw [World.size_alloc]; omega) _).drew,fun h=>by cases h⟩
  go_enter Tryz.func266,Tryz.ntmps266
  go_wp2_with fail
  go_region
  generalize hW1 : World.drew _ = W2
  have hb1 : Below w.heap.size w W2:=by
   rw [<- hW1]
   exact (((Below.refl _ w).alloc (Nat.le_refl _) _).alloc (by simp) _).drew
  have hbx2 : BoxAt W2 w.heap.size #[.string X,.int .i64 k,.string t,.string nn,.string a,.slice A1 n1 c1,.pointer p,.slice A2 n2 c2] 127:=by
   rw [<- hW1]
   exact (BoxAt.new w _ _).alloc _
  clear hW1
  have hg2 : W2.heap[g]? = some (.cells (cs.setIfInBounds (o + 7) (.map (some b2))) 369 (0,0)):=by
   rw [hset]
   exact (hb1.block g hgl).trans HG.out
  have e7 : W2.cell? ⟨g,o + 7,none⟩ = some (.map (some b2)):=(hb1.cell (p:=⟨g,o + 7,none⟩) hgl).trans d7
  have q0:=hbx2.cell 0
  simp at q0
  have hb2 : Below B w W2:=hb1.mono hBw
  have hk2 : ∀ k,k < w.heap.size -> k ≠ g -> W2.heap[k]? = w.heap[k]?:=fun k hk _=>hb1.block k hk
  have hal2 : W2.ownsRow B 127 8 (.slice Al n cl) n ys:=row_blocks HAl.out fun bb hbb=>hb1.block bb (HAl.out.lt bb hbb).2
  have hN2 : NamesAt W2 b2 n seen:=HN.out.later hb1
  have hnb:=hb
  have hnv : (Value.map (some b2)) = Value.map (some b2) ∨ ∃ b',Value.map (some b2) = .map (some b') /\ w.heap.size <= b':=.inl rfl
  have hsz2 : w.heap.size < W2.heap.size:=hbx2.lt
  have hzM : memB X seen = false:=Hz.out
  have hkb : ∀ k,k < w.heap.size -> Value.map (some b2) ≠ .map (some k) -> k ≠ b2:=fun k _ h e=>h (by rw [e])
  go_wp2_with fail
  --TAIL2
  have hgl2:=(Array.getElem?_eq_some_iff.1 hg2).1
  have hmp:=owns_map hN2.choose_spec.1
  obtain ⟨D,hD1,hD2,hD3⟩:=hN2
  have e7' : W2.cell? ⟨g,o + 7,none⟩ = some (.map (some b2)):=by
   rw [cell_of_row W2 g (o + 7) _ _ (0,0) hg2,Array.getElem?_setIfInBounds,if_pos rfl,if_pos (by omega)]
  have qX:=hbx2.cell 0
  simp at qX
  have him : n < maxLen:=by unfold maxLen; omega
  have HD1:=hid hD1
  have HD2:=hid hD2
  have HD3:=hid hD3
  have HIm:=hid him
  have HG2:=hid hg2
  have HBx2:=hid hbx2
  have HMp:=hid hmp
  have HAl2:=hid hal2
  have HB2:=hid hb2
  have HK2:=hid hk2
  have HKB:=hid hkb
  have HNv:=hid hnv
  have HZM:=hid hzM
  have Hsz2:=hid hsz2
  have Hnb:=hid hnb
  clear hD1 hD2 hD3 him hg2 hbx2 hmp hal2 hb2 hk2 hkb hnv hzM hsz2 hnb
  go_still_tail 7,(by kernel_rfl)
  change wpList _ _ _ _ _ W2.drew
  go_wp2_with (at_mapUpdate; refine wpList_mapUpdate_own _ rfl _ _ _ 264 rfl 9 148 keyLaw Tryz.underlying264 (unitElem (H:=Unit)) b2 n D rfl HD1.out.drew HIm.out _ _ _ rfl rfl HKey.out _ [] unitElem_mk ?_; intro w6 hown6 hg6; skip)
  have hput:=names_put (HD1.out.tidy keyLaw) HD2.out HD3.out X HZM.out (.agg [])
  have hgr : w6.heap[g]? = some (.cells (cs.setIfInBounds (o + 7) (.map (some b2))) 369 (0,0)):=grown_cells hg6 HMp.out HG2.out
  have hbox : BoxAt w6 w.heap.size #[.string X,.int .i64 k,.string t,.string nn,.string a,.slice A1 n1 c1,.pointer p,.slice A2 n2 c2] 127:=grown_cells hg6 HMp.out HBx2.out
  have hb6 : Below B w w6:=HB2.out.drew.grown hg6 (Nat.le_trans hBw HB2.out.size) (fun kk e=>by have:=Option.some.inj e; have:=Hnb.out; omega)
  have hk6 : ∀ k,k < w.heap.size -> k ≠ g -> Value.map (some b2) ≠ .map (some k) -> w6.heap[k]? = w.heap[k]?:=fun k h1 h2 h3=>by
   rw [hg6.block k (show k < W2.heap.size from Nat.lt_trans h1 Hsz2.out) (fun e=>HKB.out k h1 h3 (Option.some.inj e))]
   exact HK2.out k h1 h2
  have hal6 : w6.ownsRow B 127 8 (.slice Al n cl) n ys:=row_blocks HAl2.out fun b hb=>hg6.block b (show b < W2.heap.size from (HAl2.out.lt b hb).2) (fun e=>by
   obtain ⟨c0,t0,fz,hh⟩:=own_cells HAl2.out hb
   obtain ⟨es,c,hm⟩:=HMp.out
   have:=Option.some.inj e
   subst this
   rw [hm] at hh; cases hh)
  have hnm6 : NmOk B w6 (.map (some b2)) (X :: seen) (n + 1):=.inr ⟨b2,rfl,Hnb.out,by simp,D.put (.string X.data.toList) (.agg []),hown6,hput.1,hput.2⟩
  have hbl:=hbox.lt
  have hg6l:=(Array.getElem?_eq_some_iff.1 hgr).1
  have e4 : w6.cell? ⟨g,o + 4,none⟩ = some (.slice Al n cl):=by
   rw [cell_of_row w6 g (o + 4) _ _ (0,0) hgr,Array.getElem?_setIfInBounds,if_neg (by omega)]
   exact Hc4.out
  obtain ⟨q0,q1,q2,q3,q4,q5,q6,q7,p0,p1,p2,p3,p4,p5,p6,p7⟩:=cells8 hbox
  have HGr:=hid hgr
  have HB6:=hid hb6
  have HK6:=hid hk6
  have HAl1:=hid hal6
  have HNm6:=hid hnm6
  clear hput hgr hbox hb6 hk6 hal6 hnm6 hown6 hg6 qX e7' hgl2
  have hn0 : (n : Int) <= 1000000000:=by omega
  have fg : ∀ j,w6.frozen? ⟨g,j,none⟩ = false:=fun j=>Lib.frozen_of_heap HGr.out j
  have hAL:=hid HAl1.out.1
  have hg1 : g < w6.heap.size:=hg6l
  have E4:=hid (fun ob : Obj=>(((Below.refl w6.heap.size w6).alloc (Nat.le_refl _) ob).cell (p:=⟨g,o + 4,none⟩) hg1).trans e4)
  have hG2:=hid (fun ob : Obj=>show g < (w6.alloc ob).heap.size by rw [World.size_alloc]; omega)
  have F4:=hid (fun ob : Obj=>(((Below.refl w6.heap.size w6).alloc (Nat.le_refl _) ob).frozen (p:=⟨g,o + 4,none⟩) hg1).trans (fg (o + 4)))
  have x1 : (n : Int) < (n : Int) + 1:=by omega
  have x2 : (n : Int) < ((n + 1 : Nat) : Int):=by omega
  have x3 : (0 : Int) <= (n : Int):=by omega
  have B1:=hid (show n + 1 <= maxLen by unfold maxLen; omega)
  have B2:=hid (show (n + 1) * 128 <= 140737488355328 by omega)
  have B3:=hid (show B <= w6.heap.size by omega)
  go_wp2_with fail
  dsimp only [Act.put]
  go_cut [] (fun wx=>AddMid B g o (cs.setIfInBounds (o + 7) (.map (some b2))) (.slice Al n cl) n ys [.string X,.int .i64 k,.string t,.string nn,.string a,.slice A1 n1 c1,.pointer p,.slice A2 n2 c2] w6 wx)
  case first =>
   go_region_law (refine step_append_own rfl (.tmp 57) (.tmp 60) 45 rfl B 127 i0 (.agg #[.string ⟨#[]⟩,.int .i64 0,.string ⟨#[]⟩,.string ⟨#[]⟩,.string ⟨#[]⟩,.slice none 0 0,.pointer none,.slice none 0 0]) 8 128 Tryz.underlying45 hi0 hz0 hz1 hz2 rfl (by decide) (.slice Al n cl) n ys (by simp [Act.eval,Act.put]) (HAl1.out.drew.alloc _) ⟨w6.heap.size,0,none⟩ 1 1 [.string ⟨#[]⟩,.int .i64 0,.string ⟨#[]⟩,.string ⟨#[]⟩,.string ⟨#[]⟩,.slice none 0 0,.pointer none,.slice none 0 0] (by simp [Act.eval,Act.put]) rfl (new8 _ _) (by simp [Value.oneCell']) B1.out B2.out (by show B <= (w6.alloc _).heap.size; rw [World.size_alloc]; exact Nat.le_succ_of_le B3.out) (by decide) ?_; intro v' w' hown hgrow hwh; obtain ⟨gA,cA,rfl⟩:=own_some hown; have hZ:=hown.1; have s0:=row_at0 hown (ys:=ys) hAL.out _ rfl; have s1:=row_at hown (ys:=ys) hAL.out 1 _ rfl; have s2:=row_at hown (ys:=ys) hAL.out 2 _ rfl; have s3:=row_at hown (ys:=ys) hAL.out 3 _ rfl; have s4:=row_at hown (ys:=ys) hAL.out 4 _ rfl; have s5:=row_at hown (ys:=ys) hAL.out 5 _ rfl; have s6:=row_at hown (ys:=ys) hAL.out 6 _ rfl; have s7:=row_at hown (ys:=ys) hAL.out 7 _ rfl; have sf:=fun j=>hown.frozenAt j; have s4':=hgrow.cell (a:=⟨g,o + 4,none⟩) (E4.out _) hNe.out; have ng:=own_ne hwh hNe.out (hG2.out _); have ng2:=own_ne' hwh hNe.out (hG2.out _); have f4':=(World.frozen?_of_block (a:=⟨g,o + 4,none⟩) (hgrow.block g (hG2.out _) hNe.out)).trans (F4.out _); have hOwn:=hid hown; have hGrow:=hid hgrow; have hWh:=hid hwh; clear hown hgrow hwh)
   all_goals (go_wp2_with fail; go_meet)
   all_goals first | with_reducible exact mid_a B3.out (Below.alloc (Below.refl _ _) (Nat.le_refl _) _).drew (by simp) HGr.out hBg HAl1.out hNe.out hGrow.out hOwn.out hWh.out ng | with_reducible exact mid_b B3.out (Below.alloc (Below.refl _ _) (Nat.le_refl _) _).drew (by simp) HGr.out hBg HAl1.out hNe.out hGrow.out hOwn.out hWh.out ng
  case rest =>
  have Hcut:=hid hcut
  obtain ⟨_,⟨al',hm2,_,_⟩,_⟩:=hcut
  have k8 : wc.cell? ⟨g,o + 8,none⟩ = some c8:=by
   rw [cell_of_row wc g (o + 8) _ _ (0,0) hm2,Array.getElem?_setIfInBounds,if_neg (by omega),Array.getElem?_setIfInBounds,if_neg (by omega)]
   exact hc8
  have f8 : wc.frozen? ⟨g,o + 8,none⟩ = false:=Lib.frozen_of_heap hm2 (o + 8)
  clear hm2
  go_wp2
  go_ret
  have hE:=added_end (nv:=Value.map (some b2)) (nv':=.map (some b2)) HB6.out HK6.out HGr.out hBg HAl1.out HNm6.out (.inl rfl) Hcut.out
  exact ⟨rfl,hE.1,fun _=>hE.2⟩
  --END2
theorem add_any {B g o : Nat} (cs : Array Value) (al nv : Value) (n : Nat) (ys : List Value) (seen : List ByteArray) (X : ByteArray) (k : Int) (t nn a : ByteArray) (A1 : Option Addr) (n1 c1 : Nat) (p : Option Addr) (A2 : Option Addr) (n2 c2 : Nat) (w : World)
  (hg : w.heap[g]? = some (.cells cs 369 (0,0))) (hBg : B <= g) (ho : o + 9 <= cs.size) (hc4 : cs[o + 4]? = some al) (hc7 : cs[o + 7]? = some nv) {c8 : Value} (hc8 : cs[o + 8]? = some c8) (hal : w.ownsRow B 127 8 al n ys) (hne : al.ownBlock ≠ some g) (hnm : NmOk B w nv seen n) (hn : n <= 1000000000) (hX : X.size <= 1000000000) (ho2 : o <= 100000000000) :
  Calls Tryz.prog 266 #[.pointer (some ⟨g,o,none⟩),arV X k t nn a A1 n1 c1 p A2 n2 c2] w fun e w' =>
   e = .returned (.bool (if emp X = true then decide (seen.length = 0) && !((k == 4) && !emp a) else !memB X seen)) /\ Below B w w' /\
   ((if emp X = true then decide (seen.length = 0) && !((k == 4) && !emp a) else !memB X seen) = true -> Added B g o cs al nv n ys (if emp X = true then seen else X :: seen) [.string X,.int .i64 k,.string t,.string nn,.string a,.slice A1 n1 c1,.pointer p,.slice A2 n2 c2] w w'):=by
 by_cases h : emp X = true
 ·rw [if_pos h,if_pos h]
  exact add_empty cs al nv n ys seen X k t nn a A1 n1 c1 p A2 n2 c2 w hg hBg ho hc4 hc7 hc8 hal hne hnm hn hX ho2 h
 ·rw [if_neg h,if_neg h]
  exact add_named cs al nv n ys seen X k t nn a A1 n1 c1 p A2 n2 c2 w hg hBg ho hc4 hc7 hc8 hal hne hnm hn hX ho2 (by simpa using h)
end Go.Proofs.YtgdkpamlkpncgaaGreatDoor
