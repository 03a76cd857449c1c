/-
  Several texts put together (part 33): what the law and the program call, walked; their contracts.
-/
import Derived.Test.YtgdkpamlkpncgaaGreatDoorR32
import Derived.Test.YtgdkpamlkpncgaaGreatDoorR25
namespace Go.Proofs.YtgdkpamlkpncgaaGreatDoor
open Go.RowKit
set_option linter.unusedVariables false
set_option linter.unusedSimpArgs false
def QEV (W : World) (b : Nat) (x : EV) (o : Nat) : Prop:=b < W.heap.size /\ (∀ (i : Nat) (y : Value),x.cells[i]? = some y -> W.cell? ⟨b,o + i,none⟩ = some y) /\ PatAt W x.val (.slice x.A x.val.length x.c) /\ LieAt (TsAt W x.ats) (.slice x.A2 x.ats.length x.c2) x.ats.length
theorem sum_max : ∀ l : List EV,l.length <= sumOf (fun x=>max 1 x.sz) l /\ wtsE l <= sumOf (fun x=>max 1 x.sz) l
 | []=>⟨Nat.le_refl _,Nat.le_refl _⟩
 | x :: r=>by
  have:=sum_max r
  rw [sumOf,wtsE,List.length_cons]
  omega
theorem open_entries {H : Type} {enc : TypeId × Value -> H} {W : World} {sp : Nat -> Bool} {held : Bool} {n : Nat} {cs : List Value} {x : DataW H × List MemPlace} (h : DataW.trod enc Tryz.prog W 0 sp held n 22 cs = some x) :
  ∃ (l : List EV) (A : Option Addr) (c : Nat),cs = [.slice A l.length c] /\ (∃ lb lo,(0 < l.length -> A = some ⟨lb,lo,none⟩) /\ (0 < l.length -> CellsN W lb lo l)) /\
   (∀ x ∈ l,PatAt W x.val (.slice x.A x.val.length x.c) /\ LieAt (TsAt W x.ats) (.slice x.A2 x.ats.length x.c2) x.ats.length) /\ l.length <= Rows.uptoBulk x.1 /\ wtsE l <= Rows.uptoBulk x.1:=by
 obtain ⟨v,l,rfl,⟨A,c,rfl,h1,h2,h3⟩,hs⟩:=slice_open (k:=8) (by decide) Tryz.underlying22 many_cells.2.2.2.2.2 (QEV W) (fun x=>max 1 x.sz) (fun m hm cs y hy b o hb hc=>by
  obtain ⟨ty,level,text,name,val,ats,v,u,fr,tu,rfl,hp,hu,hsz⟩:=open_entry hy
  obtain ⟨A,c,rfl,hp2⟩:=hp
  obtain ⟨A2,c2,rfl,hu2⟩:=hu
  refine ⟨⟨ty,level,text,name,val,ats,A,c,A2,c2,fr,tu⟩,⟨hb,fun i y hy=>?_,⟨A,c,rfl,hp2⟩,⟨A2,c2,rfl,hu2⟩⟩,?_⟩
  ·have hi : i < 8:=(List.getElem?_eq_some_iff.1 hy).1
   rw [hc i hi]
   exact hy
  ·have:=bulk_pos (d:=y.1)
   unfold EV.sz
   dsimp only
   omega) h
 have hm:=sum_max l
 by_cases h0 : 0 < l.length
 ·obtain ⟨b,o,rfl,hq⟩:=h3 h0
  refine ⟨l,_,c,rfl,⟨b,o,fun _=>rfl,fun _=>⟨?_,fun j x hj i y hy=>?_⟩⟩,fun x hx=>?_,by omega,by omega⟩
  ·exact (hq 0 _ (List.getElem?_eq_getElem h0)).1
  ·exact (hq j x hj).2.1 i y hy
  ·obtain ⟨j,hj⟩:=List.getElem?_of_mem hx
   exact (hq j x hj).2.2
 ·refine ⟨l,A,c,rfl,⟨0,0,fun h=>absurd h h0,fun h=>absurd h h0⟩,fun x hx=>?_,by omega,by omega⟩
  have : 0 < l.length:=List.length_pos_of_mem hx
  exact absurd this h0
end Go.Proofs.YtgdkpamlkpncgaaGreatDoor
