/-
  Several texts put together (part 10): what the law and the program call, walked; their contracts.
-/
import Derived.Test.YtgdkpamlkpncgaaGreatDoorR5
import Derived.Deep.RegionLaw
import Derived.Deep.RegionHeld3
namespace Go.Proofs.YtgdkpamlkpncgaaGreatDoor
open Go.RowKit
open _root_.Go.Lib (hid)
set_option linter.unusedVariables false
set_option linter.unusedSimpArgs false
theorem EsAt.at2 {W : World} : ∀ {l : List EL} {b o : Nat} (j : Nat) {t : ByteArray} {p : Option EX},EsAt W l b o -> l[j]? = some (.mk t p) ->
  b < W.heap.size /\ W.cell? ⟨b,o + j * 2,none⟩ = some (.string t) /\ ∃ u,W.cell? ⟨b,o + j * 2 + 1,none⟩ = some u /\ OAt W p u
 | [],b,o,j,t,p,h,hj=>by simp at hj
 | .mk t' p' :: r,b,o,0,t,p,h,hj=>by
  rw [EsAt] at h
  simp at hj
  obtain ⟨rfl,rfl⟩:=hj
  obtain ⟨h0,h1,h2,_⟩:=h
  exact ⟨h0,by simpa using h1,by simpa using h2⟩
 | .mk t' p' :: r,b,o,j + 1,t,p,h,hj=>by
  rw [EsAt] at h
  have:=EsAt.at2 j h.2.2.2 (by simpa using hj)
  rw [show o + (j + 1) * 2 = o + 2 + j * 2 by omega]
  exact this
theorem pat_at2 {W : World} {l : List EL} {v : Value} (h : PatAt W l v) {i : Nat} (hi : i < l.length) : ∃ b o c,v = .slice (some ⟨b,o,none⟩) l.length c /\ b < W.heap.size /\
  ∀ j t p,l[j]? = some (.mk t p) -> W.cell? ⟨b,o + j * 2,none⟩ = some (.string t) /\ ∃ u,W.cell? ⟨b,o + j * 2 + 1,none⟩ = some u /\ OAt W p u:=by
 obtain ⟨A,c,rfl,_,_,h2⟩:=h
 obtain ⟨b,o,rfl,h3⟩:=h2 (by omega)
 have h0 : l[0]? = some l[0]:=List.getElem?_eq_getElem (by omega)
 refine ⟨b,o,c,rfl,?_,fun j t p hj=>⟨(h3.at2 j hj).2.1,(h3.at2 j hj).2.2⟩⟩
 cases e : l[0]'(by omega) with
 | mk t p=>rw [e] at h0; exact (h3.at2 0 h0).1
theorem cell_under {W W' : World} (hb : Below W.heap.size W W') {b o : Nat} {v : Value} (h : W.cell? ⟨b,o,none⟩ = some v) : W'.cell? ⟨b,o,none⟩ = some v:=(hb.cell (p:=⟨b,o,none⟩) (World.block_lt_of_cell? W _ h)).trans h
def SameTo (W0 : World) (e : EX) : Prop:=∀ (w : World) (c1 c2 : C7),Below W0.heap.size W0 w -> ExAt W0 e c1 -> ExAt W0 e c2 -> Calls Tryz.prog 45 #[.agg c1.arr,.agg c2.arr] w fun e w'=>e = .returned (.bool true) /\ Below w.heap.size w w'
set_option maxHeartbeats 8000000 in
set_option maxRecDepth 1000000 in
theorem pats_any {W0 : World} (l : List EL) {v1 v2 : Value} (h1 : PatAt W0 l v1) (h2 : PatAt W0 l v2) (hl : l.length <= 8000000) (hS : ∀ t e,EL.mk t (some e) ∈ l -> SameTo W0 e) (w : World) (hb : Below W0.heap.size W0 w) :
  Calls Tryz.prog 26 #[v1,v2] w fun e w'=>e = .returned (.bool true) /\ Below w.heap.size w w':=by
 have hg1:=fun i (hi : i < l.length)=>pat_at2 h1 hi
 have hg2:=fun i (hi : i < l.length)=>pat_at2 h2 hi
 obtain ⟨A1,c1,rfl,_⟩:=h1
 obtain ⟨A2,c2,rfl,_⟩:=h2
 have HG1:=hid hg1
 have HG2:=hid hg2
 have HS:=hid hS
 have HB:=hid hb
 have hl0 : (l.length : Int) <= 8000000:=by omega
 have d0 : ((l.length : Int) != (l.length : Int)) = false:=bne_self_eq_false _
 clear hg1 hg2 hS hb
 go_enter Tryz.func26,Tryz.ntmps26
 go_wp2
 go_loopw [15] (fun t15 wr=>∃ i : Nat,t15 = .int .i64 i /\ i <= l.length /\ Hid (Below w.heap.size w wr)) (fun t15 _=>l.length - (intOf t15).toNat)
 case atStart=>exact ⟨0,rfl,Nat.zero_le _,Below.refl _ _⟩
 case round =>
  obtain ⟨i,rfl,hi,HBel⟩:=hrel
  have hi0 : (i : Int) <= 8000000:=by omega
  by_cases hlt : i < l.length
  case neg =>
   have d1 : decide ((i : Int) < (l.length : Int)) = false:=decide_eq_false (by omega)
   have d2 : ¬ (i : Int) < (l.length : Int):=by omega
   go_wp2
   go_ret
   exact ⟨rfl,HBel.out⟩
  have d1 : decide ((i : Int) < (l.length : Int)) = true:=decide_eq_true (by omega)
  have d2 : (i : Int) < (l.length : Int):=by omega
  obtain ⟨b1,o1,c1',e1',hb1,g1⟩:=HG1.out i hlt
  obtain ⟨b2,o2,c2',e2',hb2,g2⟩:=HG2.out i hlt
  cases e1'
  cases e2'
  have hli : l[i]? = some l[i]:=List.getElem?_eq_getElem hlt
  have hmem : l[i] ∈ l:=List.getElem_mem hlt
  obtain ⟨t,p,hx⟩ : ∃ t p,l[i] = EL.mk t p:=by cases h : l[i]; exact ⟨_,_,rfl⟩
  rw [hx] at hli hmem
  obtain ⟨k1,u1,k2,ho1⟩:=g1 i t p hli
  obtain ⟨m1,u2,m2,ho2⟩:=g2 i t p hli
  have hcell : ∀ (b o : Nat) v,b < W0.heap.size -> W0.cell? ⟨b,o,none⟩ = some v -> wr.cell? ⟨b,o,none⟩ = some v:=fun b o v hb h =>
   (HBel.out.cell (p:=⟨b,o,none⟩) (Nat.lt_of_lt_of_le hb HB.out.size)).trans ((HB.out.cell (p:=⟨b,o,none⟩) hb).trans h)
  have e1:=hcell _ _ _ hb1 k1
  have e1p:=hcell _ _ _ hb1 k2
  have e2:=hcell _ _ _ hb2 m1
  have e2p:=hcell _ _ _ hb2 m2
  have hbw1 : b1 < wr.heap.size:=Nat.lt_of_lt_of_le hb1 (Nat.le_trans HB.out.size HBel.out.size)
  have hbw2 : b2 < wr.heap.size:=Nat.lt_of_lt_of_le hb2 (Nat.le_trans HB.out.size HBel.out.size)
  have Hcell:=hid hcell
  have Hmem:=hid hmem
  clear hcell hmem hli hx k1 k2 m1 m2 g1 g2 hb1 hb2
  cases p with
  | none =>
   simp only [OAt] at ho1 ho2
   subst ho1
   subst ho2
   go_wp2_with fail
   go_region
   all_goals (go_wp2_with fail)
   refine ⟨⟨i + 1,by go_num,hlt,?_⟩,by simp [intOf]; omega⟩
   exact hid HBel.out.drew
  | some e =>
   simp only [OAt] at ho1 ho2
   obtain ⟨x1,y1,k1,rfl,hx1,hk1,hE1⟩:=ho1
   obtain ⟨x2,y2,k2,rfl,hx2,hk2,hE2⟩:=ho2
   have hSm:=HS.out t e Hmem.out
   obtain ⟨k1k,k1t,k1n,k1a,k1A,k1m,k1q,k1p,k1B,k1r,k1s,rfl⟩:=ex_shape hE1
   obtain ⟨k2k,k2t,k2n,k2a,k2A,k2m,k2q,k2p,k2B,k2r,k2s,rfl⟩:=ex_shape hE2
   obtain ⟨f0,f1,f2,f3,f4,f5,f6⟩:=hk1
   obtain ⟨g0,g1,g2,g3,g4,g5,g6⟩:=hk2
   dsimp only at f0 f1 f2 f3 f4 f5 f6 g0 g1 g2 g3 g4 g5 g6
   have F0:=Hcell.out _ _ _ hx1 f0
   have F1:=Hcell.out _ _ _ hx1 f1
   have F2:=Hcell.out _ _ _ hx1 f2
   have F3:=Hcell.out _ _ _ hx1 f3
   have F4:=Hcell.out _ _ _ hx1 f4
   have F5:=Hcell.out _ _ _ hx1 f5
   have F6:=Hcell.out _ _ _ hx1 f6
   have G0:=Hcell.out _ _ _ hx2 g0
   have G1:=Hcell.out _ _ _ hx2 g1
   have G2:=Hcell.out _ _ _ hx2 g2
   have G3:=Hcell.out _ _ _ hx2 g3
   have G4:=Hcell.out _ _ _ hx2 g4
   have G5:=Hcell.out _ _ _ hx2 g5
   have G6:=Hcell.out _ _ _ hx2 g6
   have hC0:=fun W hB=>hSm W _ _ hB hE1 hE2
   dsimp only [C7.arr] at hC0
   have hC : ∀ W : World,W.cell? ⟨b1,o1 + i * 2,none⟩ = some (.string t) /\ W.cell? ⟨b2,o2 + i * 2,none⟩ = some (.string t) /\ W.cell? ⟨x1,y1,none⟩ = some (.int .i64 k1k) /\ W.cell? ⟨x1,y1 + 1,none⟩ = some (.string k1t) /\ W.cell? ⟨x1,y1 + 2,none⟩ = some (.string k1n) /\ W.cell? ⟨x1,y1 + 3,none⟩ = some (.string k1a) /\ W.cell? ⟨x1,y1 + 4,none⟩ = some (.slice k1A k1m k1q) /\ W.cell? ⟨x1,y1 + 5,none⟩ = some (.pointer k1p) /\ W.cell? ⟨x1,y1 + 6,none⟩ = some (.slice k1B k1r k1s) /\ W.cell? ⟨x2,y2,none⟩ = some (.int .i64 k2k) /\ W.cell? ⟨x2,y2 + 1,none⟩ = some (.string k2t) /\ W.cell? ⟨x2,y2 + 2,none⟩ = some (.string k2n) /\ W.cell? ⟨x2,y2 + 3,none⟩ = some (.string k2a) /\ W.cell? ⟨x2,y2 + 4,none⟩ = some (.slice k2A k2m k2q) /\ W.cell? ⟨x2,y2 + 5,none⟩ = some (.pointer k2p) /\ W.cell? ⟨x2,y2 + 6,none⟩ = some (.slice k2B k2r k2s) /\ Below wr.heap.size wr W -> Calls Tryz.prog 45 #[.agg #[.int .i64 k1k,.string k1t,.string k1n,.string k1a,.slice k1A k1m k1q,.pointer k1p,.slice k1B k1r k1s],.agg #[.int .i64 k2k,.string k2t,.string k2n,.string k2a,.slice k2A k2m k2q,.pointer k2p,.slice k2B k2r k2s]] W fun e w'=>e = .returned (.bool true) /\ Below W.heap.size W w':=fun W h=>hC0 W ((HB.out.trans (HBel.out.mono HB.out.size)).trans (h.2.2.2.2.2.2.2.2.2.2.2.2.2.2.2.2.mono (Nat.le_trans HB.out.size HBel.out.size)))
   have hK : ∀ W W' : World,(W.cell? ⟨b1,o1 + i * 2,none⟩ = some (.string t) /\ W.cell? ⟨b2,o2 + i * 2,none⟩ = some (.string t) /\ W.cell? ⟨x1,y1,none⟩ = some (.int .i64 k1k) /\ W.cell? ⟨x1,y1 + 1,none⟩ = some (.string k1t) /\ W.cell? ⟨x1,y1 + 2,none⟩ = some (.string k1n) /\ W.cell? ⟨x1,y1 + 3,none⟩ = some (.string k1a) /\ W.cell? ⟨x1,y1 + 4,none⟩ = some (.slice k1A k1m k1q) /\ W.cell? ⟨x1,y1 + 5,none⟩ = some (.pointer k1p) /\ W.cell? ⟨x1,y1 + 6,none⟩ = some (.slice k1B k1r k1s) /\ W.cell? ⟨x2,y2,none⟩ = some (.int .i64 k2k) /\ W.cell? ⟨x2,y2 + 1,none⟩ = some (.string k2t) /\ W.cell? ⟨x2,y2 + 2,none⟩ = some (.string k2n) /\ W.cell? ⟨x2,y2 + 3,none⟩ = some (.string k2a) /\ W.cell? ⟨x2,y2 + 4,none⟩ = some (.slice k2A k2m k2q) /\ W.cell? ⟨x2,y2 + 5,none⟩ = some (.pointer k2p) /\ W.cell? ⟨x2,y2 + 6,none⟩ = some (.slice k2B k2r k2s) /\ Below wr.heap.size wr W) -> Below W.heap.size W W' -> W'.cell? ⟨b1,o1 + i * 2,none⟩ = some (.string t) /\ W'.cell? ⟨b2,o2 + i * 2,none⟩ = some (.string t) /\ W'.cell? ⟨x1,y1,none⟩ = some (.int .i64 k1k) /\ W'.cell? ⟨x1,y1 + 1,none⟩ = some (.string k1t) /\ W'.cell? ⟨x1,y1 + 2,none⟩ = some (.string k1n) /\ W'.cell? ⟨x1,y1 + 3,none⟩ = some (.string k1a) /\ W'.cell? ⟨x1,y1 + 4,none⟩ = some (.slice k1A k1m k1q) /\ W'.cell? ⟨x1,y1 + 5,none⟩ = some (.pointer k1p) /\ W'.cell? ⟨x1,y1 + 6,none⟩ = some (.slice k1B k1r k1s) /\ W'.cell? ⟨x2,y2,none⟩ = some (.int .i64 k2k) /\ W'.cell? ⟨x2,y2 + 1,none⟩ = some (.string k2t) /\ W'.cell? ⟨x2,y2 + 2,none⟩ = some (.string k2n) /\ W'.cell? ⟨x2,y2 + 3,none⟩ = some (.string k2a) /\ W'.cell? ⟨x2,y2 + 4,none⟩ = some (.slice k2A k2m k2q) /\ W'.cell? ⟨x2,y2 + 5,none⟩ = some (.pointer k2p) /\ W'.cell? ⟨x2,y2 + 6,none⟩ = some (.slice k2B k2r k2s) /\ Below wr.heap.size wr W':=fun W W' ⟨a0,a1,a2,a3,a4,a5,a6,a7,a8,a9,a10,a11,a12,a13,a14,a15,hB⟩ hb =>
    ⟨cell_under hb a0,cell_under hb a1,cell_under hb a2,cell_under hb a3,cell_under hb a4,cell_under hb a5,cell_under hb a6,cell_under hb a7,cell_under hb a8,cell_under hb a9,cell_under hb a10,cell_under hb a11,cell_under hb a12,cell_under hb a13,cell_under hb a14,cell_under hb a15,hB.trans (hb.mono hB.size)⟩
   have hS0 : wr.drew.cell? ⟨b1,o1 + i * 2,none⟩ = some (.string t) /\ wr.drew.cell? ⟨b2,o2 + i * 2,none⟩ = some (.string t) /\ wr.drew.cell? ⟨x1,y1,none⟩ = some (.int .i64 k1k) /\ wr.drew.cell? ⟨x1,y1 + 1,none⟩ = some (.string k1t) /\ wr.drew.cell? ⟨x1,y1 + 2,none⟩ = some (.string k1n) /\ wr.drew.cell? ⟨x1,y1 + 3,none⟩ = some (.string k1a) /\ wr.drew.cell? ⟨x1,y1 + 4,none⟩ = some (.slice k1A k1m k1q) /\ wr.drew.cell? ⟨x1,y1 + 5,none⟩ = some (.pointer k1p) /\ wr.drew.cell? ⟨x1,y1 + 6,none⟩ = some (.slice k1B k1r k1s) /\ wr.drew.cell? ⟨x2,y2,none⟩ = some (.int .i64 k2k) /\ wr.drew.cell? ⟨x2,y2 + 1,none⟩ = some (.string k2t) /\ wr.drew.cell? ⟨x2,y2 + 2,none⟩ = some (.string k2n) /\ wr.drew.cell? ⟨x2,y2 + 3,none⟩ = some (.string k2a) /\ wr.drew.cell? ⟨x2,y2 + 4,none⟩ = some (.slice k2A k2m k2q) /\ wr.drew.cell? ⟨x2,y2 + 5,none⟩ = some (.pointer k2p) /\ wr.drew.cell? ⟨x2,y2 + 6,none⟩ = some (.slice k2B k2r k2s) /\ Below wr.heap.size wr wr.drew:=⟨e1,e2,F0,F1,F2,F3,F4,F5,F6,G0,G1,G2,G3,G4,G5,G6,(Below.refl _ _).drew⟩
   have HC:=hid hC
   have HK:=hid hK
   have HS0:=hid hS0
   clear hC hC0 hK hS0 f0 f1 f2 f3 f4 f5 f6 g0 g1 g2 g3 g4 g5 g6 hE1 hE2 hSm
   go_wp2_with fail
   go_region_held3 (fun w'=>w'.cell? ⟨b1,o1 + i * 2,none⟩ = some (.string t) /\ w'.cell? ⟨b2,o2 + i * 2,none⟩ = some (.string t) /\ w'.cell? ⟨x1,y1,none⟩ = some (.int .i64 k1k) /\ w'.cell? ⟨x1,y1 + 1,none⟩ = some (.string k1t) /\ w'.cell? ⟨x1,y1 + 2,none⟩ = some (.string k1n) /\ w'.cell? ⟨x1,y1 + 3,none⟩ = some (.string k1a) /\ w'.cell? ⟨x1,y1 + 4,none⟩ = some (.slice k1A k1m k1q) /\ w'.cell? ⟨x1,y1 + 5,none⟩ = some (.pointer k1p) /\ w'.cell? ⟨x1,y1 + 6,none⟩ = some (.slice k1B k1r k1s) /\ w'.cell? ⟨x2,y2,none⟩ = some (.int .i64 k2k) /\ w'.cell? ⟨x2,y2 + 1,none⟩ = some (.string k2t) /\ w'.cell? ⟨x2,y2 + 2,none⟩ = some (.string k2n) /\ w'.cell? ⟨x2,y2 + 3,none⟩ = some (.string k2a) /\ w'.cell? ⟨x2,y2 + 4,none⟩ = some (.slice k2A k2m k2q) /\ w'.cell? ⟨x2,y2 + 5,none⟩ = some (.pointer k2p) /\ w'.cell? ⟨x2,y2 + 6,none⟩ = some (.slice k2B k2r k2s) /\ Below wr.heap.size wr w')
    (first | (exact HK.out _ _ (by assumption) (by assumption)) | (exact HS0.out) | go_keep)
    (first | (go_at_call 45; refine (HC.out _ (by assumption)).mono ?_; rintro e w' ⟨rfl,hb5⟩))
   rename_i hmE
   obtain ⟨_,_,_,_,_,_,_,_,_,_,_,_,_,_,_,_,hBE⟩:=hmE
   go_wp2_with fail
   refine ⟨⟨i + 1,by go_num,hlt,?_⟩,by simp [intOf]; omega⟩
   exact hid (HBel.out.trans (hBE.mono HBel.out.size))
end Go.Proofs.YtgdkpamlkpncgaaGreatDoor
