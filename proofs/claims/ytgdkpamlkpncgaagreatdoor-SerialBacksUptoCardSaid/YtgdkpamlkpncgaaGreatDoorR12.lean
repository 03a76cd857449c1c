/-
  Several texts put together (part 12): what the law and the program call, walked; their contracts.
-/
import Derived.Test.YtgdkpamlkpncgaaGreatDoorR10
import Derived.Test.YtgdkpamlkpncgaaGreatDoorR11
import Derived.Test.YtgdkpamlkpncgaaGreatDoorR5
import Derived.Lib.IndexAny
import Derived.Lib.Bytealg
namespace Go.Proofs.YtgdkpamlkpncgaaGreatDoor
open Go.RowKit
open _root_.Go.Lib (hid)
set_option linter.unusedVariables false
set_option linter.unusedSimpArgs false
theorem AsAt.at2 {W : World} : ∀ {l : List AR} {b o : Nat} (j : Nat) {n : ByteArray} {e : EX},AsAt W l b o -> l[j]? = some (.mk n e) ->
  b < W.heap.size /\ W.cell? ⟨b,o + j * 8,none⟩ = some (.string n) /\ ∃ c,CellsAt W b (o + j * 8 + 1) c /\ ExAt W e c
 | [],b,o,j,n,e,h,hj=>by simp at hj
 | .mk n' e' :: r,b,o,0,n,e,h,hj=>by
  rw [AsAt] at h
  simp at hj
  obtain ⟨rfl,rfl⟩:=hj
  obtain ⟨h0,h1,h2,_⟩:=h
  exact ⟨h0,by simpa using h1,by simpa using h2⟩
 | .mk n' e' :: r,b,o,j + 1,n,e,h,hj=>by
  rw [AsAt] at h
  have:=AsAt.at2 j h.2.2.2 (by simpa using hj)
  rw [show o + (j + 1) * 8 = o + 8 + j * 8 by omega]
  exact this
theorem VsAt.at2 {W : World} : ∀ {l : List VA} {b o : Nat} (j : Nat) {n : ByteArray} {d : Bool} {v : List EL},VsAt W l b o -> l[j]? = some (.mk n d v) ->
  b < W.heap.size /\ W.cell? ⟨b,o + j * 3,none⟩ = some (.string n) /\ W.cell? ⟨b,o + j * 3 + 1,none⟩ = some (.bool d) /\ ∃ u,W.cell? ⟨b,o + j * 3 + 2,none⟩ = some u /\ PatAt W v u
 | [],b,o,j,n,d,v,h,hj=>by simp at hj
 | .mk n' d' v' :: r,b,o,0,n,d,v,h,hj=>by
  rw [VsAt] at h
  simp at hj
  obtain ⟨rfl,rfl,rfl⟩:=hj
  obtain ⟨h0,h1,h2,h3,_⟩:=h
  exact ⟨h0,by simpa using h1,by simpa using h2,by obtain ⟨u,h3,h4⟩:=h3; exact ⟨u,by simpa using h3,h4⟩⟩
 | .mk n' d' v' :: r,b,o,j + 1,n,d,v,h,hj=>by
  rw [VsAt] at h
  have:=VsAt.at2 j h.2.2.2.2 (by simpa using hj)
  rw [show o + (j + 1) * 3 = o + 3 + j * 3 by omega]
  exact this
theorem arg_at2 {W : World} {l : List AR} {A : Option Addr} {q : Nat} (h : LieAt (AsAt W l) (.slice A l.length q) l.length) {i : Nat} (hi : i < l.length) : ∃ b o,A = some ⟨b,o,none⟩ /\ b < W.heap.size /\
  ∀ j n e,l[j]? = some (.mk n e) -> W.cell? ⟨b,o + j * 8,none⟩ = some (.string n) /\ ∃ c,CellsAt W b (o + j * 8 + 1) c /\ ExAt W e c:=by
 obtain ⟨A',c,e,_,_,h2⟩:=h
 simp only [Value.slice.injEq] at e
 obtain ⟨rfl,_,rfl⟩:=e
 obtain ⟨b,o,rfl,h3⟩:=h2 (by omega)
 have h0 : l[0]? = some l[0]:=List.getElem?_eq_getElem (by omega)
 refine ⟨b,o,rfl,?_,fun j n e hj=>⟨(h3.at2 j hj).2.1,(h3.at2 j hj).2.2⟩⟩
 cases e : l[0]'(by omega) with
 | mk n e'=>rw [e] at h0; exact (h3.at2 0 h0).1
theorem var_at2 {W : World} {l : List VA} {A : Option Addr} {q : Nat} (h : LieAt (VsAt W l) (.slice A l.length q) l.length) {i : Nat} (hi : i < l.length) : ∃ b o,A = some ⟨b,o,none⟩ /\ b < W.heap.size /\
  ∀ j n d v,l[j]? = some (.mk n d v) -> W.cell? ⟨b,o + j * 3,none⟩ = some (.string n) /\ W.cell? ⟨b,o + j * 3 + 1,none⟩ = some (.bool d) /\ ∃ u,W.cell? ⟨b,o + j * 3 + 2,none⟩ = some u /\ PatAt W v u:=by
 obtain ⟨A',c,e,_,_,h2⟩:=h
 simp only [Value.slice.injEq] at e
 obtain ⟨rfl,_,rfl⟩:=e
 obtain ⟨b,o,rfl,h3⟩:=h2 (by omega)
 have h0 : l[0]? = some l[0]:=List.getElem?_eq_getElem (by omega)
 refine ⟨b,o,rfl,?_,fun j n d v hj=>⟨(h3.at2 j hj).2.1,(h3.at2 j hj).2.2.1,(h3.at2 j hj).2.2.2⟩⟩
 cases e : l[0]'(by omega) with
 | mk n d v=>rw [e] at h0; exact (h3.at2 0 h0).1
theorem ex_open {W : World} {k : Int} {t n a : ByteArray} {al : List AR} {i : Option EX} {vs : List VA} {c : C7} (h : ExAt W (.mk k t n a al i vs) c) : ∃ (A : Option Addr) (q : Nat) (p : Option Addr) (B : Option Addr) (r : Nat),
  c = ⟨.int .i64 k,.string t,.string n,.string a,.slice A al.length q,.pointer p,.slice B vs.length r⟩ /\ LieAt (AsAt W al) (.slice A al.length q) al.length /\ OAt W i (.pointer p) /\ LieAt (VsAt W vs) (.slice B vs.length r) vs.length:=by
 obtain ⟨ck,ct,cn,ca,cal,ci,cvs⟩:=c
 rw [ExAt] at h
 obtain ⟨e1,e2,e3,e4,h5,h6,h7⟩:=h
 dsimp only at e1 e2 e3 e4 h5 h6 h7
 subst e1 e2 e3 e4
 obtain ⟨A,q,rfl,r5⟩:=h5
 obtain ⟨B,r,rfl,r7⟩:=h7
 obtain ⟨p,rfl⟩ : ∃ p,ci = .pointer p:=by
  cases i with
  | none=>simp only [OAt] at h6; exact ⟨_,h6⟩
  | some e=>simp only [OAt] at h6; obtain ⟨b,o,c,h,_⟩:=h6; exact ⟨_,h⟩
 exact ⟨A,q,p,B,r,rfl,⟨A,q,rfl,r5⟩,h6,⟨B,r,rfl,r7⟩⟩
theorem len_As : ∀ l : List AR,l.length <= sizeAs l
 | []=>Nat.zero_le _
 | .mk n (.mk k t m a al i vs) :: r=>by have:=len_As r; rw [sizeAs,EX.size,List.length_cons]; omega
theorem len_Vs : ∀ l : List VA,l.length <= sizeVs l
 | []=>Nat.zero_le _
 | .mk n d v :: r=>by have:=len_Vs r; rw [sizeVs,List.length_cons]; omega
theorem len_Es : ∀ l : List EL,l.length <= sizeEs l
 | []=>Nat.zero_le _
 | .mk t p :: r=>by have:=len_Es r; rw [sizeEs,List.length_cons]; omega
theorem mem_As : ∀ {l : List AR} {n : ByteArray} {e : EX},AR.mk n e ∈ l -> e.size <= sizeAs l
 | .mk n' e' :: r,n,e,h=>by
  rw [sizeAs]
  rcases List.mem_cons.1 h with h | h
  ·cases h; omega
  ·have:=mem_As h; omega
theorem mem_Es : ∀ {l : List EL} {t : ByteArray} {e : EX},EL.mk t (some e) ∈ l -> e.size <= sizeEs l
 | .mk t' p' :: r,t,e,h=>by
  rw [sizeEs]
  rcases List.mem_cons.1 h with h | h
  ·cases h; rw [sizeO]; omega
  ·have:=mem_Es h; omega
theorem mem_Vs : ∀ {l : List VA} {n : ByteArray} {d : Bool} {v : List EL},VA.mk n d v ∈ l -> sizeEs v <= sizeVs l
 | .mk n' d' v' :: r,n,d,v,h=>by
  rw [sizeVs]
  rcases List.mem_cons.1 h with h | h
  ·cases h; omega
  ·have:=mem_Vs h; omega
set_option maxHeartbeats 16000000 in
set_option maxRecDepth 1000000 in
theorem same_no {W0 : World} (k : Int) (t n a : ByteArray) (al : List AR) (vs : List VA) (hal : al.length <= 8000000) (hvs : vs.length <= 8000000) (hS : ∀ n e,AR.mk n e ∈ al -> SameTo W0 e) (hP : ∀ n d v,VA.mk n d v ∈ vs -> v.length <= 8000000 /\ ∀ t e,EL.mk t (some e) ∈ v -> SameTo W0 e)
  (A1 : Option Addr) (q1 : Nat) (B1 : Option Addr) (r1 : Nat) (A2 : Option Addr) (q2 : Nat) (B2 : Option Addr) (r2 : Nat)
  (h1 : LieAt (AsAt W0 al) (.slice A1 al.length q1) al.length) (h2 : LieAt (AsAt W0 al) (.slice A2 al.length q2) al.length) (g1 : LieAt (VsAt W0 vs) (.slice B1 vs.length r1) vs.length) (g2 : LieAt (VsAt W0 vs) (.slice B2 vs.length r2) vs.length) (w : World) (hb : Below W0.heap.size W0 w) :
  Calls Tryz.prog 45 #[.agg #[.int .i64 k,.string t,.string n,.string a,.slice A1 al.length q1,.pointer none,.slice B1 vs.length r1],.agg #[.int .i64 k,.string t,.string n,.string a,.slice A2 al.length q2,.pointer none,.slice B2 vs.length r2]] w fun e w'=>e = .returned (.bool true) /\ Below w.heap.size w w':=by
 have hA1:=fun i (hi : i < al.length)=>arg_at2 h1 hi
 have hA2:=fun i (hi : i < al.length)=>arg_at2 h2 hi
 have hV1:=fun i (hi : i < vs.length)=>var_at2 g1 hi
 have hV2:=fun i (hi : i < vs.length)=>var_at2 g2 hi
 have HA1:=hid hA1
 have HA2:=hid hA2
 have HV1:=hid hV1
 have HV2:=hid hV2
 have HS:=hid hS
 have HP:=hid hP
 have HB:=hid hb
 have hal0 : (al.length : Int) <= 8000000:=by omega
 have hvs0 : (vs.length : Int) <= 8000000:=by omega
 have z1 : (t.toList != t.toList) = false:=bne_self_eq_false _
 have z2 : (n.toList != n.toList) = false:=bne_self_eq_false _
 have z3 : (a.toList != a.toList) = false:=bne_self_eq_false _
 have z4 : (k != k) = false:=bne_self_eq_false _
 have hbox1 : BoxAt ((w.alloc (.cells #[.int .i64 k,.string t,.string n,.string a,.slice A1 al.length q1,.pointer none,.slice B1 vs.length r1] 48)).alloc (.cells #[.int .i64 k,.string t,.string n,.string a,.slice A2 al.length q2,.pointer none,.slice B2 vs.length r2] 48)) w.heap.size #[.int .i64 k,.string t,.string n,.string a,.slice A1 al.length q1,.pointer none,.slice B1 vs.length r1] 48:=(BoxAt.new _ _ _).alloc _
 have hbox2 : BoxAt ((w.alloc (.cells #[.int .i64 k,.string t,.string n,.string a,.slice A1 al.length q1,.pointer none,.slice B1 vs.length r1] 48)).alloc (.cells #[.int .i64 k,.string t,.string n,.string a,.slice A2 al.length q2,.pointer none,.slice B2 vs.length r2] 48)) (w.heap.size + 1) #[.int .i64 k,.string t,.string n,.string a,.slice A2 al.length q2,.pointer none,.slice B2 vs.length r2] 48:=BoxAt.new' _ _ _ _ (by simp)
 have Hbox1:=hid hbox1
 have Hbox2:=hid hbox2
 clear hA1 hA2 hV1 hV2 hS hP hb h1 h2 g1 g2 hbox1 hbox2
 go_enter Tryz.func45,Tryz.ntmps45
 go_wp2
 go_loopw [65] (fun t65 wr=>∃ i : Nat,t65 = .int .i64 i /\ i <= al.length /\ Hid (Below w.heap.size w wr) /\ Hid (BoxAt wr w.heap.size #[.int .i64 k,.string t,.string n,.string a,.slice A1 al.length q1,.pointer none,.slice B1 vs.length r1] 48) /\ Hid (BoxAt wr (w.heap.size + 1) #[.int .i64 k,.string t,.string n,.string a,.slice A2 al.length q2,.pointer none,.slice B2 vs.length r2] 48)) (fun t65 _=>al.length - (intOf t65).toNat)
 case atStart=>exact ⟨0,rfl,Nat.zero_le _,((Below.refl _ _).alloc (Nat.le_refl _) _).alloc (by simp) _,Hbox1,Hbox2⟩
 case round =>
  obtain ⟨i,rfl,hi,HBel,HX1,HX2⟩:=hrel
  have hi0 : (i : Int) <= 8000000:=by omega
  have hxl1:=HX1.out.lt
  have hxl2:=HX2.out.lt
  have b14:=HX1.out.cell 4
  have b24:=HX2.out.cell 4
  simp at b14 b24
  by_cases hlt : i < al.length
  ·have d1 : decide ((i : Int) < (al.length : Int)) = true:=decide_eq_true (by omega)
   have d2 : (i : Int) < (al.length : Int):=by omega
   obtain ⟨b1,o1,rfl,hb1,g1⟩:=HA1.out i hlt
   obtain ⟨b2,o2,rfl,hb2,g2⟩:=HA2.out i hlt
   have hli : al[i]? = some al[i]:=List.getElem?_eq_getElem hlt
   have hmem : al[i] ∈ al:=List.getElem_mem hlt
   obtain ⟨m,e,hx⟩ : ∃ m e,al[i] = AR.mk m e:=by cases h : al[i]; exact ⟨_,_,rfl⟩
   rw [hx] at hli hmem
   obtain ⟨s1,k1,hk1,hE1⟩:=g1 i m e hli
   obtain ⟨s2,k2,hk2,hE2⟩:=g2 i m e hli
   have hSm:=HS.out m e hmem
   have hcell : ∀ (b o : Nat) v,b < W0.heap.size -> W0.cell? ⟨b,o,none⟩ = some v -> wr.cell? ⟨b,o,none⟩ = some v:=fun b o v hb h =>
    (HBel.out.cell (p:=⟨b,o,none⟩) (Nat.lt_of_lt_of_le hb HB.out.size)).trans ((HB.out.cell (p:=⟨b,o,none⟩) hb).trans h)
   have e1:=hcell _ _ _ hb1 s1
   have e2:=hcell _ _ _ hb2 s2
   have hbw1 : b1 < wr.heap.size:=Nat.lt_of_lt_of_le hb1 (Nat.le_trans HB.out.size HBel.out.size)
   have hbw2 : b2 < wr.heap.size:=Nat.lt_of_lt_of_le hb2 (Nat.le_trans HB.out.size HBel.out.size)
   have zm : (m.toList != m.toList) = false:=bne_self_eq_false _
   obtain ⟨k1k,k1t,k1n,k1a,k1A,k1m,k1q,k1p,k1B,k1r,k1s,rfl⟩:=ex_shape hE1
   obtain ⟨k2k,k2t,k2n,k2a,k2A,k2m,k2q,k2p,k2B,k2r,k2s,rfl⟩:=ex_shape hE2
   obtain ⟨f0,f1,f2,f3,f4,f5,f6⟩:=hk1
   obtain ⟨g0,g1,g2,g3,g4,g5,g6⟩:=hk2
   dsimp only at f0 f1 f2 f3 f4 f5 f6 g0 g1 g2 g3 g4 g5 g6
   have F0 : wr.cell? ⟨b1,o1 + i * 8 + 1,none⟩ = some (.int .i64 k1k):=hcell _ _ _ hb1 f0
   have F1 : wr.cell? ⟨b1,o1 + i * 8 + 2,none⟩ = some (.string k1t):=hcell _ _ _ hb1 f1
   have F2 : wr.cell? ⟨b1,o1 + i * 8 + 3,none⟩ = some (.string k1n):=hcell _ _ _ hb1 f2
   have F3 : wr.cell? ⟨b1,o1 + i * 8 + 4,none⟩ = some (.string k1a):=hcell _ _ _ hb1 f3
   have F4 : wr.cell? ⟨b1,o1 + i * 8 + 5,none⟩ = some (.slice k1A k1m k1q):=hcell _ _ _ hb1 f4
   have F5 : wr.cell? ⟨b1,o1 + i * 8 + 6,none⟩ = some (.pointer k1p):=hcell _ _ _ hb1 f5
   have F6 : wr.cell? ⟨b1,o1 + i * 8 + 7,none⟩ = some (.slice k1B k1r k1s):=hcell _ _ _ hb1 f6
   have G0 : wr.cell? ⟨b2,o2 + i * 8 + 1,none⟩ = some (.int .i64 k2k):=hcell _ _ _ hb2 g0
   have G1 : wr.cell? ⟨b2,o2 + i * 8 + 2,none⟩ = some (.string k2t):=hcell _ _ _ hb2 g1
   have G2 : wr.cell? ⟨b2,o2 + i * 8 + 3,none⟩ = some (.string k2n):=hcell _ _ _ hb2 g2
   have G3 : wr.cell? ⟨b2,o2 + i * 8 + 4,none⟩ = some (.string k2a):=hcell _ _ _ hb2 g3
   have G4 : wr.cell? ⟨b2,o2 + i * 8 + 5,none⟩ = some (.slice k2A k2m k2q):=hcell _ _ _ hb2 g4
   have G5 : wr.cell? ⟨b2,o2 + i * 8 + 6,none⟩ = some (.pointer k2p):=hcell _ _ _ hb2 g5
   have G6 : wr.cell? ⟨b2,o2 + i * 8 + 7,none⟩ = some (.slice k2B k2r k2s):=hcell _ _ _ hb2 g6
   have hC0:=fun W hB=>hSm W _ _ hB hE1 hE2
   dsimp only [C7.arr] at hC0
   have hC : ∀ W : World,W.cell? ⟨w.heap.size,4,none⟩ = some (.slice (some ⟨b1,o1,none⟩) al.length q1) /\ W.cell? ⟨w.heap.size + 1,4,none⟩ = some (.slice (some ⟨b2,o2,none⟩) al.length q2) /\ W.cell? ⟨b1,o1 + i * 8,none⟩ = some (.string m) /\ W.cell? ⟨b2,o2 + i * 8,none⟩ = some (.string m) /\ W.cell? ⟨b1,o1 + i * 8 + 1,none⟩ = some (.int .i64 k1k) /\ W.cell? ⟨b1,o1 + i * 8 + 2,none⟩ = some (.string k1t) /\ W.cell? ⟨b1,o1 + i * 8 + 3,none⟩ = some (.string k1n) /\ W.cell? ⟨b1,o1 + i * 8 + 4,none⟩ = some (.string k1a) /\ W.cell? ⟨b1,o1 + i * 8 + 5,none⟩ = some (.slice k1A k1m k1q) /\ W.cell? ⟨b1,o1 + i * 8 + 6,none⟩ = some (.pointer k1p) /\ W.cell? ⟨b1,o1 + i * 8 + 7,none⟩ = some (.slice k1B k1r k1s) /\ W.cell? ⟨b2,o2 + i * 8 + 1,none⟩ = some (.int .i64 k2k) /\ W.cell? ⟨b2,o2 + i * 8 + 2,none⟩ = some (.string k2t) /\ W.cell? ⟨b2,o2 + i * 8 + 3,none⟩ = some (.string k2n) /\ W.cell? ⟨b2,o2 + i * 8 + 4,none⟩ = some (.string k2a) /\ W.cell? ⟨b2,o2 + i * 8 + 5,none⟩ = some (.slice k2A k2m k2q) /\ W.cell? ⟨b2,o2 + i * 8 + 6,none⟩ = some (.pointer k2p) /\ W.cell? ⟨b2,o2 + i * 8 + 7,none⟩ = some (.slice k2B k2r k2s) /\ Below wr.heap.size wr W -> Calls Tryz.prog 45 #[.agg #[.int .i64 k1k,.string k1t,.string k1n,.string k1a,.slice k1A k1m k1q,.pointer k1p,.slice k1B k1r k1s],.agg #[.int .i64 k2k,.string k2t,.string k2n,.string k2a,.slice k2A k2m k2q,.pointer k2p,.slice k2B k2r k2s]] W fun e w'=>e = .returned (.bool true) /\ Below W.heap.size W w':=fun W h=>hC0 W ((HB.out.trans (HBel.out.mono HB.out.size)).trans (h.2.2.2.2.2.2.2.2.2.2.2.2.2.2.2.2.2.2.mono (Nat.le_trans HB.out.size HBel.out.size)))
   have hK : ∀ W W' : World,(W.cell? ⟨w.heap.size,4,none⟩ = some (.slice (some ⟨b1,o1,none⟩) al.length q1) /\ W.cell? ⟨w.heap.size + 1,4,none⟩ = some (.slice (some ⟨b2,o2,none⟩) al.length q2) /\ W.cell? ⟨b1,o1 + i * 8,none⟩ = some (.string m) /\ W.cell? ⟨b2,o2 + i * 8,none⟩ = some (.string m) /\ W.cell? ⟨b1,o1 + i * 8 + 1,none⟩ = some (.int .i64 k1k) /\ W.cell? ⟨b1,o1 + i * 8 + 2,none⟩ = some (.string k1t) /\ W.cell? ⟨b1,o1 + i * 8 + 3,none⟩ = some (.string k1n) /\ W.cell? ⟨b1,o1 + i * 8 + 4,none⟩ = some (.string k1a) /\ W.cell? ⟨b1,o1 + i * 8 + 5,none⟩ = some (.slice k1A k1m k1q) /\ W.cell? ⟨b1,o1 + i * 8 + 6,none⟩ = some (.pointer k1p) /\ W.cell? ⟨b1,o1 + i * 8 + 7,none⟩ = some (.slice k1B k1r k1s) /\ W.cell? ⟨b2,o2 + i * 8 + 1,none⟩ = some (.int .i64 k2k) /\ W.cell? ⟨b2,o2 + i * 8 + 2,none⟩ = some (.string k2t) /\ W.cell? ⟨b2,o2 + i * 8 + 3,none⟩ = some (.string k2n) /\ W.cell? ⟨b2,o2 + i * 8 + 4,none⟩ = some (.string k2a) /\ W.cell? ⟨b2,o2 + i * 8 + 5,none⟩ = some (.slice k2A k2m k2q) /\ W.cell? ⟨b2,o2 + i * 8 + 6,none⟩ = some (.pointer k2p) /\ W.cell? ⟨b2,o2 + i * 8 + 7,none⟩ = some (.slice k2B k2r k2s) /\ Below wr.heap.size wr W) -> Below W.heap.size W W' -> W'.cell? ⟨w.heap.size,4,none⟩ = some (.slice (some ⟨b1,o1,none⟩) al.length q1) /\ W'.cell? ⟨w.heap.size + 1,4,none⟩ = some (.slice (some ⟨b2,o2,none⟩) al.length q2) /\ W'.cell? ⟨b1,o1 + i * 8,none⟩ = some (.string m) /\ W'.cell? ⟨b2,o2 + i * 8,none⟩ = some (.string m) /\ W'.cell? ⟨b1,o1 + i * 8 + 1,none⟩ = some (.int .i64 k1k) /\ W'.cell? ⟨b1,o1 + i * 8 + 2,none⟩ = some (.string k1t) /\ W'.cell? ⟨b1,o1 + i * 8 + 3,none⟩ = some (.string k1n) /\ W'.cell? ⟨b1,o1 + i * 8 + 4,none⟩ = some (.string k1a) /\ W'.cell? ⟨b1,o1 + i * 8 + 5,none⟩ = some (.slice k1A k1m k1q) /\ W'.cell? ⟨b1,o1 + i * 8 + 6,none⟩ = some (.pointer k1p) /\ W'.cell? ⟨b1,o1 + i * 8 + 7,none⟩ = some (.slice k1B k1r k1s) /\ W'.cell? ⟨b2,o2 + i * 8 + 1,none⟩ = some (.int .i64 k2k) /\ W'.cell? ⟨b2,o2 + i * 8 + 2,none⟩ = some (.string k2t) /\ W'.cell? ⟨b2,o2 + i * 8 + 3,none⟩ = some (.string k2n) /\ W'.cell? ⟨b2,o2 + i * 8 + 4,none⟩ = some (.string k2a) /\ W'.cell? ⟨b2,o2 + i * 8 + 5,none⟩ = some (.slice k2A k2m k2q) /\ W'.cell? ⟨b2,o2 + i * 8 + 6,none⟩ = some (.pointer k2p) /\ W'.cell? ⟨b2,o2 + i * 8 + 7,none⟩ = some (.slice k2B k2r k2s) /\ Below wr.heap.size wr W':=fun W W' ⟨a0,a1,a2,a3,a4,a5,a6,a7,a8,a9,a10,a11,a12,a13,a14,a15,a16,a17,hB⟩ hb =>
    ⟨cell_under hb a0,cell_under hb a1,cell_under hb a2,cell_under hb a3,cell_under hb a4,cell_under hb a5,cell_under hb a6,cell_under hb a7,cell_under hb a8,cell_under hb a9,cell_under hb a10,cell_under hb a11,cell_under hb a12,cell_under hb a13,cell_under hb a14,cell_under hb a15,cell_under hb a16,cell_under hb a17,hB.trans (hb.mono hB.size)⟩
   have hS0 : wr.drew.cell? ⟨w.heap.size,4,none⟩ = some (.slice (some ⟨b1,o1,none⟩) al.length q1) /\ wr.drew.cell? ⟨w.heap.size + 1,4,none⟩ = some (.slice (some ⟨b2,o2,none⟩) al.length q2) /\ wr.drew.cell? ⟨b1,o1 + i * 8,none⟩ = some (.string m) /\ wr.drew.cell? ⟨b2,o2 + i * 8,none⟩ = some (.string m) /\ wr.drew.cell? ⟨b1,o1 + i * 8 + 1,none⟩ = some (.int .i64 k1k) /\ wr.drew.cell? ⟨b1,o1 + i * 8 + 2,none⟩ = some (.string k1t) /\ wr.drew.cell? ⟨b1,o1 + i * 8 + 3,none⟩ = some (.string k1n) /\ wr.drew.cell? ⟨b1,o1 + i * 8 + 4,none⟩ = some (.string k1a) /\ wr.drew.cell? ⟨b1,o1 + i * 8 + 5,none⟩ = some (.slice k1A k1m k1q) /\ wr.drew.cell? ⟨b1,o1 + i * 8 + 6,none⟩ = some (.pointer k1p) /\ wr.drew.cell? ⟨b1,o1 + i * 8 + 7,none⟩ = some (.slice k1B k1r k1s) /\ wr.drew.cell? ⟨b2,o2 + i * 8 + 1,none⟩ = some (.int .i64 k2k) /\ wr.drew.cell? ⟨b2,o2 + i * 8 + 2,none⟩ = some (.string k2t) /\ wr.drew.cell? ⟨b2,o2 + i * 8 + 3,none⟩ = some (.string k2n) /\ wr.drew.cell? ⟨b2,o2 + i * 8 + 4,none⟩ = some (.string k2a) /\ wr.drew.cell? ⟨b2,o2 + i * 8 + 5,none⟩ = some (.slice k2A k2m k2q) /\ wr.drew.cell? ⟨b2,o2 + i * 8 + 6,none⟩ = some (.pointer k2p) /\ wr.drew.cell? ⟨b2,o2 + i * 8 + 7,none⟩ = some (.slice k2B k2r k2s) /\ Below wr.heap.size wr wr.drew:=⟨b14,b24,e1,e2,F0,F1,F2,F3,F4,F5,F6,G0,G1,G2,G3,G4,G5,G6,(Below.refl _ _).drew⟩
   have HC:=hid hC
   have HK:=hid hK
   have HS0:=hid hS0
   clear hC hC0 hK hS0 f0 f1 f2 f3 f4 f5 f6 g0 g1 g2 g3 g4 g5 g6 hE1 hE2 hSm hcell hmem hli hx s1 s2 hb1 hb2
   go_wp2_with fail
   go_region_held3 (fun w'=>w'.cell? ⟨w.heap.size,4,none⟩ = some (.slice (some ⟨b1,o1,none⟩) al.length q1) /\ w'.cell? ⟨w.heap.size + 1,4,none⟩ = some (.slice (some ⟨b2,o2,none⟩) al.length q2) /\ w'.cell? ⟨b1,o1 + i * 8,none⟩ = some (.string m) /\ w'.cell? ⟨b2,o2 + i * 8,none⟩ = some (.string m) /\ w'.cell? ⟨b1,o1 + i * 8 + 1,none⟩ = some (.int .i64 k1k) /\ w'.cell? ⟨b1,o1 + i * 8 + 2,none⟩ = some (.string k1t) /\ w'.cell? ⟨b1,o1 + i * 8 + 3,none⟩ = some (.string k1n) /\ w'.cell? ⟨b1,o1 + i * 8 + 4,none⟩ = some (.string k1a) /\ w'.cell? ⟨b1,o1 + i * 8 + 5,none⟩ = some (.slice k1A k1m k1q) /\ w'.cell? ⟨b1,o1 + i * 8 + 6,none⟩ = some (.pointer k1p) /\ w'.cell? ⟨b1,o1 + i * 8 + 7,none⟩ = some (.slice k1B k1r k1s) /\ w'.cell? ⟨b2,o2 + i * 8 + 1,none⟩ = some (.int .i64 k2k) /\ w'.cell? ⟨b2,o2 + i * 8 + 2,none⟩ = some (.string k2t) /\ w'.cell? ⟨b2,o2 + i * 8 + 3,none⟩ = some (.string k2n) /\ w'.cell? ⟨b2,o2 + i * 8 + 4,none⟩ = some (.string k2a) /\ w'.cell? ⟨b2,o2 + i * 8 + 5,none⟩ = some (.slice k2A k2m k2q) /\ w'.cell? ⟨b2,o2 + i * 8 + 6,none⟩ = some (.pointer k2p) /\ w'.cell? ⟨b2,o2 + i * 8 + 7,none⟩ = some (.slice k2B k2r k2s) /\ Below wr.heap.size wr w')
    (first | (exact HK.out _ _ (by assumption) (by assumption)) | (exact HS0.out) | go_keep)
    (first | (go_at_call 45; refine (HC.out _ (by assumption)).mono ?_; rintro e w' ⟨rfl,hb5⟩))
   rename_i hmE
   obtain ⟨_,_,_,_,_,_,_,_,_,_,_,_,_,_,_,_,_,_,hBE⟩:=hmE
   go_wp2_with fail
   refine ⟨⟨i + 1,by go_num,hlt,?_,?_,?_⟩,by simp [intOf]; omega⟩
   ·exact hid (HBel.out.trans (hBE.mono HBel.out.size))
   ·exact hid (HX1.out.later hBE)
   ·exact hid (HX2.out.later hBE)
  have d1 : decide ((i : Int) < (al.length : Int)) = false:=decide_eq_false (by omega)
  have d2 : ¬ (i : Int) < (al.length : Int):=by omega
  have b16:=HX1.out.cell 6
  have b26:=HX2.out.cell 6
  simp at b16 b26
  go_wp2
  go_loopw [101] (fun t101 wr=>∃ i : Nat,t101 = .int .i64 i /\ i <= vs.length /\ Hid (Below w.heap.size w wr) /\ Hid (BoxAt wr w.heap.size #[.int .i64 k,.string t,.string n,.string a,.slice A1 al.length q1,.pointer none,.slice B1 vs.length r1] 48) /\ Hid (BoxAt wr (w.heap.size + 1) #[.int .i64 k,.string t,.string n,.string a,.slice A2 al.length q2,.pointer none,.slice B2 vs.length r2] 48)) (fun t101 _=>vs.length - (intOf t101).toNat)
  case atStart=>exact ⟨0,rfl,Nat.zero_le _,HBel,HX1,HX2⟩
  case round =>
   clear b14 b24 b16 b26 hxl1 hxl2 HX1 HX2 HBel
   obtain ⟨v,rfl,hv,HBel,HX1,HX2⟩:=hrel
   have hv0 : (v : Int) <= 8000000:=by omega
   have hxl1:=HX1.out.lt
   have hxl2:=HX2.out.lt
   have b16:=HX1.out.cell 6
   have b26:=HX2.out.cell 6
   simp at b16 b26
   by_cases hlv : v < vs.length
   ·have d3 : decide ((v : Int) < (vs.length : Int)) = true:=decide_eq_true (by omega)
    have d4 : (v : Int) < (vs.length : Int):=by omega
    obtain ⟨b1,o1,rfl,hb1,g1⟩:=HV1.out v hlv
    obtain ⟨b2,o2,rfl,hb2,g2⟩:=HV2.out v hlv
    have hli : vs[v]? = some vs[v]:=List.getElem?_eq_getElem hlv
    have hmem : vs[v] ∈ vs:=List.getElem_mem hlv
    obtain ⟨m,dd,pv,hx⟩ : ∃ m dd pv,vs[v] = VA.mk m dd pv:=by cases h : vs[v]; exact ⟨_,_,_,rfl⟩
    rw [hx] at hli hmem
    obtain ⟨s1,s2,u1,s3,hp1⟩:=g1 v m dd pv hli
    obtain ⟨s4,s5,u2,s6,hp2⟩:=g2 v m dd pv hli
    obtain ⟨hpl,hps⟩:=HP.out m dd pv hmem
    have hcell : ∀ (b o : Nat) z,b < W0.heap.size -> W0.cell? ⟨b,o,none⟩ = some z -> wr.cell? ⟨b,o,none⟩ = some z:=fun b o z hb h =>
     (HBel.out.cell (p:=⟨b,o,none⟩) (Nat.lt_of_lt_of_le hb HB.out.size)).trans ((HB.out.cell (p:=⟨b,o,none⟩) hb).trans h)
    have hPc:=fun W (h : Below W0.heap.size W0 W)=>pats_any pv hp1 hp2 hpl hps W h
    obtain ⟨U1,w1,rfl,_⟩:=hp1
    obtain ⟨U2,w2,rfl,_⟩:=hp2
    have e1:=hcell _ _ _ hb1 s1
    have e2:=hcell _ _ _ hb1 s2
    have e3:=hcell _ _ _ hb1 s3
    have e4:=hcell _ _ _ hb2 s4
    have e5:=hcell _ _ _ hb2 s5
    have e6:=hcell _ _ _ hb2 s6
    have hbq:=Nat.le_trans HB.out.size HBel.out.size
    have hbw1 : b1 < wr.heap.size:=Nat.lt_of_lt_of_le hb1 hbq
    have hbw2 : b2 < wr.heap.size:=Nat.lt_of_lt_of_le hb2 hbq
    have zm : (m.toList != m.toList) = false:=bne_self_eq_false _
    have zd : (dd != dd) = false:=bne_self_eq_false _
    have HPc:=hid hPc
    have hs0:=HBel.out.size
    clear hPc hcell hmem hli hx s1 s2 s3 s4 s5 s6 hb1 hb2 g1 g2 hps
    go_wp2_with fail
    go_at_call 26
    refine (HPc.out _ (((HB.out.trans (HBel.out.mono HB.out.size)).alloc hbq _).alloc (by simp; omega) _)).mono ?_
    rintro e w3 ⟨rfl,hb3⟩
    have hb4:=(((Below.refl wr.heap.size wr).alloc (Nat.le_refl _) _).alloc (by simp) _).trans (hb3.mono (by simp; omega))
    have HB4:=hid (HBel.out.trans (hb4.mono hs0))
    have HX14:=hid (HX1.out.later hb4)
    have HX24:=hid (HX2.out.later hb4)
    clear hb3 hb4
    go_wp2
    go_roundw
    case rel=>exact ⟨v + 1,by go_num,hlv,HB4,HX14,HX24⟩
    case measure=>simp [intOf]; omega
   have d3 : decide ((v : Int) < (vs.length : Int)) = false:=decide_eq_false (by omega)
   have d4 : ¬ (v : Int) < (vs.length : Int):=by omega
   have b15:=HX1.out.cell 5
   have b25:=HX2.out.cell 5
   simp at b15 b25
   go_wp2_with fail
   go_region
   all_goals (go_wp2_with fail)
   go_ret
   exact ⟨rfl,HBel.out.drew⟩
set_option maxHeartbeats 16000000 in
set_option maxRecDepth 1000000 in
theorem same_in {W0 : World} (k : Int) (t n a : ByteArray) (al : List AR) (ie : EX) (vs : List VA) (hal : al.length <= 8000000) (hvs : vs.length <= 8000000) (hS : ∀ n e,AR.mk n e ∈ al -> SameTo W0 e) (hP : ∀ n d v,VA.mk n d v ∈ vs -> v.length <= 8000000 /\ ∀ t e,EL.mk t (some e) ∈ v -> SameTo W0 e) (hI : SameTo W0 ie)
  (A1 : Option Addr) (q1 : Nat) (B1 : Option Addr) (r1 : Nat) (A2 : Option Addr) (q2 : Nat) (B2 : Option Addr) (r2 : Nat) (x1 y1 x2 y2 : Nat) (c1 c2 : C7) (hx1 : x1 < W0.heap.size) (hx2 : x2 < W0.heap.size) (hk1 : CellsAt W0 x1 y1 c1) (hk2 : CellsAt W0 x2 y2 c2) (hi1 : ExAt W0 ie c1) (hi2 : ExAt W0 ie c2)
  (h1 : LieAt (AsAt W0 al) (.slice A1 al.length q1) al.length) (h2 : LieAt (AsAt W0 al) (.slice A2 al.length q2) al.length) (g1 : LieAt (VsAt W0 vs) (.slice B1 vs.length r1) vs.length) (g2 : LieAt (VsAt W0 vs) (.slice B2 vs.length r2) vs.length) (w : World) (hb : Below W0.heap.size W0 w) :
  Calls Tryz.prog 45 #[.agg #[.int .i64 k,.string t,.string n,.string a,.slice A1 al.length q1,.pointer (some ⟨x1,y1,none⟩),.slice B1 vs.length r1],.agg #[.int .i64 k,.string t,.string n,.string a,.slice A2 al.length q2,.pointer (some ⟨x2,y2,none⟩),.slice B2 vs.length r2]] w fun e w'=>e = .returned (.bool true) /\ Below w.heap.size w w':=by
 have hA1:=fun i (hi : i < al.length)=>arg_at2 h1 hi
 have hA2:=fun i (hi : i < al.length)=>arg_at2 h2 hi
 have hV1:=fun i (hi : i < vs.length)=>var_at2 g1 hi
 have hV2:=fun i (hi : i < vs.length)=>var_at2 g2 hi
 have HA1:=hid hA1
 have HA2:=hid hA2
 have HV1:=hid hV1
 have HV2:=hid hV2
 have HS:=hid hS
 have HP:=hid hP
 have HB:=hid hb
 have hal0 : (al.length : Int) <= 8000000:=by omega
 have hvs0 : (vs.length : Int) <= 8000000:=by omega
 have z1 : (t.toList != t.toList) = false:=bne_self_eq_false _
 have z2 : (n.toList != n.toList) = false:=bne_self_eq_false _
 have z3 : (a.toList != a.toList) = false:=bne_self_eq_false _
 have z4 : (k != k) = false:=bne_self_eq_false _
 have HI:=hid hI
 have HK1:=hid hk1
 have HK2:=hid hk2
 have HI1:=hid hi1
 have HI2:=hid hi2
 have hbox1 : BoxAt ((w.alloc (.cells #[.int .i64 k,.string t,.string n,.string a,.slice A1 al.length q1,.pointer (some ⟨x1,y1,none⟩),.slice B1 vs.length r1] 48)).alloc (.cells #[.int .i64 k,.string t,.string n,.string a,.slice A2 al.length q2,.pointer (some ⟨x2,y2,none⟩),.slice B2 vs.length r2] 48)) w.heap.size #[.int .i64 k,.string t,.string n,.string a,.slice A1 al.length q1,.pointer (some ⟨x1,y1,none⟩),.slice B1 vs.length r1] 48:=(BoxAt.new _ _ _).alloc _
 have hbox2 : BoxAt ((w.alloc (.cells #[.int .i64 k,.string t,.string n,.string a,.slice A1 al.length q1,.pointer (some ⟨x1,y1,none⟩),.slice B1 vs.length r1] 48)).alloc (.cells #[.int .i64 k,.string t,.string n,.string a,.slice A2 al.length q2,.pointer (some ⟨x2,y2,none⟩),.slice B2 vs.length r2] 48)) (w.heap.size + 1) #[.int .i64 k,.string t,.string n,.string a,.slice A2 al.length q2,.pointer (some ⟨x2,y2,none⟩),.slice B2 vs.length r2] 48:=BoxAt.new' _ _ _ _ (by simp)
 have Hbox1:=hid hbox1
 have Hbox2:=hid hbox2
 clear hA1 hA2 hV1 hV2 hS hP hb h1 h2 g1 g2 hbox1 hbox2 hI hk1 hk2 hi1 hi2
 go_enter Tryz.func45,Tryz.ntmps45
 go_wp2
 go_loopw [65] (fun t65 wr=>∃ i : Nat,t65 = .int .i64 i /\ i <= al.length /\ Hid (Below w.heap.size w wr) /\ Hid (BoxAt wr w.heap.size #[.int .i64 k,.string t,.string n,.string a,.slice A1 al.length q1,.pointer (some ⟨x1,y1,none⟩),.slice B1 vs.length r1] 48) /\ Hid (BoxAt wr (w.heap.size + 1) #[.int .i64 k,.string t,.string n,.string a,.slice A2 al.length q2,.pointer (some ⟨x2,y2,none⟩),.slice B2 vs.length r2] 48)) (fun t65 _=>al.length - (intOf t65).toNat)
 case atStart=>exact ⟨0,rfl,Nat.zero_le _,((Below.refl _ _).alloc (Nat.le_refl _) _).alloc (by simp) _,Hbox1,Hbox2⟩
 case round =>
  obtain ⟨i,rfl,hi,HBel,HX1,HX2⟩:=hrel
  have hi0 : (i : Int) <= 8000000:=by omega
  have hxl1:=HX1.out.lt
  have hxl2:=HX2.out.lt
  have b14:=HX1.out.cell 4
  have b24:=HX2.out.cell 4
  simp at b14 b24
  by_cases hlt : i < al.length
  ·have d1 : decide ((i : Int) < (al.length : Int)) = true:=decide_eq_true (by omega)
   have d2 : (i : Int) < (al.length : Int):=by omega
   obtain ⟨b1,o1,rfl,hb1,g1⟩:=HA1.out i hlt
   obtain ⟨b2,o2,rfl,hb2,g2⟩:=HA2.out i hlt
   have hli : al[i]? = some al[i]:=List.getElem?_eq_getElem hlt
   have hmem : al[i] ∈ al:=List.getElem_mem hlt
   obtain ⟨m,e,hx⟩ : ∃ m e,al[i] = AR.mk m e:=by cases h : al[i]; exact ⟨_,_,rfl⟩
   rw [hx] at hli hmem
   obtain ⟨s1,k1,hk1,hE1⟩:=g1 i m e hli
   obtain ⟨s2,k2,hk2,hE2⟩:=g2 i m e hli
   have hSm:=HS.out m e hmem
   have hcell : ∀ (b o : Nat) v,b < W0.heap.size -> W0.cell? ⟨b,o,none⟩ = some v -> wr.cell? ⟨b,o,none⟩ = some v:=fun b o v hb h =>
    (HBel.out.cell (p:=⟨b,o,none⟩) (Nat.lt_of_lt_of_le hb HB.out.size)).trans ((HB.out.cell (p:=⟨b,o,none⟩) hb).trans h)
   have e1:=hcell _ _ _ hb1 s1
   have e2:=hcell _ _ _ hb2 s2
   have hbw1 : b1 < wr.heap.size:=Nat.lt_of_lt_of_le hb1 (Nat.le_trans HB.out.size HBel.out.size)
   have hbw2 : b2 < wr.heap.size:=Nat.lt_of_lt_of_le hb2 (Nat.le_trans HB.out.size HBel.out.size)
   have zm : (m.toList != m.toList) = false:=bne_self_eq_false _
   obtain ⟨k1k,k1t,k1n,k1a,k1A,k1m,k1q,k1p,k1B,k1r,k1s,rfl⟩:=ex_shape hE1
   obtain ⟨k2k,k2t,k2n,k2a,k2A,k2m,k2q,k2p,k2B,k2r,k2s,rfl⟩:=ex_shape hE2
   obtain ⟨f0,f1,f2,f3,f4,f5,f6⟩:=hk1
   obtain ⟨g0,g1,g2,g3,g4,g5,g6⟩:=hk2
   dsimp only at f0 f1 f2 f3 f4 f5 f6 g0 g1 g2 g3 g4 g5 g6
   have F0 : wr.cell? ⟨b1,o1 + i * 8 + 1,none⟩ = some (.int .i64 k1k):=hcell _ _ _ hb1 f0
   have F1 : wr.cell? ⟨b1,o1 + i * 8 + 2,none⟩ = some (.string k1t):=hcell _ _ _ hb1 f1
   have F2 : wr.cell? ⟨b1,o1 + i * 8 + 3,none⟩ = some (.string k1n):=hcell _ _ _ hb1 f2
   have F3 : wr.cell? ⟨b1,o1 + i * 8 + 4,none⟩ = some (.string k1a):=hcell _ _ _ hb1 f3
   have F4 : wr.cell? ⟨b1,o1 + i * 8 + 5,none⟩ = some (.slice k1A k1m k1q):=hcell _ _ _ hb1 f4
   have F5 : wr.cell? ⟨b1,o1 + i * 8 + 6,none⟩ = some (.pointer k1p):=hcell _ _ _ hb1 f5
   have F6 : wr.cell? ⟨b1,o1 + i * 8 + 7,none⟩ = some (.slice k1B k1r k1s):=hcell _ _ _ hb1 f6
   have G0 : wr.cell? ⟨b2,o2 + i * 8 + 1,none⟩ = some (.int .i64 k2k):=hcell _ _ _ hb2 g0
   have G1 : wr.cell? ⟨b2,o2 + i * 8 + 2,none⟩ = some (.string k2t):=hcell _ _ _ hb2 g1
   have G2 : wr.cell? ⟨b2,o2 + i * 8 + 3,none⟩ = some (.string k2n):=hcell _ _ _ hb2 g2
   have G3 : wr.cell? ⟨b2,o2 + i * 8 + 4,none⟩ = some (.string k2a):=hcell _ _ _ hb2 g3
   have G4 : wr.cell? ⟨b2,o2 + i * 8 + 5,none⟩ = some (.slice k2A k2m k2q):=hcell _ _ _ hb2 g4
   have G5 : wr.cell? ⟨b2,o2 + i * 8 + 6,none⟩ = some (.pointer k2p):=hcell _ _ _ hb2 g5
   have G6 : wr.cell? ⟨b2,o2 + i * 8 + 7,none⟩ = some (.slice k2B k2r k2s):=hcell _ _ _ hb2 g6
   have hC0:=fun W hB=>hSm W _ _ hB hE1 hE2
   dsimp only [C7.arr] at hC0
   have hC : ∀ W : World,W.cell? ⟨w.heap.size,4,none⟩ = some (.slice (some ⟨b1,o1,none⟩) al.length q1) /\ W.cell? ⟨w.heap.size + 1,4,none⟩ = some (.slice (some ⟨b2,o2,none⟩) al.length q2) /\ W.cell? ⟨b1,o1 + i * 8,none⟩ = some (.string m) /\ W.cell? ⟨b2,o2 + i * 8,none⟩ = some (.string m) /\ W.cell? ⟨b1,o1 + i * 8 + 1,none⟩ = some (.int .i64 k1k) /\ W.cell? ⟨b1,o1 + i * 8 + 2,none⟩ = some (.string k1t) /\ W.cell? ⟨b1,o1 + i * 8 + 3,none⟩ = some (.string k1n) /\ W.cell? ⟨b1,o1 + i * 8 + 4,none⟩ = some (.string k1a) /\ W.cell? ⟨b1,o1 + i * 8 + 5,none⟩ = some (.slice k1A k1m k1q) /\ W.cell? ⟨b1,o1 + i * 8 + 6,none⟩ = some (.pointer k1p) /\ W.cell? ⟨b1,o1 + i * 8 + 7,none⟩ = some (.slice k1B k1r k1s) /\ W.cell? ⟨b2,o2 + i * 8 + 1,none⟩ = some (.int .i64 k2k) /\ W.cell? ⟨b2,o2 + i * 8 + 2,none⟩ = some (.string k2t) /\ W.cell? ⟨b2,o2 + i * 8 + 3,none⟩ = some (.string k2n) /\ W.cell? ⟨b2,o2 + i * 8 + 4,none⟩ = some (.string k2a) /\ W.cell? ⟨b2,o2 + i * 8 + 5,none⟩ = some (.slice k2A k2m k2q) /\ W.cell? ⟨b2,o2 + i * 8 + 6,none⟩ = some (.pointer k2p) /\ W.cell? ⟨b2,o2 + i * 8 + 7,none⟩ = some (.slice k2B k2r k2s) /\ Below wr.heap.size wr W -> Calls Tryz.prog 45 #[.agg #[.int .i64 k1k,.string k1t,.string k1n,.string k1a,.slice k1A k1m k1q,.pointer k1p,.slice k1B k1r k1s],.agg #[.int .i64 k2k,.string k2t,.string k2n,.string k2a,.slice k2A k2m k2q,.pointer k2p,.slice k2B k2r k2s]] W fun e w'=>e = .returned (.bool true) /\ Below W.heap.size W w':=fun W h=>hC0 W ((HB.out.trans (HBel.out.mono HB.out.size)).trans (h.2.2.2.2.2.2.2.2.2.2.2.2.2.2.2.2.2.2.mono (Nat.le_trans HB.out.size HBel.out.size)))
   have hK : ∀ W W' : World,(W.cell? ⟨w.heap.size,4,none⟩ = some (.slice (some ⟨b1,o1,none⟩) al.length q1) /\ W.cell? ⟨w.heap.size + 1,4,none⟩ = some (.slice (some ⟨b2,o2,none⟩) al.length q2) /\ W.cell? ⟨b1,o1 + i * 8,none⟩ = some (.string m) /\ W.cell? ⟨b2,o2 + i * 8,none⟩ = some (.string m) /\ W.cell? ⟨b1,o1 + i * 8 + 1,none⟩ = some (.int .i64 k1k) /\ W.cell? ⟨b1,o1 + i * 8 + 2,none⟩ = some (.string k1t) /\ W.cell? ⟨b1,o1 + i * 8 + 3,none⟩ = some (.string k1n) /\ W.cell? ⟨b1,o1 + i * 8 + 4,none⟩ = some (.string k1a) /\ W.cell? ⟨b1,o1 + i * 8 + 5,none⟩ = some (.slice k1A k1m k1q) /\ W.cell? ⟨b1,o1 + i * 8 + 6,none⟩ = some (.pointer k1p) /\ W.cell? ⟨b1,o1 + i * 8 + 7,none⟩ = some (.slice k1B k1r k1s) /\ W.cell? ⟨b2,o2 + i * 8 + 1,none⟩ = some (.int .i64 k2k) /\ W.cell? ⟨b2,o2 + i * 8 + 2,none⟩ = some (.string k2t) /\ W.cell? ⟨b2,o2 + i * 8 + 3,none⟩ = some (.string k2n) /\ W.cell? ⟨b2,o2 + i * 8 + 4,none⟩ = some (.string k2a) /\ W.cell? ⟨b2,o2 + i * 8 + 5,none⟩ = some (.slice k2A k2m k2q) /\ W.cell? ⟨b2,o2 + i * 8 + 6,none⟩ = some (.pointer k2p) /\ W.cell? ⟨b2,o2 + i * 8 + 7,none⟩ = some (.slice k2B k2r k2s) /\ Below wr.heap.size wr W) -> Below W.heap.size W W' -> W'.cell? ⟨w.heap.size,4,none⟩ = some (.slice (some ⟨b1,o1,none⟩) al.length q1) /\ W'.cell? ⟨w.heap.size + 1,4,none⟩ = some (.slice (some ⟨b2,o2,none⟩) al.length q2) /\ W'.cell? ⟨b1,o1 + i * 8,none⟩ = some (.string m) /\ W'.cell? ⟨b2,o2 + i * 8,none⟩ = some (.string m) /\ W'.cell? ⟨b1,o1 + i * 8 + 1,none⟩ = some (.int .i64 k1k) /\ W'.cell? ⟨b1,o1 + i * 8 + 2,none⟩ = some (.string k1t) /\ W'.cell? ⟨b1,o1 + i * 8 + 3,none⟩ = some (.string k1n) /\ W'.cell? ⟨b1,o1 + i * 8 + 4,none⟩ = some (.string k1a) /\ W'.cell? ⟨b1,o1 + i * 8 + 5,none⟩ = some (.slice k1A k1m k1q) /\ W'.cell? ⟨b1,o1 + i * 8 + 6,none⟩ = some (.pointer k1p) /\ W'.cell? ⟨b1,o1 + i * 8 + 7,none⟩ = some (.slice k1B k1r k1s) /\ W'.cell? ⟨b2,o2 + i * 8 + 1,none⟩ = some (.int .i64 k2k) /\ W'.cell? ⟨b2,o2 + i * 8 + 2,none⟩ = some (.string k2t) /\ W'.cell? ⟨b2,o2 + i * 8 + 3,none⟩ = some (.string k2n) /\ W'.cell? ⟨b2,o2 + i * 8 + 4,none⟩ = some (.string k2a) /\ W'.cell? ⟨b2,o2 + i * 8 + 5,none⟩ = some (.slice k2A k2m k2q) /\ W'.cell? ⟨b2,o2 + i * 8 + 6,none⟩ = some (.pointer k2p) /\ W'.cell? ⟨b2,o2 + i * 8 + 7,none⟩ = some (.slice k2B k2r k2s) /\ Below wr.heap.size wr W':=fun W W' ⟨a0,a1,a2,a3,a4,a5,a6,a7,a8,a9,a10,a11,a12,a13,a14,a15,a16,a17,hB⟩ hb =>
    ⟨cell_under hb a0,cell_under hb a1,cell_under hb a2,cell_under hb a3,cell_under hb a4,cell_under hb a5,cell_under hb a6,cell_under hb a7,cell_under hb a8,cell_under hb a9,cell_under hb a10,cell_under hb a11,cell_under hb a12,cell_under hb a13,cell_under hb a14,cell_under hb a15,cell_under hb a16,cell_under hb a17,hB.trans (hb.mono hB.size)⟩
   have hS0 : wr.drew.cell? ⟨w.heap.size,4,none⟩ = some (.slice (some ⟨b1,o1,none⟩) al.length q1) /\ wr.drew.cell? ⟨w.heap.size + 1,4,none⟩ = some (.slice (some ⟨b2,o2,none⟩) al.length q2) /\ wr.drew.cell? ⟨b1,o1 + i * 8,none⟩ = some (.string m) /\ wr.drew.cell? ⟨b2,o2 + i * 8,none⟩ = some (.string m) /\ wr.drew.cell? ⟨b1,o1 + i * 8 + 1,none⟩ = some (.int .i64 k1k) /\ wr.drew.cell? ⟨b1,o1 + i * 8 + 2,none⟩ = some (.string k1t) /\ wr.drew.cell? ⟨b1,o1 + i * 8 + 3,none⟩ = some (.string k1n) /\ wr.drew.cell? ⟨b1,o1 + i * 8 + 4,none⟩ = some (.string k1a) /\ wr.drew.cell? ⟨b1,o1 + i * 8 + 5,none⟩ = some (.slice k1A k1m k1q) /\ wr.drew.cell? ⟨b1,o1 + i * 8 + 6,none⟩ = some (.pointer k1p) /\ wr.drew.cell? ⟨b1,o1 + i * 8 + 7,none⟩ = some (.slice k1B k1r k1s) /\ wr.drew.cell? ⟨b2,o2 + i * 8 + 1,none⟩ = some (.int .i64 k2k) /\ wr.drew.cell? ⟨b2,o2 + i * 8 + 2,none⟩ = some (.string k2t) /\ wr.drew.cell? ⟨b2,o2 + i * 8 + 3,none⟩ = some (.string k2n) /\ wr.drew.cell? ⟨b2,o2 + i * 8 + 4,none⟩ = some (.string k2a) /\ wr.drew.cell? ⟨b2,o2 + i * 8 + 5,none⟩ = some (.slice k2A k2m k2q) /\ wr.drew.cell? ⟨b2,o2 + i * 8 + 6,none⟩ = some (.pointer k2p) /\ wr.drew.cell? ⟨b2,o2 + i * 8 + 7,none⟩ = some (.slice k2B k2r k2s) /\ Below wr.heap.size wr wr.drew:=⟨b14,b24,e1,e2,F0,F1,F2,F3,F4,F5,F6,G0,G1,G2,G3,G4,G5,G6,(Below.refl _ _).drew⟩
   have HC:=hid hC
   have HK:=hid hK
   have HS0:=hid hS0
   clear hC hC0 hK hS0 f0 f1 f2 f3 f4 f5 f6 g0 g1 g2 g3 g4 g5 g6 hE1 hE2 hSm hcell hmem hli hx s1 s2 hb1 hb2
   go_wp2_with fail
   go_region_held3 (fun w'=>w'.cell? ⟨w.heap.size,4,none⟩ = some (.slice (some ⟨b1,o1,none⟩) al.length q1) /\ w'.cell? ⟨w.heap.size + 1,4,none⟩ = some (.slice (some ⟨b2,o2,none⟩) al.length q2) /\ w'.cell? ⟨b1,o1 + i * 8,none⟩ = some (.string m) /\ w'.cell? ⟨b2,o2 + i * 8,none⟩ = some (.string m) /\ w'.cell? ⟨b1,o1 + i * 8 + 1,none⟩ = some (.int .i64 k1k) /\ w'.cell? ⟨b1,o1 + i * 8 + 2,none⟩ = some (.string k1t) /\ w'.cell? ⟨b1,o1 + i * 8 + 3,none⟩ = some (.string k1n) /\ w'.cell? ⟨b1,o1 + i * 8 + 4,none⟩ = some (.string k1a) /\ w'.cell? ⟨b1,o1 + i * 8 + 5,none⟩ = some (.slice k1A k1m k1q) /\ w'.cell? ⟨b1,o1 + i * 8 + 6,none⟩ = some (.pointer k1p) /\ w'.cell? ⟨b1,o1 + i * 8 + 7,none⟩ = some (.slice k1B k1r k1s) /\ w'.cell? ⟨b2,o2 + i * 8 + 1,none⟩ = some (.int .i64 k2k) /\ w'.cell? ⟨b2,o2 + i * 8 + 2,none⟩ = some (.string k2t) /\ w'.cell? ⟨b2,o2 + i * 8 + 3,none⟩ = some (.string k2n) /\ w'.cell? ⟨b2,o2 + i * 8 + 4,none⟩ = some (.string k2a) /\ w'.cell? ⟨b2,o2 + i * 8 + 5,none⟩ = some (.slice k2A k2m k2q) /\ w'.cell? ⟨b2,o2 + i * 8 + 6,none⟩ = some (.pointer k2p) /\ w'.cell? ⟨b2,o2 + i * 8 + 7,none⟩ = some (.slice k2B k2r k2s) /\ Below wr.heap.size wr w')
    (first | (exact HK.out _ _ (by assumption) (by assumption)) | (exact HS0.out) | go_keep)
    (first | (go_at_call 45; refine (HC.out _ (by assumption)).mono ?_; rintro e w' ⟨rfl,hb5⟩))
   rename_i hmE
   obtain ⟨_,_,_,_,_,_,_,_,_,_,_,_,_,_,_,_,_,_,hBE⟩:=hmE
   go_wp2_with fail
   refine ⟨⟨i + 1,by go_num,hlt,?_,?_,?_⟩,by simp [intOf]; omega⟩
   ·exact hid (HBel.out.trans (hBE.mono HBel.out.size))
   ·exact hid (HX1.out.later hBE)
   ·exact hid (HX2.out.later hBE)
  have d1 : decide ((i : Int) < (al.length : Int)) = false:=decide_eq_false (by omega)
  have d2 : ¬ (i : Int) < (al.length : Int):=by omega
  have b16:=HX1.out.cell 6
  have b26:=HX2.out.cell 6
  simp at b16 b26
  go_wp2
  go_loopw [101] (fun t101 wr=>∃ i : Nat,t101 = .int .i64 i /\ i <= vs.length /\ Hid (Below w.heap.size w wr) /\ Hid (BoxAt wr w.heap.size #[.int .i64 k,.string t,.string n,.string a,.slice A1 al.length q1,.pointer (some ⟨x1,y1,none⟩),.slice B1 vs.length r1] 48) /\ Hid (BoxAt wr (w.heap.size + 1) #[.int .i64 k,.string t,.string n,.string a,.slice A2 al.length q2,.pointer (some ⟨x2,y2,none⟩),.slice B2 vs.length r2] 48)) (fun t101 _=>vs.length - (intOf t101).toNat)
  case atStart=>exact ⟨0,rfl,Nat.zero_le _,HBel,HX1,HX2⟩
  case round =>
   clear b14 b24 b16 b26 hxl1 hxl2 HX1 HX2 HBel
   obtain ⟨v,rfl,hv,HBel,HX1,HX2⟩:=hrel
   have hv0 : (v : Int) <= 8000000:=by omega
   have hxl1:=HX1.out.lt
   have hxl2:=HX2.out.lt
   have b16:=HX1.out.cell 6
   have b26:=HX2.out.cell 6
   simp at b16 b26
   by_cases hlv : v < vs.length
   ·have d3 : decide ((v : Int) < (vs.length : Int)) = true:=decide_eq_true (by omega)
    have d4 : (v : Int) < (vs.length : Int):=by omega
    obtain ⟨b1,o1,rfl,hb1,g1⟩:=HV1.out v hlv
    obtain ⟨b2,o2,rfl,hb2,g2⟩:=HV2.out v hlv
    have hli : vs[v]? = some vs[v]:=List.getElem?_eq_getElem hlv
    have hmem : vs[v] ∈ vs:=List.getElem_mem hlv
    obtain ⟨m,dd,pv,hx⟩ : ∃ m dd pv,vs[v] = VA.mk m dd pv:=by cases h : vs[v]; exact ⟨_,_,_,rfl⟩
    rw [hx] at hli hmem
    obtain ⟨s1,s2,u1,s3,hp1⟩:=g1 v m dd pv hli
    obtain ⟨s4,s5,u2,s6,hp2⟩:=g2 v m dd pv hli
    obtain ⟨hpl,hps⟩:=HP.out m dd pv hmem
    have hcell : ∀ (b o : Nat) z,b < W0.heap.size -> W0.cell? ⟨b,o,none⟩ = some z -> wr.cell? ⟨b,o,none⟩ = some z:=fun b o z hb h =>
     (HBel.out.cell (p:=⟨b,o,none⟩) (Nat.lt_of_lt_of_le hb HB.out.size)).trans ((HB.out.cell (p:=⟨b,o,none⟩) hb).trans h)
    have hPc:=fun W (h : Below W0.heap.size W0 W)=>pats_any pv hp1 hp2 hpl hps W h
    obtain ⟨U1,w1,rfl,_⟩:=hp1
    obtain ⟨U2,w2,rfl,_⟩:=hp2
    have e1:=hcell _ _ _ hb1 s1
    have e2:=hcell _ _ _ hb1 s2
    have e3:=hcell _ _ _ hb1 s3
    have e4:=hcell _ _ _ hb2 s4
    have e5:=hcell _ _ _ hb2 s5
    have e6:=hcell _ _ _ hb2 s6
    have hbq:=Nat.le_trans HB.out.size HBel.out.size
    have hbw1 : b1 < wr.heap.size:=Nat.lt_of_lt_of_le hb1 hbq
    have hbw2 : b2 < wr.heap.size:=Nat.lt_of_lt_of_le hb2 hbq
    have zm : (m.toList != m.toList) = false:=bne_self_eq_false _
    have zd : (dd != dd) = false:=bne_self_eq_false _
    have HPc:=hid hPc
    have hs0:=HBel.out.size
    clear hPc hcell hmem hli hx s1 s2 s3 s4 s5 s6 hb1 hb2 g1 g2 hps
    go_wp2_with fail
    go_at_call 26
    refine (HPc.out _ (((HB.out.trans (HBel.out.mono HB.out.size)).alloc hbq _).alloc (by simp; omega) _)).mono ?_
    rintro e w3 ⟨rfl,hb3⟩
    have hb4:=(((Below.refl wr.heap.size wr).alloc (Nat.le_refl _) _).alloc (by simp) _).trans (hb3.mono (by simp; omega))
    have HB4:=hid (HBel.out.trans (hb4.mono hs0))
    have HX14:=hid (HX1.out.later hb4)
    have HX24:=hid (HX2.out.later hb4)
    clear hb3 hb4
    go_wp2
    go_roundw
    case rel=>exact ⟨v + 1,by go_num,hlv,HB4,HX14,HX24⟩
    case measure=>simp [intOf]; omega
   have d3 : decide ((v : Int) < (vs.length : Int)) = false:=decide_eq_false (by omega)
   have d4 : ¬ (v : Int) < (vs.length : Int):=by omega
   have b15:=HX1.out.cell 5
   have b25:=HX2.out.cell 5
   simp at b15 b25
   obtain ⟨f0,f1,f2,f3,f4,f5,f6⟩:=HK1.out
   obtain ⟨g0,g1,g2,g3,g4,g5,g6⟩:=HK2.out
   have hE1:=HI1.out
   have hE2:=HI2.out
   obtain ⟨k1k,k1t,k1n,k1a,k1A,k1m,k1q,k1p,k1B,k1r,k1s,rfl⟩:=ex_shape hE1
   obtain ⟨k2k,k2t,k2n,k2a,k2A,k2m,k2q,k2p,k2B,k2r,k2s,rfl⟩:=ex_shape hE2
   dsimp only at f0 f1 f2 f3 f4 f5 f6 g0 g1 g2 g3 g4 g5 g6
   have hcell : ∀ (b o : Nat) z,b < W0.heap.size -> W0.cell? ⟨b,o,none⟩ = some z -> wr.cell? ⟨b,o,none⟩ = some z:=fun b o z hb h =>
    (HBel.out.cell (p:=⟨b,o,none⟩) (Nat.lt_of_lt_of_le hb HB.out.size)).trans ((HB.out.cell (p:=⟨b,o,none⟩) hb).trans h)
   have F0:=hcell _ _ _ hx1 f0
   have F1:=hcell _ _ _ hx1 f1
   have F2:=hcell _ _ _ hx1 f2
   have F3:=hcell _ _ _ hx1 f3
   have F4:=hcell _ _ _ hx1 f4
   have F5:=hcell _ _ _ hx1 f5
   have F6:=hcell _ _ _ hx1 f6
   have G0:=hcell _ _ _ hx2 g0
   have G1:=hcell _ _ _ hx2 g1
   have G2:=hcell _ _ _ hx2 g2
   have G3:=hcell _ _ _ hx2 g3
   have G4:=hcell _ _ _ hx2 g4
   have G5:=hcell _ _ _ hx2 g5
   have G6:=hcell _ _ _ hx2 g6
   have hI:=HI.out
   have hC0:=fun W hB=>hI W _ _ hB hE1 hE2
   dsimp only [C7.arr] at hC0
   have hbq:=Nat.le_trans HB.out.size HBel.out.size
   have hC : ∀ W : World,W.cell? ⟨w.heap.size,5,none⟩ = some (.pointer (some ⟨x1,y1,none⟩)) /\ W.cell? ⟨w.heap.size + 1,5,none⟩ = some (.pointer (some ⟨x2,y2,none⟩)) /\ W.cell? ⟨x1,y1,none⟩ = some (.int .i64 k1k) /\ W.cell? ⟨x1,y1 + 1,none⟩ = some (.string k1t) /\ W.cell? ⟨x1,y1 + 2,none⟩ = some (.string k1n) /\ W.cell? ⟨x1,y1 + 3,none⟩ = some (.string k1a) /\ W.cell? ⟨x1,y1 + 4,none⟩ = some (.slice k1A k1m k1q) /\ W.cell? ⟨x1,y1 + 5,none⟩ = some (.pointer k1p) /\ W.cell? ⟨x1,y1 + 6,none⟩ = some (.slice k1B k1r k1s) /\ W.cell? ⟨x2,y2,none⟩ = some (.int .i64 k2k) /\ W.cell? ⟨x2,y2 + 1,none⟩ = some (.string k2t) /\ W.cell? ⟨x2,y2 + 2,none⟩ = some (.string k2n) /\ W.cell? ⟨x2,y2 + 3,none⟩ = some (.string k2a) /\ W.cell? ⟨x2,y2 + 4,none⟩ = some (.slice k2A k2m k2q) /\ W.cell? ⟨x2,y2 + 5,none⟩ = some (.pointer k2p) /\ W.cell? ⟨x2,y2 + 6,none⟩ = some (.slice k2B k2r k2s) /\ Below wr.heap.size wr W -> Calls Tryz.prog 45 #[.agg #[.int .i64 k1k,.string k1t,.string k1n,.string k1a,.slice k1A k1m k1q,.pointer k1p,.slice k1B k1r k1s],.agg #[.int .i64 k2k,.string k2t,.string k2n,.string k2a,.slice k2A k2m k2q,.pointer k2p,.slice k2B k2r k2s]] W fun e w'=>e = .returned (.bool true) /\ Below W.heap.size W w':=fun W h=>hC0 W ((HB.out.trans (HBel.out.mono HB.out.size)).trans (h.2.2.2.2.2.2.2.2.2.2.2.2.2.2.2.2.mono hbq))
   have hK : ∀ W W' : World,(W.cell? ⟨w.heap.size,5,none⟩ = some (.pointer (some ⟨x1,y1,none⟩)) /\ W.cell? ⟨w.heap.size + 1,5,none⟩ = some (.pointer (some ⟨x2,y2,none⟩)) /\ W.cell? ⟨x1,y1,none⟩ = some (.int .i64 k1k) /\ W.cell? ⟨x1,y1 + 1,none⟩ = some (.string k1t) /\ W.cell? ⟨x1,y1 + 2,none⟩ = some (.string k1n) /\ W.cell? ⟨x1,y1 + 3,none⟩ = some (.string k1a) /\ W.cell? ⟨x1,y1 + 4,none⟩ = some (.slice k1A k1m k1q) /\ W.cell? ⟨x1,y1 + 5,none⟩ = some (.pointer k1p) /\ W.cell? ⟨x1,y1 + 6,none⟩ = some (.slice k1B k1r k1s) /\ W.cell? ⟨x2,y2,none⟩ = some (.int .i64 k2k) /\ W.cell? ⟨x2,y2 + 1,none⟩ = some (.string k2t) /\ W.cell? ⟨x2,y2 + 2,none⟩ = some (.string k2n) /\ W.cell? ⟨x2,y2 + 3,none⟩ = some (.string k2a) /\ W.cell? ⟨x2,y2 + 4,none⟩ = some (.slice k2A k2m k2q) /\ W.cell? ⟨x2,y2 + 5,none⟩ = some (.pointer k2p) /\ W.cell? ⟨x2,y2 + 6,none⟩ = some (.slice k2B k2r k2s) /\ Below wr.heap.size wr W) -> Below W.heap.size W W' -> W'.cell? ⟨w.heap.size,5,none⟩ = some (.pointer (some ⟨x1,y1,none⟩)) /\ W'.cell? ⟨w.heap.size + 1,5,none⟩ = some (.pointer (some ⟨x2,y2,none⟩)) /\ W'.cell? ⟨x1,y1,none⟩ = some (.int .i64 k1k) /\ W'.cell? ⟨x1,y1 + 1,none⟩ = some (.string k1t) /\ W'.cell? ⟨x1,y1 + 2,none⟩ = some (.string k1n) /\ W'.cell? ⟨x1,y1 + 3,none⟩ = some (.string k1a) /\ W'.cell? ⟨x1,y1 + 4,none⟩ = some (.slice k1A k1m k1q) /\ W'.cell? ⟨x1,y1 + 5,none⟩ = some (.pointer k1p) /\ W'.cell? ⟨x1,y1 + 6,none⟩ = some (.slice k1B k1r k1s) /\ W'.cell? ⟨x2,y2,none⟩ = some (.int .i64 k2k) /\ W'.cell? ⟨x2,y2 + 1,none⟩ = some (.string k2t) /\ W'.cell? ⟨x2,y2 + 2,none⟩ = some (.string k2n) /\ W'.cell? ⟨x2,y2 + 3,none⟩ = some (.string k2a) /\ W'.cell? ⟨x2,y2 + 4,none⟩ = some (.slice k2A k2m k2q) /\ W'.cell? ⟨x2,y2 + 5,none⟩ = some (.pointer k2p) /\ W'.cell? ⟨x2,y2 + 6,none⟩ = some (.slice k2B k2r k2s) /\ Below wr.heap.size wr W':=fun W W' ⟨a0,a1,a2,a3,a4,a5,a6,a7,a8,a9,a10,a11,a12,a13,a14,a15,hB⟩ hb =>
    ⟨cell_under hb a0,cell_under hb a1,cell_under hb a2,cell_under hb a3,cell_under hb a4,cell_under hb a5,cell_under hb a6,cell_under hb a7,cell_under hb a8,cell_under hb a9,cell_under hb a10,cell_under hb a11,cell_under hb a12,cell_under hb a13,cell_under hb a14,cell_under hb a15,hB.trans (hb.mono hB.size)⟩
   have hS0 : wr.drew.cell? ⟨w.heap.size,5,none⟩ = some (.pointer (some ⟨x1,y1,none⟩)) /\ wr.drew.cell? ⟨w.heap.size + 1,5,none⟩ = some (.pointer (some ⟨x2,y2,none⟩)) /\ wr.drew.cell? ⟨x1,y1,none⟩ = some (.int .i64 k1k) /\ wr.drew.cell? ⟨x1,y1 + 1,none⟩ = some (.string k1t) /\ wr.drew.cell? ⟨x1,y1 + 2,none⟩ = some (.string k1n) /\ wr.drew.cell? ⟨x1,y1 + 3,none⟩ = some (.string k1a) /\ wr.drew.cell? ⟨x1,y1 + 4,none⟩ = some (.slice k1A k1m k1q) /\ wr.drew.cell? ⟨x1,y1 + 5,none⟩ = some (.pointer k1p) /\ wr.drew.cell? ⟨x1,y1 + 6,none⟩ = some (.slice k1B k1r k1s) /\ wr.drew.cell? ⟨x2,y2,none⟩ = some (.int .i64 k2k) /\ wr.drew.cell? ⟨x2,y2 + 1,none⟩ = some (.string k2t) /\ wr.drew.cell? ⟨x2,y2 + 2,none⟩ = some (.string k2n) /\ wr.drew.cell? ⟨x2,y2 + 3,none⟩ = some (.string k2a) /\ wr.drew.cell? ⟨x2,y2 + 4,none⟩ = some (.slice k2A k2m k2q) /\ wr.drew.cell? ⟨x2,y2 + 5,none⟩ = some (.pointer k2p) /\ wr.drew.cell? ⟨x2,y2 + 6,none⟩ = some (.slice k2B k2r k2s) /\ Below wr.heap.size wr wr.drew:=⟨b15,b25,F0,F1,F2,F3,F4,F5,F6,G0,G1,G2,G3,G4,G5,G6,(Below.refl _ _).drew⟩
   have HC:=hid hC
   have HK:=hid hK
   have HS0:=hid hS0
   have hxw1 : x1 < wr.heap.size:=Nat.lt_of_lt_of_le hx1 hbq
   have hxw2 : x2 < wr.heap.size:=Nat.lt_of_lt_of_le hx2 hbq
   clear hC hC0 hK hS0 hI f0 f1 f2 f3 f4 f5 f6 g0 g1 g2 g3 g4 g5 g6 hE1 hE2 hcell HI1 HI2 HK1 HK2
   go_wp2_with fail
   go_region_held3 (fun w'=>w'.cell? ⟨w.heap.size,5,none⟩ = some (.pointer (some ⟨x1,y1,none⟩)) /\ w'.cell? ⟨w.heap.size + 1,5,none⟩ = some (.pointer (some ⟨x2,y2,none⟩)) /\ w'.cell? ⟨x1,y1,none⟩ = some (.int .i64 k1k) /\ w'.cell? ⟨x1,y1 + 1,none⟩ = some (.string k1t) /\ w'.cell? ⟨x1,y1 + 2,none⟩ = some (.string k1n) /\ w'.cell? ⟨x1,y1 + 3,none⟩ = some (.string k1a) /\ w'.cell? ⟨x1,y1 + 4,none⟩ = some (.slice k1A k1m k1q) /\ w'.cell? ⟨x1,y1 + 5,none⟩ = some (.pointer k1p) /\ w'.cell? ⟨x1,y1 + 6,none⟩ = some (.slice k1B k1r k1s) /\ w'.cell? ⟨x2,y2,none⟩ = some (.int .i64 k2k) /\ w'.cell? ⟨x2,y2 + 1,none⟩ = some (.string k2t) /\ w'.cell? ⟨x2,y2 + 2,none⟩ = some (.string k2n) /\ w'.cell? ⟨x2,y2 + 3,none⟩ = some (.string k2a) /\ w'.cell? ⟨x2,y2 + 4,none⟩ = some (.slice k2A k2m k2q) /\ w'.cell? ⟨x2,y2 + 5,none⟩ = some (.pointer k2p) /\ w'.cell? ⟨x2,y2 + 6,none⟩ = some (.slice k2B k2r k2s) /\ Below wr.heap.size wr w')
    (first | (exact HK.out _ _ (by assumption) (by assumption)) | (exact HS0.out) | go_keep)
    (first | (go_at_call 45; refine (HC.out _ (by assumption)).mono ?_; rintro e w' ⟨rfl,hb5⟩))
   rename_i hmE
   obtain ⟨_,_,_,_,_,_,_,_,_,_,_,_,_,_,_,_,hBE⟩:=hmE
   go_wp2_with fail
   go_ret
   exact ⟨rfl,HBel.out.trans (hBE.mono HBel.out.size)⟩
theorem same_all {W0 : World} : ∀ (m : Nat) (e : EX),e.size <= m -> m <= 4000000 -> SameTo W0 e
 | 0,.mk k t n a al ie vs,h,_=>by rw [EX.size] at h; omega
 | m + 1,.mk k t n a al ie vs,h,hm=>by
  intro w c1 c2 hb h1 h2
  rw [EX.size] at h
  obtain ⟨A1,q1,p1,B1,r1,rfl,g1,g2,g3⟩:=ex_open h1
  obtain ⟨A2,q2,p2,B2,r2,rfl,g4,g5,g6⟩:=ex_open h2
  have hal:=len_As al
  have hvs:=len_Vs vs
  have hS : ∀ n e,AR.mk n e ∈ al -> SameTo W0 e:=fun n e he=>same_all m e (by have:=mem_As he; omega) (by omega)
  have hP : ∀ n d v,VA.mk n d v ∈ vs -> v.length <= 8000000 /\ ∀ t e,EL.mk t (some e) ∈ v -> SameTo W0 e:=fun n d v hv=>by
   have h3:=mem_Vs hv
   have h4:=len_Es v
   exact ⟨by omega,fun t e he=>same_all m e (by have:=mem_Es he; omega) (by omega)⟩
  dsimp only [C7.arr]
  cases ie with
  | none =>
   simp only [OAt] at g2 g5
   cases g2
   cases g5
   exact same_no k t n a al vs (by omega) (by omega) hS hP A1 q1 B1 r1 A2 q2 B2 r2 g1 g4 g3 g6 w hb
  | some e =>
   simp only [OAt] at g2 g5
   obtain ⟨x1,y1,d1,e1,hx1,hk1,hi1⟩:=g2
   obtain ⟨x2,y2,d2,e2,hx2,hk2,hi2⟩:=g5
   cases e1
   cases e2
   rw [sizeO] at h
   exact same_in k t n a al e vs (by omega) (by omega) hS hP (same_all m e (by omega) (by omega)) A1 q1 B1 r1 A2 q2 B2 r2 x1 y1 x2 y2 d1 d2 hx1 hx2 hk1 hk2 hi1 hi2 g1 g4 g3 g6 w hb
theorem same_to {W0 : World} (e : EX) (h : e.size <= 4000000) : SameTo W0 e:=same_all e.size e (Nat.le_refl _) h
theorem pats_same {W0 : World} (l : List EL) {v1 v2 : Value} (h1 : PatAt W0 l v1) (h2 : PatAt W0 l v2) (hl : sizeEs l <= 4000000) (w : World) (hb : Below W0.heap.size W0 w) :
  Calls Tryz.prog 26 #[v1,v2] w fun e w'=>e = .returned (.bool true) /\ Below w.heap.size w w' :=
 pats_any l h1 h2 (by have:=len_Es l; omega) (fun t e he=>same_to e (by have:=mem_Es he; omega)) w hb
theorem mem_Ts : ∀ {l : List AT} {n : ByteArray} {v : List EL},AT.mk n v ∈ l -> sizeEs v <= sizeTs l
 | .mk n' v' :: r,n,v,h=>by
  rw [sizeTs]
  rcases List.mem_cons.1 h with h | h
  ·cases h; omega
  ·have:=mem_Ts h; omega
set_option maxHeartbeats 16000000 in
set_option maxRecDepth 1000000 in
theorem entry_same {W0 : World} (ty lv : Int) (tx nm : ByteArray) (l : List EL) (ats : List AT) {v1 v2 u1 u2 : Value} (f1 t1 f2 t2 : Int) (h1 : PatAt W0 l v1) (h2 : PatAt W0 l v2) (g1 : LieAt (TsAt W0 ats) u1 ats.length) (g2 : LieAt (TsAt W0 ats) u2 ats.length)
  (hl : sizeEs l <= 4000000) (hts : sizeTs ats <= 4000000) (w : World) (hb : Below W0.heap.size W0 w) :
  Calls Tryz.prog 12 #[entV ty lv tx nm v1 u1 f1 t1,entV ty lv tx nm v2 u2 f2 t2] w fun e w'=>e = .returned (.bool true) /\ Below w.heap.size w w':=by
 have hPl:=fun W (h : Below W0.heap.size W0 W)=>pats_same l h1 h2 hl W h
 have hA1:=fun i (hi : i < ats.length)=>ats_get g1 hi
 have hA2:=fun i (hi : i < ats.length)=>ats_get g2 hi
 obtain ⟨A1,c1,rfl,_⟩:=h1
 obtain ⟨A2,c2,rfl,_⟩:=h2
 obtain ⟨D1,q1,rfl,_⟩:=g1
 obtain ⟨D2,q2,rfl,_⟩:=g2
 have HPl:=hid hPl
 have HA1:=hid hA1
 have HA2:=hid hA2
 have HB:=hid hb
 have hs0:=hb.size
 have hle:=len_Es l
 have hlt0:=sizeTs_length ats
 have hl0 : (l.length : Int) <= 4000000:=by omega
 have hat0 : (ats.length : Int) <= 4000000:=by omega
 have z1 : (tx.toList != tx.toList) = false:=bne_self_eq_false _
 have z2 : (nm.toList != nm.toList) = false:=bne_self_eq_false _
 have z3 : (ty != ty) = false:=bne_self_eq_false _
 have z4 : (lv != lv) = false:=bne_self_eq_false _
 have hbox1 : BoxAt ((w.alloc (.cells #[.int .i64 ty,.int .i64 lv,.string tx,.string nm,.slice A1 l.length c1,.slice D1 ats.length q1,.int .i64 f1,.int .i64 t1] 34)).alloc (.cells #[.int .i64 ty,.int .i64 lv,.string tx,.string nm,.slice A2 l.length c2,.slice D2 ats.length q2,.int .i64 f2,.int .i64 t2] 34)) w.heap.size #[.int .i64 ty,.int .i64 lv,.string tx,.string nm,.slice A1 l.length c1,.slice D1 ats.length q1,.int .i64 f1,.int .i64 t1] 34:=(BoxAt.new _ _ _).alloc _
 have hbox2 : BoxAt ((w.alloc (.cells #[.int .i64 ty,.int .i64 lv,.string tx,.string nm,.slice A1 l.length c1,.slice D1 ats.length q1,.int .i64 f1,.int .i64 t1] 34)).alloc (.cells #[.int .i64 ty,.int .i64 lv,.string tx,.string nm,.slice A2 l.length c2,.slice D2 ats.length q2,.int .i64 f2,.int .i64 t2] 34)) (w.heap.size + 1) #[.int .i64 ty,.int .i64 lv,.string tx,.string nm,.slice A2 l.length c2,.slice D2 ats.length q2,.int .i64 f2,.int .i64 t2] 34:=BoxAt.new' _ _ _ _ (by simp)
 have Hbox1:=hid hbox1
 have Hbox2:=hid hbox2
 clear hPl hA1 hA2 hb hbox1 hbox2
 unfold entV
 go_enter Tryz.func12,Tryz.ntmps12
 go_wp2
 go_loopw [44] (fun t44 wr=>∃ i : Nat,t44 = .int .i64 i /\ i <= ats.length /\ Hid (Below w.heap.size w wr) /\ Hid (BoxAt wr w.heap.size #[.int .i64 ty,.int .i64 lv,.string tx,.string nm,.slice A1 l.length c1,.slice D1 ats.length q1,.int .i64 f1,.int .i64 t1] 34) /\ Hid (BoxAt wr (w.heap.size + 1) #[.int .i64 ty,.int .i64 lv,.string tx,.string nm,.slice A2 l.length c2,.slice D2 ats.length q2,.int .i64 f2,.int .i64 t2] 34)) (fun t44 _=>ats.length - (intOf t44).toNat)
 case atStart=>exact ⟨0,rfl,Nat.zero_le _,((Below.refl _ _).alloc (Nat.le_refl _) _).alloc (by simp) _,Hbox1,Hbox2⟩
 case round =>
  obtain ⟨i,rfl,hi,HBel,HX1,HX2⟩:=hrel
  have hi0 : (i : Int) <= 8000000:=by omega
  have hxl1:=HX1.out.lt
  have hxl2:=HX2.out.lt
  have b15:=HX1.out.cell 5
  have b25:=HX2.out.cell 5
  have b14:=HX1.out.cell 4
  have b24:=HX2.out.cell 4
  simp at b14 b24 b15 b25
  have hbq:=Nat.le_trans HB.out.size HBel.out.size
  by_cases hlt : i < ats.length
  ·have d1 : decide ((i : Int) < (ats.length : Int)) = true:=decide_eq_true (by omega)
   have d2 : (i : Int) < (ats.length : Int):=by omega
   obtain ⟨b1,o1,c1',e1',hb1,g1⟩:=HA1.out i hlt
   obtain ⟨b2,o2,c2',e2',hb2,g2⟩:=HA2.out i hlt
   cases e1'
   cases e2'
   have hli : ats[i]? = some ats[i]:=List.getElem?_eq_getElem hlt
   have hmem : ats[i] ∈ ats:=List.getElem_mem hlt
   obtain ⟨m,p,hx⟩ : ∃ m p,ats[i] = AT.mk m p:=by cases h : ats[i]; exact ⟨_,_,rfl⟩
   rw [hx] at hli hmem
   obtain ⟨s1,u1,s2,hp1⟩:=g1 i m p hli
   obtain ⟨s3,u2,s4,hp2⟩:=g2 i m p hli
   have hps:=mem_Ts hmem
   have hcell : ∀ (b o : Nat) v,b < W0.heap.size -> W0.cell? ⟨b,o,none⟩ = some v -> wr.cell? ⟨b,o,none⟩ = some v:=fun b o v hb h =>
    (HBel.out.cell (p:=⟨b,o,none⟩) (Nat.lt_of_lt_of_le hb HB.out.size)).trans ((HB.out.cell (p:=⟨b,o,none⟩) hb).trans h)
   have hPc:=fun W (h : Below W0.heap.size W0 W)=>pats_same p hp1 hp2 (by omega) W h
   obtain ⟨U1,w1,rfl,_⟩:=hp1
   obtain ⟨U2,w2,rfl,_⟩:=hp2
   have e1:=hcell _ _ _ hb1 s1
   have e2:=hcell _ _ _ hb2 s3
   have e3:=hcell _ _ _ hb1 s2
   have e4:=hcell _ _ _ hb2 s4
   have hbw1 : b1 < wr.heap.size:=Nat.lt_of_lt_of_le hb1 hbq
   have hbw2 : b2 < wr.heap.size:=Nat.lt_of_lt_of_le hb2 hbq
   have zm : (m.toList != m.toList) = false:=bne_self_eq_false _
   have hC : ∀ W : World,W.cell? ⟨w.heap.size,5,none⟩ = some (.slice (some ⟨b1,o1,none⟩) ats.length q1) /\ W.cell? ⟨w.heap.size + 1,5,none⟩ = some (.slice (some ⟨b2,o2,none⟩) ats.length q2) /\ W.cell? ⟨b1,o1 + i * 2,none⟩ = some (.string m) /\ W.cell? ⟨b2,o2 + i * 2,none⟩ = some (.string m) /\ W.cell? ⟨b1,o1 + i * 2 + 1,none⟩ = some (.slice U1 p.length w1) /\ W.cell? ⟨b2,o2 + i * 2 + 1,none⟩ = some (.slice U2 p.length w2) /\ Below wr.heap.size wr W -> Calls Tryz.prog 26 #[.slice U1 p.length w1,.slice U2 p.length w2] W fun e w'=>e = .returned (.bool true) /\ Below W.heap.size W w':=fun W h=>hPc W ((HB.out.trans (HBel.out.mono HB.out.size)).trans (h.2.2.2.2.2.2.mono hbq))
   have hK : ∀ W W' : World,(W.cell? ⟨w.heap.size,5,none⟩ = some (.slice (some ⟨b1,o1,none⟩) ats.length q1) /\ W.cell? ⟨w.heap.size + 1,5,none⟩ = some (.slice (some ⟨b2,o2,none⟩) ats.length q2) /\ W.cell? ⟨b1,o1 + i * 2,none⟩ = some (.string m) /\ W.cell? ⟨b2,o2 + i * 2,none⟩ = some (.string m) /\ W.cell? ⟨b1,o1 + i * 2 + 1,none⟩ = some (.slice U1 p.length w1) /\ W.cell? ⟨b2,o2 + i * 2 + 1,none⟩ = some (.slice U2 p.length w2) /\ Below wr.heap.size wr W) -> Below W.heap.size W W' -> W'.cell? ⟨w.heap.size,5,none⟩ = some (.slice (some ⟨b1,o1,none⟩) ats.length q1) /\ W'.cell? ⟨w.heap.size + 1,5,none⟩ = some (.slice (some ⟨b2,o2,none⟩) ats.length q2) /\ W'.cell? ⟨b1,o1 + i * 2,none⟩ = some (.string m) /\ W'.cell? ⟨b2,o2 + i * 2,none⟩ = some (.string m) /\ W'.cell? ⟨b1,o1 + i * 2 + 1,none⟩ = some (.slice U1 p.length w1) /\ W'.cell? ⟨b2,o2 + i * 2 + 1,none⟩ = some (.slice U2 p.length w2) /\ Below wr.heap.size wr W':=fun W W' ⟨a0,a1,a2,a3,a4,a5,hB⟩ hb =>
    ⟨cell_under hb a0,cell_under hb a1,cell_under hb a2,cell_under hb a3,cell_under hb a4,cell_under hb a5,hB.trans (hb.mono hB.size)⟩
   have hS0 : wr.drew.cell? ⟨w.heap.size,5,none⟩ = some (.slice (some ⟨b1,o1,none⟩) ats.length q1) /\ wr.drew.cell? ⟨w.heap.size + 1,5,none⟩ = some (.slice (some ⟨b2,o2,none⟩) ats.length q2) /\ wr.drew.cell? ⟨b1,o1 + i * 2,none⟩ = some (.string m) /\ wr.drew.cell? ⟨b2,o2 + i * 2,none⟩ = some (.string m) /\ wr.drew.cell? ⟨b1,o1 + i * 2 + 1,none⟩ = some (.slice U1 p.length w1) /\ wr.drew.cell? ⟨b2,o2 + i * 2 + 1,none⟩ = some (.slice U2 p.length w2) /\ Below wr.heap.size wr wr.drew:=⟨b15,b25,e1,e2,e3,e4,(Below.refl _ _).drew⟩
   have HC:=hid hC
   have HK:=hid hK
   have HS0:=hid hS0
   clear hC hK hS0 hPc hcell hmem hli hx s1 s2 s3 s4 hb1 hb2 g1 g2 hps b14 b24
   go_wp2_with fail
   go_region_held3 (fun w'=>w'.cell? ⟨w.heap.size,5,none⟩ = some (.slice (some ⟨b1,o1,none⟩) ats.length q1) /\ w'.cell? ⟨w.heap.size + 1,5,none⟩ = some (.slice (some ⟨b2,o2,none⟩) ats.length q2) /\ w'.cell? ⟨b1,o1 + i * 2,none⟩ = some (.string m) /\ w'.cell? ⟨b2,o2 + i * 2,none⟩ = some (.string m) /\ w'.cell? ⟨b1,o1 + i * 2 + 1,none⟩ = some (.slice U1 p.length w1) /\ w'.cell? ⟨b2,o2 + i * 2 + 1,none⟩ = some (.slice U2 p.length w2) /\ Below wr.heap.size wr w')
    (first | (exact HK.out _ _ (by assumption) (by assumption)) | (exact HS0.out) | go_keep)
    (first | (go_at_call 26; refine (HC.out _ (by assumption)).mono ?_; rintro e w' ⟨rfl,hb5⟩))
   rename_i hmE
   obtain ⟨_,_,_,_,_,_,hBE⟩:=hmE
   go_wp2_with fail
   refine ⟨⟨i + 1,by go_num,hlt,?_,?_,?_⟩,by simp [intOf]; omega⟩
   ·exact hid (HBel.out.trans (hBE.mono HBel.out.size))
   ·exact hid (HX1.out.later hBE)
   ·exact hid (HX2.out.later hBE)
  have d1 : decide ((i : Int) < (ats.length : Int)) = false:=decide_eq_false (by omega)
  have d2 : ¬ (i : Int) < (ats.length : Int):=by omega
  go_wp2_with fail
  go_at_call 26
  refine (HPl.out _ (HB.out.trans (HBel.out.mono HB.out.size))).mono ?_
  rintro e w3 ⟨rfl,hb3⟩
  have HB3:=hid (HBel.out.trans (hb3.mono HBel.out.size))
  clear hb3
  go_wp2
  go_ret
  exact ⟨rfl,HB3.out⟩
set_option maxHeartbeats 2000000 in
set_option maxRecDepth 100000 in
theorem termsAttr_any (k : Int) (t n a : ByteArray) (A1 : Option Addr) (n1 c1 : Nat) (p : Option Addr) (A2 : Option Addr) (n2 c2 : Nat) (w : World) :
  Calls Tryz.prog 238 #[exV k t n a A1 n1 c1 p A2 n2 c2] w fun e w'=>e = .returned (.bool ((k == 4) && !emp a)) /\ Below w.heap.size w w':=by
 unfold exV emp
 cases hz : (k == 4)
 case false =>
  go_enter Tryz.func238,Tryz.ntmps238
  go_wp2
  go_ret
  exact ⟨ret_bool (by rfl),(Below.refl _ _).alloc (Nat.le_refl _) _⟩
 cases hg : a.toList.isEmpty
 all_goals
  go_enter Tryz.func238,Tryz.ntmps238
  go_wp2
  go_ret
  exact ⟨ret_bool (by rfl),(Below.refl _ _).alloc (Nat.le_refl _) _⟩
set_option maxHeartbeats 2000000 in
set_option maxRecDepth 100000 in
theorem mayAsk_any (k : Int) (t n a : ByteArray) (A1 : Option Addr) (n1 c1 : Nat) (p : Option Addr) (A2 : Option Addr) (n2 c2 : Nat) (w : World) :
  Calls Tryz.prog 239 #[exV k t n a A1 n1 c1 p A2 n2 c2] w fun e w'=>e = .returned (.bool (decide (k = 0 ∨ k = 1 ∨ k = 2 ∨ k = 5) || ((k == 4) && !emp a))) /\ Below w.heap.size w w':=by
 have HT:=hid (fun W=>termsAttr_any k t n a A1 n1 c1 p A2 n2 c2 W)
 by_cases h : k = 0 ∨ k = 1 ∨ k = 2 ∨ k = 5
 ·rw [decide_eq_true h,Bool.true_or]
  unfold exV
  clear HT
  rcases h with rfl | rfl | rfl | rfl
  all_goals
   go_enter Tryz.func239,Tryz.ntmps239
   go_wp2
   go_ret
   exact ⟨rfl,(Below.refl _ _).alloc (Nat.le_refl _) _⟩
 ·rw [decide_eq_false h,Bool.false_or]
  obtain ⟨q,hq⟩ : ∃ q,((k == 4) && !emp a) = q:=⟨_,rfl⟩
  rw [hq] at HT ⊢
  have z0 : (k == 0) = false:=beq_eq_false_iff_ne.2 (by omega)
  have z1 : (k == 1) = false:=beq_eq_false_iff_ne.2 (by omega)
  have z2 : (k == 2) = false:=beq_eq_false_iff_ne.2 (by omega)
  have z5 : (k == 5) = false:=beq_eq_false_iff_ne.2 (by omega)
  clear h hq
  unfold exV at HT ⊢
  go_enter Tryz.func239,Tryz.ntmps239
  go_wp2_with fail
  go_at_call 238
  refine (HT.out _).mono ?_
  rintro e w' ⟨rfl,hb⟩
  have HB:=hid (((Below.refl w.heap.size w).alloc (Nat.le_refl _) _).trans (hb.mono (by simp)))
  clear hb
  go_wp2
  go_ret
  exact ⟨rfl,HB.out⟩
abbrev zL : Array Value:=#[.int .i64 0,.int .i64 0,.slice none 0 0]
theorem cells3 {w : World} {k : Nat} {x0 x1 x2 : Value} {t : TypeId} (h : BoxAt w k #[x0,x1,x2] t) :
  w.cell? ⟨k,0,none⟩ = some x0 /\ w.cell? ⟨k,1,none⟩ = some x1 /\ w.cell? ⟨k,2,none⟩ = some x2 /\ w.frozen? ⟨k,0,none⟩ = false /\ w.frozen? ⟨k,1,none⟩ = false /\ w.frozen? ⟨k,2,none⟩ = false :=
 ⟨h.cell 0,h.cell 1,h.cell 2,Lib.frozen_of_heap h 0,Lib.frozen_of_heap h 1,Lib.frozen_of_heap h 2⟩
def set3 (w : World) (b : Nat) (x0 x1 x2 : Value) : World:=((w.setCell ⟨b,0,none⟩ x0).setCell ⟨b,1,none⟩ x1).setCell ⟨b,2,none⟩ x2
theorem set3_heap (w : World) (b : Nat) (x0 x1 x2 : Value) (k : Nat) (hk : k ≠ b) : (set3 w b x0 x1 x2).heap[k]? = w.heap[k]?:=by
 unfold set3
 rw [Below.heap_setCell _ _ _ k hk,Below.heap_setCell _ _ _ k hk,Below.heap_setCell _ _ _ k hk]
theorem set3_size (w : World) (b : Nat) (x0 x1 x2 : Value) : (set3 w b x0 x1 x2).heap.size = w.heap.size:=by
 unfold set3; simp
theorem Kp.set3 {rb : Nat} {a w : World} (h : Kp rb a w) {b : Nat} (hb : a.heap.size <= b) (hr : rb < a.heap.size) (x0 x1 x2 : Value) : Kp rb a (set3 w b x0 x1 x2):=((h.setNew hb hr 0 x0).setNew hb hr 1 x1).setNew hb hr 2 x2
theorem Rd.set3 {rb : Nat} {s : ByteArray} {i : Nat} {w : World} (h : Rd rb s i w) {b : Nat} (hb : rb ≠ b) (x0 x1 x2 : Value) : Rd rb s i (set3 w b x0 x1 x2):=((h.setOther hb 0 x0).setOther hb 1 x1).setOther hb 2 x2
theorem box_set3 {w : World} {E : Nat} {x0 x1 x2 : Value} {t : TypeId} (h : BoxAt w E #[x0,x1,x2] t) (y0 y1 y2 : Value) : BoxAt (set3 w E y0 y1 y2) E #[y0,y1,y2] t:=by
 unfold set3
 unfold BoxAt at h ⊢
 simp [World.setCell,Array.getElem?_modify,h]
set_option maxRecDepth 100000 in
theorem res3 (T : TypeId) (hT : Tryz.prog.cellsOf T = 3) {fn : Func} {A M : Nat} {tmps : Array Value} {w : World} {b : Nat} {x0 x1 x2 v : Value} {t : TypeId} (hres : fn.results = #[.cell A 281,.tmp M]) (ha : tmps.getD A undef = .pointer (some ⟨b,0,none⟩)) (hm : tmps.getD M undef = v)
  (hb : BoxAt w b #[x0,x1,x2] t) : (results fn tmps).run Tryz.prog w = .ok (.tuple #[.agg #[x0,x1,x2],v]) w:=by
 obtain ⟨q0,q1,q2,_⟩:=cells3 hb
 have ha' : tmps[A]?.getD undef = .pointer (some ⟨b,0,none⟩):=by rw [<- ha]; simp
 have hm' : tmps[M]?.getD undef = v:=by rw [<- hm]; simp
 simp [results,hres,ha',hm',go_sem,q0,q1,q2]
theorem end3w {fn : Func} {R : Ending -> World -> Prop} {a : Act} {w2 : World} {A M b : Nat} {x0 x1 x2 v : Value} {t : TypeId} (hres : fn.results = #[.cell A 281,.tmp M]) (hbox : BoxAt w2 b #[x0,x1,x2] t)
  (ha : a.tmps.getD A undef = .pointer (some ⟨b,0,none⟩)) (hm : a.tmps.getD M undef = v) (hd : a.defers = []) (hR : R (.returned (.tuple #[.agg #[x0,x1,x2],v])) w2) : bodyPost Tryz.prog fn R .ret a w2 :=
 bodyPost_ret (res3 281 (by kernel_rfl) hres ha hm hbox) hd hR
def GotL (rb : Nat) (s : ByteArray) (i : Nat) (w : World) (r : Option (Nat × Nat × Nat)) (e : Ending) (w' : World) : Prop :=
 Kp rb w w' /\ ∃ f p j : Nat,e = .returned (.tuple #[.agg #[.int .i64 f,.int .i64 p,.slice none 0 0],.bool r.isSome]) /\ Rd rb s j w' /\ j <= s.size /\ f <= s.size /\ p <= s.size /\ (r = none -> j = i) /\ ∀ f' p' m,r = some (f',p',m) -> f' = f /\ p' = p /\ m = j
theorem sp_ok (s : ByteArray) (i : Nat) (hi : i <= s.size) : i <= sp s i /\ sp s i <= s.size:=⟨behN_ge _ _ _,by have:=behN_le spB s.data.toList i (by rw [size_data]; exact hi); rw [size_data] at this; exact this⟩
theorem nlS_step (s : ByteArray) (f fr i : Nat) (h : isAt s i 10 = true) : nlS s f fr i = nlS s (f + 1) (i + 1) (sp s (i + 1)):=by
 rw [nlS,dif_pos h]
theorem nlS_end (s : ByteArray) (f fr i : Nat) (h : isAt s i 10 = false) : nlS s f fr i = (f,fr,i):=by
 rw [nlS,dif_neg (by rw [h]; simp)]
theorem idxAny_tw (chars : List UInt8) : ∀ l : List UInt8,Lib.indexAny l chars = if (l.takeWhile (fun c=>!chars.contains c)).length < l.length then ((l.takeWhile (fun c=>!chars.contains c)).length : Int) else -1
 | []=>by simp [Lib.indexAny]
 | b :: l=>by
  have ih:=idxAny_tw chars l
  rw [Lib.indexAny,List.takeWhile_cons]
  generalize hT : l.takeWhile (fun c=>!chars.contains c) = T at ih ⊢
  by_cases h : chars.contains b = true
  ·have h2 : ¬ ((!chars.contains b) = true):=by rw [h]; decide
   rw [if_pos h,if_neg h2,if_pos (by simp)]
   rfl
  ·have h2 : (!chars.contains b) = true:=by rw [Bool.eq_false_iff.2 h]; rfl
   rw [if_neg h,if_pos h2,ih,List.length_cons,List.length_cons]
   by_cases hl : T.length < l.length
   ·rw [if_pos hl]
    have h3 : ¬ (((T.length : Int) == -1) = true):=by rw [beq_iff_eq]; omega
    rw [if_neg h3,if_pos (show T.length + 1 < l.length + 1 by omega)]
    omega
   ·rw [if_neg hl,if_neg (show ¬ T.length + 1 < l.length + 1 by omega)]
    rfl
theorem tx_idx (s : ByteArray) (i : Nat) (hi : i <= s.size) : (Lib.indexAny (s.extract i s.size).data.toList [10,123,125] = -1 /\ tx s i = s.size) ∨ (∃ n : Nat,Lib.indexAny (s.extract i s.size).data.toList [10,123,125] = (n : Int) /\ tx s i = i + n /\ i + n < s.size):=by
 rw [extract_drop,idxAny_tw]
 have e : (fun c : UInt8=>!([10,123,125] : List UInt8).contains c) = txB:=by
  funext c
  unfold txB
  rw [List.contains_cons,List.contains_cons,List.contains_cons,List.contains_nil,Bool.or_false,Bool.or_assoc]
 rw [e]
 unfold tx behN
 have hl : (s.data.toList.drop i).length = s.size - i:=by rw [List.length_drop,size_data]
 have hle:=takeWhile_le txB (s.data.toList.drop i)
 by_cases h : ((s.data.toList.drop i).takeWhile txB).length < (s.data.toList.drop i).length
 ·rw [if_pos h]
  exact .inr ⟨_,rfl,rfl,by omega⟩
 ·rw [if_neg h]
  exact .inl ⟨rfl,by omega⟩
set_option maxHeartbeats 2000000 in
set_option maxRecDepth 100000 in
theorem endText_of {s : ByteArray} (hIx : ∀ (x : ByteArray) (W : World),x.size <= 4000000000 -> Calls Tryz.prog 203 #[.string x,.string ⟨#[10,123,125]⟩] W fun e w'=>e = .returned (.int .i64 (Lib.indexAny x.data.toList [10,123,125])) /\ Below W.heap.size W w') : EndFn 207 tx s:=by
 refine ⟨fun args w=>by go_simp,fun i w hs hi=>?_⟩
 have hI:=fun W=>hIx (s.extract i s.size) W (by rw [ByteArray.size_extract]; omega)
 have hi0 : (i : Int) <= 4000000000:=by omega
 have hjs : (i : Int) <= (s.size : Int):=by omega
 have hss : (s.size : Int) <= 4000000000:=by omega
 rcases tx_idx s i hi with ⟨h1,h2⟩ | ⟨n,h1,h2,h3⟩
 ·refine ⟨by omega,by omega,?_⟩
  rw [h1] at hI
  have HI:=hid hI
  rw [h2]
  clear hIx
  clear hI h1 h2
  go_enter Tryz.func207,Tryz.ntmps207
  go_wp2_with fail
  go_at_call 203
  refine (HI.out _).mono ?_
  rintro e w' ⟨rfl,hb⟩
  have HB:=hid hb
  clear hb
  go_wp2
  go_ret
  exact ⟨rfl,HB.out⟩
 ·refine ⟨by omega,by omega,?_⟩
  rw [h1] at hI
  have HI:=hid hI
  rw [h2]
  clear hIx
  have hn0 : (n : Int) <= 4000000000:=by omega
  have hnd : decide ((0 : Int) <= (n : Int)) = true:=decide_eq_true (by omega)
  clear hI h1 h2
  go_enter Tryz.func207,Tryz.ntmps207
  go_wp2_with fail
  go_at_call 203
  refine (HI.out _).mono ?_
  rintro e w' ⟨rfl,hb⟩
  have HB:=hid hb
  clear hb
  go_wp2
  go_ret
  exact ⟨by congr 2,HB.out⟩
theorem stop_idx (c : UInt8) : decide ((0 : Int) <= Lib.indexByte [46,42,91,125] c) = stopB c:=by
 unfold stopB
 have e : ∀ x : UInt8,(x == c) = (c == x):=fun x=>by rw [Bool.eq_iff_iff,beq_iff_eq,beq_iff_eq]; exact eq_comm
 unfold Lib.indexByte Lib.indexByte Lib.indexByte Lib.indexByte Lib.indexByte
 rw [e 46,e 42,e 91,e 125]
 cases c == 46 <;> cases c == 42 <;> cases c == 91 <;> cases c == 125 <;> decide
set_option maxHeartbeats 4000000 in
set_option maxRecDepth 100000 in
theorem nextLine_any {rb : Nat} {s : ByteArray} (hs : s.size <= 1000000000) (i : Nat) (w : World) (hr : Rd rb s i w) (hi : i <= s.size) : Calls Tryz.prog 170 #[pt rb] w (GotL rb s i w (nextS s i)):=by
 have HR:=hid hr
 have hlt:=hr.lt
 have c0:=(hr.alloc (.cells zL 281)).c0
 have c1:=(hr.alloc (.cells zL 281)).c1
 obtain ⟨R,hRR⟩ : ∃ R,nextS s i = R:=⟨_,rfl⟩
 rw [hRR]
 have HRR:=hid hRR
 have hi0 : (i : Int) <= 1000000000:=by omega
 have hss : (s.size : Int) <= 1000000000:=by omega
 clear hr hRR
 unfold pt
 go_enter Tryz.func170,Tryz.ntmps170
 go_wp2
 go_region
 go_wp2
 go_loopw [4,5,6] (fun t4 t5 t6 wr=>∃ f fr q : Nat,t4 = .int .i64 f /\ t5 = .int .i64 fr /\ t6 = .int .i64 q /\ q <= s.size /\ fr <= q /\ f <= q /\ Hid (nlS s f fr q = nlS s 0 i i) /\ Hid (Rd rb s i wr) /\ Hid (Kp rb w wr) /\ Hid (BoxAt wr w.heap.size zL 281)) (fun _ _ t6 _=>s.size - (intOf t6).toNat)
 case atStart=>exact ⟨0,i,i,rfl,rfl,rfl,hi,Nat.le_refl _,Nat.zero_le _,rfl,(HR.out.alloc _).drew,((Kp.refl _ _).alloc (Nat.le_of_lt hlt) _).drew,(BoxAt.new _ _ _).drew⟩
 case round =>
  obtain ⟨f,fr,q,rfl,rfl,rfl,hq,hfr,hf,Hn,HRd,HK,HC⟩:=hrel
  have hp:=fun W=>Tryz.strings_HasPrefix (s.extract q s.size) ⟨#[10]⟩ W
  rw [isAt_prefix s q 10 hq] at hp
  obtain ⟨b,hb⟩ : ∃ b,isAt s q 10 = b:=⟨_,rfl⟩
  rw [hb] at hp
  have HP:=hid hp
  have Hb:=hid hb
  have d0:=HRd.out.c0
  have d1:=HRd.out.c1
  have e1:=HRd.out.f 1
  have hrl:=HRd.out.lt
  have hcl:=HC.out.lt
  have hq0 : (q : Int) <= 1000000000:=by omega
  have hqs : (q : Int) <= (s.size : Int):=by omega
  have hfr0 : (fr : Int) <= (q : Int):=by omega
  have hf0 : (f : Int) <= 1000000000:=by omega
  clear hp hb c0 c1
  cases b
  case true =>
   have hq1 : q + 1 <= s.size:=isAt_lt Hb.out
   have hS:=fun W=>spaces_any s ((q : Int) + 1) W (by omega)
   have he : behI spB s.data.toList ((q : Int) + 1) = (sp s (q + 1) : Int):=by
    unfold behI sp
    rw [if_neg (by omega),show ((q : Int) + 1).toNat = q + 1 by omega]
   rw [he] at hS
   have hso:=sp_ok s (q + 1) hq1
   have hn:=Hn.out
   rw [nlS_step s f fr q Hb.out] at hn
   obtain ⟨m,hm⟩ : ∃ m,sp s (q + 1) = m:=⟨_,rfl⟩
   rw [hm] at hS hso hn
   have HS:=hid hS
   have Hn2:=hid hn
   clear hS he hm hn
   go_wp2_with fail
   go_at_call 65
   refine (HP.out _).mono ?_
   rintro e w' ⟨rfl,rfl⟩
   go_wp2_with fail
   go_at_call 39
   refine (HS.out _).mono ?_
   rintro e w' ⟨rfl,rfl⟩
   go_wp2
   go_roundw
   case rel=>exact ⟨f + 1,q + 1,m,by go_num,by go_num,rfl,hso.2,hso.1,by omega,Hn2.out,HRd.out,HK.out,HC.out⟩
   case measure=>simp [intOf]; omega
  case false =>
   have hn:=Hn.out
   rw [nlS_end s f fr q Hb.out] at hn
   have hR:=HRR.out
   unfold nextS at hR
   rw [<- hn] at hR
   dsimp only at hR
   have HR2:=hid hR
   obtain ⟨q0,q1,q2,p0,p1,p2⟩:=cells3 HC.out
   clear hn hR Hn
   by_cases hqf : q = fr
   ·have z1 : ((q : Int) == (fr : Int)) = true:=beq_iff_eq.2 (by omega)
    have HR3:=hid (show R = none by rw [<- HR2.out,if_pos (.inl hqf)])
    clear hqf
    go_wp2_with fail
    go_at_call 65
    refine (HP.out _).mono ?_
    rintro e w' ⟨rfl,rfl⟩
    go_wp2
    obtain rfl:=HR3.out
    exact end3w Tryz.results170 (box_set3 HC.out _ _ _) rfl rfl rfl ⟨HK.out.set3 (Nat.le_refl _) hlt _ _ _,0,0,i,rfl,HRd.out.set3 (by omega) _ _ _,hi,Nat.zero_le _,Nat.zero_le _,fun _=>rfl,fun _ _ _ h=>by cases h⟩
   have z1 : ((q : Int) == (fr : Int)) = false:=beq_eq_false_iff_ne.2 (by omega)
   by_cases hqz : q = s.size
   ·have z2 : ((q : Int) == (s.size : Int)) = true:=beq_iff_eq.2 (by omega)
    have HR3:=hid (show R = none by rw [<- HR2.out,if_pos (.inr (.inl hqz))])
    clear hqz
    go_wp2_with fail
    go_at_call 65
    refine (HP.out _).mono ?_
    rintro e w' ⟨rfl,rfl⟩
    go_wp2
    obtain rfl:=HR3.out
    exact end3w Tryz.results170 (box_set3 HC.out _ _ _) rfl rfl rfl ⟨HK.out.set3 (Nat.le_refl _) hlt _ _ _,0,0,i,rfl,HRd.out.set3 (by omega) _ _ _,hi,Nat.zero_le _,Nat.zero_le _,fun _=>rfl,fun _ _ _ h=>by cases h⟩
   have z2 : ((q : Int) == (s.size : Int)) = false:=beq_eq_false_iff_ne.2 (by omega)
   have hql : q < s.size:=by omega
   have hql2 : (q : Int) < (s.size : Int):=by omega
   have hI:=fun W=>Tryz.strings_IndexByte ⟨#[46,42,91,125]⟩ (s[q].toNat : Int) W
   have hst:=stop_idx s[q]
   rw [show (⟨#[46,42,91,125]⟩ : ByteArray).data.toList = [46,42,91,125] from rfl,show ((s[q].toNat : Int).toNat.toUInt8) = s[q] by simp] at hI
   obtain ⟨x,hx⟩ : ∃ x,Lib.indexByte [46,42,91,125] s[q] = x:=⟨_,rfl⟩
   rw [hx] at hI hst
   have hat : at0 s.data.toList q = s[q]:=by rw [at0_get _ _ (by rw [size_data]; exact hql)]; rfl
   have hR:=HR2.out
   rw [hat,<- hst] at hR
   have HI:=hid hI
   cases hx0 : decide ((0 : Int) <= x)
   case true =>
    have HR3:=hid (show R = none by rw [<- hR,hx0,if_pos (.inr (.inr rfl))])
    clear hI hst hx hat hR HR2
    go_wp2_with fail
    go_at_call 65
    refine (HP.out _).mono ?_
    rintro e w' ⟨rfl,rfl⟩
    go_wp2_with fail
    go_at_call 90
    refine (HI.out _).mono ?_
    rintro e w' ⟨rfl,rfl⟩
    go_wp2
    obtain rfl:=HR3.out
    exact end3w Tryz.results170 (box_set3 HC.out _ _ _) rfl rfl rfl ⟨HK.out.set3 (Nat.le_refl _) hlt _ _ _,0,0,i,rfl,HRd.out.set3 (by omega) _ _ _,hi,Nat.zero_le _,Nat.zero_le _,fun _=>rfl,fun _ _ _ h=>by cases h⟩
   case false =>
    have HR3:=hid (show R = some (f,q - fr,q) by rw [<- hR,hx0,if_neg (by simp [hqf,hqz])])
    have hsub : (q : Int) - (fr : Int) = ((q - fr : Nat) : Int):=by omega
    have Hsub:=hid hsub
    have hsub0 : (0 : Int) <= (q : Int) - (fr : Int):=by omega
    have hsub1 : (q : Int) - (fr : Int) <= 1000000000:=by omega
    have HRq:=hid (HRd.out.set q)
    have HKq:=hid (HK.out.setCell 1 (.int .i64 (q : Nat)))
    have HCq:=hid (BoxAt.setOther HC.out ⟨rb,1,none⟩ (.int .i64 (q : Nat)) (by show w.heap.size ≠ rb; omega))
    clear hI hst hx hat hR HR2 hsub
    go_wp2_with fail
    go_at_call 65
    refine (HP.out _).mono ?_
    rintro e w' ⟨rfl,rfl⟩
    go_wp2_with fail
    go_at_call 90
    refine (HI.out _).mono ?_
    rintro e w' ⟨rfl,rfl⟩
    go_wp2
    obtain rfl:=HR3.out
    exact end3w Tryz.results170 (box_set3 HCq.out _ _ _) rfl rfl rfl ⟨HKq.out.set3 (Nat.le_refl _) hlt _ _ _,f,q - fr,q,by rw [Hsub.out]; rfl,HRq.out.set3 (by omega) _ _ _,hq,by omega,by omega,(fun h=>by cases h),fun _ _ _ h=>by cases h; exact ⟨rfl,rfl,rfl⟩⟩
end Go.Proofs.YtgdkpamlkpncgaaGreatDoor
