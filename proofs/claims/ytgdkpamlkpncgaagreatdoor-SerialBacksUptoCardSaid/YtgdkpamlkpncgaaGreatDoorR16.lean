/-
  Several texts put together (part 16): what the law and the program call, walked; their contracts.
-/
import Derived.Test.YtgdkpamlkpncgaaGreatDoorR15
namespace Go.Proofs.YtgdkpamlkpncgaaGreatDoor
open Go.RowKit
open _root_.Go.Lib (hid)
set_option linter.unusedVariables false
set_option linter.unusedSimpArgs false
-- from Alr
set_option maxHeartbeats 4000000 in
set_option maxRecDepth 1000000 in
theorem lin0 {W0 : World} (hT : TabU W0) (t n a : ByteArray) (A1 : Option Addr) (n1 c1 : Nat) (i : Option Addr) (A2 : Option Addr) (n2 c2 : Nat) (d : Nat) (w : World) (hW : Below W0.heap.size W0 w) (ht : t.size <= 4000000) (hn : n.size <= 4000000) (ha : a.size <= 4000000) :
  Calls Tryz.prog 82 #[exV 0 t n a A1 n1 c1 i A2 n2 c2,.int .i64 d] w fun r w'=>r = .returned (.bool (bareF true false false false false false t n a n1 i n2 && validB t)) /\ Below w.heap.size w w':=by
 have HBa:=hid (fun W=>lbare_100000 0 t n a A1 n1 c1 i A2 n2 c2 W)
 obtain ⟨bb,hbb⟩ : ∃ b,bareF true false false false false false t n a n1 i n2 = b:=⟨_,rfl⟩
 have HT:=hid (hT.below hW)
 rw [hbb] at HBa ⊢
 have Hp:=hid (fun W h=>plain_any t W h ht)
 obtain ⟨q,hq⟩ : ∃ q,validB t = q:=⟨_,rfl⟩
 rw [hq] at Hp ⊢
 clear hq
 clear hbb hT hW
 unfold exV at HBa ⊢
 go_enter Tryz.func82,Tryz.ntmps82
 go_wp2_with fail
 go_at_call 83
 refine (HBa.out _).mono ?_
 rintro e1 w1 ⟨rfl,hb1⟩
 have hE:=(BoxAt.new w #[.int .i64 0,.string t,.string n,.string a,.slice A1 n1 c1,.pointer i,.slice A2 n2 c2] 48).later hb1
 have hbr : Below w.heap.size w w1:=((Below.refl w.heap.size w).alloc (Nat.le_refl _) _).trans (hb1.mono (by simp))
 have d1 : w1.cell? ⟨w.heap.size,1,none⟩ = some (.string t):=hE.cell 1
 have d2 : w1.cell? ⟨w.heap.size,2,none⟩ = some (.string n):=hE.cell 2
 have d3 : w1.cell? ⟨w.heap.size,3,none⟩ = some (.string a):=hE.cell 3
 have HBr:=hid hbr
 clear hE hb1 hbr
 cases bb
 case false =>
  go_wp2
  go_ret
  exact ⟨ret_bool (by simp),HBr.out⟩
 go_wp2_with fail
 go_at_call 33
 refine (Hp.out _ (HT.out.below HBr.out)).mono ?_
 rintro e2 w2 ⟨rfl,hb2⟩
 have HB2:=hid (HBr.out.trans (hb2.mono HBr.out.size))
 clear hb2
 go_wp2
 go_ret
 exact ⟨ret_bool (by simp),HB2.out⟩
set_option maxHeartbeats 4000000 in
set_option maxRecDepth 1000000 in
theorem lin1 {W0 : World} (hT : TabU W0) (t n a : ByteArray) (A1 : Option Addr) (n1 c1 : Nat) (i : Option Addr) (A2 : Option Addr) (n2 c2 : Nat) (d : Nat) (w : World) (hW : Below W0.heap.size W0 w) (ht : t.size <= 4000000) (hn : n.size <= 4000000) (ha : a.size <= 4000000) :
  Calls Tryz.prog 82 #[exV 1 t n a A1 n1 c1 i A2 n2 c2,.int .i64 d] w fun r w'=>r = .returned (.bool (bareF true false false false false false t n a n1 i n2 && lnumB t.data.toList)) /\ Below w.heap.size w w':=by
 have HBa:=hid (fun W=>lbare_100000 1 t n a A1 n1 c1 i A2 n2 c2 W)
 obtain ⟨bb,hbb⟩ : ∃ b,bareF true false false false false false t n a n1 i n2 = b:=⟨_,rfl⟩
 have HT:=hid (hT.below hW)
 rw [hbb] at HBa ⊢
 have Hp:=hid (fun W=>lnumber_any t W ht)
 obtain ⟨q,hq⟩ : ∃ q,lnumB t.data.toList = q:=⟨_,rfl⟩
 rw [hq] at Hp ⊢
 clear hq
 clear hbb hT hW
 unfold exV at HBa ⊢
 go_enter Tryz.func82,Tryz.ntmps82
 go_wp2_with fail
 go_at_call 83
 refine (HBa.out _).mono ?_
 rintro e1 w1 ⟨rfl,hb1⟩
 have hE:=(BoxAt.new w #[.int .i64 1,.string t,.string n,.string a,.slice A1 n1 c1,.pointer i,.slice A2 n2 c2] 48).later hb1
 have hbr : Below w.heap.size w w1:=((Below.refl w.heap.size w).alloc (Nat.le_refl _) _).trans (hb1.mono (by simp))
 have d1 : w1.cell? ⟨w.heap.size,1,none⟩ = some (.string t):=hE.cell 1
 have d2 : w1.cell? ⟨w.heap.size,2,none⟩ = some (.string n):=hE.cell 2
 have d3 : w1.cell? ⟨w.heap.size,3,none⟩ = some (.string a):=hE.cell 3
 have HBr:=hid hbr
 clear hE hb1 hbr
 cases bb
 case false =>
  go_wp2
  go_ret
  exact ⟨ret_bool (by simp),HBr.out⟩
 go_wp2_with fail
 go_at_call 84
 refine (Hp.out _).mono ?_
 rintro e2 w2 ⟨rfl,rfl⟩
 go_wp2
 go_ret
 exact ⟨ret_bool (by simp),HBr.out⟩
set_option maxHeartbeats 4000000 in
set_option maxRecDepth 1000000 in
theorem lin2 {W0 : World} (hT : TabU W0) (t n a : ByteArray) (A1 : Option Addr) (n1 c1 : Nat) (i : Option Addr) (A2 : Option Addr) (n2 c2 : Nat) (d : Nat) (w : World) (hW : Below W0.heap.size W0 w) (ht : t.size <= 4000000) (hn : n.size <= 4000000) (ha : a.size <= 4000000) :
  Calls Tryz.prog 82 #[exV 2 t n a A1 n1 c1 i A2 n2 c2,.int .i64 d] w fun r w'=>r = .returned (.bool (bareF false true false false false false t n a n1 i n2 && lnameB n.data.toList)) /\ Below w.heap.size w w':=by
 have HBa:=hid (fun W=>lbare_010000 2 t n a A1 n1 c1 i A2 n2 c2 W)
 obtain ⟨bb,hbb⟩ : ∃ b,bareF false true false false false false t n a n1 i n2 = b:=⟨_,rfl⟩
 have HT:=hid (hT.below hW)
 rw [hbb] at HBa ⊢
 have Hp:=hid (fun W=>lname_any n W hn)
 obtain ⟨q,hq⟩ : ∃ q,lnameB n.data.toList = q:=⟨_,rfl⟩
 rw [hq] at Hp ⊢
 clear hq
 clear hbb hT hW
 unfold exV at HBa ⊢
 go_enter Tryz.func82,Tryz.ntmps82
 go_wp2_with fail
 go_at_call 83
 refine (HBa.out _).mono ?_
 rintro e1 w1 ⟨rfl,hb1⟩
 have hE:=(BoxAt.new w #[.int .i64 2,.string t,.string n,.string a,.slice A1 n1 c1,.pointer i,.slice A2 n2 c2] 48).later hb1
 have hbr : Below w.heap.size w w1:=((Below.refl w.heap.size w).alloc (Nat.le_refl _) _).trans (hb1.mono (by simp))
 have d1 : w1.cell? ⟨w.heap.size,1,none⟩ = some (.string t):=hE.cell 1
 have d2 : w1.cell? ⟨w.heap.size,2,none⟩ = some (.string n):=hE.cell 2
 have d3 : w1.cell? ⟨w.heap.size,3,none⟩ = some (.string a):=hE.cell 3
 have HBr:=hid hbr
 clear hE hb1 hbr
 cases bb
 case false =>
  go_wp2
  go_ret
  exact ⟨ret_bool (by simp),HBr.out⟩
 go_wp2_with fail
 go_at_call 34
 refine (Hp.out _).mono ?_
 rintro e2 w2 ⟨rfl,rfl⟩
 go_wp2
 go_ret
 exact ⟨ret_bool (by simp),HBr.out⟩
set_option maxHeartbeats 4000000 in
set_option maxRecDepth 1000000 in
theorem lin3 {W0 : World} (hT : TabU W0) (t n a : ByteArray) (A1 : Option Addr) (n1 c1 : Nat) (i : Option Addr) (A2 : Option Addr) (n2 c2 : Nat) (d : Nat) (w : World) (hW : Below W0.heap.size W0 w) (ht : t.size <= 4000000) (hn : n.size <= 4000000) (ha : a.size <= 4000000) :
  Calls Tryz.prog 82 #[exV 3 t n a A1 n1 c1 i A2 n2 c2,.int .i64 d] w fun r w'=>r = .returned (.bool (bareF false true true false false false t n a n1 i n2 && (lnameB n.data.toList && (emp a || lnameB a.data.toList)))) /\ Below w.heap.size w w':=by
 have HBa:=hid (fun W=>lbare_011000 3 t n a A1 n1 c1 i A2 n2 c2 W)
 obtain ⟨bb,hbb⟩ : ∃ b,bareF false true true false false false t n a n1 i n2 = b:=⟨_,rfl⟩
 have HT:=hid (hT.below hW)
 rw [hbb] at HBa ⊢
 have Hp:=hid (fun W=>lname_any n W hn)
 have Hp2:=hid (fun W=>lname_any a W ha)
 obtain ⟨q,hq⟩ : ∃ q,lnameB n.data.toList = q:=⟨_,rfl⟩
 obtain ⟨q2,hq2⟩ : ∃ q,lnameB a.data.toList = q:=⟨_,rfl⟩
 rw [hq] at Hp ⊢
 rw [hq2] at Hp2 ⊢
 clear hq hq2
 unfold emp
 obtain ⟨em,hem⟩ : ∃ q,a.toList.isEmpty = q:=⟨_,rfl⟩
 rw [hem]
 clear hbb hT hW
 unfold exV at HBa ⊢
 go_enter Tryz.func82,Tryz.ntmps82
 go_wp2_with fail
 go_at_call 83
 refine (HBa.out _).mono ?_
 rintro e1 w1 ⟨rfl,hb1⟩
 have hE:=(BoxAt.new w #[.int .i64 3,.string t,.string n,.string a,.slice A1 n1 c1,.pointer i,.slice A2 n2 c2] 48).later hb1
 have hbr : Below w.heap.size w w1:=((Below.refl w.heap.size w).alloc (Nat.le_refl _) _).trans (hb1.mono (by simp))
 have d1 : w1.cell? ⟨w.heap.size,1,none⟩ = some (.string t):=hE.cell 1
 have d2 : w1.cell? ⟨w.heap.size,2,none⟩ = some (.string n):=hE.cell 2
 have d3 : w1.cell? ⟨w.heap.size,3,none⟩ = some (.string a):=hE.cell 3
 have HBr:=hid hbr
 clear hE hb1 hbr
 cases bb
 case false =>
  go_wp2
  go_ret
  exact ⟨ret_bool (by simp),HBr.out⟩
 cases q
 case false =>
  go_wp2_with fail
  go_at_call 34
  refine (Hp.out _).mono ?_
  rintro e2 w2 ⟨rfl,rfl⟩
  go_wp2
  go_ret
  exact ⟨ret_bool (by simp),HBr.out⟩
 cases em
 case true =>
  go_wp2_with fail
  go_at_call 34
  refine (Hp.out _).mono ?_
  rintro e2 w2 ⟨rfl,rfl⟩
  go_wp2
  go_ret
  exact ⟨ret_bool (by simp),HBr.out⟩
 go_wp2_with fail
 go_at_call 34
 refine (Hp.out _).mono ?_
 rintro e2 w2 ⟨rfl,rfl⟩
 go_wp2_with fail
 go_at_call 34
 refine (Hp2.out _).mono ?_
 rintro e2 w2 ⟨rfl,rfl⟩
 go_wp2
 go_ret
 exact ⟨ret_bool (by simp),HBr.out⟩
-- from Als
def InTo (W0 : World) (e : EX) (d : Nat) : Prop:=∀ (w : World) (c : C7),ExAt W0 e c -> Below W0.heap.size W0 w ->
 Calls Tryz.prog 82 #[.agg c.arr,.int .i64 d] w fun r w'=>r = .returned (.bool (okE .inl e d)) /\ Below w.heap.size w w'
set_option maxHeartbeats 4000000 in
set_option maxRecDepth 1000000 in
theorem lin6 {W0 : World} (t n a : ByteArray) (A1 : Option Addr) (n1 c1 : Nat) (i : Option Addr) (A2 : Option Addr) (n2 c2 : Nat) (d : Nat) (w : World) (hW : Below W0.heap.size W0 w) (hd : d <= 4000000)
  (io : Option EX) (hi : OAt W0 io (.pointer i)) (hP : ∀ e,io = some e -> PlaceTo W0 e (d + 1)) :
  Calls Tryz.prog 82 #[exV 6 t n a A1 n1 c1 i A2 n2 c2,.int .i64 d] w fun r w'=>r = .returned (.bool (bareF false false false false true false t n a n1 i n2 && okO .brc io (d + 1))) /\ Below w.heap.size w w':=by
 have HBa:=hid (fun W=>lbare_000010 6 t n a A1 n1 c1 i A2 n2 c2 W)
 obtain ⟨bb,hbb⟩ : ∃ b,bareF false false false false true false t n a n1 i n2 = b:=⟨_,rfl⟩
 have HW:=hid hW
 have hWs:=hW.size
 have HP:=hid hP
 have HI:=hid hi
 rw [hbb] at HBa ⊢
 obtain ⟨z,hz⟩ : ∃ z,okO .brc io (d + 1) = z:=⟨_,rfl⟩
 rw [hz]
 have HZ:=hid hz
 clear hbb hW hP hi hz
 unfold exV at HBa ⊢
 have hd0 : (d : Int) <= 4000000:=by omega
 go_enter Tryz.func82,Tryz.ntmps82
 go_wp2_with fail
 go_at_call 83
 refine (HBa.out _).mono ?_
 rintro e1 w1 ⟨rfl,hb1⟩
 have hE:=(BoxAt.new w #[.int .i64 6,.string t,.string n,.string a,.slice A1 n1 c1,.pointer i,.slice A2 n2 c2] 48).later hb1
 have hbr : Below w.heap.size w w1:=((Below.refl w.heap.size w).alloc (Nat.le_refl _) _).trans (hb1.mono (by simp))
 have d5 : w1.cell? ⟨w.heap.size,5,none⟩ = some (.pointer i):=hE.cell 5
 have HBr:=hid hbr
 clear hE hb1 hbr
 cases bb
 case false =>
  go_wp2
  go_ret
  exact ⟨ret_bool (by simp),HBr.out⟩
 cases io with
 | none =>
  have h:=HI.out
  simp only [OAt] at h
  cases h
  go_wp2
  go_ret
  exact ⟨ret_bool (by rw [<- HZ.out]; simp [okO]),HBr.out⟩
 | some e =>
  have h:=HI.out
  simp only [OAt] at h
  obtain ⟨b',o',c7,e2,hb',hca,hex⟩:=h
  cases e2
  have hbel : Below W0.heap.size W0 w1:=HW.out.trans (HBr.out.mono hWs)
  obtain ⟨k0,k1,k2,k3,k4,k5,k6⟩:=hca
  rw [<- hbel.cell (p:=⟨b',o',none⟩) hb'] at k0
  rw [<- hbel.cell (p:=⟨b',o' + 1,none⟩) hb'] at k1
  rw [<- hbel.cell (p:=⟨b',o' + 2,none⟩) hb'] at k2
  rw [<- hbel.cell (p:=⟨b',o' + 3,none⟩) hb'] at k3
  rw [<- hbel.cell (p:=⟨b',o' + 4,none⟩) hb'] at k4
  rw [<- hbel.cell (p:=⟨b',o' + 5,none⟩) hb'] at k5
  rw [<- hbel.cell (p:=⟨b',o' + 6,none⟩) hb'] at k6
  have hPl:=HP.out e rfl w1 c7 hex hbel
  rw [show ((d + 1 : Nat) : Int) = (d : Int) + 1 by omega] at hPl
  rw [show okE .brc e (d + 1) = z from HZ.out] at hPl
  unfold C7.arr at hPl
  have HPl:=hid hPl
  clear hPl hex hbel
  go_wp2_with fail
  go_at_call 56
  refine HPl.out.mono ?_
  rintro e3 w3 ⟨rfl,hb3⟩
  have HBB:=hid (HBr.out.trans (hb3.mono HBr.out.size))
  clear hb3
  go_wp2
  go_ret
  exact ⟨ret_bool (by simp),HBB.out⟩
set_option maxHeartbeats 4000000 in
set_option maxRecDepth 1000000 in
theorem lplace_deep (c : C7) (d : Nat) (hd : 20 < d) (w : World) :
  Calls Tryz.prog 56 #[.agg c.arr,.int .i64 d] w fun r w'=>r = .returned (.bool false) /\ Below w.heap.size w w':=by
 unfold C7.arr
 have h1 : decide ((20 : Int) < (d : Int)) = true:=decide_eq_true (by omega)
 have h2 : (20 : Int) < (d : Int):=by omega
 go_enter Tryz.func56,Tryz.ntmps56
 go_wp2
 go_ret
 exact ⟨rfl,by repeat' first | with_reducible exact Below.refl _ _ | with_reducible apply Below.setCell | with_reducible apply Below.alloc | (simp; done) | (simp; omega)⟩
set_option maxHeartbeats 4000000 in
set_option maxRecDepth 1000000 in
theorem lplace_plain (k : Int) (t n a : ByteArray) (A1 : Option Addr) (n1 c1 : Nat) (i : Option Addr) (A2 : Option Addr) (n2 c2 : Nat) (d : Nat) (hd : d <= 20) (hk : k ≠ 7) (r : Bool) (w : World)
  (hI : ∀ w1,Below w.heap.size w w1 -> Calls Tryz.prog 82 #[exV k t n a A1 n1 c1 i A2 n2 c2,.int .i64 d] w1 fun e w'=>e = .returned (.bool r) /\ Below w1.heap.size w1 w') :
  Calls Tryz.prog 56 #[exV k t n a A1 n1 c1 i A2 n2 c2,.int .i64 d] w fun e w'=>e = .returned (.bool r) /\ Below w.heap.size w w':=by
 have HI:=hid hI
 unfold exV at HI ⊢
 have h1 : decide ((20 : Int) < (d : Int)) = false:=decide_eq_false (by omega)
 have h2 : ¬ (20 : Int) < (d : Int):=by omega
 have h3 : (k != 7) = true:=by rw [bne,beq_eq_false_iff_ne.2 hk]; rfl
 have h4 : (k == 7) = false:=beq_eq_false_iff_ne.2 hk
 clear hI hk
 go_enter Tryz.func56,Tryz.ntmps56
 go_wp2_with fail
 go_at_call 82
 refine (HI.out _ ?_).mono ?_
 ·repeat' first | with_reducible exact Below.refl _ _ | with_reducible apply Below.setCell | with_reducible apply Below.alloc | (simp; done) | (simp; omega)
 rintro e3 w3 ⟨rfl,hb3⟩
 have hbr : Below w.heap.size w w3:=((Below.refl w.heap.size w).alloc (Nat.le_refl _) _).trans (hb3.mono (by simp))
 have HB:=hid hbr
 clear hb3 hbr
 go_wp2
 go_ret
 exact ⟨rfl,HB.out⟩
-- from Alt
theorem lin_simple {W0 : World} (hT : TabU W0) (k : Int) (t n a : ByteArray) (al : List AR) (ie : Option EX) (vs : List VA) (d : Nat) (hd : d <= 4000000) (hk : k = 0 ∨ k = 1 ∨ k = 2 ∨ k = 3 ∨ k = 6)
  (hs : (EX.mk k t n a al ie vs).size <= 4000000) (hP : ∀ e,ie = some e -> PlaceTo W0 e (d + 1)) : InTo W0 (.mk k t n a al ie vs) d:=by
 intro w c hex hW
 rw [EX.size] at hs
 rw [ExAt] at hex
 obtain ⟨ck,ct,cn,ca,cal,ci,cvs⟩:=c
 obtain ⟨e1,e2,e3,e4,⟨A1,c1,e5,_⟩,hi,⟨A2,c2,e7,_⟩⟩:=hex
 simp only at e1 e2 e3 e4 e5 e7 hi
 subst e1 e2 e3 e4 e5 e7
 obtain ⟨p,rfl⟩ : ∃ p,ci = .pointer p:=by
  cases ie with
  | none=>simp only [OAt] at hi; exact ⟨_,hi⟩
  | some e=>simp only [OAt] at hi; obtain ⟨b,o,c,h,_⟩:=hi; exact ⟨_,h⟩
 have hin:=isNone_of hi
 show Calls Tryz.prog 82 #[exV k t n a A1 al.length c1 p A2 vs.length c2,.int .i64 d] w _
 rcases hk with rfl | rfl | rfl | rfl | rfl
 ·have e : okE .inl (.mk 0 t n a al ie vs) d = (bareF true false false false false false t n a al.length p vs.length && validB t):=by
   rw [okE]; unfold inlP bareF; rw [len0R,len0R,hin]
   generalize okO Md.brc ie (d + 1) = X
   generalize (argNames [] al && okAs al d) = Y
   simp [Bool.and_comm,Bool.and_assoc,Bool.and_left_comm]
  rw [e]
  exact lin0 hT t n a A1 al.length c1 p A2 vs.length c2 d w hW (by omega) (by omega) (by omega)
 ·have e : okE .inl (.mk 1 t n a al ie vs) d = (bareF true false false false false false t n a al.length p vs.length && lnumB t.data.toList):=by
   rw [okE,<- isNum_l]; unfold inlP bareF; rw [len0R,len0R,hin]
   generalize okO Md.brc ie (d + 1) = X
   generalize (argNames [] al && okAs al d) = Y
   simp [Bool.and_comm,Bool.and_assoc,Bool.and_left_comm]
  rw [e]
  exact lin1 hT t n a A1 al.length c1 p A2 vs.length c2 d w hW (by omega) (by omega) (by omega)
 ·have e : okE .inl (.mk 2 t n a al ie vs) d = (bareF false true false false false false t n a al.length p vs.length && lnameB n.data.toList):=by
   rw [okE,<- nameV_l]; unfold inlP bareF; rw [len0R,len0R,hin]
   generalize okO Md.brc ie (d + 1) = X
   generalize (argNames [] al && okAs al d) = Y
   simp [Bool.and_comm,Bool.and_assoc,Bool.and_left_comm]
  rw [e]
  exact lin2 hT t n a A1 al.length c1 p A2 vs.length c2 d w hW (by omega) (by omega) (by omega)
 ·have e : okE .inl (.mk 3 t n a al ie vs) d = (bareF false true true false false false t n a al.length p vs.length && (lnameB n.data.toList && (emp a || lnameB a.data.toList))):=by
   rw [okE,<- nameV_l,<- nameV_l]; unfold inlP bareF; rw [len0R,len0R,hin]
   generalize okO Md.brc ie (d + 1) = X
   generalize (argNames [] al && okAs al d) = Y
   simp [Bool.and_comm,Bool.and_assoc,Bool.and_left_comm]
  rw [e]
  exact lin3 hT t n a A1 al.length c1 p A2 vs.length c2 d w hW (by omega) (by omega) (by omega)
 ·have e : okE .inl (.mk 6 t n a al ie vs) d = (bareF false false false false true false t n a al.length p vs.length && okO .brc ie (d + 1)):=by
   rw [okE]; unfold inlP bareF; rw [len0R,len0R]
   generalize okO Md.brc ie (d + 1) = X
   generalize (argNames [] al && okAs al d) = Y
   simp [Bool.and_comm,Bool.and_assoc,Bool.and_left_comm]
  rw [e]
  exact lin6 t n a A1 al.length c1 p A2 vs.length c2 d w hW hd ie hi hP
-- from Alu
def seenTo (l : List AR) : Nat -> List ByteArray
 | 0=>[]
 | j + 1=>match l[j]? with
  | some (.mk n _)=>if emp n then seenTo l j else n :: seenTo l j
  | none=>seenTo l j
theorem memB_cons (t n : ByteArray) (s : List ByteArray) : memB t (n :: s) = (decide (t = n) || memB t s):=rfl
def noneTo (l : List AR) (t : ByteArray) : Nat -> Bool
 | 0=>true
 | j + 1=>noneTo l t j && (match l[j]? with | some (.mk n _)=>!decide (n = t) | none=>true)
theorem mem_none (l : List AR) (t : ByteArray) (ht : emp t = false) : ∀ i,memB t (seenTo l i) = !noneTo l t i
 | 0=>rfl
 | i + 1=>by
  have ih:=mem_none l t ht i
  rw [seenTo,noneTo]
  cases h : l[i]? with
  | none=>simp only [ih,Bool.and_true]
  | some x =>
   obtain ⟨n,e⟩:=x
   simp only
   have hs : decide (t = n) = decide (n = t):=by rw [decide_eq_decide]; exact eq_comm
   by_cases hn : emp n = true
   ·rw [if_pos hn,ih]
    have : decide (n = t) = false:=decide_eq_false (fun e2=>by rw [e2,ht] at hn; cases hn)
    rw [this]; simp
   ·rw [if_neg hn,memB_cons,ih,hs]
    cases decide (n = t) <;> simp
theorem none_mono (l : List AR) (t : ByteArray) (j : Nat) (h : noneTo l t j = false) : ∀ i,j <= i -> noneTo l t i = false
 | 0,hi=>by rw [show j = 0 by omega] at h; exact h
 | i + 1,hi=>by
  by_cases e : j = i + 1
  ·rw [<- e]; exact h
  ·rw [noneTo,none_mono l t j h i (by omega)]; rfl
theorem kind_pos (m : Md) (hm : m = .inl) (k : Int) (t n a : ByteArray) (al : List AR) (ie : Option EX) (vs : List VA) (d : Nat) (h : okE m (.mk k t n a al ie vs) d = true) : 0 <= k:=by
 subst hm
 rw [okE] at h
 rcases Int.lt_or_le k 0 with hk | hk
 ·exfalso
  unfold inlP at h
  rw [if_neg (by omega),if_neg (by omega),if_neg (by omega),if_neg (by omega),if_neg (by omega),if_neg (by omega),if_neg (by omega)] at h
  cases h
 ·exact hk
-- from Alv
theorem arg_cells {W0 W : World} {b o j d : Nat} {nm : ByteArray} {ex : EX} (hb : b < W0.heap.size) (g : Below W0.heap.size W0 W) (h : W0.cell? ⟨b,o + j * 8,none⟩ = some (.string nm) /\ ∃ c7,CellsAt W0 b (o + j * 8 + 1) c7 /\ ExAt W0 ex c7) :
  ∃ (k2 : Int) (t2 n3 a2 : ByteArray) (B1 : Option Addr) (m1 q1 : Nat) (p2 : Option Addr) (B2 : Option Addr) (m2 q2 : Nat),W.cell? ⟨b,o + j * 8,none⟩ = some (.string nm) /\ W.cell? ⟨b,o + j * 8 + 1,none⟩ = some (.int .i64 k2) /\
   W.cell? ⟨b,o + j * 8 + 2,none⟩ = some (.string t2) /\ W.cell? ⟨b,o + j * 8 + 3,none⟩ = some (.string n3) /\ W.cell? ⟨b,o + j * 8 + 4,none⟩ = some (.string a2) /\ W.cell? ⟨b,o + j * 8 + 5,none⟩ = some (.slice B1 m1 q1) /\
   W.cell? ⟨b,o + j * 8 + 6,none⟩ = some (.pointer p2) /\ W.cell? ⟨b,o + j * 8 + 7,none⟩ = some (.slice B2 m2 q2):=by
 obtain ⟨c0,⟨ck,ct,cn,ca,cal,ci,cvs⟩,⟨k0,k1,k2,k3,k4,k5,k6⟩,h⟩:=h
 obtain ⟨kk,t2,n2',a2,al2,i2,vs2⟩:=ex
 rw [ExAt] at h
 obtain ⟨e1,e2,e3,e4,⟨B1,q1,e5,_⟩,e6,⟨B2,q2,e7,_⟩⟩:=h
 obtain ⟨p2,e8⟩ : ∃ p,ci = .pointer p:=by
  cases i2 with
  | none=>simp only [OAt] at e6; exact ⟨_,e6⟩
  | some e=>simp only [OAt] at e6; obtain ⟨b,o,c,h,_⟩:=e6; exact ⟨_,h⟩
 simp only at e1 e2 e3 e4 e5 e7
 subst e1 e2 e3 e4 e5 e8 e7
 exact ⟨_,_,_,_,_,_,_,_,_,_,_,(g.cell (p:=⟨b,_,none⟩) hb).trans c0,(g.cell (p:=⟨b,_,none⟩) hb).trans k0,(g.cell (p:=⟨b,_,none⟩) hb).trans k1,(g.cell (p:=⟨b,_,none⟩) hb).trans k2,(g.cell (p:=⟨b,_,none⟩) hb).trans k3,(g.cell (p:=⟨b,_,none⟩) hb).trans k4,(g.cell (p:=⟨b,_,none⟩) hb).trans k5,(g.cell (p:=⟨b,_,none⟩) hb).trans k6⟩
set_option maxHeartbeats 8000000 in
set_option maxRecDepth 1000000 in
theorem lin4 {W0 : World} (t n a : ByteArray) (al : List AR) (A1 : Option Addr) (c1 : Nat) (hv : LieAt (AsAt W0 al) (.slice A1 al.length c1) al.length) (ip : Option Addr) (A2 : Option Addr) (n2 c2 : Nat) (d : Nat) (w : World) (hW : Below W0.heap.size W0 w)
  (hn : n.size <= 4000000) (hal : sizeAs al <= 4000000) (hI : ∀ t e,AR.mk t e ∈ al -> InTo W0 e d) :
  Calls Tryz.prog 82 #[exV 4 t n a A1 al.length c1 ip A2 n2 c2,.int .i64 d] w fun r w'=>r = .returned (.bool (bareF false true false true false false t n a al.length ip n2 && lnameB n.data.toList && (argNames [] al && okAs al d))) /\ Below w.heap.size w w':=by
 have HBa:=hid (fun W=>lbare_010100 4 t n a A1 al.length c1 ip A2 n2 c2 W)
 obtain ⟨bb,hbb⟩ : ∃ b,bareF false true false true false false t n a al.length ip n2 = b:=⟨_,rfl⟩
 have HW:=hid hW
 have hWs:=hW.size
 have HI:=hid hI
 have HV:=hid hv
 have HAl:=hid hal
 have Hp:=hid (fun W=>lname_any n W hn)
 obtain ⟨q,hq⟩ : ∃ q,lnameB n.data.toList = q:=⟨_,rfl⟩
 obtain ⟨z,hz⟩ : ∃ z,(argNames [] al && okAs al d) = z:=⟨_,rfl⟩
 have hpos : q = true -> 0 < n.size:=by
  rintro rfl
  unfold lnameB at hq
  rw [decide_eq_true_iff,size_data] at hq
  exact hq.1
 have hlen : (al.length : Int) <= 4000000:=by have:=sizeAs_length al; omega
 rw [hbb] at HBa ⊢
 rw [hq] at Hp ⊢
 rw [hz]
 have HZ:=hid hz
 have Hpos:=hid hpos
 clear hbb hW hI hv hal hq hz hpos
 unfold exV at HBa ⊢
 go_enter Tryz.func82,Tryz.ntmps82
 go_wp2_with fail
 go_at_call 83
 refine (HBa.out _).mono ?_
 rintro e1 w1 ⟨rfl,hb1⟩
 have hE:=(BoxAt.new w #[.int .i64 4,.string t,.string n,.string a,.slice A1 al.length c1,.pointer ip,.slice A2 n2 c2] 48).later hb1
 have HE:=hid hE
 have hbr : Below w.heap.size w w1:=((Below.refl w.heap.size w).alloc (Nat.le_refl _) _).trans (hb1.mono (by simp))
 have d0 : w1.cell? ⟨w.heap.size,0,none⟩ = some (.int .i64 4):=hE.cell 0
 have d2 : w1.cell? ⟨w.heap.size,2,none⟩ = some (.string n):=hE.cell 2
 have d4 : w1.cell? ⟨w.heap.size,4,none⟩ = some (.slice A1 al.length c1):=hE.cell 4
 have HBr:=hid hbr
 clear hE hb1 hbr
 cases bb
 case false =>
  go_wp2
  go_ret
  exact ⟨ret_bool (by simp),HBr.out⟩
 cases q
 case false =>
  go_wp2_with fail
  go_at_call 34
  refine (Hp.out _).mono ?_
  rintro e2 w2 ⟨rfl,rfl⟩
  go_wp2
  go_ret
  exact ⟨ret_bool (by simp),HBr.out⟩
 have hn0:=Hpos.out rfl
 have hn1 : decide ((0 : Int) < (n.size : Int)) = true:=decide_eq_true (by omega)
 have hn2 : decide (0 < n.size) = true:=decide_eq_true hn0
 have hn3 : (0 : Int) < (n.size : Int):=by omega
 go_wp2_with fail
 go_at_call 34
 refine (Hp.out _).mono ?_
 rintro e2 w2 ⟨rfl,rfl⟩
 go_wp2
 go_loop [5] (fun s=>s = .int .i64 0) (fun s=>0)
 case atStart=>rfl
 case round =>
 subst hrel
 go_wp2
 go_loopw [115] (fun t115 wr=>∃ i : Nat,t115 = .int .i64 i /\ i <= al.length /\ Hid (z = (argNames (seenTo al i) (al.drop i) && okAs (al.drop i) d)) /\ Hid (Below w.heap.size w wr) /\
   BoxAt wr w.heap.size #[.int .i64 4,.string t,.string n,.string a,.slice A1 al.length c1,.pointer ip,.slice A2 n2 c2] 48 /\ Hid (∀ j,i = j + 1 -> ∃ p e,al[j]? = some (.mk p e) /\ emp p = (seenTo al i).isEmpty)) (fun t115 _=>al.length - (intOf t115).toNat)
 case atStart =>
  refine ⟨0,rfl,Nat.zero_le _,?_,HBr.out,HE.out,fun j h=>by omega⟩
  unfold Hid; rw [<- HZ.out]; rfl
 case round =>
  obtain ⟨i,rfl,hi,Hans,HB,hE,Hprev⟩:=hrel
  have HE2:=hid hE
  have d4 : wr.cell? ⟨w.heap.size,4,none⟩ = some (.slice A1 al.length c1):=hE.cell 4
  have hwl : w.heap.size < wr.heap.size:=hE.lt
  have hwl1 : w.heap.size < wr.heap.size + 1:=by omega
  have hwn : w.heap.size ≠ wr.heap.size:=by omega
  clear hE
  have hbel : Below W0.heap.size W0 wr:=HW.out.trans (HB.out.mono hWs)
  have hwr0:=hbel.size
  have hii0 : (i : Int) <= 4000000:=by omega
  by_cases hlt : i < al.length
  ·obtain ⟨b,o,c',e,hb,hcs⟩:=args_get HV.out hlt
   cases e
   obtain ⟨nm,ex,hel⟩ : ∃ t p,al[i]? = some (.mk t p):=by
    cases e : al[i] with
    | mk t p=>exact ⟨t,p,by rw [List.getElem?_eq_getElem hlt,e]⟩
   obtain ⟨c0,c7,hca,hex⟩:=hcs i nm ex hel
   have hIn:=HI.out nm ex (List.mem_of_getElem? hel)
   have hIn2:=fun W h=>hIn W c7 hex h
   have hnms : nm.size <= 4000000:=by
    have h1:=sizeAs_take al (i + 1)
    rw [take_snoc al i _ hel,sizeAs_append,sizeAs] at h1
    have:=HAl.out
    omega
   obtain ⟨ck,ct,cn,ca,cal,ci,cvs⟩:=c7
   have hkk : ∃ (k2 : Int) (t2 n3 a2 : ByteArray) (B1 : Option Addr) (m1 q1 : Nat) (p2 : Option Addr) (B2 : Option Addr) (m2 q2 : Nat),ck = .int .i64 k2 /\ ct = .string t2 /\ cn = .string n3 /\ ca = .string a2 /\ cal = .slice B1 m1 q1 /\ ci = .pointer p2 /\ cvs = .slice B2 m2 q2 /\ (okE .inl ex d = true -> 0 <= k2) /\ ∀ s r,argNames s (.mk nm ex :: r) = if emp nm then s.isEmpty && argNames s r else !memB nm s && isNameV nm && (k2 == 0 || k2 == 1) && argNames (nm :: s) r:=by
    obtain ⟨k2,t2,n2',a2,al2,i2,vs2⟩:=ex
    have h:=hex
    rw [ExAt] at h
    obtain ⟨e1,e2,e3,e4,⟨B1,q1,e5,_⟩,e6,⟨B2,q2,e7,_⟩⟩:=h
    obtain ⟨p2,e6⟩ : ∃ p,ci = .pointer p:=by
     cases i2 with
     | none=>simp only [OAt] at e6; exact ⟨_,e6⟩
     | some e=>simp only [OAt] at e6; obtain ⟨b,o,c,h,_⟩:=e6; exact ⟨_,h⟩
    exact ⟨k2,t2,n2',a2,B1,_,q1,p2,B2,_,q2,e1,e2,e3,e4,e5,e6,e7,fun h2=>kind_pos .inl rfl _ _ _ _ _ _ _ _ h2,fun s r=>by rw [argNames]⟩
   obtain ⟨k2,t2,n3,a2,B1,m1,q1,p2,B2,m2,q2,rfl,rfl,rfl,rfl,rfl,rfl,rfl,hkpos,harg⟩:=hkk
   obtain ⟨k0,k1,k2',k3,k4,k5,k6⟩:=hca
   have g:=hbel
   have k0 : wr.cell? ⟨b,o + i * 8 + 1,none⟩ = some (.int .i64 k2):=(g.cell (p:=⟨b,_,none⟩) hb).trans k0
   have k1 : wr.cell? ⟨b,o + i * 8 + 2,none⟩ = some (.string t2):=(g.cell (p:=⟨b,_,none⟩) hb).trans k1
   have k2' : wr.cell? ⟨b,o + i * 8 + 3,none⟩ = some (.string n3):=(g.cell (p:=⟨b,_,none⟩) hb).trans k2'
   have k3 : wr.cell? ⟨b,o + i * 8 + 4,none⟩ = some (.string a2):=(g.cell (p:=⟨b,_,none⟩) hb).trans k3
   have k4 : wr.cell? ⟨b,o + i * 8 + 5,none⟩ = some (.slice B1 m1 q1):=(g.cell (p:=⟨b,_,none⟩) hb).trans k4
   have k5 : wr.cell? ⟨b,o + i * 8 + 6,none⟩ = some (.pointer p2):=(g.cell (p:=⟨b,_,none⟩) hb).trans k5
   have k6 : wr.cell? ⟨b,o + i * 8 + 7,none⟩ = some (.slice B2 m2 q2):=(g.cell (p:=⟨b,_,none⟩) hb).trans k6
   have c0 : wr.cell? ⟨b,o + i * 8,none⟩ = some (.string nm):=(g.cell (p:=⟨b,_,none⟩) hb).trans c0
   unfold C7.arr at hIn2
   have hbw : b < wr.heap.size:=by omega
   have hlt' : decide ((i : Int) < (al.length : Int)) = true:=decide_eq_true (by omega)
   have hlt3 : ((i : Nat) : Int) < (al.length : Int):=by omega
   have hdr:=drop_cons al i _ hel
   have hans:=Hans.out
   rw [hdr,harg,okAs] at hans
   obtain ⟨y,hy⟩ : ∃ y,okE .inl ex d = y:=⟨_,rfl⟩
   rw [hy] at hans hIn2 hkpos
   have Hans2:=hid hans
   have HIn:=hid hIn2
   have Hkp:=hid hkpos
   have Hcs:=hid hcs
   have Hel:=hid hel
   have Hbel:=hid hbel
   clear hans hIn2 hkpos hcs hel hy hdr harg hIn hex Hans hbel g
   go_wp2_with fail
   go_at_call 82
   refine (HIn.out _ (Hbel.out.alloc hwr0 _)).mono ?_
   rintro e3 w3 ⟨rfl,hb3⟩
   have hr3 : Below wr.heap.size wr w3:=((Below.refl wr.heap.size wr).alloc (Nat.le_refl _) _).trans (hb3.mono (by simp))
   have hX:=(BoxAt.new wr #[.string nm,.int .i64 k2,.string t2,.string n3,.string a2,.slice B1 m1 q1,.pointer p2,.slice B2 m2 q2] 127).later hb3
   have x0 : w3.cell? ⟨wr.heap.size,0,none⟩ = some (.string nm):=hX.cell 0
   have x1 : w3.cell? ⟨wr.heap.size,1,none⟩ = some (.int .i64 k2):=hX.cell 1
   have HX:=hid hX
   have HE3:=hid (HE2.out.later hr3)
   have e4 : w3.cell? ⟨w.heap.size,4,none⟩ = some (.slice (some ⟨b,o,none⟩) al.length c1):=HE3.out.cell 4
   have HB3:=hid (HB.out.trans (hr3.mono (by omega)))
   have Hbel3:=hid (Hbel.out.trans (hr3.mono hwr0))
   have hw3:=hr3.size
   have HR3:=hid hr3
   clear hb3 hr3 hX
   cases y
   case false =>
    go_wp2
    go_ret
    exact ⟨ret_bool (by rw [Hans2.out]; simp),HB3.out⟩
   have hsn : seenTo al (i + 1) = if emp nm then seenTo al i else nm :: seenTo al i:=by rw [seenTo,Hel.out]
   cases he : nm.toList.isEmpty
   case true =>
    have hem : emp nm = true:=he
    rw [if_pos hem] at hsn
    have hp2 : ∀ j,i + 1 = j + 1 -> (seenTo al i).isEmpty = true -> ∃ p e,al[j]? = some (.mk p e) /\ emp p = (seenTo al (i + 1)).isEmpty:=by
     intro j hj h
     obtain rfl : i = j:=by omega
     exact ⟨nm,ex,Hel.out,by rw [hsn,hem,h]⟩
    have hans:=Hans2.out
    rw [if_pos hem] at hans
    have HansE:=hid hans
    have HprevE:=hid hp2
    have Hsn:=hid hsn
    clear hsn hem hans hp2
    by_cases h0 : 0 < i
    ·obtain ⟨j,hij⟩ : ∃ j,i = j + 1:=⟨i - 1,by omega⟩
     obtain ⟨pn,pe,hpl,hpe⟩:=Hprev.out j hij
     have cp : w3.cell? ⟨b,o + (i - 1) * 8,none⟩ = some (.string pn):=by
      rw [hij,Nat.add_sub_cancel]
      exact (Hbel3.out.cell (p:=⟨b,_,none⟩) hb).trans (Hcs.out j pn pe hpl).1
     have Hpe:=hid hpe
     have h0' : decide ((0 : Int) < (i : Int)) = true:=decide_eq_true (by omega)
     have h0'' : decide (0 < i) = true:=decide_eq_true h0
     have h03 : (0 : Int) < (i : Int):=by omega
     have h04 : (1 : Int) <= (i : Int):=by omega
     clear hij hpl hpe
     cases hpn : pn.toList.isEmpty
     case false =>
      have hs0 : (seenTo al i).isEmpty = false:=by rw [<- Hpe.out]; exact hpn
      have Hs0:=hid hs0
      clear hs0
      go_wp2
      go_ret
      exact ⟨ret_bool (by rw [HansE.out,Hs0.out]; simp),HB3.out⟩
     have hs0 : (seenTo al i).isEmpty = true:=by rw [<- Hpe.out]; exact hpn
     have Hs0:=hid hs0
     clear hs0
     go_wp2
     go_roundw
     case rel=>exact ⟨i + 1,by go_num,hlt,by unfold Hid; rw [HansE.out,Hsn.out,Hs0.out]; simp,HB3.out,HE3.out,fun j hj=>HprevE.out j hj Hs0.out⟩
     case measure=>simp [intOf]; omega
    ·have h0' : decide ((0 : Int) < (i : Int)) = false:=decide_eq_false (by omega)
     have h0'' : decide (0 < i) = false:=decide_eq_false h0
     have h03 : ¬ (0 : Int) < (i : Int):=by omega
     have hs0 : (seenTo al i).isEmpty = true:=by rw [show i = 0 by omega]; rfl
     have Hs0:=hid hs0
     clear hs0
     go_wp2
     go_roundw
     case rel=>exact ⟨i + 1,by go_num,hlt,by unfold Hid; rw [HansE.out,Hsn.out,Hs0.out]; simp,HB3.out,HE3.out,fun j hj=>HprevE.out j hj Hs0.out⟩
     case measure=>simp [intOf]; omega
   have hem : emp nm = false:=he
   rw [if_neg (by rw [hem]; simp)] at hsn
   have hans:=Hans2.out
   rw [if_neg (by rw [hem]; simp),mem_none al nm hem i] at hans
   have Hans3:=hid hans
   have Hsn:=hid hsn
   have Hem:=hid hem
   have hcap : al.length <= c1:=by
    obtain ⟨A',c',e,h1,_⟩:=HV.out
    cases e
    exact h1
   have hcap2 : (i : Int) <= (c1 : Int):=by omega
   have hcap3 : i <= c1:=by omega
   clear hans hsn hem
   go_wp2
   obtain ⟨wo,hwo⟩ : ∃ x,x = wr:=⟨_,rfl⟩
   subst hwo
   go_loopw [145] (fun t145 wq=>∃ m : Nat,t145 = .int .i64 m /\ m <= i /\ Hid (noneTo al nm m = true) /\ Hid (Below w3.heap.size w3 wq)) (fun t145 _=>i - (intOf t145).toNat)
   case atStart=>exact ⟨0,rfl,Nat.zero_le _,rfl,Below.refl _ _⟩
   case round =>
    obtain ⟨m,rfl,hm,Hno,HBq⟩:=hrel
    have hbq:=HBq.out
    have hqs:=hbq.size
    have Hbelq:=hid (Hbel3.out.trans (hbq.mono (by have:=Hbel3.out.size; omega)))
    have HBBq:=hid (HB3.out.trans (hbq.mono (by have:=HB3.out.size; omega)))
    have HXq:=hid (HX.out.later hbq)
    have HEq:=hid (HE3.out.later hbq)
    have x0 : wr.cell? ⟨wo.heap.size,0,none⟩ = some (.string nm):=HXq.out.cell 0
    have x1 : wr.cell? ⟨wo.heap.size,1,none⟩ = some (.int .i64 k2):=HXq.out.cell 1
    have hwrq : wo.heap.size < wr.heap.size:=HXq.out.lt
    have hwrq1 : wo.heap.size ≠ wr.heap.size:=by omega
    have hwrq2 : wo.heap.size < wr.heap.size + 1:=by omega
    have hbwq : b < wr.heap.size:=by omega
    clear hbq
    by_cases hml : m < i
    ·obtain ⟨pn,pe,hpl⟩ : ∃ t p,al[m]? = some (.mk t p):=by
      have hm2 : m < al.length:=by omega
      cases e : al[m] with
      | mk t p=>exact ⟨t,p,by rw [List.getElem?_eq_getElem hm2,e]⟩
     obtain ⟨j2,u2,v3,b2,G1,g1,f1,r2,G2,g2,f2,y0,y1,y2,y3,y4,y5,y6,y7⟩:=arg_cells (d:=0) hb Hbelq.out (Hcs.out m pn pe hpl)
     have hm' : decide ((m : Int) < (i : Int)) = true:=decide_eq_true (by omega)
     have hm3 : (m : Int) < (i : Int):=by omega
     have hno : noneTo al nm (m + 1) = !decide (pn = nm):=by
      rw [noneTo,Hno.out,hpl]; rfl
     have Hno2:=hid hno
     clear hno hpl
     by_cases hpq : pn = nm
     ·have hfin : noneTo al nm i = false:=none_mono al nm (m + 1) (by rw [Hno2.out,decide_eq_true hpq]; rfl) i hml
      have Hfin:=hid hfin
      clear hfin
      subst hpq
      go_wp2
      go_ret
      exact ⟨ret_bool (by rw [Hans3.out,Hfin.out]; simp),by
       have:=HBBq.out
       exact this.alloc (by have:=this.size; omega) _⟩
     ·have hpd : decide (pn = nm) = false:=decide_eq_false hpq
      have hpd2 : (pn.toList == nm.toList) = false:=by
       rw [beq_eq_false_iff_ne]
       intro h
       rw [Lib.toList_data,Lib.toList_data] at h
       exact hpq (bytes_eq h)
      go_wp2
      go_roundw
      case rel=>exact ⟨m + 1,by go_num,hml,by unfold Hid; rw [Hno2.out,decide_eq_false hpq]; rfl,HBq.out.alloc hqs _⟩
      case measure=>simp [intOf]; omega
    ·obtain rfl : m = i:=by omega
     have hm' : decide ((m : Int) < (m : Int)) = false:=decide_eq_false (by omega)
     have hans:=Hans3.out
     rw [Hno.out,nameV_l] at hans
     have Hnm:=hid (fun W=>lname_any nm W hnms)
     obtain ⟨g,hg⟩ : ∃ g,lnameB nm.data.toList = g:=⟨_,rfl⟩
     rw [hg] at hans Hnm
     have Hans4:=hid hans
     have hk0:=Hkp.out trivial
     clear hans hg
     go_wp2_with fail
     go_at_call 34
     refine (Hnm.out _).mono ?_
     rintro e5 w5 ⟨rfl,rfl⟩
     cases g
     case false =>
      go_wp2
      go_ret
      exact ⟨ret_bool (by rw [Hans4.out]; simp),HBBq.out⟩
     by_cases hk1 : 1 < k2
     ·have hkd : decide ((1 : Int) < k2) = true:=decide_eq_true hk1
      have hkk : (k2 == 0 || k2 == 1) = false:=by rw [Bool.eq_false_iff]; intro h; simp at h; omega
      have Hkk:=hid hkk
      clear hkk
      go_wp2
      go_ret
      exact ⟨ret_bool (by rw [Hans4.out,Hkk.out]; simp),HBBq.out⟩
     ·have hkd : decide ((1 : Int) < k2) = false:=decide_eq_false hk1
      have hkk : (k2 == 0 || k2 == 1) = true:=by
       obtain rfl | rfl : k2 = 0 ∨ k2 = 1:=by omega
       ·rfl
       ·rfl
      have Hkk:=hid hkk
      clear hkk
      go_wp2
      go_roundw
      case rel =>
       refine ⟨m + 1,by go_num,hlt,?_,HBBq.out,HEq.out,?_⟩
       ·unfold Hid
        rw [Hans4.out,Hkk.out,Hsn.out]; simp
       ·intro j hj
        obtain rfl : m = j:=by omega
        exact ⟨nm,ex,Hel.out,by rw [Hsn.out,Hem.out]; rfl⟩
      case measure=>simp [intOf]; omega
  ·obtain rfl : i = al.length:=by omega
   have hlt' : decide ((al.length : Int) < (al.length : Int)) = false:=decide_eq_false (by omega)
   have hans:=Hans.out
   rw [List.drop_length,argNames,okAs] at hans
   have Hans2:=hid hans
   clear hans
   go_wp2
   go_ret
   exact ⟨ret_bool (by rw [Hans2.out]; rfl),HB.out⟩
-- from Alw
def upB (c : UInt8) : Bool:=!(decide ((97 : Int) <= (c.toNat : Int)) && decide ((c.toNat : Int) <= 122))
theorem upTake (t : ByteArray) (j : Nat) (h : j < t.size) : (t.data.toList.take (j + 1)).all upB = ((t.data.toList.take j).all upB && upB t[j]):=by
 rw [take_succ t j h,List.all_append]
 simp
theorem up_none (l : List UInt8) (j : Nat) (h : (l.take j).all upB = false) : l.all upB = false:=by
 rw [Bool.eq_false_iff] at h ⊢
 intro h2
 apply h
 rw [List.all_eq_true] at h2 ⊢
 exact fun x hx=>h2 x (List.mem_of_mem_take hx)
set_option maxHeartbeats 8000000 in
set_option maxRecDepth 1000000 in
theorem lin5 {W0 : World} (t n a : ByteArray) (al : List AR) (A1 : Option Addr) (c1 : Nat) (hv : LieAt (AsAt W0 al) (.slice A1 al.length c1) al.length) (ip : Option Addr) (A2 : Option Addr) (n2 c2 : Nat) (d : Nat) (w : World) (hW : Below W0.heap.size W0 w)
  (hn : n.size <= 4000000) (hal : sizeAs al <= 4000000) (hI : ∀ t e,AR.mk t e ∈ al -> InTo W0 e d) :
  Calls Tryz.prog 82 #[exV 5 t n a A1 al.length c1 ip A2 n2 c2,.int .i64 d] w fun r w'=>r = .returned (.bool (bareF false true false true false false t n a al.length ip n2 && lnameB n.data.toList && n.data.toList.all upB && (argNames [] al && okAs al d))) /\ Below w.heap.size w w':=by
 have HBa:=hid (fun W=>lbare_010100 5 t n a A1 al.length c1 ip A2 n2 c2 W)
 obtain ⟨bb,hbb⟩ : ∃ b,bareF false true false true false false t n a al.length ip n2 = b:=⟨_,rfl⟩
 have HW:=hid hW
 have hWs:=hW.size
 have HI:=hid hI
 have HV:=hid hv
 have HAl:=hid hal
 have Hp:=hid (fun W=>lname_any n W hn)
 obtain ⟨q,hq⟩ : ∃ q,lnameB n.data.toList = q:=⟨_,rfl⟩
 obtain ⟨z,hz⟩ : ∃ z,(argNames [] al && okAs al d) = z:=⟨_,rfl⟩
 obtain ⟨ub,hub⟩ : ∃ u,n.data.toList.all upB = u:=⟨_,rfl⟩
 have hpos : q = true -> 0 < n.size:=by
  rintro rfl
  unfold lnameB at hq
  rw [decide_eq_true_iff,size_data] at hq
  exact hq.1
 have hlen : (al.length : Int) <= 4000000:=by have:=sizeAs_length al; omega
 rw [hbb] at HBa ⊢
 rw [hq] at Hp ⊢
 rw [hz,hub]
 have Hub:=hid hub
 have HZ:=hid hz
 have Hpos:=hid hpos
 clear hbb hW hI hv hal hq hz hpos hub
 unfold exV at HBa ⊢
 go_enter Tryz.func82,Tryz.ntmps82
 go_wp2_with fail
 go_at_call 83
 refine (HBa.out _).mono ?_
 rintro e1 w1 ⟨rfl,hb1⟩
 have hE:=(BoxAt.new w #[.int .i64 5,.string t,.string n,.string a,.slice A1 al.length c1,.pointer ip,.slice A2 n2 c2] 48).later hb1
 have HE:=hid hE
 have hbr : Below w.heap.size w w1:=((Below.refl w.heap.size w).alloc (Nat.le_refl _) _).trans (hb1.mono (by simp))
 have d0 : w1.cell? ⟨w.heap.size,0,none⟩ = some (.int .i64 5):=hE.cell 0
 have d2 : w1.cell? ⟨w.heap.size,2,none⟩ = some (.string n):=hE.cell 2
 have d4 : w1.cell? ⟨w.heap.size,4,none⟩ = some (.slice A1 al.length c1):=hE.cell 4
 have HBr:=hid hbr
 clear hE hb1 hbr
 cases bb
 case false =>
  go_wp2
  go_ret
  exact ⟨ret_bool (by simp),HBr.out⟩
 cases q
 case false =>
  go_wp2_with fail
  go_at_call 34
  refine (Hp.out _).mono ?_
  rintro e2 w2 ⟨rfl,rfl⟩
  go_wp2
  go_ret
  exact ⟨ret_bool (by simp),HBr.out⟩
 have hn0:=Hpos.out rfl
 have hn1 : decide ((0 : Int) < (n.size : Int)) = true:=decide_eq_true (by omega)
 have hn2 : decide (0 < n.size) = true:=decide_eq_true hn0
 have hn3 : (0 : Int) < (n.size : Int):=by omega
 go_wp2_with fail
 go_at_call 34
 refine (Hp.out _).mono ?_
 rintro e2 w2 ⟨rfl,rfl⟩
 go_wp2
 go_loop [5] (fun s=>∃ j : Nat,s = .int .i64 j /\ j <= n.size /\ Hid ((n.data.toList.take j).all upB = true)) (fun s=>n.size - (intOf s).toNat)
 case atStart=>exact ⟨0,rfl,Nat.zero_le _,by unfold Hid; simp⟩
 case round =>
 obtain ⟨j,rfl,hj,Hup⟩:=hrel
 have hj0 : (j : Int) <= 4000000:=by omega
 by_cases hjl : j < n.size
 ·have hj' : decide ((j : Int) < (n.size : Int)) = true:=decide_eq_true (by omega)
  have hj3 : (j : Int) < (n.size : Int):=by omega
  have hut:=upTake n j hjl
  rw [Hup.out,Bool.true_and] at hut
  unfold upB at hut
  obtain ⟨u1,hu1⟩ : ∃ u,decide ((97 : Int) <= (n[j].toNat : Int)) = u:=⟨_,rfl⟩
  obtain ⟨u2,hu2⟩ : ∃ u,decide ((n[j].toNat : Int) <= 122) = u:=⟨_,rfl⟩
  rw [hu1,hu2] at hut
  have Hut:=hid (show (n.data.toList.take (j + 1)).all upB = _ from hut)
  clear hut
  cases u1
  case false =>
   go_wp2
   go_round
   case rel=>exact ⟨j + 1,by go_num,hjl,Hut.out⟩
   case measure=>simp [intOf]; omega
  cases u2
  case false =>
   go_wp2
   go_round
   case rel=>exact ⟨j + 1,by go_num,hjl,Hut.out⟩
   case measure=>simp [intOf]; omega
  have hubf : ub = false:=by rw [<- Hub.out]; exact up_none _ _ Hut.out
  have Hubf:=hid hubf
  clear hubf
  go_wp2
  go_ret
  exact ⟨ret_bool (by rw [Hubf.out]; simp),HBr.out⟩
 have hj' : decide ((j : Int) < (n.size : Int)) = false:=decide_eq_false (by omega)
 have hj3 : ¬ (j : Int) < (n.size : Int):=by omega
 have hubt : ub = true:=by
  have h:=Hup.out
  rw [show j = n.data.toList.length by rw [size_data]; omega,List.take_length,Hub.out] at h
  exact h
 subst hubt
 clear Hub Hup
 go_wp2
 go_loopw [115] (fun t115 wr=>∃ i : Nat,t115 = .int .i64 i /\ i <= al.length /\ Hid (z = (argNames (seenTo al i) (al.drop i) && okAs (al.drop i) d)) /\ Hid (Below w.heap.size w wr) /\
   BoxAt wr w.heap.size #[.int .i64 5,.string t,.string n,.string a,.slice A1 al.length c1,.pointer ip,.slice A2 n2 c2] 48 /\ Hid (∀ j,i = j + 1 -> ∃ p e,al[j]? = some (.mk p e) /\ emp p = (seenTo al i).isEmpty)) (fun t115 _=>al.length - (intOf t115).toNat)
 case atStart =>
  refine ⟨0,rfl,Nat.zero_le _,?_,HBr.out,HE.out,fun j h=>by omega⟩
  unfold Hid; rw [<- HZ.out]; rfl
 case round =>
  obtain ⟨i,rfl,hi,Hans,HB,hE,Hprev⟩:=hrel
  have HE2:=hid hE
  have d4 : wr.cell? ⟨w.heap.size,4,none⟩ = some (.slice A1 al.length c1):=hE.cell 4
  have hwl : w.heap.size < wr.heap.size:=hE.lt
  have hwl1 : w.heap.size < wr.heap.size + 1:=by omega
  have hwn : w.heap.size ≠ wr.heap.size:=by omega
  clear hE
  have hbel : Below W0.heap.size W0 wr:=HW.out.trans (HB.out.mono hWs)
  have hwr0:=hbel.size
  have hii0 : (i : Int) <= 4000000:=by omega
  by_cases hlt : i < al.length
  ·obtain ⟨b,o,c',e,hb,hcs⟩:=args_get HV.out hlt
   cases e
   obtain ⟨nm,ex,hel⟩ : ∃ t p,al[i]? = some (.mk t p):=by
    cases e : al[i] with
    | mk t p=>exact ⟨t,p,by rw [List.getElem?_eq_getElem hlt,e]⟩
   obtain ⟨c0,c7,hca,hex⟩:=hcs i nm ex hel
   have hIn:=HI.out nm ex (List.mem_of_getElem? hel)
   have hIn2:=fun W h=>hIn W c7 hex h
   have hnms : nm.size <= 4000000:=by
    have h1:=sizeAs_take al (i + 1)
    rw [take_snoc al i _ hel,sizeAs_append,sizeAs] at h1
    have:=HAl.out
    omega
   obtain ⟨ck,ct,cn,ca,cal,ci,cvs⟩:=c7
   have hkk : ∃ (k2 : Int) (t2 n3 a2 : ByteArray) (B1 : Option Addr) (m1 q1 : Nat) (p2 : Option Addr) (B2 : Option Addr) (m2 q2 : Nat),ck = .int .i64 k2 /\ ct = .string t2 /\ cn = .string n3 /\ ca = .string a2 /\ cal = .slice B1 m1 q1 /\ ci = .pointer p2 /\ cvs = .slice B2 m2 q2 /\ (okE .inl ex d = true -> 0 <= k2) /\ ∀ s r,argNames s (.mk nm ex :: r) = if emp nm then s.isEmpty && argNames s r else !memB nm s && isNameV nm && (k2 == 0 || k2 == 1) && argNames (nm :: s) r:=by
    obtain ⟨k2,t2,n2',a2,al2,i2,vs2⟩:=ex
    have h:=hex
    rw [ExAt] at h
    obtain ⟨e1,e2,e3,e4,⟨B1,q1,e5,_⟩,e6,⟨B2,q2,e7,_⟩⟩:=h
    obtain ⟨p2,e6⟩ : ∃ p,ci = .pointer p:=by
     cases i2 with
     | none=>simp only [OAt] at e6; exact ⟨_,e6⟩
     | some e=>simp only [OAt] at e6; obtain ⟨b,o,c,h,_⟩:=e6; exact ⟨_,h⟩
    exact ⟨k2,t2,n2',a2,B1,_,q1,p2,B2,_,q2,e1,e2,e3,e4,e5,e6,e7,fun h2=>kind_pos .inl rfl _ _ _ _ _ _ _ _ h2,fun s r=>by rw [argNames]⟩
   obtain ⟨k2,t2,n3,a2,B1,m1,q1,p2,B2,m2,q2,rfl,rfl,rfl,rfl,rfl,rfl,rfl,hkpos,harg⟩:=hkk
   obtain ⟨k0,k1,k2',k3,k4,k5,k6⟩:=hca
   have g:=hbel
   have k0 : wr.cell? ⟨b,o + i * 8 + 1,none⟩ = some (.int .i64 k2):=(g.cell (p:=⟨b,_,none⟩) hb).trans k0
   have k1 : wr.cell? ⟨b,o + i * 8 + 2,none⟩ = some (.string t2):=(g.cell (p:=⟨b,_,none⟩) hb).trans k1
   have k2' : wr.cell? ⟨b,o + i * 8 + 3,none⟩ = some (.string n3):=(g.cell (p:=⟨b,_,none⟩) hb).trans k2'
   have k3 : wr.cell? ⟨b,o + i * 8 + 4,none⟩ = some (.string a2):=(g.cell (p:=⟨b,_,none⟩) hb).trans k3
   have k4 : wr.cell? ⟨b,o + i * 8 + 5,none⟩ = some (.slice B1 m1 q1):=(g.cell (p:=⟨b,_,none⟩) hb).trans k4
   have k5 : wr.cell? ⟨b,o + i * 8 + 6,none⟩ = some (.pointer p2):=(g.cell (p:=⟨b,_,none⟩) hb).trans k5
   have k6 : wr.cell? ⟨b,o + i * 8 + 7,none⟩ = some (.slice B2 m2 q2):=(g.cell (p:=⟨b,_,none⟩) hb).trans k6
   have c0 : wr.cell? ⟨b,o + i * 8,none⟩ = some (.string nm):=(g.cell (p:=⟨b,_,none⟩) hb).trans c0
   unfold C7.arr at hIn2
   have hbw : b < wr.heap.size:=by omega
   have hlt' : decide ((i : Int) < (al.length : Int)) = true:=decide_eq_true (by omega)
   have hlt3 : ((i : Nat) : Int) < (al.length : Int):=by omega
   have hdr:=drop_cons al i _ hel
   have hans:=Hans.out
   rw [hdr,harg,okAs] at hans
   obtain ⟨y,hy⟩ : ∃ y,okE .inl ex d = y:=⟨_,rfl⟩
   rw [hy] at hans hIn2 hkpos
   have Hans2:=hid hans
   have HIn:=hid hIn2
   have Hkp:=hid hkpos
   have Hcs:=hid hcs
   have Hel:=hid hel
   have Hbel:=hid hbel
   clear hans hIn2 hkpos hcs hel hy hdr harg hIn hex Hans hbel g
   go_wp2_with fail
   go_at_call 82
   refine (HIn.out _ (Hbel.out.alloc hwr0 _)).mono ?_
   rintro e3 w3 ⟨rfl,hb3⟩
   have hr3 : Below wr.heap.size wr w3:=((Below.refl wr.heap.size wr).alloc (Nat.le_refl _) _).trans (hb3.mono (by simp))
   have hX:=(BoxAt.new wr #[.string nm,.int .i64 k2,.string t2,.string n3,.string a2,.slice B1 m1 q1,.pointer p2,.slice B2 m2 q2] 127).later hb3
   have x0 : w3.cell? ⟨wr.heap.size,0,none⟩ = some (.string nm):=hX.cell 0
   have x1 : w3.cell? ⟨wr.heap.size,1,none⟩ = some (.int .i64 k2):=hX.cell 1
   have HX:=hid hX
   have HE3:=hid (HE2.out.later hr3)
   have e4 : w3.cell? ⟨w.heap.size,4,none⟩ = some (.slice (some ⟨b,o,none⟩) al.length c1):=HE3.out.cell 4
   have HB3:=hid (HB.out.trans (hr3.mono (by omega)))
   have Hbel3:=hid (Hbel.out.trans (hr3.mono hwr0))
   have hw3:=hr3.size
   have HR3:=hid hr3
   clear hb3 hr3 hX
   cases y
   case false =>
    go_wp2
    go_ret
    exact ⟨ret_bool (by rw [Hans2.out]; simp),HB3.out⟩
   have hsn : seenTo al (i + 1) = if emp nm then seenTo al i else nm :: seenTo al i:=by rw [seenTo,Hel.out]
   cases he : nm.toList.isEmpty
   case true =>
    have hem : emp nm = true:=he
    rw [if_pos hem] at hsn
    have hp2 : ∀ j,i + 1 = j + 1 -> (seenTo al i).isEmpty = true -> ∃ p e,al[j]? = some (.mk p e) /\ emp p = (seenTo al (i + 1)).isEmpty:=by
     intro j hj h
     obtain rfl : i = j:=by omega
     exact ⟨nm,ex,Hel.out,by rw [hsn,hem,h]⟩
    have hans:=Hans2.out
    rw [if_pos hem] at hans
    have HansE:=hid hans
    have HprevE:=hid hp2
    have Hsn:=hid hsn
    clear hsn hem hans hp2
    by_cases h0 : 0 < i
    ·obtain ⟨j,hij⟩ : ∃ j,i = j + 1:=⟨i - 1,by omega⟩
     obtain ⟨pn,pe,hpl,hpe⟩:=Hprev.out j hij
     have cp : w3.cell? ⟨b,o + (i - 1) * 8,none⟩ = some (.string pn):=by
      rw [hij,Nat.add_sub_cancel]
      exact (Hbel3.out.cell (p:=⟨b,_,none⟩) hb).trans (Hcs.out j pn pe hpl).1
     have Hpe:=hid hpe
     have h0' : decide ((0 : Int) < (i : Int)) = true:=decide_eq_true (by omega)
     have h0'' : decide (0 < i) = true:=decide_eq_true h0
     have h03 : (0 : Int) < (i : Int):=by omega
     have h04 : (1 : Int) <= (i : Int):=by omega
     clear hij hpl hpe
     cases hpn : pn.toList.isEmpty
     case false =>
      have hs0 : (seenTo al i).isEmpty = false:=by rw [<- Hpe.out]; exact hpn
      have Hs0:=hid hs0
      clear hs0
      go_wp2
      go_ret
      exact ⟨ret_bool (by rw [HansE.out,Hs0.out]; simp),HB3.out⟩
     have hs0 : (seenTo al i).isEmpty = true:=by rw [<- Hpe.out]; exact hpn
     have Hs0:=hid hs0
     clear hs0
     go_wp2
     go_roundw
     case rel=>exact ⟨i + 1,by go_num,hlt,by unfold Hid; rw [HansE.out,Hsn.out,Hs0.out]; simp,HB3.out,HE3.out,fun j hj=>HprevE.out j hj Hs0.out⟩
     case measure=>simp [intOf]; omega
    ·have h0' : decide ((0 : Int) < (i : Int)) = false:=decide_eq_false (by omega)
     have h0'' : decide (0 < i) = false:=decide_eq_false h0
     have h03 : ¬ (0 : Int) < (i : Int):=by omega
     have hs0 : (seenTo al i).isEmpty = true:=by rw [show i = 0 by omega]; rfl
     have Hs0:=hid hs0
     clear hs0
     go_wp2
     go_roundw
     case rel=>exact ⟨i + 1,by go_num,hlt,by unfold Hid; rw [HansE.out,Hsn.out,Hs0.out]; simp,HB3.out,HE3.out,fun j hj=>HprevE.out j hj Hs0.out⟩
     case measure=>simp [intOf]; omega
   have hem : emp nm = false:=he
   rw [if_neg (by rw [hem]; simp)] at hsn
   have hans:=Hans2.out
   rw [if_neg (by rw [hem]; simp),mem_none al nm hem i] at hans
   have Hans3:=hid hans
   have Hsn:=hid hsn
   have Hem:=hid hem
   have hcap : al.length <= c1:=by
    obtain ⟨A',c',e,h1,_⟩:=HV.out
    cases e
    exact h1
   have hcap2 : (i : Int) <= (c1 : Int):=by omega
   have hcap3 : i <= c1:=by omega
   clear hans hsn hem
   go_wp2
   obtain ⟨wo,hwo⟩ : ∃ x,x = wr:=⟨_,rfl⟩
   subst hwo
   go_loopw [145] (fun t145 wq=>∃ m : Nat,t145 = .int .i64 m /\ m <= i /\ Hid (noneTo al nm m = true) /\ Hid (Below w3.heap.size w3 wq)) (fun t145 _=>i - (intOf t145).toNat)
   case atStart=>exact ⟨0,rfl,Nat.zero_le _,rfl,Below.refl _ _⟩
   case round =>
    obtain ⟨m,rfl,hm,Hno,HBq⟩:=hrel
    have hbq:=HBq.out
    have hqs:=hbq.size
    have Hbelq:=hid (Hbel3.out.trans (hbq.mono (by have:=Hbel3.out.size; omega)))
    have HBBq:=hid (HB3.out.trans (hbq.mono (by have:=HB3.out.size; omega)))
    have HXq:=hid (HX.out.later hbq)
    have HEq:=hid (HE3.out.later hbq)
    have x0 : wr.cell? ⟨wo.heap.size,0,none⟩ = some (.string nm):=HXq.out.cell 0
    have x1 : wr.cell? ⟨wo.heap.size,1,none⟩ = some (.int .i64 k2):=HXq.out.cell 1
    have hwrq : wo.heap.size < wr.heap.size:=HXq.out.lt
    have hwrq1 : wo.heap.size ≠ wr.heap.size:=by omega
    have hwrq2 : wo.heap.size < wr.heap.size + 1:=by omega
    have hbwq : b < wr.heap.size:=by omega
    clear hbq
    by_cases hml : m < i
    ·obtain ⟨pn,pe,hpl⟩ : ∃ t p,al[m]? = some (.mk t p):=by
      have hm2 : m < al.length:=by omega
      cases e : al[m] with
      | mk t p=>exact ⟨t,p,by rw [List.getElem?_eq_getElem hm2,e]⟩
     obtain ⟨j2,u2,v3,b2,G1,g1,f1,r2,G2,g2,f2,y0,y1,y2,y3,y4,y5,y6,y7⟩:=arg_cells (d:=0) hb Hbelq.out (Hcs.out m pn pe hpl)
     have hm' : decide ((m : Int) < (i : Int)) = true:=decide_eq_true (by omega)
     have hm3 : (m : Int) < (i : Int):=by omega
     have hno : noneTo al nm (m + 1) = !decide (pn = nm):=by
      rw [noneTo,Hno.out,hpl]; rfl
     have Hno2:=hid hno
     clear hno hpl
     by_cases hpq : pn = nm
     ·have hfin : noneTo al nm i = false:=none_mono al nm (m + 1) (by rw [Hno2.out,decide_eq_true hpq]; rfl) i hml
      have Hfin:=hid hfin
      clear hfin
      subst hpq
      go_wp2
      go_ret
      exact ⟨ret_bool (by rw [Hans3.out,Hfin.out]; simp),by
       have:=HBBq.out
       exact this.alloc (by have:=this.size; omega) _⟩
     ·have hpd : decide (pn = nm) = false:=decide_eq_false hpq
      have hpd2 : (pn.toList == nm.toList) = false:=by
       rw [beq_eq_false_iff_ne]
       intro h
       rw [Lib.toList_data,Lib.toList_data] at h
       exact hpq (bytes_eq h)
      go_wp2
      go_roundw
      case rel=>exact ⟨m + 1,by go_num,hml,by unfold Hid; rw [Hno2.out,decide_eq_false hpq]; rfl,HBq.out.alloc hqs _⟩
      case measure=>simp [intOf]; omega
    ·obtain rfl : m = i:=by omega
     have hm' : decide ((m : Int) < (m : Int)) = false:=decide_eq_false (by omega)
     have hans:=Hans3.out
     rw [Hno.out,nameV_l] at hans
     have Hnm:=hid (fun W=>lname_any nm W hnms)
     obtain ⟨g,hg⟩ : ∃ g,lnameB nm.data.toList = g:=⟨_,rfl⟩
     rw [hg] at hans Hnm
     have Hans4:=hid hans
     have hk0:=Hkp.out trivial
     clear hans hg
     go_wp2_with fail
     go_at_call 34
     refine (Hnm.out _).mono ?_
     rintro e5 w5 ⟨rfl,rfl⟩
     cases g
     case false =>
      go_wp2
      go_ret
      exact ⟨ret_bool (by rw [Hans4.out]; simp),HBBq.out⟩
     by_cases hk1 : 1 < k2
     ·have hkd : decide ((1 : Int) < k2) = true:=decide_eq_true hk1
      have hkk : (k2 == 0 || k2 == 1) = false:=by rw [Bool.eq_false_iff]; intro h; simp at h; omega
      have Hkk:=hid hkk
      clear hkk
      go_wp2
      go_ret
      exact ⟨ret_bool (by rw [Hans4.out,Hkk.out]; simp),HBBq.out⟩
     ·have hkd : decide ((1 : Int) < k2) = false:=decide_eq_false hk1
      have hkk : (k2 == 0 || k2 == 1) = true:=by
       obtain rfl | rfl : k2 = 0 ∨ k2 = 1:=by omega
       ·rfl
       ·rfl
      have Hkk:=hid hkk
      clear hkk
      go_wp2
      go_roundw
      case rel =>
       refine ⟨m + 1,by go_num,hlt,?_,HBBq.out,HEq.out,?_⟩
       ·unfold Hid
        rw [Hans4.out,Hkk.out,Hsn.out]; simp
       ·intro j hj
        obtain rfl : m = j:=by omega
        exact ⟨nm,ex,Hel.out,by rw [Hsn.out,Hem.out]; rfl⟩
      case measure=>simp [intOf]; omega
  ·obtain rfl : i = al.length:=by omega
   have hlt' : decide ((al.length : Int) < (al.length : Int)) = false:=decide_eq_false (by omega)
   have hans:=Hans.out
   rw [List.drop_length,argNames,okAs] at hans
   have Hans2:=hid hans
   clear hans
   go_wp2
   go_ret
   exact ⟨ret_bool (by rw [Hans2.out]; rfl),HB.out⟩
-- from Alx
theorem na_big (c : UInt8) (h : naB c = true) : biB c = upB c:=by
 rw [Bool.eq_iff_iff]
 unfold naB leB dgB joB at h
 unfold biB caB dgB joB upB
 simp only [Bool.or_eq_true,decide_eq_true_iff,Bool.not_eq_true',Bool.and_eq_false_iff,decide_eq_false_iff_not] at h ⊢
 omega
theorem big_up (n : ByteArray) (h : lnameB n.data.toList = true) : bigV n = n.data.toList.all upB:=by
 rw [bigV_to]
 unfold bigTo
 unfold lnameB at h
 rw [decide_eq_true_iff] at h
 rw [decide_eq_true (show 0 < n.size by rw [<- size_data]; exact h.1),Bool.true_and,<- size_data,List.take_length,Bool.eq_iff_iff,all_at,all_at]
 constructor
 ·intro g m hm
  rw [<- na_big _ (good_na (h.2 m hm))]
  exact g m hm
 ·intro g m hm
  rw [na_big _ (good_na (h.2 m hm))]
  exact g m hm
theorem lin_args {W0 : World} (k : Int) (t n a : ByteArray) (al : List AR) (ie : Option EX) (vs : List VA) (d : Nat) (hk : k = 4 ∨ k = 5)
  (hs : (EX.mk k t n a al ie vs).size <= 4000000) (hI : ∀ t e,AR.mk t e ∈ al -> InTo W0 e d) : InTo W0 (.mk k t n a al ie vs) d:=by
 intro w c hex hW
 rw [EX.size] at hs
 rw [ExAt] at hex
 obtain ⟨ck,ct,cn,ca,cal,ci,cvs⟩:=c
 obtain ⟨e1,e2,e3,e4,⟨A1,c1,e5,hr1⟩,hi,⟨A2,c2,e7,_⟩⟩:=hex
 simp only at e1 e2 e3 e4 e5 e7 hi
 subst e1 e2 e3 e4 e5 e7
 obtain ⟨p,rfl⟩ : ∃ p,ci = .pointer p:=by
  cases ie with
  | none=>simp only [OAt] at hi; exact ⟨_,hi⟩
  | some e=>simp only [OAt] at hi; obtain ⟨b,o,c,h,_⟩:=hi; exact ⟨_,h⟩
 have hin:=isNone_of hi
 have hv : LieAt (AsAt W0 al) (.slice A1 al.length c1) al.length:=⟨A1,c1,rfl,hr1⟩
 show Calls Tryz.prog 82 #[exV k t n a A1 al.length c1 p A2 vs.length c2,.int .i64 d] w _
 rcases hk with rfl | rfl
 ·have e : okE .inl (.mk 4 t n a al ie vs) d = (bareF false true false true false false t n a al.length p vs.length && lnameB n.data.toList && (argNames [] al && okAs al d)):=by
   rw [okE,<- nameV_l]; unfold inlP bareF; rw [len0R,len0R,hin]
   generalize okO Md.brc ie (d + 1) = X
   generalize (argNames [] al && okAs al d) = Y
   simp [Bool.and_comm,Bool.and_assoc,Bool.and_left_comm]
  rw [e]
  exact lin4 t n a al A1 c1 hv p A2 vs.length c2 d w hW (by omega) (by omega) hI
 ·have e : okE .inl (.mk 5 t n a al ie vs) d = (bareF false true false true false false t n a al.length p vs.length && lnameB n.data.toList && n.data.toList.all upB && (argNames [] al && okAs al d)):=by
   rw [okE]
   unfold inlP
   rw [nameV_l]
   cases hl : lnameB n.data.toList
   ·simp
   rw [<- big_up n hl]
   unfold bareF; rw [len0R,len0R,hin]
   generalize okO Md.brc ie (d + 1) = X
   generalize (argNames [] al && okAs al d) = Y
   simp [Bool.and_comm,Bool.and_assoc,Bool.and_left_comm]
  rw [e]
  exact lin5 t n a al A1 c1 hv p A2 vs.length c2 d w hW (by omega) (by omega) hI
-- from Aly
def askedE : EX -> EX | .mk k t n a al i vs=>if k = 4 then .mk k t n ByteArray.empty al i vs else .mk k t n a al i vs
def askHead : EX -> Bool | .mk k t n a al i vs=>if k = 4 then isNameV a else decide (k = 0 ∨ k = 1 ∨ k = 2 ∨ k = 5)
theorem ask_eq (e : EX) (d : Nat) : okE .ask e d = (askHead e && okE .inl (askedE e) d):=by
 obtain ⟨k,t,n,a,al,i,vs⟩:=e
 unfold askHead askedE
 dsimp only
 by_cases h4 : k = 4
 ·rw [if_pos h4,if_pos h4,okE,okE]
  simp only [if_pos h4]
 ·rw [if_neg h4,if_neg h4,okE,okE]
  simp only [if_neg h4]
  by_cases h : k = 0 ∨ k = 1 ∨ k = 2 ∨ k = 5
  ·rw [if_pos h,decide_eq_true h,Bool.true_and]
  ·rw [if_neg h,decide_eq_false h,Bool.false_and]
theorem asked_size (e : EX) : (askedE e).size <= e.size:=by
 obtain ⟨k,t,n,a,al,i,vs⟩:=e
 unfold askedE
 dsimp only
 split
 ·rw [EX.size,EX.size]; show 1 + t.size + n.size + 0 + _ + _ + _ <= _; omega
 ·exact Nat.le_refl _
theorem sel_eq (t n a : ByteArray) (al : List AR) (ie : Option EX) (p : Option Addr) (vs : List VA) (d : Nat) (hd : d <= 20) :
  okE .brc (.mk 7 t n a al ie vs) d = (bareF false false false false true true t n a al.length p vs.length && (vs.all (varOk d) && (vs.countP vaDflt == 1) && okO .ask ie d)):=by
 rw [okE,<- vars_all]
 simp only [decide_eq_true hd,if_true]
 unfold bareF varsL
 rw [len0R]
 generalize okO Md.ask ie d = X
 generalize okVs vs d = Y
 generalize (vs.all fun v=>(isNameV (vaKey v) || isNum (vaKey v)) && !(vaVal v).isEmpty && patL (vaVal v)) = Z
 generalize (vs.countP vaDflt == 1) = V
 cases emp t <;> cases emp n <;> cases emp a <;> cases al.isEmpty <;> cases X <;> cases Y <;> cases Z <;> cases V <;> rfl
set_option maxHeartbeats 8000000 in
set_option maxRecDepth 1000000 in
theorem lsel {W0 : World} (hT : TabU W0) (t n a : ByteArray) (al : List AR) (ie : Option EX) (vs : List VA) (d : Nat) (hd : d <= 20) (hs : (EX.mk 7 t n a al ie vs).size <= 4000000)
  (hP : ∀ k b l,VA.mk k b l ∈ vs -> ∀ t e,EL.mk t (some e) ∈ l -> PlaceTo W0 e (d + 1)) (hI : ∀ e,ie = some e -> InTo W0 (askedE e) d) : PlaceTo W0 (.mk 7 t n a al ie vs) d:=by
 intro w c hex hW
 rw [EX.size] at hs
 rw [ExAt] at hex
 obtain ⟨ck,ct,cn,ca,cal,ci,cvs⟩:=c
 obtain ⟨e1,e2,e3,e4,⟨A1,c1,e5,_⟩,hi,hvv⟩:=hex
 simp only at e1 e2 e3 e4 e5 hi hvv
 subst e1 e2 e3 e4 e5
 have hvv':=hvv
 obtain ⟨A2,c2,rfl,_⟩:=hvv'
 obtain ⟨ip,rfl⟩ : ∃ p,ci = .pointer p:=by
  cases ie with
  | none=>simp only [OAt] at hi; exact ⟨_,hi⟩
  | some e=>simp only [OAt] at hi; obtain ⟨b,o,c,h,_⟩:=hi; exact ⟨_,h⟩
 rw [sel_eq t n a al ie ip vs d hd]
 have HBa:=hid (fun W=>lbare_000011 7 t n a A1 al.length c1 ip A2 vs.length c2 W)
 obtain ⟨bb,hbb⟩ : ∃ b,bareF false false false false true true t n a al.length ip vs.length = b:=⟨_,rfl⟩
 rw [hbb] at HBa ⊢
 obtain ⟨z,hz⟩ : ∃ z,(vs.all (varOk d) && (vs.countP vaDflt == 1) && okO .ask ie d) = z:=⟨_,rfl⟩
 rw [hz]
 have HZ:=hid hz
 clear hz
 unfold exV at HBa
 unfold C7.arr
 have hvl : (vs.length : Int) <= 4000000:=by have:=sizeVs_length vs; omega
 have h1 : decide ((20 : Int) < (d : Int)) = false:=decide_eq_false (by omega)
 have h2 : ¬ (20 : Int) < (d : Int):=by omega
 have HV:=hid hvv
 have HO:=hid hi
 have HP:=hid hP
 have HI:=hid hI
 have HW:=hid hW
 have hWs:=hW.size
 have HT:=hid hT
 have Hs:=hid hs
 have Hd:=hid hd
 have hd0 : (d : Int) <= 4000000:=by omega
 clear hvv hi hP hI hW hT hs hbb hd
 go_enter Tryz.func56,Tryz.ntmps56
 go_wp2_with fail
 go_at_call 83
 refine (HBa.out _).mono ?_
 rintro e1 w1 ⟨rfl,hb1⟩
 have hE:=(BoxAt.new w #[.int .i64 7,.string t,.string n,.string a,.slice A1 al.length c1,.pointer ip,.slice A2 vs.length c2] 48).later hb1
 have hbr : Below w.heap.size w w1:=((Below.refl w.heap.size w).alloc (Nat.le_refl _) _).trans (hb1.mono (by simp))
 have d5 : w1.cell? ⟨w.heap.size,5,none⟩ = some (.pointer ip):=hE.cell 5
 have HE:=hid hE
 have HBr:=hid hbr
 clear hE hb1 hbr
 cases bb
 case false =>
  go_wp2
  go_ret
  exact ⟨ret_bool (by simp),HBr.out⟩
 cases ie with
 | none =>
  have h:=HO.out
  simp only [OAt] at h
  cases h
  go_wp2
  go_ret
  exact ⟨ret_bool (by rw [<- HZ.out]; simp [okO]),HBr.out⟩
 | some e =>
  have h:=HO.out
  simp only [OAt] at h
  obtain ⟨b',o',c7,e2,hb',hca,hex⟩:=h
  cases e2
  have hbel : Below W0.heap.size W0 w1:=HW.out.trans (HBr.out.mono hWs)
  have hz:=HZ.out
  rw [show okO .ask (some e) d = okE .ask e d by simp only [okO],ask_eq] at hz
  have hIn:=HI.out e rfl
  have hsz : e.size <= 4000000:=by have:=Hs.out; rw [sizeO] at this; omega
  obtain ⟨k2,t2,n2,a2,al2,i2,vs2⟩:=e
  have hex0:=hex
  rw [ExAt] at hex
  obtain ⟨ck,ct,cn,ca,cal,ci,cvs⟩:=c7
  obtain ⟨e1,e2,e3,e4,hr1,hr2,hr3⟩:=hex
  have hr1':=hr1
  have hr3':=hr3
  obtain ⟨B1,q1,e5,_⟩:=hr1'
  obtain ⟨B2,q2,e7,_⟩:=hr3'
  obtain ⟨p2,e8⟩ : ∃ p,ci = .pointer p:=by
   cases i2 with
   | none=>simp only [OAt] at hr2; exact ⟨_,hr2⟩
   | some e=>simp only [OAt] at hr2; obtain ⟨b,o,c,h,_⟩:=hr2; exact ⟨_,h⟩
  simp only at e1 e2 e3 e4 e5 e7 hr1 hr2 hr3
  subst e1 e2 e3 e4 e5 e8 e7
  have ha2 : a2.size <= 4000000:=by rw [EX.size] at hsz; omega
  -- Inline of what is asked,whatever its attribute was
  have hIn2 : ∀ a3 W,askedE (.mk k2 t2 n2 a2 al2 i2 vs2) = .mk k2 t2 n2 a3 al2 i2 vs2 -> Below W0.heap.size W0 W -> Calls Tryz.prog 82 #[.agg #[.int .i64 k2,.string t2,.string n2,.string a3,.slice B1 al2.length q1,.pointer p2,.slice B2 vs2.length q2],.int .i64 d] W fun r w'=>r = .returned (.bool (okE .inl (askedE (.mk k2 t2 n2 a2 al2 i2 vs2)) d)) /\ Below W.heap.size W w':=by
   intro a3 W he hbW
   have h:=hIn W ⟨.int .i64 k2,.string t2,.string n2,.string a3,.slice B1 al2.length q1,.pointer p2,.slice B2 vs2.length q2⟩ (by rw [he,ExAt]; exact ⟨rfl,rfl,rfl,rfl,hr1,hr2,hr3⟩) hbW
   exact h
  obtain ⟨k0,k1,k2',k3,k4,k5,k6⟩:=hca.under hb' hbel
  have hbw' : b' < w1.heap.size:=by have:=hbel.size; omega
  have hNm:=fun W=>lname_any a2 W ha2
  obtain ⟨q,hq⟩ : ∃ q,isNameV a2 = q:=⟨_,rfl⟩
  rw [<- nameV_l,hq] at hNm
  have HNm:=hid hNm
  obtain ⟨Y,hY⟩ : ∃ Y,okE .inl (askedE (.mk k2 t2 n2 a2 al2 i2 vs2)) d = Y:=⟨_,rfl⟩
  rw [hY] at hIn2 hz
  have HIn:=hid hIn2
  obtain ⟨X,hX⟩ : ∃ X,askHead (.mk k2 t2 n2 a2 al2 i2 vs2) = X:=⟨_,rfl⟩
  rw [hX] at hz
  have HZ2:=hid hz
  unfold askHead at hX
  dsimp only at hX
  rw [hq] at hX
  have HX:=hid hX
  have Hbel:=hid hbel
  have hw1:=HBr.out.size
  clear hIn2 hIn hNm hq hY hX hex0 hca hr1 hr2 hr3 hbel hz HZ
  go_upto_block 0 with fail
  go_cut [] (fun wx=>∃ a3,Hid (askedE (.mk k2 t2 n2 a2 al2 i2 vs2) = .mk k2 t2 n2 a3 al2 i2 vs2) /\ Hid (X = true) /\ Hid (Below w.heap.size w wx) /\
   Hid (BoxAt wx w1.heap.size #[.int .i64 k2,.string t2,.string n2,.string a3,.slice B1 al2.length q1,.pointer p2,.slice B2 vs2.length q2] 48) /\
   Hid (BoxAt wx w.heap.size #[.int .i64 7,.string t,.string n,.string a,.slice A1 al.length c1,.pointer (some ⟨b',o',none⟩),.slice A2 vs.length c2] 48))
  case first =>
   have hbx:=HBr.out.alloc hw1 (.cells #[.int .i64 k2,.string t2,.string n2,.string a2,.slice B1 al2.length q1,.pointer p2,.slice B2 vs2.length q2] 48)
   have hnb:=BoxAt.new w1 #[.int .i64 k2,.string t2,.string n2,.string a2,.slice B1 al2.length q1,.pointer p2,.slice B2 vs2.length q2] 48
   have hew:=HE.out.alloc (.cells #[.int .i64 k2,.string t2,.string n2,.string a2,.slice B1 al2.length q1,.pointer p2,.slice B2 vs2.length q2] 48)
   have Hbx:=hid hbx
   have Hnb:=hid hnb
   have Hew:=hid hew
   clear hbx hnb hew
   by_cases h4 : k2 = 4
   ·subst h4
    have hx:=HX.out
    rw [if_pos rfl] at hx
    subst hx
    cases q
    case false =>
     go_wp2_with fail
     go_at_call 34
     refine (HNm.out _).mono ?_
     rintro e2 w2 ⟨rfl,rfl⟩
     go_wp2
     go_ret
     exact ⟨ret_bool (by rw [<- HZ2.out]; simp),Hbx.out⟩
    go_wp2_with fail
    go_at_call 34
    refine (HNm.out _).mono ?_
    rintro e2 w2 ⟨rfl,rfl⟩
    go_wp2_with fail
    go_meet
    exact ⟨ByteArray.empty,by unfold Hid askedE; dsimp only; rw [if_pos rfl],by unfold Hid; trivial,HBr.out.alloc hw1 _,BoxAt.new _ _ _,HE.out.alloc _⟩
   ·have hx:=HX.out
    rw [if_neg h4] at hx
    by_cases h : k2 = 0 ∨ k2 = 1 ∨ k2 = 2 ∨ k2 = 5
    ·have hae : askedE (.mk k2 t2 n2 a2 al2 i2 vs2) = .mk k2 t2 n2 a2 al2 i2 vs2:=by unfold askedE; dsimp only; rw [if_neg h4]
     have hx1 : X = true:=by rw [<- hx,decide_eq_true h]
     have Hae:=hid hae
     have Hx1:=hid hx1
     clear hx h4 hae hx1
     rcases h with rfl | rfl | rfl | rfl
     all_goals
      go_wp2_with fail
      go_meet
      exact ⟨a2,Hae.out,Hx1.out,Hbx.out,Hnb.out,Hew.out⟩
    ·have hx0 : X = false:=by rw [<- hx,decide_eq_false h]
     have z0 : (k2 == 0) = false:=beq_eq_false_iff_ne.2 (by omega)
     have z1 : (k2 == 1) = false:=beq_eq_false_iff_ne.2 (by omega)
     have z2 : (k2 == 2) = false:=beq_eq_false_iff_ne.2 (by omega)
     have z4 : (k2 == 4) = false:=beq_eq_false_iff_ne.2 (by omega)
     have z5 : (k2 == 5) = false:=beq_eq_false_iff_ne.2 (by omega)
     have Hx0:=hid hx0
     clear h h4 hx hx0
     go_wp2_with fail
     go_ret
     exact ⟨ret_bool (by rw [<- HZ2.out,Hx0.out]; simp),Hbx.out⟩
  case rest =>
   obtain ⟨a3,Hae,HXt,HB0,HS0,HE0⟩:=hcut
   have hxt:=HXt.out
   subst hxt
   have x6:=HE0.out.cell 6
   have hwl:=HE0.out.lt
   have hsl:=HS0.out.lt
   simp at x6
   have hz:=HZ2.out
   rw [Bool.true_and] at hz
   have HZ3:=hid hz
   clear hz HZ2 HX HNm HBa d5 k0 k1 k2' k3 k4 k5 k6 HXt HO
   go_wp2
   go_loopw [6,46] (fun s6 t46 wr=>∃ j : Nat,t46 = .int .i64 j /\ s6 = .int .i64 ((vs.take j).countP vaDflt : Nat) /\ j <= vs.length /\ Hid (((vs.drop j).all (varOk d) && (vs.countP vaDflt == 1) && Y) = z) /\ Hid (Below w.heap.size w wr) /\
    Hid (BoxAt wr w1.heap.size #[.int .i64 k2,.string t2,.string n2,.string a3,.slice B1 al2.length q1,.pointer p2,.slice B2 vs2.length q2] 48)) (fun _ t46 _=>vs.length - (intOf t46).toNat)
   case atStart=>exact ⟨0,rfl,rfl,Nat.zero_le _,by unfold Hid; rw [List.drop_zero]; exact HZ3.out,HB0.out,HS0.out⟩
   case round =>
    obtain ⟨j,rfl,rfl,hj,Hans,HB,HS⟩:=hrel
    have hj0 : (j : Int) <= 4000000:=by omega
    have hbel : Below W0.heap.size W0 wr:=HW.out.trans (HB.out.mono hWs)
    have hbs:=hbel.size
    have hbw0:=HB.out.size
    have hsl2:=HS.out.lt
    have hcnt : (vs.take j).countP vaDflt <= j:=Nat.le_trans List.countP_le_length (List.length_take_le _ _)
    by_cases hlt : j < vs.length
    ·obtain ⟨b,o,c',e,hb,hcs⟩:=vars_get HV.out hlt
     cases e
     obtain ⟨key,df,p,hel⟩ : ∃ t d p,vs[j]? = some (.mk t d p):=by
      cases e : vs[j] with
      | mk t d p=>exact ⟨t,d,p,by rw [List.getElem?_eq_getElem hlt,e]⟩
     obtain ⟨c0,cd,uv,cu,hpat⟩:=hcs j key df p hel
     rw [<- hbel.cell (p:=⟨b,o + j * 3,none⟩) hb] at c0
     rw [<- hbel.cell (p:=⟨b,o + j * 3 + 1,none⟩) hb] at cd
     rw [<- hbel.cell (p:=⟨b,o + j * 3 + 2,none⟩) hb] at cu
     have hp':=hpat
     obtain ⟨A3,c3,rfl,_,_,_⟩:=hp'
     have hbw : b < wr.heap.size:=by omega
     have hlt' : decide ((j : Int) < (vs.length : Int)) = true:=decide_eq_true (by omega)
     have hlt3 : ((j : Nat) : Int) < (vs.length : Int):=by omega
     have hszt : sizeVs (vs.take (j + 1)) = sizeVs (vs.take j) + (1 + key.size + sizeEs p):=by
      rw [take_snoc vs j _ hel,sizeVs_append,sizeVs,sizeVs,Nat.add_zero]
     have hszl:=sizeVs_take vs (j + 1)
     have hks : key.size <= 4000000:=by have:=Hs.out; omega
     have hps : sizeEs p <= 4000000:=by have:=Hs.out; omega
     have hpl : (p.length : Int) <= 4000000:=by have:=sizeEs_length p; omega
     have hL:=fun W h=>lpat_any HT.out p hpat d (by have:=Hd.out; omega) hps (HP.out key df p (List.mem_of_getElem? hel)) W h
     obtain ⟨r,hr⟩ : ∃ r,patB p d = r:=⟨_,rfl⟩
     rw [hr] at hL
     have HL:=hid hL
     have hcnt2 : (vs.take (j + 1)).countP vaDflt = (vs.take j).countP vaDflt + (if df then 1 else 0):=by
      rw [take_snoc vs j _ hel,List.countP_append]
      cases df <;> simp [vaDflt]
     have Hcnt2:=hid hcnt2
     have hans:=Hans.out
     rw [drop_cons vs j _ hel,List.all_cons] at hans
     obtain ⟨vk,hvk⟩ : ∃ v,varOk d (.mk key df p) = v:=⟨_,rfl⟩
     rw [hvk] at hans
     have hvk2 : ((isNameV key || isNum key) && (!p.isEmpty && patB p d)) = vk:=hvk
     have hN:=fun W=>lname_any key W hks
     have hM:=fun W=>lnumber_any key W hks
     rw [hr,nameV_l,isNum_l] at hvk2
     obtain ⟨g,hg⟩ : ∃ g,lnameB key.data.toList = g:=⟨_,rfl⟩
     obtain ⟨m,hm⟩ : ∃ m,lnumB key.data.toList = m:=⟨_,rfl⟩
     rw [hg] at hN hvk2
     rw [hm] at hM hvk2
     have HN:=hid hN
     have HM:=hid hM
     have Hans2:=hid hans
     have Hvk:=hid hvk2
     have Hbel:=hid hbel
     obtain ⟨cn,hcn⟩ : ∃ cn,(vs.take j).countP vaDflt = cn:=⟨_,rfl⟩
     have Hcn:=hid hcn
     rw [hcn] at hcnt ⊢
     have hcz : (cn : Int) <= 4000000:=by omega
     clear hL hr hcnt2 hans hvk hvk2 hN hM hg hm hbel hcn hcs hel hpat hszt hszl Hans
     go_upto_region 22 with fail
     go_cut [72] (fun v wx=>v = .bool (!vk) /\ Hid (Below (wr.heap.size + 1) (wr.alloc (.cells #[.string key,.bool df,.slice A3 p.length c3] 129)) wx))
     case first =>
      by_cases h0 : p.length = 0
      ·have hz0 : ((p.length : Int) == 0) = true:=beq_iff_eq.2 (by omega)
       have hpe : p.isEmpty = true:=by rw [<- len0R]; exact decide_eq_true h0
       have hv:=Hvk.out
       rw [hpe] at hv
       have hv0 : vk = false:=by rw [<- hv]; simp
       subst hv0
       clear hv hpe h0
       cases g
       case true =>
        go_wp2_with fail
        go_at_call 34
        refine (HN.out _).mono ?_
        rintro e2 w2 ⟨rfl,rfl⟩
        go_wp2_with fail
        go_meet
        exact ⟨rfl,Below.refl _ _⟩
       cases m
       all_goals
        go_wp2_with fail
        go_at_call 34
        refine (HN.out _).mono ?_
        rintro e2 w2 ⟨rfl,rfl⟩
        go_wp2_with fail
        go_at_call 84
        refine (HM.out _).mono ?_
        rintro e2 w2 ⟨rfl,rfl⟩
        go_wp2_with fail
        go_meet
        exact ⟨rfl,Below.refl _ _⟩
      ·have hz0 : ((p.length : Int) == 0) = false:=beq_eq_false_iff_ne.2 (by omega)
       have hpe : p.isEmpty = false:=by rw [<- len0R]; exact decide_eq_false h0
       have hv:=Hvk.out
       rw [hpe] at hv
       have Hv:=hid hv
       clear hv hpe
       cases g
       case true =>
        go_wp2_with fail
        go_at_call 34
        refine (HN.out _).mono ?_
        rintro e2 w2 ⟨rfl,rfl⟩
        go_wp2_with fail
        go_at_call 35
        refine (HL.out _ (Hbel.out.alloc hbs _)).mono ?_
        rintro e3 w3 ⟨rfl,hb3⟩
        have Hb3:=hid hb3
        clear hb3
        go_wp2_with fail
        go_meet
        exact ⟨by rw [<- Hv.out]; simp,by unfold Hid; simpa using Hb3.out⟩
       cases m
       case false =>
        go_wp2_with fail
        go_at_call 34
        refine (HN.out _).mono ?_
        rintro e2 w2 ⟨rfl,rfl⟩
        go_wp2_with fail
        go_at_call 84
        refine (HM.out _).mono ?_
        rintro e2 w2 ⟨rfl,rfl⟩
        go_wp2_with fail
        go_meet
        exact ⟨by rw [<- Hv.out]; rfl,Below.refl _ _⟩
       go_wp2_with fail
       go_at_call 34
       refine (HN.out _).mono ?_
       rintro e2 w2 ⟨rfl,rfl⟩
       go_wp2_with fail
       go_at_call 84
       refine (HM.out _).mono ?_
       rintro e2 w2 ⟨rfl,rfl⟩
       go_wp2_with fail
       go_at_call 35
       refine (HL.out _ (Hbel.out.alloc hbs _)).mono ?_
       rintro e3 w3 ⟨rfl,hb3⟩
       have Hb3:=hid hb3
       clear hb3
       go_wp2_with fail
       go_meet
       exact ⟨by rw [<- Hv.out]; simp,by unfold Hid; simpa using Hb3.out⟩
     case rest =>
      obtain ⟨rfl,Hc⟩:=hcut
      have hcb : Below (wr.alloc (.cells #[.string key,.bool df,.slice A3 p.length c3] 129)).heap.size (wr.alloc (.cells #[.string key,.bool df,.slice A3 p.length c3] 129)) wc:=by simpa using Hc.out
      have hvx:=(BoxAt.new wr #[.string key,.bool df,.slice A3 p.length c3] 129).later hcb
      have hr3 : Below wr.heap.size wr wc:=((Below.refl wr.heap.size wr).alloc (Nat.le_refl _) _).trans (hcb.mono (by simp))
      have HBB:=hid (HB.out.trans (hr3.mono hbw0))
      have HSS:=hid (HS.out.later hr3)
      have v1:=hvx.cell 1
      simp at v1
      have hvl2:=hvx.lt
      clear hcb hvx hr3 Hc Hvk HN HM HL
      cases vk
      case false =>
       go_wp2
       go_ret
       exact ⟨ret_bool (by rw [<- Hans2.out]; simp),HBB.out⟩
      have hans:=Hans2.out
      rw [Bool.true_and] at hans
      have Hans3:=hid hans
      clear hans Hans2
      cases df
      case false =>
       go_wp2
       go_roundw
       case rel=>exact ⟨j + 1,by go_num,by rw [Hcnt2.out,Hcn.out]; simp,hlt,Hans3.out,HBB.out,HSS.out⟩
       case measure=>simp [intOf]; omega
      case true =>
       go_wp2
       go_roundw
       case rel=>exact ⟨j + 1,by go_num,by rw [Hcnt2.out,Hcn.out]; simp,hlt,Hans3.out,HBB.out,HSS.out⟩
       case measure=>simp [intOf]; omega
    ·obtain rfl : j = vs.length:=by omega
     have hlt' : decide ((vs.length : Int) < (vs.length : Int)) = false:=decide_eq_false (by omega)
     have hans:=Hans.out
     rw [List.drop_length,List.all_nil,Bool.true_and] at hans
     rw [List.take_length] at hcnt ⊢
     obtain ⟨cn,hcn⟩ : ∃ cn,vs.countP vaDflt = cn:=⟨_,rfl⟩
     rw [hcn] at hans hcnt ⊢
     have y0:=HS.out.cell 0
     have y1:=HS.out.cell 1
     have y2:=HS.out.cell 2
     have y3:=HS.out.cell 3
     have y4:=HS.out.cell 4
     have y5:=HS.out.cell 5
     have y6:=HS.out.cell 6
     simp at y0 y1 y2 y3 y4 y5 y6
     have Hbel:=hid hbel
     clear hcn hbel Hans
     by_cases h1 : cn = 1
     ·subst h1
      have Hans2:=hid hans
      have h11 : (((1 : Nat) : Int) == 1) = true:=rfl
      clear hans
      go_wp2_with fail
      go_at_call 82
      refine (HIn.out a3 _ Hae.out Hbel.out).mono ?_
      rintro e3 w3 ⟨rfl,hb3⟩
      have HBB:=hid (HB.out.trans (hb3.mono hbw0))
      clear hb3
      go_wp2
      go_ret
      exact ⟨ret_bool (by rw [<- Hans2.out]; simp),HBB.out⟩
     ·have h11 : ((cn : Int) == 1) = false:=beq_eq_false_iff_ne.2 (by omega)
      have h12 : (cn == 1) = false:=beq_eq_false_iff_ne.2 h1
      rw [h12] at hans
      have Hans2:=hid hans
      clear hans h12 h1
      go_wp2
      go_ret
      exact ⟨ret_bool (by rw [<- Hans2.out]; simp),HB.out⟩
end Go.Proofs.YtgdkpamlkpncgaaGreatDoor
