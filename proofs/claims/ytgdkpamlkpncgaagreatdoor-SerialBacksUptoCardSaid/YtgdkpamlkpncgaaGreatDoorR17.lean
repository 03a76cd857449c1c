/-
  Several texts put together (part 17): what the law and the program call, walked; their contracts.
-/
import Derived.Test.YtgdkpamlkpncgaaGreatDoorR12
import Derived.Deep.DeepCutAuto
import Derived.Test.YtgdkpamlkpncgaaGreatDoorR5
import Derived.Test.YtgdkpamlkpncgaaGreatDoorR7
import Derived.Test.YtgdkpamlkpncgaaGreatDoorR8
import Derived.Lib.OthersKept
import Derived.Laws.RangeAny
import Derived.Laws.RangeString
import Derived.Lib.TrimU
import Derived.WalkMore
import Derived.Deep.LoopGhost
import Derived.Deep.QuietTactic
import Derived.BigQuiet
namespace Go.Proofs.YtgdkpamlkpncgaaGreatDoor
open Go.RowKit
open _root_.Go.Lib (hid)
set_option linter.unusedVariables false
set_option linter.unusedSimpArgs false
theorem len0 {α : Type} (l : List α) : decide (l.length = 0) = l.isEmpty:=by cases l <;> simp
def GotP (rb : Nat) (s : ByteArray) (w : World) (r : Option (List EL × Nat)) (e : Ending) (w' : World) : Prop :=
 Kp rb w w' /\ ∃ (A : Option Addr) (n c j : Nat),e = .returned (.tuple #[.slice A n c,.bool r.isSome]) /\ Rd rb s j w' /\ j <= s.size /\ n <= 4000000000 /\ ∀ l m,r = some (l,m) -> m = j /\ l.length = n /\ PatF w' (Since w.heap.size w') l (.slice A n c)
def PatTo (rb : Nat) (s : ByteArray) (d : Nat) (Q : Nat -> Option (List EL × Nat)) : Prop:=∀ (i : Nat) (w : World),Rd rb s i w -> i <= s.size -> Calls Tryz.prog 130 #[pt rb,.int .i64 d] w (GotP rb s w (Q i))
def GotV (rb : Nat) (s : ByteArray) (w : World) (r : Option (VA × Nat)) (e : Ending) (w' : World) : Prop :=
 Kp rb w w' /\ ∃ (X : ByteArray) (df : Bool) (A : Option Addr) (n c j : Nat),e = .returned (.tuple #[.agg #[.string X,.bool df,.slice A n c],.bool r.isSome]) /\ Rd rb s j w' /\ j <= s.size /\ n <= 4000000000 /\
  ∀ x m,r = some (x,m) -> m = j /\ ∃ l,x = .mk X df l /\ l.length = n /\ PatF w' (Since w.heap.size w') l (.slice A n c)
abbrev zV : Array Value:=#[.string ⟨#[]⟩,.bool false,.slice none 0 0]
set_option maxRecDepth 100000 in
theorem res3v {fn : Func} {A M : Nat} {tmps : Array Value} {w : World} {b : Nat} {x0 x1 x2 v : Value} {t : TypeId} (hres : fn.results = #[.cell A 129,.tmp M]) (ha : tmps.getD A undef = .pointer (some ⟨b,0,none⟩)) (hm : tmps.getD M undef = v)
  (hb : BoxAt w b #[x0,x1,x2] t) : (results fn tmps).run Tryz.prog w = .ok (.tuple #[.agg #[x0,x1,x2],v]) w:=by
 obtain ⟨q0,q1,q2,_⟩:=cells3 hb
 have ha' : tmps[A]?.getD undef = .pointer (some ⟨b,0,none⟩):=by rw [<- ha]; simp
 have hm' : tmps[M]?.getD undef = v:=by rw [<- hm]; simp
 simp [results,hres,ha',hm',go_sem,q0,q1,q2]
theorem end3v {fn : Func} {R : Ending -> World -> Prop} {a : Act} {w2 : World} {A M b : Nat} {x0 x1 x2 v : Value} {t : TypeId} (hres : fn.results = #[.cell A 129,.tmp M]) (hbox : BoxAt w2 b #[x0,x1,x2] t)
  (ha : a.tmps.getD A undef = .pointer (some ⟨b,0,none⟩)) (hm : a.tmps.getD M undef = v) (hd : a.defers = []) (hR : R (.returned (.tuple #[.agg #[x0,x1,x2],v])) w2) : bodyPost Tryz.prog fn R .ret a w2 :=
 bodyPost_ret (res3v hres ha hm hbox) hd hR
theorem gotV_none {rb : Nat} {s : ByteArray} {w w2 : World} {j : Nat} (hK : Kp rb w w2) (hR : Rd rb s j w2) (hj : j <= s.size) : GotV rb s w none (.returned (.tuple #[.agg zV,.bool false])) w2 :=
 ⟨hK,⟨#[]⟩,false,none,0,0,j,rfl,hR,hj,Nat.zero_le _,fun x m h=>by cases h⟩
set_option maxHeartbeats 8000000 in
set_option maxRecDepth 100000 in
theorem variant_any {rb : Nat} {s : ByteArray} {d : Nat} {P : Nat -> Res} (hs : s.size <= 1000000000) (hd : d <= 4000) (hPat : PatTo rb s d (patS P s)) (i : Nat) (w : World) (hr : Rd rb s i w) (hi : i <= s.size) :
  Calls Tryz.prog 268 #[pt rb,.int .i64 d] w (GotV rb s w (variS P s i)):=by
 have HR:=hid hr
 have hlt:=hr.lt
 obtain ⟨R,hRR⟩ : ∃ R,variS P s i = R:=⟨_,rfl⟩
 rw [hRR]
 unfold variS at hRR
 have hT1:=fun W (h : Rd rb s i W)=>take_any 42 W h (by omega) hi
 obtain ⟨b1,hb1⟩ : ∃ b,isAt s i 42 = b:=⟨_,rfl⟩
 have hi1 : (if b1 = true then i + 1 else i) <= s.size:=by
  cases b1
  ·exact hi
  ·exact isAt_lt hb1
 rw [hb1] at hT1 hRR
 obtain ⟨i1,hi1e⟩ : ∃ i1,(if b1 = true then i + 1 else i) = i1:=⟨_,rfl⟩
 rw [hi1e] at hT1 hi1 hRR
 have hT2:=fun W (h : Rd rb s i1 W)=>take_any 91 W h (by omega) hi1
 obtain ⟨b2,hb2⟩ : ∃ b,isAt s i1 91 = b:=⟨_,rfl⟩
 have hi2 : b2 = true -> i1 + 1 <= s.size:=fun h=>isAt_lt (hb2.trans h)
 rw [hb2] at hT2 hRR
 have HT1:=hid hT1
 have HT2:=hid hT2
 have Hpat:=hid hPat
 have hd0 : (d : Int) <= 4000:=by omega
 clear hr hT1 hb1 hi1e hT2 hb2 hPat
 unfold pt at HT1 HT2 ⊢
 cases b2
 case false =>
  rw [if_neg (by simp)] at hRR
  subst hRR
  go_enter Tryz.func268,Tryz.ntmps268
  go_wp2_with fail
  go_at_call 236
  refine (HT1.out _ (HR.out.alloc _)).mono ?_
  rintro e w1 ⟨rfl,g1,g2⟩
  have G1:=hid g1
  have HK:=hid (((Kp.refl rb w).alloc (Nat.le_of_lt hlt) _).trans g2)
  have hc:=BoxAt.kp (BoxAt.new w zV 129) g2 (by omega)
  have hcl:=hc.lt
  have HC:=hid hc
  clear g1 g2 hc
  go_wp2_with fail
  go_at_call 236
  refine (HT2.out _ G1.out).mono ?_
  rintro e w2 ⟨rfl,g3,g4⟩
  have G3:=hid (show Rd rb s i1 w2 by simpa using g3)
  have HK2:=hid (HK.out.trans g4)
  have hc2:=BoxAt.kp HC.out g4 (by omega)
  have hcl2:=hc2.lt
  have HC2:=hid hc2
  obtain ⟨q0,q1,q2,p0,p1,p2⟩:=cells3 hc2
  clear g3 g4 hc2
  go_wp2
  exact end3v Tryz.results268 (box_set3 HC2.out _ _ _) rfl rfl rfl (gotV_none (HK2.out.set3 (Nat.le_refl _) hlt _ _ _) (G3.out.set3 (by omega) _ _ _) hi1)
 have hi3:=hi2 rfl
 rw [if_pos rfl] at hRR
 have hB:=bl_ok s (i1 + 1) hi3
 have hP1:=fun W (h : Rd rb s (i1 + 1) W)=>pass_any endBlank W h (by omega) hi3
 obtain ⟨a,ha⟩ : ∃ a,bl s (i1 + 1) = a:=⟨_,rfl⟩
 rw [ha] at hB hP1 hRR
 have hP2:=fun W (h : Rd rb s a W)=>pass_any endName W h (by omega) hB.2
 have hP3:=fun W (h : Rd rb s a W)=>pass_any endNumber W h (by omega) hB.2
 have hn:=nm_ok s a hB.2
 have hu:=nu_ok s a hB.2
 have he1:=ext_empty s a (nm s a) hn.1 hn.2
 have hk : keyE s a = if nm s a = a then nu s a else nm s a:=rfl
 obtain ⟨n1,hn1⟩ : ∃ n1,nm s a = n1:=⟨_,rfl⟩
 obtain ⟨u1,hu1⟩ : ∃ u1,nu s a = u1:=⟨_,rfl⟩
 rw [hn1] at hn he1 hk hP2
 rw [hu1] at hu hk hP3
 obtain ⟨k,hke⟩ : ∃ k,keyE s a = k:=⟨_,rfl⟩
 rw [hke] at hk hRR
 have hk2 : a <= k /\ k <= s.size:=by rw [hk]; split <;> omega
 have he2:=ext_empty s a k hk2.1 hk2.2
 have hP4:=fun W (h : Rd rb s k W)=>pass_any endBlank W h (by omega) hk2.2
 have hB2:=bl_ok s k hk2.2
 obtain ⟨m,hm⟩ : ∃ m,bl s k = m:=⟨_,rfl⟩
 rw [hm] at hB2 hP4 hRR
 have hT3:=fun W (h : Rd rb s m W)=>take_any 93 W h (by omega) hB2.2
 obtain ⟨b3,hb3⟩ : ∃ b,isAt s m 93 = b:=⟨_,rfl⟩
 have hm1 : b3 = true -> m + 1 <= s.size:=fun h=>isAt_lt (hb3.trans h)
 rw [hb3] at hT3 hRR
 obtain ⟨X1,hX1⟩ : ∃ X,s.extract a n1 = X:=⟨_,rfl⟩
 obtain ⟨X,hX⟩ : ∃ X,s.extract a k = X:=⟨_,rfl⟩
 have hX2 : n1 ≠ a -> X1 = X:=fun h=>by rw [<- hX1,<- hX,hk,if_neg h]
 have hX3 : n1 = a -> s.extract a u1 = X /\ u1 = k:=fun h=>by rw [<- hX,hk,if_pos h]; exact ⟨rfl,rfl⟩
 have hk5 : n1 ≠ a -> n1 = k:=fun h=>by rw [hk,if_neg h]
 rw [hX1] at he1 hP2
 rw [hX] at he2 hRR
 have HP1:=hid hP1
 have HP2:=hid hP2
 have HP3:=hid hP3
 have HP4:=hid hP4
 have HT3:=hid hT3
 have HRR:=hid hRR
 have HE1:=hid he1
 have HE2:=hid he2
 have HX2:=hid hX2
 have HX3:=hid hX3
 have Hk5:=hid hk5
 have Hm1:=hid hm1
 clear hP1 ha hP2 hP3 hk hn1 hu1 hke hP4 hm hT3 hb3 hX1 hX hX2 hX3 hk5 he1 he2 hRR hi2 hm1
 unfold pt at HP1 HP2 HP3 HP4 HT3
 go_enter Tryz.func268,Tryz.ntmps268
 go_wp2_with fail
 go_at_call 236
 refine (HT1.out _ (HR.out.alloc _)).mono ?_
 rintro e w1 ⟨rfl,g1,g2⟩
 have G1:=hid g1
 have HK:=hid (show Kp rb (w.alloc (.cells zV 129)) w1 from g2)
 clear g1 g2
 go_wp2_with fail
 go_at_call 236
 refine (HT2.out _ G1.out).mono ?_
 rintro e w2 ⟨rfl,g1,g2⟩
 have G1:=hid (show Rd rb s (i1 + 1) w2 by simpa using g1)
 have HK2:=hid (HK.out.trans g2)
 clear g1 g2
 go_wp2_with fail
 go_at_call 169
 refine (HP1.out _ G1.out).mono ?_
 rintro e w3 ⟨rfl,g1,g2⟩
 have G3:=hid g1
 have HK3:=hid (HK2.out.trans g2)
 clear g1 g2
 go_wp2_with fail
 go_at_call 169
 refine (HP2.out _ G3.out).mono ?_
 rintro e w4 ⟨rfl,g1,g2⟩
 have G4:=hid g1
 have HK4:=hid (HK3.out.trans g2)
 clear g1 g2
 obtain ⟨x1,hx1⟩ : ∃ x,X1.toList.isEmpty = x:=⟨_,rfl⟩
 go_upto_if 22 with fail
 go_cut [7] (fun v wx=>v = .string X /\ Hid (Rd rb s k wx) /\ Hid (Kp rb (w.alloc (.cells zV 129)) wx))
 case first =>
  cases x1
  case false =>
   have hne : n1 ≠ a:=fun h=>by have:=HE1.out; rw [hx1,decide_eq_true h] at this; cases this
   have HX:=hid (HX2.out hne)
   have Hk:=hid (Hk5.out hne)
   clear hne
   go_wp2_with fail
   go_meet
   exact ⟨by rw [HX.out],by rw [<- Hk.out]; exact G4.out,HK4.out⟩
  case true =>
   have hne : n1 = a:=by have:=HE1.out; rw [hx1] at this; exact of_decide_eq_true this.symm
   obtain ⟨hX,hk⟩:=HX3.out hne
   have G4a:=hid (show Rd rb s a w4 by rw [<- hne]; exact G4.out)
   have HX:=hid hX
   have Hk:=hid hk
   clear hne hX hk
   go_wp2_with fail
   go_at_call 169
   refine (HP3.out _ G4a.out).mono ?_
   rintro e w5 ⟨rfl,g1,g2⟩
   have G5:=hid g1
   have HK5:=hid (HK4.out.trans g2)
   clear g1 g2
   go_wp2_with fail
   go_meet
   exact ⟨by rw [HX.out],by rw [<- Hk.out]; exact G5.out,HK5.out⟩
 obtain ⟨rfl,HRk,HKk⟩:=hcut
 clear HP2 HP3 HE1 HX2 HX3 Hk5 G1 G3 G4 HK HK2 HK3 HK4 hx1
 go_wp2_with fail
 go_at_call 169
 refine (HP4.out _ HRk.out).mono ?_
 rintro e w5 ⟨rfl,g1,g2⟩
 have G5:=hid g1
 have HK5:=hid (HKk.out.trans g2)
 have hc5:=BoxAt.kp (BoxAt.new w zV 129) HK5.out (by omega)
 have hcl5:=hc5.lt
 have HC5:=hid hc5
 clear g1 g2
 have HA:=hid ((Kp.refl rb w).alloc (Nat.le_of_lt hlt) (.cells zV 129))
 cases hx2 : X.toList.isEmpty
 case true =>
  have hka : k = a:=by have:=HE2.out; rw [hx2] at this; exact of_decide_eq_true this.symm
  have hR:=HRR.out
  rw [if_pos hka] at hR
  subst hR
  obtain ⟨q0,q1,q2,p0,p1,p2⟩:=cells3 hc5
  clear hka hc5
  go_wp2
  exact end3v Tryz.results268 (box_set3 HC5.out _ _ _) rfl rfl rfl (gotV_none ((HA.out.trans HK5.out).set3 (Nat.le_refl _) hlt _ _ _) (G5.out.set3 (by omega) _ _ _) hB2.2)
 have hka : k ≠ a:=fun h=>by have:=HE2.out; rw [hx2,decide_eq_true h] at this; cases this
 have hR:=HRR.out
 rw [if_neg hka] at hR
 have HR2:=hid hR
 clear hka hR hc5
 cases b3
 case false =>
  have hR:=HR2.out
  rw [if_neg (by simp)] at hR
  subst hR
  go_wp2_with fail
  go_at_call 236
  refine (HT3.out _ G5.out).mono ?_
  rintro e w6 ⟨rfl,g1,g2⟩
  have G6:=hid (show Rd rb s m w6 by simpa using g1)
  have HK6:=hid (HK5.out.trans g2)
  have hc6:=BoxAt.kp HC5.out g2 (by omega)
  have hcl6:=hc6.lt
  have HC6:=hid hc6
  obtain ⟨q0,q1,q2,p0,p1,p2⟩:=cells3 hc6
  clear g1 g2 hc6
  go_wp2
  exact end3v Tryz.results268 (box_set3 HC6.out _ _ _) rfl rfl rfl (gotV_none ((HA.out.trans HK6.out).set3 (Nat.le_refl _) hlt _ _ _) (G6.out.set3 (by omega) _ _ _) hB2.2)
 have hR:=HR2.out
 rw [if_pos rfl] at hR
 obtain ⟨r,hr⟩ : ∃ r,patS P s (m + 1) = r:=⟨_,rfl⟩
 have hm1:=Hm1.out rfl
 have hPt:=fun W h=>Hpat.out (m + 1) W h hm1
 rw [hr] at hPt hR
 have HPt:=hid hPt
 have HR3:=hid hR
 unfold pt at HPt
 clear hR hr hPt
 go_wp2_with fail
 go_at_call 236
 refine (HT3.out _ G5.out).mono ?_
 rintro e w6 ⟨rfl,g1,g2⟩
 have G6:=hid (show Rd rb s (m + 1) w6 by simpa using g1)
 have HK6:=hid (HK5.out.trans g2)
 have hs6:=HK6.out.size
 rw [World.size_alloc] at hs6
 clear g1 g2
 go_wp2_with fail
 go_at_call 130
 refine (HPt.out _ G6.out).mono ?_
 rintro e w7 ⟨h1,A,n,c,j,rfl,h2,hj,hn4,h3⟩
 have HK7:=hid (HK6.out.trans h1)
 have hc7:=BoxAt.kp (BoxAt.new w zV 129) HK7.out (by omega)
 have hcl7:=hc7.lt
 have HC7:=hid hc7
 have H2:=hid h2
 have H3:=hid h3
 have d0:=h2.c0
 have d1:=h2.c1
 have hl7:=h2.lt
 have hj0 : (j : Int) <= 1000000000:=by omega
 have hss : (s.size : Int) <= 1000000000:=by omega
 have hn0 : (n : Int) <= 4000000000:=by omega
 obtain ⟨il,hil⟩ : ∃ b,isAt s j 10 = b:=⟨_,rfl⟩
 have Hil:=hid hil
 clear h1 h2 h3 hc7 HPt hil
 go_upto_region 12 with fail
 go_cut [10] (fun v wx=>v = .bool il /\ wx = w7.drew)
 case first =>
  have hil:=Hil.out
  unfold isAt at hil
  by_cases hjl : j < s.size
  ·have z1 : decide ((j : Int) < (s.size : Int)) = true:=decide_eq_true (by omega)
   have z2 : (j : Int) < (s.size : Int):=by omega
   have z3 : ((s[j].toNat : Int) == 10) = il:=by
    rw [decide_eq_true hjl,Bool.true_and,at0_get _ _ (by rw [size_data]; exact hjl)] at hil
    rw [<- hil]
    show ((s[j].toNat : Int) == 10) = (s[j] == 10)
    rw [Bool.eq_iff_iff,beq_iff_eq,beq_iff_eq,<- UInt8.toNat_inj]
    simp
    omega
   clear hil
   go_region
   go_wp2_with fail
   go_meet
   exact ⟨rfl,rfl⟩
  ·have z1 : decide ((j : Int) < (s.size : Int)) = false:=decide_eq_false (by omega)
   rw [decide_eq_false hjl,Bool.false_and] at hil
   subst hil
   go_region
   go_wp2_with fail
   go_meet
   exact ⟨rfl,rfl⟩
 obtain ⟨rfl,rfl⟩:=hcut
 obtain ⟨q0,q1,q2,p0,p1,p2⟩:=cells3 HC7.out
 have hA:=HA.out.trans HK7.out
 have HKf:=hid hA.drew
 clear hA d0 d1
 cases r with
 | none =>
  have hR:=HR3.out
  dsimp only at hR
  subst hR
  go_wp2
  exact end3v Tryz.results268 (box_set3 HC7.out.drew _ _ _) rfl rfl rfl ⟨HKf.out.set3 (Nat.le_refl _) hlt _ _ _,X,b1,A,n,c,j,rfl,H2.out.drew.set3 (by omega) _ _ _,hj,hn4,fun x q h=>by cases h⟩
 | some lm =>
  obtain ⟨l,q⟩:=lm
  obtain ⟨rfl,hln,hpt⟩:=H3.out l q rfl
  have hR:=HR3.out
  dsimp only at hR
  rw [Hil.out,<- len0,hln] at hR
  have HR4:=hid hR
  have HPF:=hid hpt
  have Hln:=hid hln
  clear hR hpt hln
  cases il
  case false =>
   have hR:=HR4.out
   rw [Bool.false_and,if_neg (by simp)] at hR
   subst hR
   go_wp2
   exact end3v Tryz.results268 (box_set3 HC7.out.drew _ _ _) rfl rfl rfl ⟨HKf.out.set3 (Nat.le_refl _) hlt _ _ _,X,b1,A,n,c,q,rfl,H2.out.drew.set3 (by omega) _ _ _,hj,hn4,fun x q h=>by cases h⟩
  by_cases h0 : 0 < n
  ·have z : decide ((0 : Int) < (n : Int)) = true:=decide_eq_true (by omega)
   have hR:=HR4.out
   rw [decide_eq_false (show ¬ n = 0 by omega),if_pos (by decide)] at hR
   subst hR
   go_wp2
   refine end3v Tryz.results268 (box_set3 HC7.out.drew _ _ _) rfl rfl rfl ⟨HKf.out.set3 (Nat.le_refl _) hlt _ _ _,X,b1,A,n,c,q,rfl,H2.out.drew.set3 (by omega) _ _ _,hj,hn4,fun x q' h=>?_⟩
   cases h
   refine ⟨rfl,l,rfl,Hln.out,PatF.carry (fun z hz=>?_) HPF.out⟩
   obtain ⟨hz1,hz2⟩:=hz
   refine ⟨⟨by omega,?_⟩,set3_heap w7 w.heap.size (.string X) (.bool b1) (.slice A n c) z (by omega)⟩
   show z < (set3 w7 w.heap.size (.string X) (.bool b1) (.slice A n c)).heap.size
   rw [set3_size]
   exact hz2
  ·have z : decide ((0 : Int) < (n : Int)) = false:=decide_eq_false (by omega)
   have hR:=HR4.out
   rw [decide_eq_true (show n = 0 by omega),if_neg (by decide)] at hR
   subst hR
   go_wp2
   exact end3v Tryz.results268 (box_set3 HC7.out.drew _ _ _) rfl rfl rfl ⟨HKf.out.set3 (Nat.le_refl _) hlt _ _ _,X,b1,A,n,c,q,rfl,H2.out.drew.set3 (by omega) _ _ _,hj,hn4,fun x q h=>by cases h⟩
def VZip (W : World) (F : Nat -> Prop) : List VA -> List Value -> Prop
 | [],xs=>xs = []
 | .mk k d l :: r,xs=>∃ A n c ys,xs = .string k :: .bool d :: .slice A n c :: ys /\ l.length = n /\ PatF W F l (.slice A n c) /\ VZip W F r ys
theorem VZip.snoc {W : World} {F : Nat -> Prop} {k : ByteArray} {d : Bool} {l : List EL} {A : Option Addr} {n c : Nat} (hl : l.length = n) (hp : PatF W F l (.slice A n c)) : ∀ (acc : List VA) (xs : List Value),VZip W F acc xs -> VZip W F (acc ++ [.mk k d l]) (xs ++ [.string k,.bool d,.slice A n c])
 | [],xs,h=>by
  rw [VZip] at h
  subst h
  exact ⟨A,n,c,[],rfl,hl,hp,rfl⟩
 | .mk k' d' l' :: r,xs,h=>by
  rw [VZip] at h
  obtain ⟨A',n',c',ys,rfl,h1,h2,h3⟩:=h
  exact ⟨A',n',c',_,rfl,h1,h2,VZip.snoc hl hp r ys h3⟩
theorem VZip.carry {W W' : World} {F F' : Nat -> Prop} (g : ∀ b,F b -> F' b /\ W'.heap[b]? = W.heap[b]?) : ∀ (acc : List VA) (xs : List Value),VZip W F acc xs -> VZip W' F' acc xs
 | [],xs,h=>by rw [VZip] at h ⊢; exact h
 | .mk k' d' l' :: r,xs,h=>by
  rw [VZip] at h
  obtain ⟨A',n',c',ys,rfl,h1,h2,h3⟩:=h
  exact ⟨A',n',c',ys,rfl,h1,h2.carry g,VZip.carry g r ys h3⟩
theorem VZip.vs {W : World} {F : Nat -> Prop} {g : Nat} (hg : F g) : ∀ (acc : List VA) (xs : List Value) (o : Nat),(∀ j x,xs[j]? = some x -> W.cell? ⟨g,o + j,none⟩ = some x) -> VZip W F acc xs -> VsF W F acc g o
 | [],xs,o,hc,h=>by rw [VsF]; trivial
 | .mk k' d' l' :: r,xs,o,hc,h=>by
  rw [VZip] at h
  obtain ⟨A',n',c',ys,rfl,h1,h2,h3⟩:=h
  rw [VsF]
  refine ⟨hg,hc 0 _ rfl,hc 1 _ rfl,⟨_,hc 2 _ rfl,h2⟩,VZip.vs hg r ys (o + 3) (fun j x hx=>?_) h3⟩
  have:=hc (j + 3) x (by simpa using hx)
  rw [show o + 3 + j = o + (j + 3) by omega]
  exact this
def OwnSet (B : Nat) (W : World) (v : Value) (b : Nat) : Prop:=Since B W b /\ some b ≠ v.ownBlock
theorem Kp.grownBy {rb : Nat} {W W' : World} (h : Kp rb W W') : W.grownBy W' (some rb):=⟨h.below.os,h.below.tape,h.below.output,h.below.size,fun k hk hn=>h.others k hk (fun e=>hn (by rw [e]))⟩
theorem Kp.grown {rb : Nat} {a W W' : World} {row : Option Nat} (h : Kp rb a W) (hg : W.grownBy W' row) (hrow : ∀ k,row = some k -> a.heap.size <= k) (hr : rb < a.heap.size) : Kp rb a W' :=
 ⟨h.below.grown hg (by have:=h.size; omega) (fun k e=>by have:=hrow k e; omega),fun k hk hn=>(hg.block k (Nat.lt_of_lt_of_le hk h.size) (fun e=>by have:=hrow k e.symm; omega)).trans (h.others k hk hn)⟩
theorem Rd.grown {rb : Nat} {s : ByteArray} {i : Nat} {W W' : World} {row : Option Nat} (h : Rd rb s i W) (hg : W.grownBy W' row) (hrow : ∀ k,row = some k -> rb < k) : Rd rb s i W' :=
 (hg.block rb h.lt (fun e=>by have:=hrow rb e.symm; omega)).trans h
def OwnV (B : Nat) (W : World) (v : Value) (acc : List VA) : Prop:=∃ xs,W.ownsRow B 129 3 v acc.length xs /\ VZip W (OwnSet B W v) acc xs
theorem OwnV.nil (B : Nat) (W : World) : OwnV B W (.slice none 0 0) []:=⟨[],World.ownsRow_nil _ _ _ _,rfl⟩
theorem OwnV.kp {rb B : Nat} {W W' : World} {v : Value} {acc : List VA} (h : OwnV B W v acc) (g : Kp rb W W') (hrb : rb < B) : OwnV B W' v acc:=by
 obtain ⟨xs,h1,h2⟩:=h
 refine ⟨xs,h1.kept g.grownBy (.inr (fun e=>by have:=(h1.lt rb e).1; omega)),VZip.carry (fun b hb=>?_) _ _ h2⟩
 obtain ⟨⟨hb1,hb2⟩,hb3⟩:=hb
 exact ⟨⟨⟨hb1,Nat.lt_of_lt_of_le hb2 g.size⟩,hb3⟩,g.others b hb2 (by omega)⟩
theorem OwnV.more {B : Nat} {W W' : World} {v v' : Value} {acc : List VA} {xs : List Value} {k : ByteArray} {d : Bool} {l : List EL} {A : Option Addr} {n c : Nat} (h2 : VZip W (OwnSet B W v) acc xs)
  (ho : W'.ownsRow B 129 3 v' (acc.length + 1) (xs ++ [.string k,.bool d,.slice A n c])) (hg : W.grownBy W' v.ownBlock) (hw : v'.ownBlock = v.ownBlock ∨ v'.ownBlock = some W.heap.size) (hl : l.length = n) (hp : PatF W (OwnSet B W v) l (.slice A n c)) :
  OwnV B W' v' (acc ++ [.mk k d l]):=by
 refine ⟨_,by rw [List.length_append]; exact ho,?_⟩
 have g : ∀ b,OwnSet B W v b -> OwnSet B W' v' b /\ W'.heap[b]? = W.heap[b]?:=fun b hb=>by
  obtain ⟨⟨hb1,hb2⟩,hb3⟩:=hb
  refine ⟨⟨⟨hb1,Nat.lt_of_lt_of_le hb2 hg.size⟩,?_⟩,hg.block b hb2 hb3⟩
  rcases hw with e | e
  ·rw [e]; exact hb3
  ·rw [e]; intro e2; have:=Option.some.inj e2; omega
 exact VZip.carry g _ _ (VZip.snoc hl hp acc xs h2)
theorem OwnV.lie {B : Nat} {W : World} {v : Value} {acc : List VA} (h : OwnV B W v acc) : ∃ A c,v = .slice A acc.length c /\ LieAt (VsF W (Since B W) acc) v acc.length:=by
 obtain ⟨xs,h1,h2⟩:=h
 rcases h1.2 with ⟨rfl,h0⟩ | ⟨g,cap,cur,rfl,hb,hg,hc1,hc2,hcs,htk⟩
 ·have : acc = []:=List.eq_nil_of_length_eq_zero h0
  subst this
  exact ⟨none,0,rfl,none,0,rfl,Nat.le_refl _,Nat.zero_le _,fun h=>absurd h (by simp)⟩
 ·refine ⟨_,_,rfl,_,_,rfl,hc1,hc2,fun _=>⟨g,0,rfl,VZip.vs ⟨hb,(Array.getElem?_eq_some_iff.1 hg).1⟩ acc xs 0 (fun j x hx=>?_) (VZip.carry (fun b hb=>⟨hb.1,rfl⟩) _ _ h2)⟩⟩
  have:=h1.cells (g:=g) rfl j x hx
  rw [Addr.add_mid] at this
  exact this
def posOf (rb : Nat) (w : World) : Nat:=match w.cell? ⟨rb,1,none⟩ with
 | some (.int _ i)=>i.toNat
 | _=>0
theorem Rd.pos {rb : Nat} {s : ByteArray} {i : Nat} {w : World} (h : Rd rb s i w) : posOf rb w = i:=by
 unfold posOf
 rw [h.c1]
 simp
def GotVs (rb : Nat) (s : ByteArray) (w : World) (r : Option (List VA × Nat)) (e : Ending) (w' : World) : Prop :=
 Kp rb w w' /\ ∃ (A : Option Addr) (n c j : Nat),e = .returned (.tuple #[.slice A n c,.bool r.isSome]) /\ Rd rb s j w' /\ j <= s.size /\
  ∀ l m,r = some (l,m) -> m = j /\ l.length = n /\ LieAt (VsF w' (Since w.heap.size w') l) (.slice A n c) n
theorem parts_pos {s : ByteArray} {P : Nat -> Res} : ∀ (m : Nat) (acc : List EL) (i : Nat),s.size - i <= m -> i <= s.size -> ∀ ps j,partsS P s acc i = some (ps,j) -> i <= j /\ j <= s.size:=by
 intro m
 induction m with
 | zero =>
  intro acc i hm hi ps j h
  have ht : i <= tx s i:=behN_ge _ _ _
  have ht2 : tx s i <= s.size:=by have:=behN_le txB s.data.toList i (by rw [size_data]; exact hi); rw [size_data] at this; exact this
  rw [partsS] at h
  split at h
  ·next hc=>have:=isAt_lt hc; omega
  ·cases h; omega
 | succ m ih =>
  intro acc i hm hi ps j h
  have ht : i <= tx s i:=behN_ge _ _ _
  have ht2 : tx s i <= s.size:=by have:=behN_le txB s.data.toList i (by rw [size_data]; exact hi); rw [size_data] at this; exact this
  rw [partsS] at h
  split at h
  ·split at h
   ·cases h
   ·split at h
    ·next hg=>have:=ih _ _ (by omega) hg.2 ps j h; omega
    ·cases h
  ·cases h; omega
theorem lines_pos {s : ByteArray} {P : Nat -> Res} : ∀ (m : Nat) (acc : List LN) (f p i : Nat),s.size - i <= m -> i <= s.size -> ∀ ls j,linesS P s acc f p i = some (ls,j) -> i <= j /\ j <= s.size:=by
 intro m
 induction m with
 | zero =>
  intro acc f p i hm hi ls j h
  rw [linesS] at h
  split at h
  ·cases h
  ·next hp =>
   have h1:=parts_pos _ _ _ (Nat.le_refl _) hi _ _ hp
   split at h
   ·cases h; exact h1
   ·split at h
    ·next hg=>omega
    ·cases h
 | succ m ih =>
  intro acc f p i hm hi ls j h
  rw [linesS] at h
  split at h
  ·cases h
  ·next hp =>
   have h1:=parts_pos _ _ _ (Nat.le_refl _) hi _ _ hp
   split at h
   ·cases h; exact h1
   ·split at h
    ·next hg=>have:=ih _ _ _ _ (by omega) hg.2 ls j h; omega
    ·cases h
theorem pat_pos {s : ByteArray} {P : Nat -> Res} (i : Nat) (hi : i <= s.size) (l : List EL) (j : Nat) (h : patS P s i = some (l,j)) : i <= j /\ j <= s.size:=by
 unfold patS at h
 split at h
 ·cases h
 ·next hl =>
  cases h
  have h2:=sp_ok s i hi
  have:=lines_pos _ _ _ _ _ (Nat.le_refl _) h2.2 _ _ hl
  omega
theorem vari_pos {s : ByteArray} {P : Nat -> Res} (i : Nat) (hi : i <= s.size) (v : VA) (j : Nat) (h : variS P s i = some (v,j)) : i < j /\ j <= s.size:=by
 unfold variS at h
 have hii : i <= (if isAt s i 42 then i + 1 else i):=by split <;> omega
 generalize (if isAt s i 42 then i + 1 else i) = i1 at h hii
 split at h
 ·next h1 =>
  have h2:=isAt_lt h1
  have h3:=bl_ok s (i1 + 1) h2
  generalize bl s (i1 + 1) = a at h h3
  split at h
  ·cases h
  ·have h4 : a <= keyE s a /\ keyE s a <= s.size:=by
    have:=nm_ok s a h3.2
    have:=nu_ok s a h3.2
    unfold keyE; split <;> omega
   generalize keyE s a = k at h h4
   have h5:=bl_ok s k h4.2
   generalize bl s k = m at h h5
   split at h
   ·next h6 =>
    have h7:=isAt_lt h6
    split at h
    ·cases h
    ·next hp =>
     have h8:=pat_pos _ h7 _ _ hp
     split at h
     ·cases h; omega
     ·cases h
   ·cases h
 ·cases h
theorem infoV : (Tryz.prog.info? 129).map (fun i=>(i.zero,i.size,i.bytes)) = some (some (.agg #[.string ⟨#[]⟩,.bool false,.slice none 0 0]),3,48):=by kernel_rfl
theorem own_slice {w : World} {B : Nat} {e : TypeId} {size : Nat} {v : Value} {n : Nat} {xs : List Value} (h : w.ownsRow B e size v n xs) (hn : 0 < n) : ∃ A c,v = .slice A n c:=by
 rcases h.2 with ⟨_,h0⟩ | ⟨g,cap,cur,rfl,_⟩
 ·omega
 ·exact ⟨_,_,rfl⟩
theorem ownV_push {rb B : Nat} {w5 w6 : World} {v : Value} {acc : List VA} {xs : List Value} {X : ByteArray} {df : Bool} {l : List EL} {A : Option Addr} {n c : Nat} {o1 o2 : Obj} {W3 : World} {v' : Value} (hrb : rb < B) (hB : B <= w5.heap.size)
  (hs : w5.heap.size <= w6.heap.size) (hv : ∀ k,v.ownBlock = some k -> B <= k /\ k < w5.heap.size) (hz : VZip w6 (OwnSet B w6 v) acc xs) (hp : PatF w6 (Since w5.heap.size w6) l (.slice A n c)) (hl : l.length = n)
  (ho : W3.ownsRow B 129 3 v' (acc.length + 1) (xs ++ [.string X,.bool df,.slice A n c])) (hg : ((w6.alloc o1).alloc o2).grownBy W3 v.ownBlock)
  (hw : v'.ownBlock = v.ownBlock ∨ v'.ownBlock = some ((w6.alloc o1).alloc o2).heap.size) : OwnV B W3 v' (acc ++ [.mk X df l]):=by
 have K : Kp rb w6 ((w6.alloc o1).alloc o2):=((Kp.refl rb w6).alloc (by omega) _).alloc (by simp; omega) _
 refine OwnV.more (VZip.carry (fun b hb=>?_) _ _ hz) ho hg hw hl (PatF.carry (fun b hb=>?_) hp)
 ·obtain ⟨⟨hb1,hb2⟩,hb3⟩:=hb
  exact ⟨⟨⟨hb1,Nat.lt_of_lt_of_le hb2 K.size⟩,hb3⟩,K.others b hb2 (by omega)⟩
 ·obtain ⟨hb1,hb2⟩:=hb
  exact ⟨⟨⟨by omega,Nat.lt_of_lt_of_le hb2 K.size⟩,fun e=>by have:=hv b e.symm; omega⟩,K.others b hb2 (by omega)⟩
set_option maxHeartbeats 8000000 in
set_option maxRecDepth 100000 in
theorem variants_any {rb : Nat} {s : ByteArray} {d : Nat} {P : Nat -> Res} (hs : s.size <= 1000000000) (hd : d <= 4000) (hPat : PatTo rb s d (patS P s)) (i : Nat) (w : World) (hr : Rd rb s i w) (hi : i <= s.size) :
  Calls Tryz.prog 240 #[pt rb,.int .i64 d] w (GotVs rb s w (selS P s i)):=by
 obtain ⟨i0,hi0,hz0,hz1,hz2⟩:=info_parts infoV
 have HR:=hid hr
 have hlt:=hr.lt
 obtain ⟨R,hRR⟩ : ∃ R,selS P s i = R:=⟨_,rfl⟩
 rw [hRR]
 unfold selS at hRR
 have hS:=sp_ok s i hi
 have hP1:=fun W (h : Rd rb s i W)=>pass_any endSpaces W h (by omega) hi
 obtain ⟨p,hp⟩ : ∃ p,sp s i = p:=⟨_,rfl⟩
 rw [hp] at hS hP1 hRR
 have hT1:=fun W (h : Rd rb s p W)=>take_any 10 W h (by omega) hS.2
 obtain ⟨b1,hb1⟩ : ∃ b,isAt s p 10 = b:=⟨_,rfl⟩
 have hp1 : b1 = true -> p + 1 <= s.size:=fun h=>isAt_lt (hb1.trans h)
 rw [hb1] at hT1 hRR
 have HP1:=hid hP1
 have HT1:=hid hT1
 have HV:=hid (fun j W h1 h2=>variant_any (rb:=rb) hs hd hPat j W h1 h2)
 clear hr hP1 hp hT1 hb1 hPat
 unfold pt at HP1 HT1 HV ⊢
 cases b1
 case false =>
  rw [if_neg (by simp)] at hRR
  subst hRR
  go_enter Tryz.func240,Tryz.ntmps240
  go_wp2_with fail
  go_at_call 169
  refine (HP1.out _ HR.out).mono ?_
  rintro e w1 ⟨rfl,g1,g2⟩
  have G1:=hid g1
  have HK:=hid g2
  clear g1 g2
  go_wp2_with fail
  go_at_call 236
  refine (HT1.out _ G1.out).mono ?_
  rintro e w2 ⟨rfl,g3,g4⟩
  have G3:=hid (show Rd rb s p w2 by simpa using g3)
  have HK2:=hid (HK.out.trans g4)
  clear g3 g4
  go_wp2
  go_ret2
  exact ⟨HK2.out,none,0,0,p,rfl,G3.out,hS.2,fun l m h=>by cases h⟩
 have hp2:=hp1 rfl
 rw [if_pos rfl] at hRR
 have hB:=bl_ok s (p + 1) hp2
 have hP2:=fun W (h : Rd rb s (p + 1) W)=>pass_any endBlank W h (by omega) hp2
 obtain ⟨q,hq⟩ : ∃ q,bl s (p + 1) = q:=⟨_,rfl⟩
 rw [hq] at hB hP2 hRR
 have HP2:=hid hP2
 have HRR:=hid hRR
 have hd0 : (d : Int) <= 4000:=by omega
 unfold pt at HP2
 clear hP2 hq hRR hp1
 go_enter Tryz.func240,Tryz.ntmps240
 go_wp2_with fail
 go_at_call 169
 refine (HP1.out _ HR.out).mono ?_
 rintro e w1 ⟨rfl,g1,g2⟩
 have G1:=hid g1
 have HK:=hid g2
 clear g1 g2
 go_wp2_with fail
 go_at_call 236
 refine (HT1.out _ G1.out).mono ?_
 rintro e w2 ⟨rfl,g3,g4⟩
 have G3:=hid (show Rd rb s (p + 1) w2 by simpa using g3)
 have HK2:=hid (HK.out.trans g4)
 clear g3 g4
 go_wp2_with fail
 go_at_call 169
 refine (HP2.out _ G3.out).mono ?_
 rintro e w3 ⟨rfl,g3,g4⟩
 have G4:=hid g3
 have HK3:=hid (HK2.out.trans g4)
 clear g3 g4
 go_wp2
 go_loopw [6,7] (fun t6 t7 wr=>∃ (acc : List VA) (j : Nat) (A : Option Addr) (c : Nat),t6 = .slice A acc.length c /\ t7 = .int .i64 (acc.countP vaDflt : Nat) /\ j <= s.size /\ acc.length <= j /\ Hid (varsS P s acc j = R) /\ Hid (Rd rb s j wr) /\ Hid (Kp rb w wr) /\ Hid (OwnV w.heap.size wr (.slice A acc.length c) acc)) (fun _ _ wr=>s.size - posOf rb wr)
 case atStart=>exact ⟨[],q,none,0,rfl,rfl,hB.2,Nat.zero_le _,HRR.out,G4.out,HK3.out,OwnV.nil _ _⟩
 case round =>
  obtain ⟨acc,j,A,c,rfl,rfl,hj,hal,Hans,HRd,HK,HO⟩:=hrel
  have hT:=fun W (h : Rd rb s j W)=>take_any 125 W h (by omega) hj
  obtain ⟨b,hb⟩ : ∃ b,isAt s j 125 = b:=⟨_,rfl⟩
  have hj1 : b = true -> j + 1 <= s.size:=fun h=>isAt_lt (hb.trans h)
  have hans:=Hans.out
  rw [varsS] at hans
  rw [hb] at hT hans
  have HT:=hid hT
  have hcnt : acc.countP vaDflt <= acc.length:=List.countP_le_length
  obtain ⟨cn,hcn⟩ : ∃ cn,acc.countP vaDflt = cn:=⟨_,rfl⟩
  rw [hcn] at hcnt hans ⊢
  have Hcn:=hid hcn
  have hcn0 : (cn : Int) <= 1000000000:=by omega
  have Hpos:=hid HRd.out.pos
  unfold pt at HT
  clear hT hb hcn
  cases b
  case true =>
   rw [if_pos rfl] at hans
   have HRn:=hid hans
   have Hj1:=hid (hj1 rfl)
   clear hans hj1
   go_wp2_with fail
   go_at_call 236
   refine (HT.out _ HRd.out).mono ?_
   rintro e w5 ⟨rfl,g1,g2⟩
   have G5:=hid (show Rd rb s (j + 1) w5 by simpa using g1)
   have HK5:=hid (HK.out.trans g2)
   have HO5:=hid (HO.out.kp g2 hlt)
   clear g1 g2
   by_cases h1 : cn = 1
   ·have h11 : ((cn : Int) == 1) = true:=beq_iff_eq.2 (by omega)
    have hR:=HRn.out
    rw [if_pos h1] at hR
    subst hR
    clear h1
    go_wp2
    go_ret2
    obtain ⟨A',c',e1,hl⟩:=HO5.out.lie
    exact ⟨HK5.out,A,acc.length,c,j + 1,rfl,G5.out,Hj1.out,fun l m h=>by cases h; exact ⟨rfl,rfl,hl⟩⟩
   ·have h11 : ((cn : Int) == 1) = false:=beq_eq_false_iff_ne.2 (by omega)
    have hR:=HRn.out
    rw [if_neg h1] at hR
    subst hR
    clear h1
    go_wp2
    go_ret2
    exact ⟨HK5.out,A,acc.length,c,j + 1,rfl,G5.out,Hj1.out,fun l m h=>by cases h⟩
  rw [if_neg (by simp)] at hans
  have hv:=vari_pos (P:=P) j hj
  obtain ⟨r,hr⟩ : ∃ r,variS P s j = r:=⟨_,rfl⟩
  rw [hr] at hans hv
  have hVj:=fun W h=>HV.out j W h hj
  rw [hr] at hVj
  have HVj:=hid hVj
  have Hv:=hid hv
  have HRn:=hid hans
  clear hans hv hr hVj hj1
  go_wp2_with fail
  go_at_call 236
  refine (HT.out _ HRd.out).mono ?_
  rintro e w5 ⟨rfl,g1,g2⟩
  have G5:=hid (show Rd rb s j w5 by simpa using g1)
  have HK5:=hid (HK.out.trans g2)
  have HO5:=hid (HO.out.kp g2 hlt)
  clear g1 g2
  go_wp2_with fail
  go_at_call 268
  refine (HVj.out _ G5.out).mono ?_
  rintro e w6 ⟨h1,X,df,A',n,c',m,rfl,h2,hm,hn,h3⟩
  have HK6:=hid (HK5.out.trans h1)
  have HO6:=hid (HO5.out.kp h1 hlt)
  have H2:=hid h2
  have H3:=hid h3
  have hl6:=h2.lt
  have hs5:=h1.size
  clear h1 h2 h3
  cases r with
  | none =>
   have hR:=HRn.out
   dsimp only at hR
   subst hR
   go_wp2
   go_ret2
   exact ⟨HK6.out.alloc (Nat.le_of_lt hl6) _,none,0,0,m,rfl,H2.out.alloc _,hm,fun l m h=>by cases h⟩
  | some vm =>
   obtain ⟨v,m'⟩:=vm
   obtain ⟨rfl,l,rfl,hln,hpt⟩:=H3.out v m' rfl
   have hv2:=Hv.out _ _ rfl
   have HL:=hid hln
   have HPF:=hid hpt
   have hB7:=bl_ok s m' hm
   have hP7:=fun W (h : Rd rb s m' W)=>pass_any endBlank W h (by omega) hm
   have hR:=HRn.out
   dsimp only at hR
   obtain ⟨q7,hq7⟩ : ∃ q,bl s m' = q:=⟨_,rfl⟩
   rw [hq7] at hB7 hP7 hR
   rw [dif_pos (show j < q7 /\ q7 <= s.size from ⟨by omega,hB7.2⟩)] at hR
   have HR7:=hid hR
   have HP7:=hid hP7
   unfold pt at HP7
   clear hR hln hpt hP7 hq7
   have hn0 : (n : Int) <= 4000000000:=by omega
   have hacc : (acc.length : Int) <= 1000000000:=by omega
   obtain ⟨xs6,ho6,hz6⟩:=HO6.out
   have hown1:=(ho6.alloc (.cells #[.string X,.bool df,.slice A' n c'] 129)).alloc (.cells #[.string X,.bool df,.slice A' n c'] 129)
   obtain ⟨xs5,ho5,hz5⟩:=HO5.out
   have Hv5:=hid (fun k e=>ho5.lt k e)
   have hs0:=HK5.out.size
   clear ho6 ho5 hz5
   cases df
   case false =>
    go_wp2_with (at_builtin; refine wpList_append_where _ rfl _ _ 46 rfl w.heap.size 129 i0 (.agg zV) 3 48 Tryz.underlying46 hi0 hz0 hz1 hz2 rfl (by decide) _ _ _ rfl hown1 ⟨w6.heap.size + 1,0,none⟩ 1 1 [.string X,.bool false,.slice A' n c'] rfl rfl ?c1 ?c2 ?c3 ?c4 ?c5 ?c6 ?_)
    case c1 =>
     intro j u hj
     match j,hj with
     | 0,hj=>simp at hj; subst hj; simp [Addr.add]
     | 1,hj=>simp at hj; subst hj; simp [Addr.add]
     | 2,hj=>simp at hj; subst hj; simp [Addr.add]
    case c2=>intro u hu; simp at hu; rcases hu with rfl | rfl | rfl <;> rfl
    case c3=>unfold maxLen; omega
    case c4=>omega
    case c5=>simp; omega
    case c6=>decide
    intro v' w8 hown' hgrow hwh
    have HO8:=hid (ownV_push hlt (by omega) hs5 Hv5.out hz6 HPF.out HL.out hown' hgrow (by simpa using hwh))
    have G8:=hid (((H2.out.alloc _).alloc _).grown hgrow (fun k e=>by have:=Hv5.out k e; omega))
    have HK8:=hid (Kp.grown ((HK6.out.alloc (Nat.le_of_lt hl6) _).alloc (by simp; omega) _) hgrow (fun k e=>(Hv5.out k e).1) hlt)
    obtain ⟨A2,c2,rfl⟩:=own_slice hown' (by omega)
    clear hown' hgrow hwh
    go_wp2_with fail
    go_at_call 169
    refine (HP7.out _ G8.out).mono ?_
    rintro e w9 ⟨rfl,g1,g2⟩
    have G9:=hid g1
    have HK9:=hid (HK8.out.trans g2)
    have HO9:=hid (HO8.out.kp g2 hlt)
    clear g1 g2
    go_wp2
    go_roundw
    case rel =>
     refine ⟨acc ++ [.mk X false l],q7,A2,c2,?_,?_,hB7.2,?_,HR7,G9,HK9,?_⟩
     ·show Value.slice A2 _ c2 = _
      simp
     ·show Value.int .i64 _ = _
      rw [List.countP_append,Hcn.out]
      simp [vaDflt]
     ·rw [List.length_append,List.length_singleton]; omega
     ·show Hid (OwnV w.heap.size _ (.slice A2 (acc ++ [VA.mk X false l]).length c2) _)
      rw [List.length_append,List.length_singleton]
      exact HO9
    case measure =>
     show s.size - posOf rb _ < s.size - posOf rb wr
     rw [G9.out.pos,Hpos.out]
     omega
   case true =>
    go_wp2_with (at_builtin; refine wpList_append_where _ rfl _ _ 46 rfl w.heap.size 129 i0 (.agg zV) 3 48 Tryz.underlying46 hi0 hz0 hz1 hz2 rfl (by decide) _ _ _ rfl hown1 ⟨w6.heap.size + 1,0,none⟩ 1 1 [.string X,.bool true,.slice A' n c'] rfl rfl ?c1 ?c2 ?c3 ?c4 ?c5 ?c6 ?_)
    case c1 =>
     intro j u hj
     match j,hj with
     | 0,hj=>simp at hj; subst hj; simp [Addr.add]
     | 1,hj=>simp at hj; subst hj; simp [Addr.add]
     | 2,hj=>simp at hj; subst hj; simp [Addr.add]
    case c2=>intro u hu; simp at hu; rcases hu with rfl | rfl | rfl <;> rfl
    case c3=>unfold maxLen; omega
    case c4=>omega
    case c5=>simp; omega
    case c6=>decide
    intro v' w8 hown' hgrow hwh
    have HO8:=hid (ownV_push hlt (by omega) hs5 Hv5.out hz6 HPF.out HL.out hown' hgrow (by simpa using hwh))
    have G8:=hid (((H2.out.alloc _).alloc _).grown hgrow (fun k e=>by have:=Hv5.out k e; omega))
    have HK8:=hid (Kp.grown ((HK6.out.alloc (Nat.le_of_lt hl6) _).alloc (by simp; omega) _) hgrow (fun k e=>(Hv5.out k e).1) hlt)
    obtain ⟨A2,c2,rfl⟩:=own_slice hown' (by omega)
    clear hown' hgrow hwh
    go_wp2_with fail
    go_at_call 169
    refine (HP7.out _ G8.out).mono ?_
    rintro e w9 ⟨rfl,g1,g2⟩
    have G9:=hid g1
    have HK9:=hid (HK8.out.trans g2)
    have HO9:=hid (HO8.out.kp g2 hlt)
    clear g1 g2
    go_wp2
    go_roundw
    case rel =>
     refine ⟨acc ++ [.mk X true l],q7,A2,c2,?_,?_,hB7.2,?_,HR7,G9,HK9,?_⟩
     ·show Value.slice A2 _ c2 = _
      simp
     ·show Value.int .i64 _ = _
      rw [List.countP_append,Hcn.out]
      simp [vaDflt]
     ·rw [List.length_append,List.length_singleton]; omega
     ·show Hid (OwnV w.heap.size _ (.slice A2 (acc ++ [VA.mk X true l]).length c2) _)
      rw [List.length_append,List.length_singleton]
      exact HO9
    case measure =>
     show s.size - posOf rb _ < s.size - posOf rb wr
     rw [G9.out.pos,Hpos.out]
     omega
theorem isAt_prefix2 (s : ByteArray) (i : Nat) (c d : UInt8) (hi : i <= s.size) : Lib.hasPrefix (s.extract i s.size).data.toList [c,d] = (isAt s i c && isAt s (i + 1) d):=by
 rw [extract_drop]
 unfold isAt
 by_cases h : i < s.size
 ·have hl : i < s.data.toList.length:=by rw [size_data]; exact h
  rw [List.drop_eq_getElem_cons hl,decide_eq_true h,Bool.true_and,at0_get _ _ hl]
  unfold Lib.hasPrefix
  rw [List.isPrefixOf]
  by_cases h2 : i + 1 < s.size
  ·have hl2 : i + 1 < s.data.toList.length:=by rw [size_data]; exact h2
   rw [List.drop_eq_getElem_cons hl2,decide_eq_true h2,Bool.true_and,at0_get _ _ hl2,List.isPrefixOf,List.isPrefixOf,Bool.and_true]
   rw [Bool.eq_iff_iff,Bool.and_eq_true,Bool.and_eq_true,beq_iff_eq,beq_iff_eq,beq_iff_eq,beq_iff_eq]
   exact ⟨fun ⟨a,b⟩=>⟨a.symm,b.symm⟩,fun ⟨a,b⟩=>⟨a.symm,b.symm⟩⟩
  ·rw [List.drop_eq_nil_of_le (by rw [size_data]; omega),decide_eq_false h2]
   simp [List.isPrefixOf]
 ·rw [List.drop_eq_nil_of_le (by rw [size_data]; omega),decide_eq_false h]
  rfl
set_option maxHeartbeats 2000000 in
set_option maxRecDepth 100000 in
theorem take2_any {rb : Nat} {s : ByteArray} {i : Nat} (c d : UInt8) (w : World) (hr : Rd rb s i w) (hs : s.size <= 4000000000) (hi : i <= s.size) :
  Calls Tryz.prog 236 #[pt rb,.string ⟨#[c,d]⟩] w fun e w'=>e = .returned (.bool (isAt s i c && isAt s (i + 1) d)) /\ Rd rb s (if isAt s i c && isAt s (i + 1) d then i + 2 else i) w' /\ Kp rb w w':=by
 have hx:=isAt_prefix2 s i c d hi
 have hp:=fun W=>Tryz.strings_HasPrefix (s.extract i s.size) ⟨#[c,d]⟩ W
 rw [hx] at hp
 obtain ⟨b,hb⟩ : ∃ b,(isAt s i c && isAt s (i + 1) d) = b:=⟨_,rfl⟩
 have Hb:=hid hb
 rw [hb] at hp ⊢
 have HP:=hid hp
 have c0:=hr.c0
 have c1:=hr.c1
 have f0:=hr.f 0
 have f1:=hr.f 1
 have hlt:=hr.lt
 have HR:=hid hr
 have hi0 : (i : Int) <= 4000000000:=by omega
 have hjs : (i : Int) <= (s.size : Int):=by omega
 have hss : (s.size : Int) <= 4000000000:=by omega
 have hi1 : (0 : Int) <= (i : Int):=by omega
 clear hx hp hb hr
 unfold pt
 go_enter Tryz.func236,Tryz.ntmps236
 go_wp2_with fail
 go_region_held3 (fun w'=>w'.cell? ⟨rb,0,none⟩ = some (.string s) /\ w'.cell? ⟨rb,1,none⟩ = some (.int .i64 (i : Nat)) /\ rb + 1 <= w'.heap.size /\ Rd rb s i w' /\ Kp rb w w')
  (first | (exact rds_later (by assumption) (by assumption)) | (exact rds_of HR.out.drew (Kp.refl _ _).drew) | go_keep)
  (first | (go_at_call 65; refine (HP.out _).mono ?_; rintro e w' ⟨rfl,rfl⟩))
 have d1 : w.drew.cell? ⟨rb,1,none⟩ = some (.int .i64 (i : Nat)):=c1
 have g1 : w.drew.frozen? ⟨rb,1,none⟩ = false:=f1
 cases b
 ·go_wp2
  go_ret
  exact ⟨rfl,HR.out.drew,(Kp.refl _ _).drew⟩
 ·go_wp2
  go_ret
  exact ⟨rfl,HR.out.drew.set' (by omega),(Kp.refl _ _).drew.setCell 1 _⟩
def plS (P : Nat -> Res) (s : ByteArray) (i : Nat) : Res :=
 if isAt s i 123 then
  match inlS P s (bl s (i + 1)) with
  | none=>none
  | some (e,j) =>
   if isAt s (bl s j) 125 then (if termAttr e then none else some (e,bl s j + 1))
   else if isAt s (bl s j) 45 && isAt s (bl s j + 1) 62 && mayAsk e then
    match selS P s (bl s j + 2) with
    | none=>none
    | some (vs,m)=>some (.mk 7 E0 E0 E0 [] (some e) vs,m)
   else none
 else none
theorem placeS_succ (s : ByteArray) (r : Nat) : placeS s (r + 1) = plS (placeS s r) s:=by
 funext i
 rw [placeS,plS]
 rfl
def VsTo (rb : Nat) (s : ByteArray) (d : Nat) (Q : Nat -> Option (List VA × Nat)) : Prop:=∀ (i : Nat) (w : World),Rd rb s i w -> i <= s.size -> Calls Tryz.prog 240 #[pt rb,.int .i64 d] w (GotVs rb s w (Q i))
set_option maxHeartbeats 2000000 in
set_option maxRecDepth 100000 in
theorem place_deep {rb : Nat} {s : ByteArray} {d : Nat} (hd : 20 < d) (hd2 : d <= 4000) : WayTo rb s 208 #[pt rb,.int .i64 d] (fun _=>none):=by
 intro i w hr hi
 have HR:=hid hr
 have hlt:=hr.lt
 have hd0 : decide ((d : Int) > 20) = true:=decide_eq_true (by omega)
 have hd1 : decide ((20 : Int) < d) = true:=decide_eq_true (by omega)
 have hd3 : (20 : Int) < d:=by omega
 clear hr
 unfold pt
 go_enter Tryz.func208,Tryz.ntmps208
 have hc:=BoxAt.new w zE 48
 have hcl:=hc.lt
 have HC:=hid hc
 obtain ⟨q0,q1,q2,q3,q4,q5,q6,p0,p1,p2,p3,p4,p5,p6⟩:=cells7 hc
 go_wp2
 exact end7w Tryz.results208 HC.out rfl rfl rfl (got_end ((Kp.refl rb w).alloc (Nat.le_of_lt hlt) _) (HR.out.alloc _) hi rfl (fun x m h=>by cases h))
set_option maxHeartbeats 2000000 in
set_option maxRecDepth 100000 in
theorem termsAttr_at (k : Int) (t n a : ByteArray) (A1 : Option Addr) (n1 c1 : Nat) (p : Option Addr) (A2 : Option Addr) (n2 c2 : Nat) (w : World) :
  Calls Tryz.prog 238 #[exV k t n a A1 n1 c1 p A2 n2 c2] w fun e w'=>e = .returned (.bool ((k == 4) && !emp a)) /\ w' = w.alloc (.cells #[.int .i64 k,.string t,.string n,.string a,.slice A1 n1 c1,.pointer p,.slice A2 n2 c2] 48):=by
 unfold exV emp
 cases hz : (k == 4)
 case false =>
  go_enter Tryz.func238,Tryz.ntmps238
  go_wp2
  go_ret
  exact ⟨ret_bool (by rfl),rfl⟩
 cases hg : a.toList.isEmpty
 all_goals
  go_enter Tryz.func238,Tryz.ntmps238
  go_wp2
  go_ret
  exact ⟨ret_bool (by rfl),rfl⟩
theorem since_set7 {w : World} {c b : Nat} {x0 x1 x2 x3 x4 x5 x6 : Value} (o : Obj) (h : b < (set7 w c x0 x1 x2 x3 x4 x5 x6).heap.size) : b < ((set7 w c x0 x1 x2 x3 x4 x5 x6).alloc o).drew.heap.size:=by
 show b < ((set7 w c x0 x1 x2 x3 x4 x5 x6).alloc o).heap.size
 rw [World.size_alloc]
 exact Nat.lt_succ_of_lt h
theorem heap_set7 {w : World} {c b : Nat} {x0 x1 x2 x3 x4 x5 x6 : Value} (o : Obj) (hc : b ≠ c) (h : b < (set7 w c x0 x1 x2 x3 x4 x5 x6).heap.size) : ((set7 w c x0 x1 x2 x3 x4 x5 x6).alloc o).drew.heap[b]? = w.heap[b]? :=
 (Lib.alloc_old (set7 w c x0 x1 x2 x3 x4 x5 x6) o b h).trans (set7_heap _ _ _ _ _ _ _ _ _ b hc)
theorem setCell7_size (w : World) (b : Nat) (x0 x1 x2 x3 x4 x5 x6 : Value) : (((((((w.setCell ⟨b,0,none⟩ x0).setCell ⟨b,1,none⟩ x1).setCell ⟨b,2,none⟩ x2).setCell ⟨b,3,none⟩ x3).setCell ⟨b,4,none⟩ x4).setCell ⟨b,5,none⟩ x5).setCell ⟨b,6,none⟩ x6).heap.size = w.heap.size:=set7_size w b x0 x1 x2 x3 x4 x5 x6
theorem setCell7_heap (w : World) (b : Nat) (x0 x1 x2 x3 x4 x5 x6 : Value) (k : Nat) (hk : k ≠ b) : (((((((w.setCell ⟨b,0,none⟩ x0).setCell ⟨b,1,none⟩ x1).setCell ⟨b,2,none⟩ x2).setCell ⟨b,3,none⟩ x3).setCell ⟨b,4,none⟩ x4).setCell ⟨b,5,none⟩ x5).setCell ⟨b,6,none⟩ x6).heap[k]? = w.heap[k]?:=set7_heap w b x0 x1 x2 x3 x4 x5 x6 k hk
theorem exF_fields {W : World} {F : Nat -> Prop} {x : EX} {k : Int} {t n a : ByteArray} {al i vs : Value} (h : ExF W F x ⟨.int .i64 k,.string t,.string n,.string a,al,i,vs⟩) :
  termAttr x = ((k == 4) && !emp a) /\ mayAsk x = (decide (k = 0 ∨ k = 1 ∨ k = 2 ∨ k = 5) || ((k == 4) && !emp a)):=by
 obtain ⟨k',t',n',a',al',i',vs'⟩:=x
 rw [ExF] at h
 obtain ⟨h1,h2,h3,h4,_⟩:=h
 cases h1
 cases h4
 exact ⟨rfl,rfl⟩
theorem exF_sel {W : World} {F : Nat -> Prop} {x : EX} {vs : List VA} {b : Nat} {c : C7} {v : Value} (hb : F b) (hc : CellsAt W b 0 c) (hx : ExF W F x c) (hv : LieAt (VsF W F vs) v vs.length) :
  ExF W F (.mk 7 E0 E0 E0 [] (some x) vs) ⟨.int .i64 7,.string E0,.string E0,.string E0,.slice none 0 0,.pointer (some ⟨b,0,none⟩),v⟩:=by
 rw [ExF]
 refine ⟨rfl,rfl,rfl,rfl,LieN.nil _,?_,hv⟩
 simp only [OF]
 exact ⟨b,0,c,rfl,hb,hc,hx⟩
set_option maxHeartbeats 2000000 in
set_option maxRecDepth 100000 in
theorem place_any {rb : Nat} {s : ByteArray} {d : Nat} {P : Nat -> Res} (hs : s.size <= 1000000000) (hd : d <= 20) (hIn : WayTo rb s 237 #[pt rb,.int .i64 d] (inlS P s)) (hVs : VsTo rb s d (selS P s)) :
  WayTo rb s 208 #[pt rb,.int .i64 d] (plS P s):=by
 intro i w hr hi
 have HR:=hid hr
 have hlt:=hr.lt
 have hd0 : decide ((20 : Int) < d) = false:=decide_eq_false (by omega)
 have hd1 : ¬ (20 : Int) < d:=by omega
 obtain ⟨R,hRR⟩ : ∃ R,plS P s i = R:=⟨_,rfl⟩
 rw [hRR]
 unfold plS at hRR
 have hT1:=fun W (h : Rd rb s i W)=>take_any 123 W h (by omega) hi
 obtain ⟨b1,hb1⟩ : ∃ b,isAt s i 123 = b:=⟨_,rfl⟩
 have hi1 : b1 = true -> i + 1 <= s.size:=fun h=>isAt_lt (hb1.trans h)
 rw [hb1] at hT1 hRR
 have HT1:=hid hT1
 have HIn:=hid hIn
 have HVs:=hid hVs
 have HPb:=hid (fun j W (h : Rd rb s j W) hj=>pass_any endBlank W h (show s.size <= 4000000000 by omega) hj)
 have HTb:=hid (fun j W (h : Rd rb s j W) hj=>take_any 125 W h (show s.size <= 4000000000 by omega) hj)
 have HTa:=hid (fun j W (h : Rd rb s j W) hj=>take2_any 45 62 W h (show s.size <= 4000000000 by omega) hj)
 clear hr hT1 hb1 hIn hVs
 unfold pt at HT1 HPb HTb HTa HVs HIn ⊢
 have hc0:=BoxAt.new w zE 48
 have K0 : Kp rb w (w.alloc (.cells zE 48)):=(Kp.refl rb w).alloc (Nat.le_of_lt hlt) _
 have HK0:=hid K0
 have HC0:=hid hc0
 clear hc0 K0
 cases b1
 case false =>
  rw [if_neg (by simp)] at hRR
  subst hRR
  go_enter Tryz.func208,Tryz.ntmps208
  go_wp2_with fail
  go_at_call 236
  refine (HT1.out _ (HR.out.alloc _)).mono ?_
  rintro e w1 ⟨rfl,g1,g2⟩
  have G1:=hid (show Rd rb s i w1 by simpa using g1)
  have HK:=hid (HK0.out.trans g2)
  have hc:=BoxAt.kp HC0.out g2 (by omega)
  have hcl:=hc.lt
  have HC:=hid hc
  obtain ⟨q0,q1,q2,q3,q4,q5,q6,p0,p1,p2,p3,p4,p5,p6⟩:=cells7 hc
  clear g1 g2 hc
  go_wp2
  exact end7w Tryz.results208 (box_set7 HC.out _ _ _ _ _ _ _) rfl rfl rfl (got_end (HK.out.set7 (Nat.le_refl _) hlt _ _ _ _ _ _ _) (G1.out.set7 (by omega) _ _ _ _ _ _ _) hi rfl (fun x m h=>by cases h))
 have hi2:=hi1 rfl
 rw [if_pos rfl] at hRR
 have hB:=bl_ok s (i + 1) hi2
 have hP1:=fun W h=>HPb.out (i + 1) W h hi2
 obtain ⟨q,hq⟩ : ∃ q,bl s (i + 1) = q:=⟨_,rfl⟩
 rw [hq] at hB hRR
 have hP2 : ∀ W,Rd rb s (i + 1) W -> Calls Tryz.prog 169 #[.pointer (some ⟨rb,0,none⟩),.func (.func 131) #[] #[]] W fun e w'=>e = .returned (.string (s.extract (i + 1) q)) /\ Rd rb s q w' /\ Kp rb W w':=by
  rw [<- hq]; exact hP1
 have HP1:=hid hP2
 have hI:=fun W h=>HIn.out q W h hB.2
 obtain ⟨r,hrr⟩ : ∃ r,inlS P s q = r:=⟨_,rfl⟩
 rw [hrr] at hI hRR
 have HI:=hid hI
 have HRR:=hid hRR
 clear hi1 hP1 hP2 hI hrr hRR hq HIn
 go_enter Tryz.func208,Tryz.ntmps208
 go_wp2_with fail
 go_at_call 236
 refine (HT1.out _ (HR.out.alloc _)).mono ?_
 rintro e w1 ⟨rfl,g1,g2⟩
 have G1:=hid (show Rd rb s (i + 1) w1 by simpa using g1)
 have HK1:=hid (show Kp rb (w.alloc (.cells zE 48)) w1 from g2)
 clear g1 g2
 go_wp2_with fail
 go_at_call 169
 refine (HP1.out _ G1.out).mono ?_
 rintro e w2 ⟨rfl,g1,g2⟩
 have G2:=hid g1
 have HK2:=hid (HK1.out.trans g2)
 have hs20:=HK2.out.size
 rw [World.size_alloc] at hs20
 clear g1 g2
 go_wp2_with fail
 go_at_call 237
 refine (HI.out _ G2.out).mono ?_
 rintro e w3 ⟨h1,k,t,n,a,A1,n1,c1,p,A2,n2,c2,j,rfl,h2,hj,h3⟩
 have hs3:=h1.size
 have HK3:=hid (HK2.out.trans h1)
 have H2:=hid h2
 have H3:=hid h3
 have hl3:=h2.lt
 have hs30:=HK3.out.size
 rw [World.size_alloc] at hs30
 clear h1 h2 h3
 unfold exV
 cases r with
 | none =>
  have hR:=HRR.out
  dsimp only at hR
  subst hR
  have hc:=BoxAt.kp HC0.out HK3.out (by omega)
  have hcl:=hc.lt
  have HC:=hid hc
  obtain ⟨q0,q1,q2,q3,q4,q5,q6,p0,p1,p2,p3,p4,p5,p6⟩:=cells7 hc
  have HKE:=hid (HK0.out.trans HK3.out)
  clear hc HPb HTb HTa HVs HP1 HT1 HI HK0 HK1 HK2 HK3 G1 G2 H3 HRR
  go_wp2
  exact end7w Tryz.results208 ((box_set7 HC.out _ _ _ _ _ _ _).alloc _) rfl rfl rfl (got_end ((HKE.out.set7 (Nat.le_refl _) hlt _ _ _ _ _ _ _).alloc (by rw [set7_size]; omega) _) ((H2.out.set7 (by omega) _ _ _ _ _ _ _).alloc _) hj rfl (fun x m h=>by cases h))
 | some em =>
  obtain ⟨e,j'⟩:=em
  obtain ⟨rfl,hx⟩:=H3.out e j' rfl
  have hR:=HRR.out
  dsimp only at hR
  obtain ⟨hf1,hf2⟩:=exF_fields hx
  rw [hf1,hf2] at hR
  have HX:=hid hx
  have hB4:=bl_ok s j' hj
  have hP4:=fun W h=>HPb.out j' W h hj
  obtain ⟨q4,hq4⟩ : ∃ q,bl s j' = q:=⟨_,rfl⟩
  have hP4' : ∀ W,Rd rb s j' W -> Calls Tryz.prog 169 #[.pointer (some ⟨rb,0,none⟩),.func (.func 131) #[] #[]] W fun e w'=>e = .returned (.string (s.extract j' q4)) /\ Rd rb s q4 w' /\ Kp rb W w':=by
   rw [<- hq4]; exact hP4
  rw [hq4] at hB4 hR
  have hT4:=fun W h=>HTb.out q4 W h hB4.2
  obtain ⟨b4,hb4⟩ : ∃ b,isAt s q4 125 = b:=⟨_,rfl⟩
  have hi4 : b4 = true -> q4 + 1 <= s.size:=fun h=>isAt_lt (hb4.trans h)
  rw [hb4] at hT4 hR
  have HP4:=hid hP4'
  have HT4:=hid hT4
  have Hi4:=hid hi4
  have HR4:=hid hR
  have HEb:=hid (BoxAt.new w3 #[.int .i64 k,.string t,.string n,.string a,.slice A1 n1 c1,.pointer p,.slice A2 n2 c2] 48)
  have KE : Kp rb w3 (w3.alloc (.cells #[.int .i64 k,.string t,.string n,.string a,.slice A1 n1 c1,.pointer p,.slice A2 n2 c2] 48)):=(Kp.refl rb w3).alloc (Nat.le_of_lt hl3) _
  have HKe:=hid (HK3.out.trans KE)
  have HKE:=hid KE
  clear hx hR hf1 hf2 hP4 hP4' hq4 hT4 hb4 hi4 HRR HPb HTb HT1 HP1 HI KE
  go_wp2_with fail
  go_at_call 169
  refine (HP4.out _ (H2.out.alloc _)).mono ?_
  rintro e4 w4 ⟨rfl,g1,g2⟩
  have G4:=hid g1
  have HK4:=hid g2
  clear g1 g2
  go_wp2_with fail
  go_at_call 236
  refine (HT4.out _ G4.out).mono ?_
  rintro e5 w5 ⟨rfl,g1,g2⟩
  have G5:=hid g1
  have K5:=HK4.out.trans g2
  have HK5:=hid K5
  have hK:=HKe.out.trans K5
  have hKw:=HK0.out.trans hK
  have he5:=BoxAt.kp HEb.out K5 (by omega)
  have hc5:=BoxAt.kp HC0.out hK (by omega)
  have hel:=he5.lt
  have hcl:=hc5.lt
  have HC5:=hid hc5
  have HE5:=hid he5
  have HKw:=hid hKw
  have Hs5:=hid (HKE.out.trans K5)
  clear g1 g2 K5 hK hKw HK4 HKe HT4 HP4
  obtain ⟨T,hT⟩ : ∃ T,((k == 4) && !emp a) = T:=⟨_,rfl⟩
  have HTm:=hid (fun W=>termsAttr_at k t n a A1 n1 c1 p A2 n2 c2 W)
  have HMm:=hid (fun W=>mayAsk_any k t n a A1 n1 c1 p A2 n2 c2 W)
  rw [hT] at HTm HMm HR4
  obtain ⟨M,hM⟩ : ∃ M,(decide (k = 0 ∨ k = 1 ∨ k = 2 ∨ k = 5) || T) = M:=⟨_,rfl⟩
  rw [hM] at HMm HR4
  clear hT hM
  unfold exV at HTm HMm
  obtain ⟨u0,u1,u2,u3,u4,u5,u6,v0,v1,v2,v3,v4,v5,v6⟩:=cells7 he5
  cases b4
  case true =>
   have hR:=HR4.out
   rw [if_pos rfl] at hR
   have Hm:=hid (Hi4.out rfl)
   have HR5:=hid hR
   clear hR HMm he5 hc5 HTa HVs
   obtain ⟨q0,q1,q2,q3,q4',q5,q6,p0,p1,p2,p3,p4,p5,p6⟩:=cells7 HC5.out
   have hne : w.heap.size ≠ w3.heap.size:=by omega
   have hne2 : w3.heap.size ≠ w.heap.size:=by omega
   go_wp2_with fail
   go_region_held3 (fun w'=>w'.cell? ⟨w3.heap.size,0,none⟩ = some (.int .i64 k) /\ w'.cell? ⟨w3.heap.size,1,none⟩ = some (.string t) /\ w'.cell? ⟨w3.heap.size,2,none⟩ = some (.string n) /\ w'.cell? ⟨w3.heap.size,3,none⟩ = some (.string a) /\ w'.cell? ⟨w3.heap.size,4,none⟩ = some (.slice A1 n1 c1) /\ w'.cell? ⟨w3.heap.size,5,none⟩ = some (.pointer p) /\ w'.cell? ⟨w3.heap.size,6,none⟩ = some (.slice A2 n2 c2))
    (first | go_keep)
    (first | (go_at_call 238; refine (HTm.out _).mono ?_; rintro e w' ⟨rfl,rfl⟩))
   have hl5:=G5.out.lt
   have G5c:=hid (show Rd rb s (q4 + 1) w5 by simpa using G5.out)
   clear q0 q1 q2 q3 q4' q5 q6 p0 p1 p2 p3 p4 p5 p6 u0 u1 u2 u3 u4 u5 u6 v0 v1 v2 v3 v4 v5 v6
   go_wp2
   have hR:=HR5.out
   subst hR
   refine end7w Tryz.results208 ((box_set7 HC5.out _ _ _ _ _ _ _).alloc _).drew rfl rfl rfl (got_end (((HKw.out.set7 (Nat.le_refl _) hlt _ _ _ _ _ _ _).alloc (by rw [set7_size]; omega) _).drew) (((G5c.out.set7 (by omega) _ _ _ _ _ _ _).alloc _).drew) Hm.out (by cases T <;> rfl) (fun x m h=>?_))
   cases T with
   | true=>cases h
   | false =>
    cases h
    refine ⟨rfl,ExF.carry (fun b hb=>?_) _ _ HX.out⟩
    obtain ⟨hb1,hb2⟩:=hb
    have hb3:=Hs5.out.others b hb2 (by omega)
    have hb5:=Hs5.out.size
    have hb4 : b < (set7 w5 w.heap.size (.int .i64 k) (.string t) (.string n) (.string a) (.slice A1 n1 c1) (.pointer p) (.slice A2 n2 c2)).heap.size:=by rw [set7_size]; omega
    exact ⟨⟨by omega,since_set7 _ hb4⟩,(heap_set7 _ (by omega) hb4).trans hb3⟩
  case false =>
   have hR:=HR4.out
   rw [if_neg (by simp)] at hR
   have G5b:=hid (show Rd rb s q4 w5 by simpa using G5.out)
   have hT5:=fun W h=>HTa.out q4 W h hB4.2
   obtain ⟨b5,hb5⟩ : ∃ b,(isAt s q4 45 && isAt s (q4 + 1) 62) = b:=⟨_,rfl⟩
   have hi5 : b5 = true -> q4 + 2 <= s.size:=fun h=>by rw [<- hb5,Bool.and_eq_true] at h; have:=isAt_lt h.2; omega
   rw [hb5] at hT5 hR
   have HT5:=hid hT5
   have Hi5:=hid hi5
   have HR5:=hid hR
   clear hT5 hb5 hi5 hR HTa HTm
   cases b5
   case false =>
    have hR:=HR5.out
    rw [Bool.false_and,if_neg (by simp)] at hR
    subst hR
    go_wp2_with fail
    go_at_call 236
    refine (HT5.out _ G5b.out).mono ?_
    rintro e6 w6 ⟨rfl,g1,g2⟩
    have G6:=hid (show Rd rb s q4 w6 by simpa using g1)
    have hc6:=BoxAt.kp HC5.out g2 (by omega)
    have hcl6:=hc6.lt
    have HK6:=hid (HKw.out.trans g2)
    have HC6:=hid hc6
    obtain ⟨q0,q1,q2,q3,q4',q5,q6,p0,p1,p2,p3,p4,p5,p6⟩:=cells7 hc6
    clear g1 g2 hc6
    go_wp2
    exact end7w Tryz.results208 (box_set7 HC6.out _ _ _ _ _ _ _) rfl rfl rfl (got_end (HK6.out.set7 (Nat.le_refl _) hlt _ _ _ _ _ _ _) (G6.out.set7 (by omega) _ _ _ _ _ _ _) hB4.2 rfl (fun x m h=>by cases h))
   have hR:=HR5.out
   rw [Bool.true_and] at hR
   have hm2:=Hi5.out rfl
   have HR6:=hid hR
   clear hR
   go_wp2_with fail
   go_at_call 236
   refine (HT5.out _ G5b.out).mono ?_
   rintro e6 w6 ⟨rfl,g1,g2⟩
   have G6:=hid (show Rd rb s (q4 + 2) w6 by simpa using g1)
   have hc6:=BoxAt.kp HC5.out g2 (by omega)
   have he6:=BoxAt.kp HE5.out g2 (by omega)
   have hcl6:=hc6.lt
   have hel6:=he6.lt
   have HK6:=hid (HKw.out.trans g2)
   have Hs6:=hid (Hs5.out.trans g2)
   have HC6:=hid hc6
   have HE6:=hid he6
   clear u0 u1 u2 u3 u4 u5 u6 v0 v1 v2 v3 v4 v5 v6
   obtain ⟨u0,u1,u2,u3,u4,u5,u6,v0,v1,v2,v3,v4,v5,v6⟩:=cells7 he6
   clear g1 g2 hc6 he6
   go_wp2_with fail
   go_at_call 239
   refine (HMm.out _).mono ?_
   rintro e7 w7 ⟨rfl,hb7⟩
   have hc7:=HC6.out.later hb7
   have he7:=HE6.out.later hb7
   have hcl7:=hc7.lt
   have hel7:=he7.lt
   have G7:=hid (G6.out.later hb7)
   have HK7:=hid (HK6.out.trans (Kp.of_below hb7 (by omega)))
   have Hs7:=hid (Hs6.out.trans (Kp.of_below hb7 (by omega)))
   have HC7:=hid hc7
   have HE7:=hid he7
   clear hb7 u0 u1 u2 u3 u4 u5 u6 v0 v1 v2 v3 v4 v5 v6
   cases M
   case false =>
    have hR:=HR6.out
    rw [if_neg (by simp)] at hR
    subst hR
    obtain ⟨q0,q1,q2,q3,q4',q5,q6,p0,p1,p2,p3,p4,p5,p6⟩:=cells7 hc7
    clear hc7 he7
    go_wp2
    exact end7w Tryz.results208 (box_set7 HC7.out _ _ _ _ _ _ _) rfl rfl rfl (got_end (HK7.out.set7 (Nat.le_refl _) hlt _ _ _ _ _ _ _) (G7.out.set7 (by omega) _ _ _ _ _ _ _) hm2 rfl (fun x m h=>by cases h))
   have hR:=HR6.out
   rw [if_pos rfl] at hR
   have hV:=fun W h=>HVs.out (q4 + 2) W h hm2
   obtain ⟨rv,hrv⟩ : ∃ r,selS P s (q4 + 2) = r:=⟨_,rfl⟩
   rw [hrv] at hV hR
   have HV:=hid hV
   have HR7:=hid hR
   clear hc7 he7 hV hrv hR HVs
   unfold pt at HV
   go_wp2_with fail
   go_at_call 240
   refine (HV.out _ G7.out).mono ?_
   rintro e8 w8 ⟨g1,A8,n8,c8,j8,rfl,g2,hj8,g3⟩
   have hc8:=BoxAt.kp HC7.out g1 (by omega)
   have he8:=BoxAt.kp HE7.out g1 (by omega)
   have hcl8:=hc8.lt
   have hel8:=he8.lt
   have HK8:=hid (HK7.out.trans g1)
   have Hs8:=hid (Hs7.out.trans g1)
   have hs78:=Hs7.out.size
   have HC8:=hid hc8
   have HE8:=hid he8
   have G8:=hid g2
   have H8:=hid g3
   obtain ⟨q0,q1,q2,q3,q4',q5,q6,p0,p1,p2,p3,p4,p5,p6⟩:=cells7 hc8
   clear g1 g2 g3 hc8 he8
   go_wp2
   have hR:=HR7.out
   refine end7w Tryz.results208 (box_set7 HC8.out _ _ _ _ _ _ _) rfl rfl rfl (got_end (HK8.out.set7 (Nat.le_refl _) hlt _ _ _ _ _ _ _) (G8.out.set7 (by omega) _ _ _ _ _ _ _) hj8 ?_ (fun x m h=>?_))
   ·rw [<- hR]
    cases rv with
    | none=>rfl
    | some v=>obtain ⟨vs,m⟩:=v; rfl
   ·cases rv with
    | none=>rw [<- hR] at h; cases h
    | some v =>
     obtain ⟨vs,m'⟩:=v
     rw [<- hR] at h
     cases h
     obtain ⟨h1,h2,h3⟩:=H8.out _ _ rfl
     have hs88:=Hs8.out.size
     refine ⟨h1,exF_sel (b:=w3.heap.size) ⟨by omega,by rw [setCell7_size]; exact hel8⟩ (cells_box (t:=48) ((setCell7_heap _ _ _ _ _ _ _ _ _ w3.heap.size (by omega)).trans HE8.out)) (ExF.carry (fun b hb=>?_) _ _ HX.out) ?_⟩
     ·obtain ⟨hb1,hb2⟩:=hb
      exact ⟨⟨by omega,by rw [setCell7_size]; omega⟩,(setCell7_heap _ _ _ _ _ _ _ _ _ b (by omega)).trans (Hs8.out.others b hb2 (by omega))⟩
     ·rw [h2]
      refine h3.imp (fun b o=>VsF.carry (fun b hb=>?_) _ _ _)
      obtain ⟨hb1,hb2⟩:=hb
      exact ⟨⟨by omega,by rw [setCell7_size]; exact hb2⟩,setCell7_heap _ _ _ _ _ _ _ _ _ b (by omega)⟩
def br3 : ByteArray:=⟨#[10,123,125]⟩
theorem br3_list : br3.data.toList = [10,123,125]:=rfl
def rune3 (r : Nat) : Int:=if r = 10 then 0 else if r = 123 then 1 else if r = 125 then 2 else -1
theorem txB_iff (c : UInt8) : txB c = true ↔ c.toNat ≠ 10 /\ c.toNat ≠ 123 /\ c.toNat ≠ 125:=by
 unfold txB
 rw [Bool.not_eq_true',Bool.or_eq_false_iff,Bool.or_eq_false_iff,beq_eq_false_iff_ne,beq_eq_false_iff_ne,beq_eq_false_iff_ne]
 have e : ∀ d : UInt8,c ≠ d ↔ c.toNat ≠ d.toNat:=fun d=>not_congr ⟨fun h=>by rw [h],fun h=>UInt8.toNat_inj.1 h⟩
 rw [e 10,e 123,e 125,and_assoc]
 rfl
theorem behN_skip (p : UInt8 -> Bool) (l : List UInt8) (k : Nat) : ∀ n,(∀ j,j < n -> ∃ h : k + j < l.length,p l[k + j] = true) -> behN p l k = behN p l (k + n)
 | 0,_=>rfl
 | n + 1,h=>by
  rw [behN_skip p l k n (fun j hj=>h j (by omega))]
  obtain ⟨h1,h2⟩:=h n (by omega)
  exact (behN_yes p l (k + n) h1 h2).symm
theorem tx_here (s : ByteArray) (pos : Nat) (hp : pos < s.size) (h : txB (s.data.toList[pos]'(by rw [size_data]; exact hp)) = false) : behN txB s.data.toList pos = pos:=by
 unfold behN
 rw [List.drop_eq_getElem_cons (by rw [size_data]; exact hp),List.takeWhile_cons,h]
 rfl
theorem tx_step (s : ByteArray) (pos : Nat) (hp : pos < s.size) (h : (Utf8.decode s pos).1 ≠ 10 /\ (Utf8.decode s pos).1 ≠ 123 /\ (Utf8.decode s pos).1 ≠ 125) : behN txB s.data.toList pos = behN txB s.data.toList (pos + (Utf8.decode s pos).2):=by
 refine behN_skip txB s.data.toList pos _ fun j hj=>?_
 by_cases h0 : j = 0
 ·subst h0
  refine ⟨by rw [size_data]; omega,?_⟩
  by_cases ha : (s[pos]'hp).toNat < 128
  ·rw [decode_ascii s pos hp ha] at h
   exact (txB_iff _).2 h
  ·have : (s.data.toList[pos + 0]'(by rw [size_data]; omega)).toNat = (s[pos]'hp).toNat:=rfl
   refine (txB_iff _).2 ⟨?_,?_,?_⟩ <;> omega
 ·have hc:=cont_high s pos j (by omega) hj
  refine ⟨by rw [size_data]; exact hc.1,?_⟩
  rw [get_bang s (pos + j) hc.1] at hc
  refine (txB_iff _).2 ⟨?_,?_,?_⟩ <;> omega
theorem tx_met (s : ByteArray) (pos : Nat) (hp : pos < s.size) (h : (Utf8.decode s pos).1 = 10 ∨ (Utf8.decode s pos).1 = 123 ∨ (Utf8.decode s pos).1 = 125) : behN txB s.data.toList pos = pos:=by
 have ha : (s[pos]'hp).toNat < 128:=by
  rcases Nat.lt_or_ge (s[pos]'hp).toNat 128 with h1 | h1
  ·exact h1
  ·have:=(decode_high s pos hp h1).1
   omega
 refine tx_here s pos hp ?_
 rw [decode_ascii s pos hp ha] at h
 rw [Bool.eq_false_iff]
 intro hb
 have:=(txB_iff _).1 hb
 have e : (s.data.toList[pos]'(by rw [size_data]; exact hp)).toNat = (s[pos]'hp).toNat:=rfl
 rw [e] at this
 omega
theorem index_three (r : Nat) (h : r < 128) : Lib.indexByte [10,123,125] ((r : Int).toNat.toUInt8) = rune3 r:=by
 have h1 : ((r : Int).toNat.toUInt8).toNat = r:=by
  rw [Int.toNat_natCast]
  show r % 256 = r
  omega
 generalize (r : Int).toNat.toUInt8 = c at h1
 subst h1
 unfold rune3
 by_cases e0 : c = 10
 ·subst e0; rfl
 by_cases e1 : c = 123
 ·subst e1; rfl
 by_cases e2 : c = 125
 ·subst e2; rfl
 ·have n0 : ¬ c.toNat = 10:=fun e=>e0 (UInt8.toNat_inj.1 e)
  have n1 : ¬ c.toNat = 123:=fun e=>e1 (UInt8.toNat_inj.1 e)
  have n2 : ¬ c.toNat = 125:=fun e=>e2 (UInt8.toNat_inj.1 e)
  rw [if_neg n0,if_neg n1,if_neg n2]
  have m0 : ((10 : UInt8) == c) = false:=by simpa using fun e : 10 = c=>e0 e.symm
  have m1 : ((123 : UInt8) == c) = false:=by simpa using fun e : 123 = c=>e1 e.symm
  have m2 : ((125 : UInt8) == c) = false:=by simpa using fun e : 125 = c=>e2 e.symm
  simp [Lib.indexByte,m0,m1,m2]
theorem enc_form3 (r : Nat) (h : 128 <= r) : 2 <= (Utf8.encode (r : Int)).size /\ (Utf8.encode (r : Int)).size <= 4 /\ (∀ x,(Utf8.encode (r : Int)).data.toList[(Utf8.encode (r : Int)).size - 1]? = some x -> 128 <= x.toNat):=by
 obtain ⟨c,hc,he⟩ : ∃ c : Nat,128 <= c /\ Utf8.encode (r : Int) = (if c < 0x80 then ⟨#[UInt8.ofNat c]⟩ else if c < 0x800 then ⟨#[UInt8.ofNat (0xC0 + c / 64),UInt8.ofNat (0x80 + c % 64)]⟩ else if c < 0x10000 then ⟨#[UInt8.ofNat (0xE0 + c / 4096),UInt8.ofNat (0x80 + c / 64 % 64),UInt8.ofNat (0x80 + c % 64)]⟩
   else ⟨#[UInt8.ofNat (0xF0 + c / 262144),UInt8.ofNat (0x80 + c / 4096 % 64),UInt8.ofNat (0x80 + c / 64 % 64),UInt8.ofNat (0x80 + c % 64)]⟩):=by
  refine ⟨if Utf8.valid (r : Int) then (r : Int).toNat else Utf8.runeError,?_,rfl⟩
  split
  ·rw [Int.toNat_natCast]; exact h
  ·unfold Utf8.runeError; omega
 rw [he]
 have hl : ∀ x : UInt8,some (UInt8.ofNat (0x80 + c % 64)) = some x -> 128 <= x.toNat:=fun x hx=>by
  cases hx
  rw [UInt8.toNat_ofNat']
  omega
 by_cases h1 : c < 0x80
 ·omega
 rw [if_neg h1]
 by_cases h2 : c < 0x800
 ·rw [if_pos h2]
  exact ⟨Nat.le_refl 2,by show 2 <= 4; omega,fun x hx=>hl x hx⟩
 rw [if_neg h2]
 by_cases h3 : c < 0x10000
 ·rw [if_pos h3]
  exact ⟨by show 2 <= 3; omega,by show 3 <= 4; omega,fun x hx=>hl x hx⟩
 ·rw [if_neg h3]
  exact ⟨by show 2 <= 4; omega,by show 4 <= 4; omega,fun x hx=>hl x hx⟩
set_option maxHeartbeats 4000000 in
set_option maxRecDepth 1000000 in
theorem rune_err3 (w : World) : Calls Tryz.prog 206 #[.string br3,.int .i32 65533] w fun e w'=>e = .returned (.int .i64 (-1)) /\ Below w.heap.size w w':=by
 have hsz : br3.size = 3:=by decide
 have Hsz:=hid hsz
 clear hsz
 go_enter Tryz.func206,Tryz.ntmps206
 go_wp2
 go_loopw [] (fun wr=>∃ pos : Nat,wr.heap[w.heap.size]? = some (.stringIter br3 pos) /\ Hid (Below w.heap.size w wr) /\ pos <= 3) (fun wr=>3 - wr.iterPos w.heap.size)
 case atStart=>exact ⟨0,World.iter_heap w br3 0,(Below.refl _ w).alloc (Nat.le_refl _) _,by omega⟩
 case round =>
  obtain ⟨pos,hit,Hb,hp2⟩:=hrel
  have hsz : w.heap.size < wr.heap.size:=(Array.getElem?_eq_some_iff.1 hit).1
  by_cases hp : pos < 3
  ·have hpz : pos < br3.size:=by rw [Hsz.out]; exact hp
   have hnx : ∀ ty,(Instr.next (.pointer (some ⟨w.heap.size,0,none⟩)) true ty).run Tryz.prog wr = _:=fun ty=>Lib.run_next_any_at wr w.heap.size br3 pos ty hit hpz
   have hd : (Utf8.decode br3 pos).2 = 1 /\ (Utf8.decode br3 pos).1 < 128:=by
    rcases (by omega : pos = 0 ∨ pos = 1 ∨ pos = 2) with rfl | rfl | rfl <;> decide
   have hit2:=Lib.iterAt_heap wr w.heap.size br3 pos (pos + (Utf8.decode br3 pos).2) hit
   have hb2:=Lib.below_iterAt Hb.out (k:=w.heap.size) (by omega) br3 (pos + (Utf8.decode br3 pos).2)
   have hz : (((Utf8.decode br3 pos).1 : Int) == 65533) = false:=by rw [beq_eq_false_iff_ne]; omega
   have Hd:=hid hd
   have Hb2:=hid hb2
   have Hit:=hid hit
   have Hit2:=hid hit2
   clear hd hb2 hit hit2
   go_wp2
   go_roundw
   case rel=>exact ⟨pos + (Utf8.decode br3 pos).2,Hit2.out,Hb2.out,by have:=Hd.out.1; omega⟩
   case measure =>
    simp only [World.iterPos,Hit2.out,Hit.out]
    have:=Hd.out.1
    omega
  ·have hnx : ∀ ty,(Instr.next (.pointer (some ⟨w.heap.size,0,none⟩)) true ty).run Tryz.prog wr = _:=fun ty=>Lib.run_next_end_at wr w.heap.size br3 pos ty hit (by rw [Hsz.out]; omega)
   go_wp2
   go_ret
   exact ⟨rfl,Hb.out⟩
set_option maxHeartbeats 4000000 in
set_option maxRecDepth 1000000 in
theorem rune_far3 (r : Nat) (h : 128 <= r) (hr : r <= 1114111) (he : r ≠ 65533) (w : World) : Calls Tryz.prog 206 #[.string br3,.int .i32 r] w fun e w'=>e = .returned (.int .i64 (-1)) /\ Below w.heap.size w w':=by
 have hz1 : decide ((0 : Int) <= (r : Int)) = true:=decide_eq_true (by omega)
 have hz2 : decide ((r : Int) < 128) = false:=decide_eq_false (by omega)
 have hz2' : decide (r < 128) = false:=decide_eq_false (by omega)
 have hz3 : ((r : Int) == 65533) = false:=beq_eq_false_iff_ne.2 (by omega)
 have hrz : (r : Int) <= 1114111:=by omega
 have hV:=fun W=>Tryz.utf8_ValidRune (r : Int) W
 obtain ⟨v,hv⟩ : ∃ v,Lib.validRune (r : Int) = v:=⟨_,rfl⟩
 rw [hv] at hV
 have HV:=hid hV
 clear hV hv
 obtain ⟨hs2,hs4,hs1⟩:=enc_form3 r h
 obtain ⟨E,hE⟩ : ∃ E,Utf8.encode (r : Int) = E:=⟨_,rfl⟩
 rw [hE] at hs2 hs4 hs1
 have H1:=hid hs1
 clear hs1
 cases v
 case false =>
  clear hE
  go_enter Tryz.func206,Tryz.ntmps206
  go_wp2_with fail
  go_at_call 235
  refine (HV.out _).mono ?_
  rintro e w' ⟨rfl,rfl⟩
  go_wp2
  go_ret
  exact ⟨rfl,Below.refl _ _⟩
 go_enter Tryz.func206,Tryz.ntmps206
 go_wp2_with fail
 go_at_call 235
 refine (HV.out _).mono ?_
 rintro e w' ⟨rfl,rfl⟩
 go_wp2
 go_step3
 go_wp2
 have hbs : br3.size = 3:=by decide
 have Hbs:=hid hbs
 clear hbs hE
 go_loopg [9] 1 (fun g s9 wr=>s9 = .int .i64 ((E.size : Int) - 1) /\ wr = w')
 case atStart=>exact ⟨rfl,rfl⟩
 case round =>
  obtain ⟨rfl,rfl⟩:=hrel
  by_cases h2 : E.size = 2
  ·have e1 : (E.size : Int) - 1 = 1:=by omega
   rw [e1]
   have h1z : decide ((1 : Int) < (br3.size : Int)) = true:=decide_eq_true (by rw [Hbs.out]; decide)
   have hlt1 : (1 : Int) < (br3.size : Int):=by rw [Hbs.out]; decide
   have hlt1n : 1 < br3.size:=by rw [Hbs.out]; decide
   have hlt2 : (1 : Int) < (E.size : Int):=by omega
   have hlt2n : 1 < E.size:=by omega
   have hne : ((br3[1].toNat : Int) != (E[1].toNat : Int)) = true:=by
    have hx:=H1.out E[1] (by rw [show E.size - 1 = 1 by omega,List.getElem?_eq_getElem (by rw [size_data]; exact hlt2n)]; rfl)
    have hy : br3[1].toNat = 123:=rfl
    rw [bne_iff_ne,hy]
    omega
   have hx1:=H1.out E[1] (by rw [show E.size - 1 = 1 by omega,List.getElem?_eq_getElem (by rw [size_data]; exact hlt2n)]; rfl)
   have hib : ∀ (W : World),Calls Tryz.prog 90 #[.string (br3.extract 2 br3.size),.int .u8 (E[1].toNat : Nat)] W fun e W'=>e = .returned (.int .i64 (-1)) /\ W' = W:=fun W=>(Tryz.strings_IndexByte (br3.extract 2 br3.size) (E[1].toNat : Int) W).mono fun e W' h=>⟨by
    rw [h.1,extract_drop,br3_list]
    have : Lib.indexByte [125] ((E[1].toNat : Int).toNat.toUInt8) = -1:=by
     have m2 : ¬ (125 : UInt8) = E[1]:=fun e=>by
      have:=hx1
      rw [<- e] at this
      exact absurd this (by decide)
     simp [Lib.indexByte,m2]
    rw [show List.drop 2 [10,123,125] = [(125 : UInt8)] from rfl,this],h.2⟩
   have HIB:=hid hib
   have H2:=hid h2
   clear h2 e1 hib hx1
   go_wp2
   go_step3
   go_wp2
   go_region
   go_wp2
   go_quiet ((go_at_call 90; exact (HIB.out _).mono fun _ _ h=>⟨h.1,_,h.2⟩))
   go_wp2
   rw [Exit.noGoto_ret]
   go_wp2
   rw [Exit.noGoto_ret]
   go_wp2
   go_ret
   exact ⟨rfl,Go.below_drewN (Below.refl _ _) _⟩
  by_cases h3 : E.size = 3
  ·have e1 : (E.size : Int) - 1 = 2:=by omega
   rw [e1]
   have h1z : decide ((2 : Int) < (br3.size : Int)) = true:=decide_eq_true (by rw [Hbs.out]; decide)
   have hlt1 : (2 : Int) < (br3.size : Int):=by rw [Hbs.out]; decide
   have hlt1n : 2 < br3.size:=by rw [Hbs.out]; decide
   have hlt2 : (2 : Int) < (E.size : Int):=by omega
   have hlt2n : 2 < E.size:=by omega
   have hne : ((br3[2].toNat : Int) != (E[2].toNat : Int)) = true:=by
    have hx:=H1.out E[2] (by rw [show E.size - 1 = 2 by omega,List.getElem?_eq_getElem (by rw [size_data]; exact hlt2n)]; rfl)
    have hy : br3[2].toNat = 125:=rfl
    rw [bne_iff_ne,hy]
    omega
   have hib : ∀ (x : Int) (W : World),Calls Tryz.prog 90 #[.string (br3.extract 3 br3.size),.int .u8 x] W fun e W'=>e = .returned (.int .i64 (-1)) /\ W' = W:=fun x W=>(Tryz.strings_IndexByte (br3.extract 3 br3.size) x W).mono fun e W' h=>⟨by rw [h.1,extract_drop]; rfl,h.2⟩
   have HIB:=hid hib
   have H2:=hid h3
   clear h3 h2 e1 hib
   go_wp2
   go_step3
   go_wp2
   go_region
   go_wp2
   go_quiet ((go_at_call 90; exact (HIB.out _ _).mono fun _ _ h=>⟨h.1,_,h.2⟩))
   go_wp2
   rw [Exit.noGoto_ret]
   go_wp2
   rw [Exit.noGoto_ret]
   go_wp2
   go_ret
   exact ⟨rfl,Go.below_drewN (Below.refl _ _) _⟩
  ·have hb2 : (br3.size : Int) = 3:=by rw [Hbs.out]; rfl
   have h1z : decide ((E.size : Int) - 1 < (br3.size : Int)) = false:=decide_eq_false (by omega)
   have hlt1 : ¬ (E.size : Int) - 1 < (br3.size : Int):=by omega
   clear hb2
   go_wp2
   go_ret
   exact ⟨rfl,Below.refl _ _⟩
theorem rune_any3 (r : Nat) (hr : r <= 1114111) (w : World) : Calls Tryz.prog 206 #[.string br3,.int .i32 r] w fun e w'=>e = .returned (.int .i64 (rune3 r)) /\ Below w.heap.size w w':=by
 by_cases h : r < 128
 ·have:=Tryz.strings_IndexRune_ascii br3 (r : Int) w (by omega) (by omega)
  rw [br3_list,index_three r h] at this
  exact this.mono fun e w' h=>⟨h.1,by rw [h.2]; exact Below.refl _ _⟩
 ·have e : rune3 r = -1:=by unfold rune3; rw [if_neg (by omega),if_neg (by omega),if_neg (by omega)]
  rw [e]
  by_cases he : r = 65533
  ·subst he; exact rune_err3 w
  ·exact rune_far3 r (by omega) hr he w
def txI (s : ByteArray) : Int:=if behN txB s.data.toList 0 < s.size then (behN txB s.data.toList 0 : Nat) else -1
set_option maxHeartbeats 4000000 in
set_option maxRecDepth 1000000 in
theorem indexAny_short3 (s : ByteArray) (hs : s.size <= 8) (w : World) : Calls Tryz.prog 203 #[.string s,.string br3] w fun e w'=>e = .returned (.int .i64 (txI s)) /\ Below w.heap.size w w':=by
 have hem : br3.toList.isEmpty = false:=by rw [Lib.toList_data]; rfl
 have hb2 : br3.size = 3:=by decide
 have hn1 : ((br3.size : Int) == 1) = false:=beq_eq_false_iff_ne.2 (by rw [hb2]; decide)
 have Hb2:=hid hb2
 have hU : ∀ W,Calls Tryz.prog 232 #[.int .i64 (s.size : Nat)] W fun e w'=>e = .returned (.bool false) /\ w' = W:=fun W=>by
  have:=Tryz.strings_shouldUseASCIISet (s.size : Int) W
  rw [decide_eq_false (by omega)] at this
  exact this
 have HU:=hid hU
 clear hb2 hU
 obtain ⟨ANS,hANS⟩ : ∃ b,txI s = b:=⟨_,rfl⟩
 rw [hANS]
 have HA:=hid hANS
 clear hANS
 go_enter Tryz.func203,Tryz.ntmps203
 go_wp2_with fail
 go_at_call 232
 refine (HU.out _).mono ?_
 rintro e w' ⟨rfl,rfl⟩
 go_wp2
 go_loopw [] (fun wr=>∃ pos : Nat,wr.heap[w'.heap.size]? = some (.stringIter s pos) /\ Hid (Below w'.heap.size w' wr) /\ Hid (behN txB s.data.toList 0 = behN txB s.data.toList pos)) (fun wr=>s.size - wr.iterPos w'.heap.size)
 case atStart=>exact ⟨0,World.iter_heap w' s 0,(Below.refl _ w').alloc (Nat.le_refl _) _,rfl⟩
 case round =>
  obtain ⟨pos,hit,Hb,Hans⟩:=hrel
  have hsz : w'.heap.size < wr.heap.size:=(Array.getElem?_eq_some_iff.1 hit).1
  by_cases hp : pos < s.size
  ·have hnx : ∀ ty,(Instr.next (.pointer (some ⟨w'.heap.size,0,none⟩)) true ty).run Tryz.prog wr = _:=fun ty=>Lib.run_next_any_at wr w'.heap.size s pos ty hit hp
   have hit2:=Lib.iterAt_heap wr w'.heap.size s pos (pos + (Utf8.decode s pos).2) hit
   have hb2:=Lib.below_iterAt Hb.out (k:=w'.heap.size) (by omega) s (pos + (Utf8.decode s pos).2)
   have hR:=fun W=>rune_any3 (Utf8.decode s pos).1 (Lib.rune_le s pos) W
   have hwd:=Lib.width_pos s pos
   have hst:=tx_step s pos hp
   have hhr:=tx_met s pos hp
   have hpz : (0 : Int) <= (pos : Int):=by omega
   have hpz2 : (pos : Int) <= 8:=by omega
   have Hst:=hid hst
   have Hhr:=hid hhr
   have HR:=hid hR
   have Hb2':=hid hb2
   have Hit2:=hid hit2
   have Hit:=hid hit
   have Hwd:=hid hwd
   clear hst hhr hR hb2 hit2 hit hwd
   by_cases hbr : (Utf8.decode s pos).1 = 10 ∨ (Utf8.decode s pos).1 = 123 ∨ (Utf8.decode s pos).1 = 125
   ·have hge : decide ((0 : Int) <= rune3 (Utf8.decode s pos).1) = true:=by
     unfold rune3
     rcases hbr with h | h | h <;> rw [h] <;> decide
    have hge2 : (0 : Int) <= rune3 (Utf8.decode s pos).1:=of_decide_eq_true hge
    have Hbr:=hid hbr
    clear hbr
    go_wp2_with fail
    go_at_call 206
    refine (HR.out _).mono ?_
    rintro e w2 ⟨rfl,hbw⟩
    have HB:=hid (Hb2'.out.trans (hbw.mono Hb2'.out.size))
    clear hbw
    go_wp2
    go_ret
    refine ⟨?_,HB.out⟩
    have h1:=Hans.out.trans (Hhr.out Hbr.out)
    rw [<- HA.out]
    unfold txI
    rw [h1,if_pos hp]
    rfl
   ·have hge : decide ((0 : Int) <= rune3 (Utf8.decode s pos).1) = false:=by
     unfold rune3
     rw [if_neg (fun h=>hbr (.inl h)),if_neg (fun h=>hbr (.inr (.inl h))),if_neg (fun h=>hbr (.inr (.inr h)))]; decide
    have hge2 : ¬ (0 : Int) <= rune3 (Utf8.decode s pos).1:=of_decide_eq_false hge
    have hnb:=Hst.out ⟨fun h=>hbr (.inl h),fun h=>hbr (.inr (.inl h)),fun h=>hbr (.inr (.inr h))⟩
    have Hnb:=hid hnb
    clear hbr hnb
    go_wp2_with fail
    go_at_call 206
    refine (HR.out _).mono ?_
    rintro e w2 ⟨rfl,hbw⟩
    have HB:=hid (Hb2'.out.trans (hbw.mono Hb2'.out.size))
    have hit3 : w2.heap[w'.heap.size]? = some (.stringIter s (pos + (Utf8.decode s pos).2)):=(hbw.block _ (Array.getElem?_eq_some_iff.1 Hit2.out).1).trans Hit2.out
    have Hit3:=hid hit3
    clear hbw hit3
    go_wp2
    go_roundw
    case rel=>exact ⟨pos + (Utf8.decode s pos).2,Hit3.out,HB.out,Hans.out.trans Hnb.out⟩
    case measure =>
     simp only [World.iterPos,Hit3.out,Hit.out]
     have:=Hwd.out
     omega
  ·have hnx : ∀ ty,(Instr.next (.pointer (some ⟨w'.heap.size,0,none⟩)) true ty).run Tryz.prog wr = _:=fun ty=>Lib.run_next_end_at wr w'.heap.size s pos ty hit hp
   go_wp2
   go_ret
   refine ⟨?_,Hb.out⟩
   have h1:=behN_ge txB s.data.toList pos
   rw [<- HA.out]
   unfold txI
   rw [Hans.out,if_neg (by omega)]
   rfl
theorem txI_idx (s : ByteArray) : txI s = Lib.indexAny s.data.toList [10,123,125]:=by
 rw [idxAny_tw]
 have e : (fun c : UInt8=>!([10,123,125] : List UInt8).contains c) = txB:=by
  funext c
  unfold txB
  rw [List.contains_cons,List.contains_cons,List.contains_cons,List.contains_nil,Bool.or_false,Bool.or_assoc]
 rw [e]
 unfold txI behN
 rw [List.drop_zero,Nat.zero_add,size_data]
theorem indexAny_any3 (s : ByteArray) (hs : s.size <= 4000000000) (w : World) : Calls Tryz.prog 203 #[.string s,.string ⟨#[10,123,125]⟩] w fun e w'=>e = .returned (.int .i64 (Lib.indexAny s.data.toList [10,123,125])) /\ Below w.heap.size w w':=by
 by_cases h8 : s.size <= 8
 ·rw [<- txI_idx]
  exact indexAny_short3 s h8 w
 ·have hz:=(zero_of_info (P:=Tryz.prog) (t:=234) (v:=.agg (Array.replicate 256 (.bool false))) (n:=256) (by kernel_rfl)).1
  have:=Tryz.strings_IndexAny_long hz s br3 w (by decide) (by omega) (by omega) (by decide) (by
   intro j b hj
   rw [br3_list] at hj
   have : j < 3:=(List.getElem?_eq_some_iff.1 hj).1
   match j,hj with
   | 0,hj=>simp at hj; subst hj; decide
   | 1,hj=>simp at hj; subst hj; decide
   | 2,hj=>simp at hj; subst hj; decide)
  refine this.mono ?_
  rintro e w' ⟨rfl,rfl⟩
  exact ⟨rfl,((Below.refl _ _).alloc (Nat.le_refl _) _).alloc (by simp) _⟩
theorem endTextAny {s : ByteArray} : EndFn 207 tx s:=endText_of fun x W h=>indexAny_any3 x h W
theorem infoL : (Tryz.prog.info? 50).map (fun i=>(i.zero,i.size,i.bytes)) = some (some (.agg #[.string ⟨#[]⟩,.pointer none]),2,24):=by kernel_rfl
def EZip (W : World) (F : Nat -> Prop) : List EL -> List Value -> Prop
 | [],xs=>xs = []
 | .mk t p :: r,xs=>∃ u ys,xs = .string t :: u :: ys /\ OF W F p u /\ EZip W F r ys
theorem EZip.snoc {W : World} {F : Nat -> Prop} {t : ByteArray} {p : Option EX} {u : Value} (hp : OF W F p u) : ∀ (acc : List EL) (xs : List Value),EZip W F acc xs -> EZip W F (acc ++ [.mk t p]) (xs ++ [.string t,u])
 | [],xs,h=>by
  rw [EZip] at h
  subst h
  exact ⟨u,[],rfl,hp,rfl⟩
 | .mk t' p' :: r,xs,h=>by
  rw [EZip] at h
  obtain ⟨u',ys,rfl,h2,h3⟩:=h
  exact ⟨u',_,rfl,h2,EZip.snoc hp r ys h3⟩
theorem EZip.carry {W W' : World} {F F' : Nat -> Prop} (g : ∀ b,F b -> F' b /\ W'.heap[b]? = W.heap[b]?) : ∀ (acc : List EL) (xs : List Value),EZip W F acc xs -> EZip W' F' acc xs
 | [],xs,h=>by rw [EZip] at h ⊢; exact h
 | .mk t' p' :: r,xs,h=>by
  rw [EZip] at h
  obtain ⟨u',ys,rfl,h2,h3⟩:=h
  exact ⟨u',ys,rfl,h2.carry g,EZip.carry g r ys h3⟩
theorem EZip.es {W : World} {F : Nat -> Prop} {g : Nat} (hg : F g) : ∀ (acc : List EL) (xs : List Value) (o : Nat),(∀ j x,xs[j]? = some x -> W.cell? ⟨g,o + j,none⟩ = some x) -> EZip W F acc xs -> EsF W F acc g o
 | [],xs,o,hc,h=>by rw [EsF]; trivial
 | .mk t' p' :: r,xs,o,hc,h=>by
  rw [EZip] at h
  obtain ⟨u',ys,rfl,h2,h3⟩:=h
  rw [EsF]
  refine ⟨hg,hc 0 _ rfl,⟨_,hc 1 _ rfl,h2⟩,EZip.es hg r ys (o + 2) (fun j x hx=>?_) h3⟩
  have:=hc (j + 2) x (by simpa using hx)
  rw [show o + 2 + j = o + (j + 2) by omega]
  exact this
def OwnE (B : Nat) (W : World) (v : Value) (acc : List EL) : Prop:=∃ xs,W.ownsRow B 50 2 v acc.length xs /\ EZip W (OwnSet B W v) acc xs
theorem OwnE.nil (B : Nat) (W : World) : OwnE B W (.slice none 0 0) []:=⟨[],World.ownsRow_nil _ _ _ _,rfl⟩
theorem OwnE.kp {rb B : Nat} {W W' : World} {v : Value} {acc : List EL} (h : OwnE B W v acc) (g : Kp rb W W') (hrb : rb < B) : OwnE B W' v acc:=by
 obtain ⟨xs,h1,h2⟩:=h
 refine ⟨xs,h1.kept g.grownBy (.inr (fun e=>by have:=(h1.lt rb e).1; omega)),EZip.carry (fun b hb=>?_) _ _ h2⟩
 obtain ⟨⟨hb1,hb2⟩,hb3⟩:=hb
 exact ⟨⟨⟨hb1,Nat.lt_of_lt_of_le hb2 g.size⟩,hb3⟩,g.others b hb2 (by omega)⟩
theorem OwnE.below {B : Nat} {W W' : World} {v : Value} {acc : List EL} (h : OwnE B W v acc) (g : Below W.heap.size W W') : OwnE B W' v acc:=by
 obtain ⟨xs,h1,h2⟩:=h
 refine ⟨xs,h1.kept (⟨g.os,g.tape,g.output,g.size,fun k hk _=>g.block k hk⟩ : W.grownBy W' none) (by by_cases h : v.ownBlock = none; exact .inl h; exact .inr h),EZip.carry (fun b hb=>?_) _ _ h2⟩
 obtain ⟨⟨hb1,hb2⟩,hb3⟩:=hb
 exact ⟨⟨⟨hb1,Nat.lt_of_lt_of_le hb2 g.size⟩,hb3⟩,g.block b hb2⟩
theorem OwnE.more {B : Nat} {W W' : World} {v v' : Value} {acc : List EL} {xs : List Value} {t : ByteArray} {p : Option EX} {u : Value} (h2 : EZip W (OwnSet B W v) acc xs)
  (ho : W'.ownsRow B 50 2 v' (acc.length + 1) (xs ++ [.string t,u])) (hg : W.grownBy W' v.ownBlock) (hw : v'.ownBlock = v.ownBlock ∨ v'.ownBlock = some W.heap.size) (hp : OF W (OwnSet B W v) p u) :
  OwnE B W' v' (acc ++ [.mk t p]):=by
 refine ⟨_,by rw [List.length_append]; exact ho,?_⟩
 have g : ∀ b,OwnSet B W v b -> OwnSet B W' v' b /\ W'.heap[b]? = W.heap[b]?:=fun b hb=>by
  obtain ⟨⟨hb1,hb2⟩,hb3⟩:=hb
  refine ⟨⟨⟨hb1,Nat.lt_of_lt_of_le hb2 hg.size⟩,?_⟩,hg.block b hb2 hb3⟩
  rcases hw with e | e
  ·rw [e]; exact hb3
  ·rw [e]; intro e2; have:=Option.some.inj e2; omega
 exact EZip.carry g _ _ (EZip.snoc hp acc xs h2)
theorem OwnE.pat {B : Nat} {W : World} {v : Value} {acc : List EL} (h : OwnE B W v acc) : ∃ A c,v = .slice A acc.length c /\ PatF W (Since B W) acc v:=by
 obtain ⟨xs,h1,h2⟩:=h
 rcases h1.2 with ⟨rfl,h0⟩ | ⟨g,cap,cur,rfl,hb,hg,hc1,hc2,hcs,htk⟩
 ·have : acc = []:=List.eq_nil_of_length_eq_zero h0
  subst this
  exact ⟨none,0,rfl,none,0,rfl,Nat.le_refl _,Nat.zero_le _,fun h=>absurd h (by simp)⟩
 ·refine ⟨_,_,rfl,_,_,rfl,hc1,hc2,fun _=>⟨g,0,rfl,EZip.es ⟨hb,(Array.getElem?_eq_some_iff.1 hg).1⟩ acc xs 0 (fun j x hx=>?_) (EZip.carry (fun b hb=>⟨hb.1,rfl⟩) _ _ h2)⟩⟩
  have:=h1.cells (g:=g) rfl j x hx
  rw [Addr.add_mid] at this
  exact this
theorem ownE_push {rb B : Nat} {w1 W2 W3 : World} {v v' : Value} {acc : List EL} {xs : List Value} {t : ByteArray} {p : Option EX} {u : Value} (hrb : rb < B) (K : Kp rb w1 W2) (hz : EZip w1 (OwnSet B w1 v) acc xs) (hp : OF W2 (OwnSet B W2 v) p u)
  (ho : W3.ownsRow B 50 2 v' (acc.length + 1) (xs ++ [.string t,u])) (hg : W2.grownBy W3 v.ownBlock) (hw : v'.ownBlock = v.ownBlock ∨ v'.ownBlock = some W2.heap.size) : OwnE B W3 v' (acc ++ [.mk t p]):=by
 refine OwnE.more (EZip.carry (fun b hb=>?_) _ _ hz) ho hg hw hp
 obtain ⟨⟨hb1,hb2⟩,hb3⟩:=hb
 exact ⟨⟨⟨hb1,Nat.lt_of_lt_of_le hb2 K.size⟩,hb3⟩,K.others b hb2 (by omega)⟩
def GotPs (rb : Nat) (s : ByteArray) (w : World) (r : Option (List EL × Nat)) (e : Ending) (w' : World) : Prop :=
 Kp rb w w' /\ ∃ (A : Option Addr) (n c j : Nat),e = .returned (.tuple #[.slice A n c,.bool r.isSome]) /\ Rd rb s j w' /\ j <= s.size /\
  ∀ l m,r = some (l,m) -> m = j /\ l.length = n /\ n <= j /\ PatF w' (Since w.heap.size w') l (.slice A n c)
end Go.Proofs.YtgdkpamlkpncgaaGreatDoor
