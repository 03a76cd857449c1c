/-
  Several texts put together (part 27): what the law and the program call, walked; their contracts.
-/
import Derived.Test.YtgdkpamlkpncgaaGreatDoorR20
import Derived.Test.YtgdkpamlkpncgaaGreatDoorR12
import Derived.Test.YtgdkpamlkpncgaaGreatDoorR5
import Derived.Lib.OthersKept
import Derived.Lib.OwnKind
import Derived.Lib.Builder
import Derived.WalkSmall
import Derived.OneCell
import Derived.Laws.EntriesVeiled
import Derived.Lib.ValidU
import Derived.Laws.RangeAny
import Derived.Laws.RangeString
import Derived.Lib.TrimU
import Derived.WalkMore
import Derived.Deep.LoopGhost
import Derived.Deep.QuietTactic
import Derived.BigQuiet
import Derived.Lib.TrimUEq
import Derived.Deep.DeepCutAuto
import Derived.Maps.Own
import Derived.Maps.OwnOps
import Derived.Maps.OwnSet
import Derived.Maps.Views
import Derived.WideMake
import Derived.StillTailTactics
import Derived.Deep.RegionHeld3
import Derived.Test.YtgdkpamlkpncgaaGreatDoorR25
namespace Go.Proofs.YtgdkpamlkpncgaaGreatDoor
open Go.RowKit
open _root_.Go.Lib (hid)
set_option linter.unusedVariables false
set_option linter.unusedSimpArgs false
-- from Act0
def CntTo (W0 : World) (e : EX) : Prop:=∀ (w : World) (c : C7) (m : Int),ExAt W0 e c -> Below W0.heap.size W0 w ->
 Calls Tryz.prog 53 #[.agg c.arr,.int .i64 m] w fun r w'=>(∃ n : Nat,r = .returned (.int .i64 n) /\ n <= e.size) /\ Below w.heap.size w w'
-- from Act
set_option maxHeartbeats 4000000 in
set_option maxRecDepth 1000000 in
theorem cntIn_any {W0 : World} (l : List EL) {v : Value} (hv : PatAt W0 l v) (hsz : sizeEs l <= 4000000) (hP : ∀ t e,EL.mk t (some e) ∈ l -> CntTo W0 e) (m : Int) (w : World) (hW : Below W0.heap.size W0 w) :
  Calls Tryz.prog 32 #[v,.int .i64 m] w fun e w'=>(∃ n : Nat,e = .returned (.int .i64 n) /\ n <= sizeEs l) /\ Below w.heap.size w w':=by
 have hv':=hv
 obtain ⟨A,c,rfl,hc1,hc2,_⟩:=hv'
 have HV:=hid hv
 have hlen : (l.length : Int) <= 4000000:=by have:=sizeEs_length l; omega
 have HP:=hid hP
 have HW:=hid hW
 have hWs:=hW.size
 have Hsz:=hid hsz
 clear hv hP hW hsz
 go_enter Tryz.func32,Tryz.ntmps32
 go_wp2
 go_loopw [5,10] (fun s5 t10 wr=>∃ (i n : Nat),t10 = .int .i64 i /\ s5 = .int .i64 n /\ i <= l.length /\ Hid (n <= sizeEs (l.take i)) /\ Hid (Below w.heap.size w wr)) (fun _ t10 _=>l.length - (intOf t10).toNat)
 case atStart=>exact ⟨0,0,rfl,rfl,Nat.zero_le _,Nat.zero_le _,Below.refl _ _⟩
 case round =>
  obtain ⟨i,n,rfl,rfl,hi,Hn,HB⟩:=hrel
  have hi0 : (i : Int) <= 4000000:=by omega
  have hn0 : (n : Int) <= 4000000:=by have:=Hn.out; have:=sizeEs_take l i; have:=Hsz.out; omega
  have hbw0:=HB.out.size
  have hbel : Below W0.heap.size W0 wr:=HW.out.trans (HB.out.mono hWs)
  have hbs:=hbel.size
  have Hbel:=hid hbel
  by_cases hlt : i < l.length
  ·obtain ⟨b,o,c',e,hb,hcs⟩:=pat_get HV.out hlt
   cases e
   obtain ⟨t,p,hel⟩ : ∃ t p,l[i]? = some (.mk t p):=by
    cases e : l[i] with
    | mk t p=>exact ⟨t,p,by rw [List.getElem?_eq_getElem hlt,e]⟩
   obtain ⟨c0,u,c1,hu⟩:=hcs i t p hel
   rw [<- hbel.cell (p:=⟨b,o + i * 2,none⟩) hb] at c0
   rw [<- hbel.cell (p:=⟨b,o + i * 2 + 1,none⟩) hb] at c1
   have hbw : b < wr.heap.size:=by omega
   have hbw1 : b < wr.heap.size + 1:=by omega
   have hlt' : decide ((i : Int) < (l.length : Int)) = true:=decide_eq_true (by omega)
   have hlt3 : ((i : Nat) : Int) < (l.length : Int):=by omega
   have hszt : sizeEs (l.take (i + 1)) = sizeEs (l.take i) + (1 + t.size + sizeO p):=by
    rw [take_snoc l i _ hel,sizeEs_append,sizeEs,sizeEs,Nat.add_zero]
   have hszl:=sizeEs_take l (i + 1)
   have Hel:=hid hel
   have Hszt:=hid hszt
   have Hszl:=hid hszl
   clear hel hszt hszl hbel hcs
   cases p with
   | none =>
    simp only [OAt] at hu
    subst hu
    have hns : n + 1 <= sizeEs (l.take (i + 1)):=by have:=Hn.out; have:=Hszt.out; omega
    have Hns:=hid hns
    have hnl : n + 1 <= sizeEs l:=by have:=Hszl.out; omega
    have Hnl:=hid hnl
    clear hns hnl
    by_cases hm : m <= (n : Int) + 1
    ·have hm' : decide (m <= (n : Int) + 1) = true:=decide_eq_true hm
     go_wp2
     go_ret
     exact ⟨⟨n + 1,by go_num,Hnl.out⟩,HB.out.alloc hbw0 _⟩
    ·have hm' : decide (m <= (n : Int) + 1) = false:=decide_eq_false hm
     go_wp2
     go_roundw
     case rel=>exact ⟨i + 1,n + 1,by go_num,by go_num,hlt,Hns.out,HB.out.alloc hbw0 _⟩
     case measure=>simp [intOf]; omega
   | some e =>
    simp only [OAt] at hu
    obtain ⟨b',o',c7,rfl,hb',hca,hex⟩:=hu
    obtain ⟨k0,k1,k2,k3,k4,k5,k6⟩:=hca.under hb' Hbel.out
    have hbw' : b' < wr.heap.size:=by omega
    have hC:=fun W m h=>HP.out t e (List.mem_of_getElem? Hel.out) W c7 m hex h
    have HC:=hid hC
    have hes : sizeO (some e) = e.size:=by rw [sizeO]
    rw [hes] at Hszt
    clear hC hex hca hes
    unfold C7.arr at HC
    by_cases h1 : (n : Int) + 1 < m
    ·have h1' : decide ((n : Int) + 1 < m) = true:=decide_eq_true h1
     go_wp2_with fail
     go_at_call 53
     refine (HC.out _ _ ((Hbel.out.alloc hbs _))).mono ?_
     rintro e3 w3 ⟨⟨k,rfl,hk⟩,hb3⟩
     have hbb:=(HB.out.alloc hbw0 _).trans (hb3.mono (by simp; omega))
     have HBB:=hid hbb
     have hns : n + 1 + k <= sizeEs (l.take (i + 1)):=by have:=Hn.out; have:=Hszt.out; omega
     have Hns:=hid hns
     have hnl : n + 1 + k <= sizeEs l:=by have:=Hszl.out; omega
     have hk0 : (k : Int) <= 4000000:=by have:=Hsz.out; omega
     have Hnl:=hid hnl
     clear hb3 hbb hns hnl hk
     by_cases hm : m <= (n : Int) + 1 + (k : Int)
     ·have hm' : decide (m <= (n : Int) + 1 + (k : Int)) = true:=decide_eq_true hm
      go_wp2
      go_ret
      exact ⟨⟨n + 1 + k,by go_num,Hnl.out⟩,HBB.out⟩
     ·have hm' : decide (m <= (n : Int) + 1 + (k : Int)) = false:=decide_eq_false hm
      go_wp2
      go_roundw
      case rel=>exact ⟨i + 1,n + 1 + k,by go_num,by go_num,hlt,Hns.out,HBB.out⟩
      case measure=>simp [intOf]; omega
    ·have h1' : decide ((n : Int) + 1 < m) = false:=decide_eq_false h1
     have hm : m <= (n : Int) + 1:=by omega
     have hm' : decide (m <= (n : Int) + 1) = true:=decide_eq_true hm
     have hnl : n + 1 <= sizeEs l:=by have:=Hszl.out; have:=Hszt.out; have:=Hn.out; omega
     have Hnl:=hid hnl
     clear hnl
     go_wp2
     go_ret
     exact ⟨⟨n + 1,by go_num,Hnl.out⟩,HB.out.alloc hbw0 _⟩
  ·obtain rfl : i = l.length:=by omega
   have hlt' : decide ((l.length : Int) < (l.length : Int)) = false:=decide_eq_false (by omega)
   have hn:=Hn.out
   rw [List.take_length] at hn
   have Hn2:=hid hn
   clear hn
   go_wp2
   go_ret
   exact ⟨⟨n,rfl,Hn2.out⟩,HB.out⟩
set_option maxHeartbeats 8000000 in
set_option maxRecDepth 1000000 in
theorem cnt_any {W0 : World} (k : Int) (t n a : ByteArray) (al : List AR) (ie : Option EX) (vs : List VA) (hs : (EX.mk k t n a al ie vs).size <= 4000000)
  (hA : ∀ t x,AR.mk t x ∈ al -> CntTo W0 x) (hI : ∀ x,ie = some x -> CntTo W0 x) (hV : ∀ k d l,VA.mk k d l ∈ vs -> ∀ t x,EL.mk t (some x) ∈ l -> CntTo W0 x) : CntTo W0 (.mk k t n a al ie vs):=by
 intro w c m hex hW
 rw [EX.size] at hs
 rw [EX.size]
 rw [ExAt] at hex
 obtain ⟨ck,ct,cn,ca,cal,ci,cvs⟩:=c
 obtain ⟨e1,e2,e3,e4,hv,hi,hvv⟩:=hex
 simp only at e1 e2 e3 e4 hv hi hvv
 subst e1 e2 e3 e4
 have hv':=hv
 obtain ⟨A1,c1,rfl,_⟩:=hv'
 have hvv':=hvv
 obtain ⟨A2,c2,rfl,_⟩:=hvv'
 obtain ⟨ip,rfl⟩ : ∃ p,ci = .pointer p:=by
  cases ie with
  | none=>simp only [OAt] at hi; exact ⟨_,hi⟩
  | some e=>simp only [OAt] at hi; obtain ⟨b,o,c,h,_⟩:=hi; exact ⟨_,h⟩
 unfold C7.arr
 have hall : (al.length : Int) <= 4000000:=by have:=sizeAs_length al; omega
 have hvl : (vs.length : Int) <= 4000000:=by have:=sizeVs_length vs; omega
 have HV:=hid hv
 have HVV:=hid hvv
 have HO:=hid hi
 have HA:=hid hA
 have HI:=hid hI
 have HVa:=hid hV
 have HW:=hid hW
 have hWs:=hW.size
 have Hs:=hid hs
 clear hv hvv hi hA hI hV hW hs
 go_enter Tryz.func53,Tryz.ntmps53
 go_upto_region 2 with fail
 go_cut [17] (fun v wx=>v = .bool (ip.isSome && decide (1 < m)) /\ wx = w.alloc (.cells #[.int .i64 k,.string t,.string n,.string a,.slice A1 al.length c1,.pointer ip,.slice A2 vs.length c2] 48))
 case first =>
  cases ip with
  | none =>
   go_wp2_with fail
   go_meet
   exact ⟨rfl,rfl⟩
  | some q =>
   cases h1 : decide (1 < m)
   all_goals
    go_wp2_with fail
    go_meet
    exact ⟨by rw [h1]; rfl,rfl⟩
 obtain ⟨rfl,rfl⟩:=hcut
 obtain ⟨bq,hbq⟩ : ∃ b,(ip.isSome && decide (1 < m)) = b:=⟨_,rfl⟩
 rw [hbq]
 go_upto_if 17 with fail
 go_cut [5] (fun v wx=>∃ q : Nat,v = .int .i64 q /\ Hid (q <= 1 + sizeO ie) /\ Hid (Below w.heap.size w wx) /\ Hid (BoxAt wx w.heap.size #[.int .i64 k,.string t,.string n,.string a,.slice A1 al.length c1,.pointer ip,.slice A2 vs.length c2] 48))
 case first =>
  cases bq
  case false =>
   go_wp2_with fail
   go_meet
   exact ⟨1,rfl,by unfold Hid; omega,(Below.refl _ _).alloc (Nat.le_refl _) _,BoxAt.new _ _ _⟩
  cases ie with
  | none =>
   have h:=HO.out
   simp only [OAt] at h
   cases h
   cases hbq
  | some e =>
   have h:=HO.out
   simp only [OAt] at h
   obtain ⟨b',o',c7,e2,hb',hca,hex⟩:=h
   cases e2
   obtain ⟨k0,k1,k2,k3,k4,k5,k6⟩:=hca.under hb' HW.out
   have hbw' : b' < w.heap.size:=by omega
   have hC:=fun W m h=>HI.out e rfl W c7 m hex h
   have HC:=hid hC
   have hes : sizeO (some e) = e.size:=by rw [sizeO]
   unfold C7.arr at HC
   clear hC hex hca hbq
   go_wp2_with fail
   go_at_call 53
   refine (HC.out _ _ (HW.out.alloc hWs _)).mono ?_
   rintro e3 w3 ⟨⟨j,rfl,hk⟩,hb3⟩
   have hbr : Below w.heap.size w w3:=((Below.refl w.heap.size w).alloc (Nat.le_refl _) _).trans (hb3.mono (by simp))
   have HBr:=hid hbr
   have HBx:=hid ((BoxAt.new w #[.int .i64 k,.string t,.string n,.string a,.slice A1 al.length c1,.pointer (some ⟨b',o',none⟩),.slice A2 vs.length c2] 48).later hb3)
   have hj : (j : Int) <= 4000000:=by have:=Hs.out; omega
   have Hj:=hid (show 1 + j <= 1 + sizeO (some e) by omega)
   clear hb3 hbr hk hes
   go_wp2_with fail
   go_meet
   exact ⟨1 + j,by go_num,Hj.out,HBr.out,HBx.out⟩
 obtain ⟨q,rfl,Hq,HB0,HX0⟩:=hcut
 clear hbq HO HI
 have hq0 : (q : Int) <= 4000000:=by have:=Hs.out; have:=Hq.out; omega
 have x4:=HX0.out.cell 4
 have hx0:=HX0.out.lt
 simp at x4
 go_wp2
 go_loopw [5,31] (fun s5 t31 wr=>∃ (i z : Nat),t31 = .int .i64 i /\ s5 = .int .i64 z /\ i <= al.length /\ Hid (z <= 1 + sizeO ie + sizeAs (al.take i)) /\ Hid (Below w.heap.size w wr) /\ Hid (BoxAt wr w.heap.size #[.int .i64 k,.string t,.string n,.string a,.slice A1 al.length c1,.pointer ip,.slice A2 vs.length c2] 48)) (fun _ t31 _=>al.length - (intOf t31).toNat)
 case atStart=>exact ⟨0,q,rfl,rfl,Nat.zero_le _,by unfold Hid; have:=Hq.out; omega,HB0.out,HX0.out⟩
 case round =>
  obtain ⟨i,nn,rfl,rfl,hi,Hn,HB,HX⟩:=hrel
  have hi0 : (i : Int) <= 4000000:=by omega
  have hn0 : (nn : Int) <= 4000000:=by have:=Hn.out; have:=sizeAs_take al i; have:=Hs.out; omega
  have hbel : Below W0.heap.size W0 wr:=HW.out.trans (HB.out.mono hWs)
  have hbs:=hbel.size
  have hxl:=HX.out.lt
  have hbw0:=HB.out.size
  by_cases hlt : i < al.length
  ·obtain ⟨b,o,c',e,hb,hcs⟩:=args_get HV.out hlt
   cases e
   obtain ⟨nm,ex,hel⟩ : ∃ t p,al[i]? = some (.mk t p):=by
    cases e : al[i] with
    | mk t p=>exact ⟨t,p,by rw [List.getElem?_eq_getElem hlt,e]⟩
   obtain ⟨c0,c7,hca,hex⟩:=hcs i nm ex hel
   have hC:=fun W m h=>HA.out nm ex (List.mem_of_getElem? hel) W c7 m hex h
   obtain ⟨k2,t2,n3,a2,B1,m1,q1,p2,B2,m2,q2,rfl⟩:=ex_shape hex
   obtain ⟨k0,k1,k2',k3,k4,k5,k6⟩:=hca.under hb hbel
   rw [<- hbel.cell (p:=⟨b,o + i * 8,none⟩) hb] at c0
   have hbw : b < wr.heap.size:=by omega
   have hlt' : decide ((i : Int) < (al.length : Int)) = true:=decide_eq_true (by omega)
   have hlt3 : ((i : Nat) : Int) < (al.length : Int):=by omega
   have hszt : sizeAs (al.take (i + 1)) = sizeAs (al.take i) + (nm.size + ex.size):=by
    rw [take_snoc al i _ hel,sizeAs_append,sizeAs,sizeAs,Nat.add_zero]
   have hszl:=sizeAs_take al (i + 1)
   have HC:=hid hC
   unfold C7.arr at HC
   have Hszt:=hid hszt
   have Hszl:=hid hszl
   have Hbel:=hid hbel
   clear hC hca hex hszt hszl hbel hcs hel
   by_cases h1 : (nn : Int) < m
   ·have h1' : decide ((nn : Int) < m) = true:=decide_eq_true h1
    go_wp2_with fail
    go_at_call 53
    refine (HC.out _ _ ((Hbel.out.alloc hbs _))).mono ?_
    rintro e3 w3 ⟨⟨j,rfl,hk⟩,hb3⟩
    have hr3 : Below wr.heap.size wr w3:=((Below.refl wr.heap.size wr).alloc (Nat.le_refl _) _).trans (hb3.mono (by simp))
    have HBB:=hid (HB.out.trans (hr3.mono hbw0))
    have HXX:=hid (HX.out.later hr3)
    have hj0 : (j : Int) <= 4000000:=by have:=Hs.out; have:=Hszt.out; have:=Hszl.out; omega
    have Hns:=hid (show nn + j <= 1 + sizeO ie + sizeAs (al.take (i + 1)) by have:=Hn.out; have:=Hszt.out; omega)
    clear hb3 hr3 hk
    go_wp2
    go_roundw
    case rel=>exact ⟨i + 1,nn + j,by go_num,by go_num,hlt,Hns.out,HBB.out,HXX.out⟩
    case measure=>simp [intOf]; omega
   ·have h1' : decide ((nn : Int) < m) = false:=decide_eq_false h1
    have Hns:=hid (show nn <= 1 + sizeO ie + sizeAs (al.take (i + 1)) by have:=Hn.out; have:=Hszt.out; omega)
    go_wp2
    go_roundw
    case rel=>exact ⟨i + 1,nn,by go_num,by go_num,hlt,Hns.out,HB.out.alloc hbw0 _,HX.out.alloc _⟩
    case measure=>simp [intOf]; omega
  ·obtain rfl : i = al.length:=by omega
   have hlt' : decide ((al.length : Int) < (al.length : Int)) = false:=decide_eq_false (by omega)
   have x6:=HX.out.cell 6
   simp at x6
   have hn:=Hn.out
   rw [List.take_length] at hn
   have Hn2:=hid hn
   have hn20 : nn <= 1 + sizeO ie + sizeAs al:=hn
   clear hn hbel x4 hx0
   obtain ⟨wo,hwo⟩ : ∃ x,x = wr:=⟨_,rfl⟩
   subst hwo
   go_wp2
   go_loopw [5,50] (fun s5 t50 wr=>∃ (i z : Nat),t50 = .int .i64 i /\ s5 = .int .i64 z /\ i <= vs.length /\ Hid (z <= 1 + sizeO ie + sizeAs al + sizeVs (vs.take i)) /\ Hid (Below w.heap.size w wr)) (fun _ t50 _=>vs.length - (intOf t50).toNat)
   case atStart=>exact ⟨0,nn,rfl,rfl,Nat.zero_le _,by unfold Hid; omega,HB.out⟩
   case round =>
    obtain ⟨i,y,rfl,rfl,hiv,Hny,HBy⟩:=hrel
    have hi0 : (i : Int) <= 4000000:=by omega
    have hy0 : (y : Int) <= 4000000:=by have:=Hny.out; have:=sizeVs_take vs i; have:=Hs.out; omega
    have hbel : Below W0.heap.size W0 wr:=HW.out.trans (HBy.out.mono hWs)
    have hbs2:=hbel.size
    have hbw2:=HBy.out.size
    by_cases hlt : i < vs.length
    ·obtain ⟨b,o,c',e,hb,hcs⟩:=vars_get HVV.out hlt
     cases e
     obtain ⟨key,df,p,hel⟩ : ∃ t d p,vs[i]? = some (.mk t d p):=by
      cases e : vs[i] with
      | mk t d p=>exact ⟨t,d,p,by rw [List.getElem?_eq_getElem hlt,e]⟩
     obtain ⟨c0,cd,uv,cu,hpat⟩:=hcs i key df p hel
     rw [<- hbel.cell (p:=⟨b,o + i * 3,none⟩) hb] at c0
     rw [<- hbel.cell (p:=⟨b,o + i * 3 + 1,none⟩) hb] at cd
     rw [<- hbel.cell (p:=⟨b,o + i * 3 + 2,none⟩) hb] at cu
     have hp':=hpat
     obtain ⟨A3,c3,rfl,_,_,_⟩:=hp'
     have hbw : b < wr.heap.size:=by omega
     have hlt' : decide ((i : Int) < (vs.length : Int)) = true:=decide_eq_true (by omega)
     have hlt3 : ((i : Nat) : Int) < (vs.length : Int):=by omega
     have hszt : sizeVs (vs.take (i + 1)) = sizeVs (vs.take i) + (1 + key.size + sizeEs p):=by
      rw [take_snoc vs i _ hel,sizeVs_append,sizeVs,sizeVs,Nat.add_zero]
     have hszl:=sizeVs_take vs (i + 1)
     have hC:=fun W m h=>cntIn_any p hpat (by have:=Hs.out; omega) (HVa.out key df p (List.mem_of_getElem? hel)) m W h
     have HC:=hid hC
     have Hszt:=hid hszt
     have Hszl:=hid hszl
     have Hbel:=hid hbel
     clear hC hszt hszl hbel hcs hel hpat
     by_cases h1 : (y : Int) < m
     ·have h1' : decide ((y : Int) < m) = true:=decide_eq_true h1
      go_wp2_with fail
      go_at_call 32
      refine (HC.out _ _ ((Hbel.out.alloc hbs2 _))).mono ?_
      rintro e3 w3 ⟨⟨j,rfl,hk⟩,hb3⟩
      have hr3 : Below wr.heap.size wr w3:=((Below.refl wr.heap.size wr).alloc (Nat.le_refl _) _).trans (hb3.mono (by simp))
      have HBB:=hid (HBy.out.trans (hr3.mono hbw2))
      have hj0 : (j : Int) <= 4000000:=by have:=Hs.out; have:=Hszt.out; have:=Hszl.out; omega
      have Hns:=hid (show y + (1 + j) <= 1 + sizeO ie + sizeAs al + sizeVs (vs.take (i + 1)) by have:=Hny.out; have:=Hszt.out; omega)
      clear hb3 hr3 hk
      go_wp2
      go_roundw
      case rel=>exact ⟨i + 1,y + (1 + j),by go_num,by go_num,hlt,Hns.out,HBB.out⟩
      case measure=>simp [intOf]; omega
     ·have h1' : decide ((y : Int) < m) = false:=decide_eq_false h1
      have Hns:=hid (show y <= 1 + sizeO ie + sizeAs al + sizeVs (vs.take (i + 1)) by have:=Hny.out; have:=Hszt.out; omega)
      go_wp2
      go_roundw
      case rel=>exact ⟨i + 1,y,by go_num,by go_num,hlt,Hns.out,HBy.out.alloc hbw2 _⟩
      case measure=>simp [intOf]; omega
    ·obtain rfl : i = vs.length:=by omega
     have hlt' : decide ((vs.length : Int) < (vs.length : Int)) = false:=decide_eq_false (by omega)
     have hn:=Hny.out
     rw [List.take_length] at hn
     have Hn2:=hid hn
     clear hn hbel
     go_wp2
     go_ret
     exact ⟨⟨y,rfl,by have:=Hn2.out; omega⟩,HBy.out⟩
theorem cnt_all (W0 : World) : ∀ (m : Nat) (e : EX),e.size <= m -> m <= 4000000 -> CntTo W0 e:=by
 intro m
 induction m with
 | zero=>intro e h _; have:=e.size_pos; omega
 | succ m ih =>
  intro e he hm
  obtain ⟨k,t,n,a,al,ie,vs⟩:=e
  have hs:=he
  rw [EX.size] at hs
  refine cnt_any k t n a al ie vs (by omega) (fun t x hx=>ih x (by have:=ar_size hx; omega) (by omega)) (fun x hx=>ih x ?_ (by omega)) (fun key b l hmem t x hx=>ih x (by have:=va_size hmem; have:=el_in hx; omega) (by omega))
  have : sizeO ie = x.size:=by rw [hx,sizeO]
  omega
theorem cntIn_all {W0 : World} (l : List EL) {v : Value} (hv : PatAt W0 l v) (hsz : sizeEs l <= 4000000) (m : Int) (w : World) (hW : Below W0.heap.size W0 w) :
  Calls Tryz.prog 32 #[v,.int .i64 m] w fun e w'=>(∃ n : Nat,e = .returned (.int .i64 n) /\ n <= sizeEs l) /\ Below w.heap.size w w' :=
 cntIn_any l hv hsz (fun t e h=>cnt_all W0 4000000 e (by have:=el_in h; omega) (Nat.le_refl _)) m w hW
-- from Ama
set_option maxHeartbeats 4000000 in
set_option maxRecDepth 1000000 in
theorem small_any {W0 : World} (ty level : Int) (text name : ByteArray) (val : List EL) (ats : List AT) (v u : Value) (fr tu : Int) (hv : PatAt W0 val v) (hu : LieAt (TsAt W0 ats) u ats.length)
  (hsz : sizeEs val + sizeTs ats <= 4000000) (w : World) (hW : Below W0.heap.size W0 w) :
  Calls Tryz.prog 19 #[entV ty level text name v u fr tu] w fun e w'=>(∃ b,e = .returned (.bool b)) /\ Below w.heap.size w w':=by
 have hC:=fun W h=>cntIn_all val hv (by omega) 400 W h
 have HC:=hid hC
 obtain ⟨A,c,rfl,_⟩:=hv
 have HU:=hid hu
 obtain ⟨A2,c2,rfl,_⟩:=hu
 have HW:=hid hW
 have hWs:=hW.size
 have Hsz:=hid hsz
 have hal : (ats.length : Int) <= 4000000:=by have:=sizeTs_length ats; omega
 clear hC hW hsz
 unfold entV
 go_enter Tryz.func19,Tryz.ntmps19
 go_wp2_with fail
 go_at_call 32
 refine (HC.out _ (HW.out.alloc hWs _)).mono ?_
 rintro e1 w1 ⟨⟨q,rfl,hq⟩,hb1⟩
 have hE:=(BoxAt.new w #[.int .i64 ty,.int .i64 level,.string text,.string name,.slice A val.length c,.slice A2 ats.length c2,.int .i64 fr,.int .i64 tu] 34).later hb1
 have hbr : Below w.heap.size w w1:=((Below.refl w.heap.size w).alloc (Nat.le_refl _) _).trans (hb1.mono (by simp))
 have d5:=hE.cell 5
 have hlt0:=hE.lt
 simp at d5
 have HBr:=hid hbr
 have Hq:=hid hq
 have hq0 : (q : Int) <= 4000000:=by have:=Hsz.out; omega
 clear hE hb1 hbr hq HC
 go_wp2
 go_loopw [3,12] (fun s3 t12 wr=>∃ (i z : Nat),t12 = .int .i64 i /\ s3 = .int .i64 z /\ i <= ats.length /\ Hid (z <= sizeEs val + sizeTs (ats.take i)) /\ Hid (Below w.heap.size w wr)) (fun _ t12 _=>ats.length - (intOf t12).toNat)
 case atStart=>exact ⟨0,q,rfl,rfl,Nat.zero_le _,by unfold Hid; have:=Hq.out; omega,HBr.out⟩
 case round =>
  obtain ⟨i,z,rfl,rfl,hi,Hz,HB⟩:=hrel
  have hi0 : (i : Int) <= 4000000:=by omega
  have hz0 : (z : Int) <= 4000000:=by have:=Hz.out; have:=sizeTs_take ats i; have:=Hsz.out; omega
  have hbel : Below W0.heap.size W0 wr:=HW.out.trans (HB.out.mono hWs)
  have hbs:=hbel.size
  have hbw0:=HB.out.size
  by_cases hlt : i < ats.length
  ·obtain ⟨b,o,c',e,hb,hcs⟩:=ats_get HU.out hlt
   cases e
   obtain ⟨t,p,hel⟩ : ∃ t p,ats[i]? = some (.mk t p):=by
    cases e : ats[i] with
    | mk t p=>exact ⟨t,p,by rw [List.getElem?_eq_getElem hlt,e]⟩
   obtain ⟨c0,uv,c1,hpat⟩:=hcs i t p hel
   rw [<- hbel.cell (p:=⟨b,o + i * 2,none⟩) hb] at c0
   rw [<- hbel.cell (p:=⟨b,o + i * 2 + 1,none⟩) hb] at c1
   have hp':=hpat
   obtain ⟨A3,c3,rfl,_,_,_⟩:=hp'
   have hbw : b < wr.heap.size:=by omega
   have hlt' : decide ((i : Int) < (ats.length : Int)) = true:=decide_eq_true (by omega)
   have hlt3 : ((i : Nat) : Int) < (ats.length : Int):=by omega
   have hszt : sizeTs (ats.take (i + 1)) = sizeTs (ats.take i) + (1 + t.size + sizeEs p):=by
    rw [take_snoc ats i _ hel,sizeTs_append,sizeTs,sizeTs,Nat.add_zero]
   have hszl:=sizeTs_take ats (i + 1)
   have hC:=fun W h=>cntIn_all p hpat (by have:=Hsz.out; omega) 400 W h
   have HC:=hid hC
   have Hszt:=hid hszt
   have Hszl:=hid hszl
   have Hbel:=hid hbel
   clear hC hszt hszl hbel hcs hel hpat
   by_cases h1 : (z : Int) < 400
   ·have h1' : decide ((z : Int) < 400) = true:=decide_eq_true h1
    go_wp2_with fail
    go_at_call 32
    refine (HC.out _ ((Hbel.out.alloc hbs _))).mono ?_
    rintro e3 w3 ⟨⟨j,rfl,hk⟩,hb3⟩
    have hr3 : Below wr.heap.size wr w3:=((Below.refl wr.heap.size wr).alloc (Nat.le_refl _) _).trans (hb3.mono (by simp))
    have HBB:=hid (HB.out.trans (hr3.mono hbw0))
    have hj0 : (j : Int) <= 4000000:=by have:=Hsz.out; have:=Hszt.out; have:=Hszl.out; omega
    have Hns:=hid (show z + (1 + j) <= sizeEs val + sizeTs (ats.take (i + 1)) by have:=Hz.out; have:=Hszt.out; omega)
    clear hb3 hr3 hk
    go_wp2
    go_roundw
    case rel=>exact ⟨i + 1,z + (1 + j),by go_num,by go_num,hlt,Hns.out,HBB.out⟩
    case measure=>simp [intOf]; omega
   ·have h1' : decide ((z : Int) < 400) = false:=decide_eq_false h1
    have Hns:=hid (show z <= sizeEs val + sizeTs (ats.take (i + 1)) by have:=Hz.out; have:=Hszt.out; omega)
    go_wp2
    go_roundw
    case rel=>exact ⟨i + 1,z,by go_num,by go_num,hlt,Hns.out,HB.out.alloc hbw0 _⟩
    case measure=>simp [intOf]; omega
  ·obtain rfl : i = ats.length:=by omega
   have hlt' : decide ((ats.length : Int) < (ats.length : Int)) = false:=decide_eq_false (by omega)
   clear hbel
   go_wp2
   go_ret
   exact ⟨⟨_,rfl⟩,HB.out⟩
theorem CellsN.below {W0 W : World} {lb lo : Nat} {l : List EV} (h : CellsN W0 lb lo l) (hb : Below W0.heap.size W0 W) : CellsN W lb lo l :=
 ⟨Nat.lt_of_lt_of_le h.1 hb.size,fun j x hj i y hy=>(hb.cell (p:=⟨lb,lo + j * 8 + i,none⟩) h.1).trans (h.2 j x hj i y hy)⟩
theorem right_fit (x : EV) (h : rightB x.ty x.lv x.tx x.nm x.val x.ats = true) : x.fit /\ x.ty ≠ 3:=by
 unfold rightB at h
 unfold EV.fit
 split at h
 ·next h0 =>
  unfold comB at h
  simp only [Bool.and_eq_true,decide_eq_true_eq] at h
  exact ⟨Or.inl ⟨h0,h.1.1.1.1.1,h.1.1.1.1.2⟩,by omega⟩
 ·split at h
  ·next h1 =>
   unfold msgB at h
   simp only [Bool.and_eq_true] at h
   refine ⟨Or.inr (Or.inl ⟨h1,patB_gd h.1.1.2,fun n v hm=>?_⟩),by omega⟩
   have h2:=List.all_eq_true.1 h.1.2 _ hm
   unfold attrOk at h2
   simp only [Bool.and_eq_true,Bool.not_eq_true',List.isEmpty_eq_false_iff] at h2
   exact ⟨h2.2.1,patB_gd h2.2.2⟩
  ·cases h
set_option maxHeartbeats 4000000 in
set_option maxRecDepth 100000 in
theorem few_any {W0 : World} (hT : TabU W0) (l : List EV) (hl : l.length <= 4000000) (hall : ∀ x ∈ l,x.At W0 /\ x.nm.size <= 4000000) (lb lo n : Nat) (A : Option Addr) (hA : 0 < l.length -> A = some ⟨lb,lo,none⟩) (hcs : 0 < l.length -> CellsN W0 lb lo l) (w : World) (hW : Below W0.heap.size W0 w) :
  Calls Tryz.prog 8 #[.slice A l.length n] w fun e w'=>(∃ b,e = .returned (.bool b) /\ (b = true -> ∀ x ∈ l,(x.fit /\ x.ty ≠ 3) /\ rightB x.ty x.lv x.tx x.nm x.val x.ats = true)) /\ Below w.heap.size w w':=by
 have HAll:=hid hall
 have HCs:=hid hcs
 have HW:=hid hW
 have HAd:=hid hA
 have HTab:=hid hT
 have hl0 : (l.length : Int) <= 4000000:=by omega
 clear hall hcs hW hA hT
 go_enter Tryz.func8,Tryz.ntmps8
 go_wp2
 go_loopw [7] (fun t7 wr=>∃ j : Nat,t7 = .int .i64 j /\ j <= l.length /\ Hid (∀ x ∈ l.take j,(x.fit /\ x.ty ≠ 3) /\ rightB x.ty x.lv x.tx x.nm x.val x.ats = true) /\ Hid (Below w.heap.size w wr)) (fun t7 _=>l.length - (intOf t7).toNat)
 case atStart=>exact ⟨0,rfl,Nat.zero_le _,hid (fun x hx=>by simp at hx),hid (Below.refl _ _)⟩
 case round =>
  obtain ⟨j,rfl,hj,HF,HB⟩:=hrel
  have hj0 : (j : Int) <= 4000000:=by omega
  by_cases hlt : j < l.length
  ·have d1 : decide ((j : Int) < (l.length : Int)) = true:=decide_eq_true (by omega)
   have d2 : (j : Int) < (l.length : Int):=by omega
   obtain ⟨y,hy⟩ : ∃ y,l[j]? = some y:=⟨_,List.getElem?_eq_getElem hlt⟩
   have ha:=HAd.out (by omega)
   subst ha
   have hbel : Below W0.heap.size W0 wr:=HW.out.trans (HB.out.mono HW.out.size)
   have hcw:=(HCs.out (by omega)).below hbel
   obtain ⟨c0,c1,c2,c3,c4,c5,c6,c7⟩:=cellsN8 hcw hy
   have hlb:=hcw.1
   have CB:=hid (BoxAt.new wr #[.int .i64 y.ty,.int .i64 y.lv,.string y.tx,.string y.nm,.slice y.A y.val.length y.c,.slice y.A2 y.ats.length y.c2,.int .i64 y.fr,.int .i64 y.tu] 34)
   obtain ⟨⟨hp,hu,hz,hwz⟩,hnm⟩:=HAll.out y (List.mem_of_getElem? hy)
   have hbal : Below W0.heap.size W0 (wr.alloc y.obj):=hbel.alloc hbel.size _
   have HS:=hid (small_any y.ty y.lv y.tx y.nm y.val y.ats _ _ y.fr y.tu hp hu (by omega) (wr.alloc y.obj) hbal)
   obtain ⟨r,hr⟩ : ∃ r,rightB y.ty y.lv y.tx y.nm y.val y.ats = r:=⟨_,rfl⟩
   have hri:=fun W (g : Below W0.heap.size W0 W)=>lright_any HTab.out y.ty y.lv y.tx y.nm y.val y.ats _ _ y.fr y.tu hp hu hnm hz (by omega) W g
   simp only [hr] at hri
   have HR:=hid hri
   have HBel:=hid hbal
   have HBal:=hid (show Below w.heap.size w (wr.alloc y.obj) from HB.out.alloc HB.out.size _)
   have HFit : Hid (r = true -> ∀ x ∈ l.take (j + 1),(x.fit /\ x.ty ≠ 3) /\ rightB x.ty x.lv x.tx x.nm x.val x.ats = true):=fun hrt x hx=>by
    rw [take_snoc l j y hy] at hx
    rcases List.mem_append.1 hx with h | h
    ·exact HF.out x h
    ·rw [List.mem_singleton] at h
     subst h
     exact ⟨right_fit x (by rw [hr,hrt]),by rw [hr,hrt]⟩
   have hzi : (y.tx.size : Int) <= 4000000:=by omega
   obtain ⟨yt,yl,yx,yn,yv,ya,yA,yc,yA2,yc2,yf,yu⟩:=y
   unfold EV.obj at *
   unfold entV at *
   dsimp only at *
   clear hri hr hp hu hwz hnm hbel hcw hy hbal
   go_wp2_with fail
   go_at_call 19
   refine HS.out.mono ?_
   rintro e w2 ⟨⟨b,rfl⟩,h2⟩
   have C2:=hid (CB.out.later h2)
   have HB2:=hid (HBal.out.trans (h2.mono HBal.out.size))
   have HC2:=hid (HR.out w2 (HBel.out.trans (h2.mono HBel.out.size)))
   have e0 : w2.cell? ⟨wr.heap.size,0,none⟩ = some (.int .i64 yt):=C2.out.cell 0
   have e1 : w2.cell? ⟨wr.heap.size,1,none⟩ = some (.int .i64 yl):=C2.out.cell 1
   have e2 : w2.cell? ⟨wr.heap.size,2,none⟩ = some (.string yx):=C2.out.cell 2
   have e3 : w2.cell? ⟨wr.heap.size,3,none⟩ = some (.string yn):=C2.out.cell 3
   have e4 : w2.cell? ⟨wr.heap.size,4,none⟩ = some (.slice yA yv.length yc):=C2.out.cell 4
   have e5 : w2.cell? ⟨wr.heap.size,5,none⟩ = some (.slice yA2 ya.length yc2):=C2.out.cell 5
   have e6 : w2.cell? ⟨wr.heap.size,6,none⟩ = some (.int .i64 yf):=C2.out.cell 6
   have e7 : w2.cell? ⟨wr.heap.size,7,none⟩ = some (.int .i64 yu):=C2.out.cell 7
   have hlw:=C2.out.lt
   clear h2 HS
   cases b
   ·go_wp2
    go_ret
    exact ⟨⟨false,rfl,fun h=>by cases h⟩,HB2.out⟩
   ·go_wp2_with fail
    go_at_call 20
    refine HC2.out.mono ?_
    rintro e w3 ⟨rfl,h3⟩
    have C3:=hid (C2.out.later h3)
    have HB3:=hid (HB2.out.trans (h3.mono HB2.out.size))
    have f2 : w3.cell? ⟨wr.heap.size,2,none⟩ = some (.string yx):=C3.out.cell 2
    have hlw3:=C3.out.lt
    clear h3 e0 e1 e2 e3 e4 e5 e6 e7 hlw
    cases r
    ·go_wp2
     go_ret
     exact ⟨⟨false,rfl,fun h=>by cases h⟩,HB3.out⟩
    ·by_cases hbig : (300 : Int) < (yx.size : Int)
     ·have b1 : decide ((300 : Int) < (yx.size : Int)) = true:=decide_eq_true hbig
      have b2 : decide (300 < yx.size) = true:=decide_eq_true (by omega)
      have b3 : 300 < yx.size:=by omega
      go_wp2
      go_ret
      exact ⟨⟨false,rfl,fun h=>by cases h⟩,HB3.out⟩
     ·have b1 : decide ((300 : Int) < (yx.size : Int)) = false:=decide_eq_false hbig
      have b2 : decide (300 < yx.size) = false:=decide_eq_false (by omega)
      have b3 : ¬ 300 < yx.size:=by omega
      go_wp2
      go_roundw
      case rel=>exact ⟨j + 1,by go_num,hlt,hid (HFit.out (by first | rfl | trivial | simp)),HB3⟩
      case measure=>simp [intOf]; omega
  ·obtain rfl : j = l.length:=by omega
   have d1 : decide ((l.length : Int) < (l.length : Int)) = false:=decide_eq_false (by omega)
   go_wp2
   go_ret
   refine ⟨⟨_,rfl,fun _=>?_⟩,HB.out⟩
   have:=HF.out
   rw [List.take_of_length_le (Nat.le_refl _)] at this
   exact this
def eh : EX:=.mk 1 ⟨#[49]⟩ ⟨#[]⟩ ⟨#[]⟩ [] none []
def lh : List EL:=[.mk ⟨#[]⟩ (some eh),.mk ⟨#[120,10,121]⟩ none]
def xh (b : Nat) : EV:=⟨1,0,⟨#[]⟩,⟨#[97]⟩,lh,[],some ⟨b,0,none⟩,2,none,0,0,0⟩
theorem xh_text (b : Nat) : (xh b).text = [97,32,61,10,32,32,32,32,123,32,49,32,125,120,10,32,32,32,32,121,10]:=by
 show entT 1 0 ⟨#[]⟩ ⟨#[97]⟩ lh [] = _
 decide +kernel
theorem xh_fit (b : Nat) : (xh b).fit:=by
 refine Or.inr (Or.inl ⟨Or.inl rfl,?_,fun n v h=>?_⟩)
 ·show gdEs lh = true
  decide +kernel
 ·exact absurd h (by simp [xh])
theorem lie_nil {P : Nat -> Nat -> Prop} : LieAt P (.slice none 0 0) 0:=⟨none,0,rfl,Nat.le_refl _,Nat.zero_le _,fun h=>absurd h (by simp)⟩
theorem xh_at {W : World} {k : Nat} (B1 : BoxAt W k #[.int .i64 1,.string ⟨#[49]⟩,.string ⟨#[]⟩,.string ⟨#[]⟩,.slice none 0 0,.pointer none,.slice none 0 0] 48)
  (B2 : BoxAt W (k + 1) #[.string ⟨#[]⟩,.pointer (some ⟨k,0,none⟩),.string ⟨#[120,10,121]⟩,.pointer none] 50) : (xh (k + 1)).At W:=by
 refine ⟨⟨some ⟨k + 1,0,none⟩,2,rfl,Nat.le_refl _,by decide,fun _=>⟨k + 1,0,rfl,?_⟩⟩,lie_nil,Nat.zero_le _,by show 8 + 2 * (sizeEs lh + sizeTs []) <= 4000000; decide +kernel⟩
 show EsAt W lh (k + 1) 0
 unfold lh
 rw [EsAt]
 refine ⟨B2.lt,B2.cell 0,⟨_,B2.cell 1,?_⟩,?_⟩
 ·simp only [OAt]
  refine ⟨k,0,⟨.int .i64 1,.string ⟨#[49]⟩,.string ⟨#[]⟩,.string ⟨#[]⟩,.slice none 0 0,.pointer none,.slice none 0 0⟩,rfl,B1.lt,⟨B1.cell 0,B1.cell 1,B1.cell 2,B1.cell 3,B1.cell 4,B1.cell 5,B1.cell 6⟩,?_⟩
  unfold eh
  rw [ExAt]
  exact ⟨rfl,rfl,rfl,rfl,lie_nil,by simp only [OAt],lie_nil⟩
 ·rw [EsAt]
  exact ⟨B2.lt,B2.cell 2,⟨.pointer none,B2.cell 3,by simp only [OAt]⟩,by rw [EsAt]; trivial⟩
set_option maxHeartbeats 2000000 in
set_option maxRecDepth 100000 in
theorem head10_any (w : World) (hM : MxW w) : Calls Tryz.prog 7 #[] w fun e w'=>e = .returned (.bool true) /\ Below w.heap.size w w':=by
 obtain ⟨O1,hO1⟩ : ∃ o : Obj,o = .cells #[.int .i64 1,.string ⟨#[49]⟩,.string ⟨#[]⟩,.string ⟨#[]⟩,.slice none 0 0,.pointer none,.slice none 0 0] 48:=⟨_,rfl⟩
 obtain ⟨O2,hO2⟩ : ∃ o : Obj,o = .cells #[.string ⟨#[]⟩,.pointer (some ⟨w.heap.size,0,none⟩),.string ⟨#[120,10,121]⟩,.pointer none] 50:=⟨_,rfl⟩
 obtain ⟨O3,hO3⟩ : ∃ o : Obj,o = .cells #[.int .i64 1,.int .i64 0,.string ⟨#[]⟩,.string ⟨#[97]⟩,.slice (some ⟨w.heap.size + 1,0,none⟩) 2 2,.slice none 0 0,.int .i64 0,.int .i64 0] 34:=⟨_,rfl⟩
 obtain ⟨W1,hW1⟩ : ∃ W,W = ((w.alloc O1).alloc O2).alloc O3:=⟨_,rfl⟩
 have hB : Below w.heap.size w W1:=by
  rw [hW1]
  exact (((Below.refl _ _).alloc (Nat.le_refl _) _).alloc (by simp) _).alloc (by simp; omega) _
 have B1 : BoxAt W1 w.heap.size #[.int .i64 1,.string ⟨#[49]⟩,.string ⟨#[]⟩,.string ⟨#[]⟩,.slice none 0 0,.pointer none,.slice none 0 0] 48:=by
  rw [hW1,hO1]
  exact ((BoxAt.new w _ _).alloc _).alloc _
 have B2 : BoxAt W1 (w.heap.size + 1) #[.string ⟨#[]⟩,.pointer (some ⟨w.heap.size,0,none⟩),.string ⟨#[120,10,121]⟩,.pointer none] 50:=by
  rw [hW1,hO2]
  exact (BoxAt.new' _ _ _ _ (by simp)).alloc _
 have hc:=sentry_any (W0:=W1) (hM.below hB (Nat.le_refl _)) (xh (w.heap.size + 1)) (xh_at B1 B2) (xh_fit _) (by rw [xh_text]; simp) (by rw [xh_text]; decide) W1 (Below.refl _ _)
 rw [xh_text] at hc
 have HC : Hid (Calls Tryz.prog 14 #[.agg #[.int .i64 1,.int .i64 0,.string ⟨#[]⟩,.string ⟨#[97]⟩,.slice (some ⟨w.heap.size + 1,0,none⟩) 2 2,.slice none 0 0,.int .i64 0,.int .i64 0]] W1 fun e w'=>e = .returned (.string ⟨#[97,32,61,10,32,32,32,32,123,32,49,32,125,120,10,32,32,32,32,121,10]⟩) /\ Below W1.heap.size W1 w'):=hc
 have HB:=hid hB
 have HW1:=hid hW1
 have H1:=hid hO1
 have H2:=hid hO2
 have H3:=hid hO3
 clear hc B1 B2 hB hM hW1 hO1 hO2 hO3
 go_enter Tryz.func7,Tryz.ntmps7
 go_wp2_with fail
 rw [<- H1.out,<- H2.out,<- H3.out,<- HW1.out]
 go_at_call 14
 refine HC.out.mono ?_
 rintro e w2 ⟨rfl,h2⟩
 have HB2:=hid (HB.out.trans (h2.mono HB.out.size))
 clear h2
 go_wp2
 go_ret
 exact ⟨rfl,HB2.out⟩
end Go.Proofs.YtgdkpamlkpncgaaGreatDoor
