/-
  Several texts put together (part 24): what the law and the program call, walked; their contracts.
-/
import Derived.Test.YtgdkpamlkpncgaaGreatDoorR20
import Derived.Test.YtgdkpamlkpncgaaGreatDoorR5
import Derived.Deep.LoopGhost
namespace Go.Proofs.YtgdkpamlkpncgaaGreatDoor
open Go.RowKit
open _root_.Go.Lib (hid)
set_option linter.unusedVariables false
set_option linter.unusedSimpArgs false
theorem enters_feed : ∀ (args : Array Value) (w : World),(callFunc 201 args).run Tryz.prog w = .ok (.enter 201 args) w:=fun args w=>by
 go_simp
set_option maxHeartbeats 2000000 in
set_option maxRecDepth 100000 in
theorem feed_any (t : ByteArray) (u : Value) (w : World) : Calls Tryz.prog 201 #[.agg #[.string t,u]] w fun e w'=>e = .returned (.bool (t.data.toList.contains 10)) /\ Below w.heap.size w w':=by
 have HC:=hid (fun W=>Tryz.strings_Contains_one t 10 W)
 have he:=Lib.contains_iff_indexByte t.data.toList 10
 rw [he]
 have C0:=hid (BoxAt.new w #[.string t,u] 50)
 clear he
 go_enter Tryz.func201,Tryz.ntmps201
 go_wp2_with fail
 go_at_call 103
 refine (HC.out _).mono ?_
 rintro e w1 ⟨rfl,rfl⟩
 go_wp2
 go_ret
 exact ⟨rfl,(Below.refl _ _).alloc (Nat.le_refl _) _⟩
theorem feed_take (l : List EL) (j : Nat) (t : ByteArray) (p : Option EX) (h : l[j]? = some (.mk t p)) : feedOf (l.take (j + 1)) = (feedOf (l.take j) || t.data.toList.contains 10):=by
 unfold feedOf
 rw [take_snoc l j _ h,List.any_append]
 simp [elText]
theorem feed_here (l : List EL) (j : Nat) (t : ByteArray) (p : Option EX) (h : l[j]? = some (.mk t p)) (hc : t.data.toList.contains 10 = true) : feedOf l = true:=by
 unfold feedOf
 rw [List.any_eq_true]
 exact ⟨_,List.mem_of_getElem? h,hc⟩
theorem el_at {W0 : World} {l : List EL} {v : Value} (hv : PatAt W0 l v) {j : Nat} (hj : j < l.length) : ∃ b o c,v = .slice (some ⟨b,o,none⟩) l.length c /\ b < W0.heap.size /\ ∃ t p u,l[j]? = some (.mk t p) /\ W0.cell? ⟨b,o + j * 2,none⟩ = some (.string t) /\ W0.cell? ⟨b,o + j * 2 + 1,none⟩ = some u /\ OAt W0 p u:=by
 obtain ⟨b,o,c,hv,hb,hcs⟩:=pat_get hv hj
 obtain ⟨t,p,he⟩ : ∃ t p,l[j]? = some (.mk t p):=by
  cases e : l[j] with
  | mk t p=>exact ⟨t,p,by rw [List.getElem?_eq_getElem hj,e]⟩
 obtain ⟨h1,u,h2,h3⟩:=hcs j t p he
 exact ⟨b,o,c,hv,hb,t,p,u,he,h1,h2,h3⟩
theorem o_shape {W : World} {p : Option EX} {u : Value} (h : OAt W p u) : ∃ a,u = .pointer a:=by
 cases p with
 | none=>simp only [OAt] at h; exact ⟨_,h⟩
 | some e=>simp only [OAt] at h; obtain ⟨b,o,c,h,_⟩:=h; exact ⟨_,h⟩
set_option maxHeartbeats 4000000 in
set_option maxRecDepth 100000 in
theorem idxF_any {W0 : World} (l : List EL) (v : Value) (hv : PatAt W0 l v) (hl : l.length <= 4000000) (w : World) (hW : Below W0.heap.size W0 w) :
  Calls Tryz.prog 231 #[v,.func (.func 201) #[] #[]] w fun e w'=>(∃ i : Int,e = .returned (.int .i64 i) /\ decide (0 <= i) = feedOf l) /\ Below w.heap.size w w':=by
 have HF:=hid feed_any
 have HV:=hid hv
 have HW:=hid hW
 have hl0 : (l.length : Int) <= 4000000:=by omega
 obtain ⟨A,c,rfl,_⟩:=hv
 have he:=enters_feed
 clear hW
 go_enter Tryz.func231,Tryz.ntmps231
 go_wp2
 go_loopw [8] (fun t8 wr=>∃ j : Nat,t8 = .int .i64 j /\ j <= l.length /\ Hid (feedOf (l.take j) = false) /\ Hid (Below w.heap.size w wr)) (fun t8 _=>l.length - (intOf t8).toNat)
 case atStart=>exact ⟨0,rfl,Nat.zero_le _,rfl,Below.refl _ _⟩
 case round =>
  obtain ⟨j,rfl,hj,HA,HB⟩:=hrel
  have hj0 : (j : Int) <= 4000000:=by omega
  by_cases hlt : j < l.length
  ·have d1 : decide ((j : Int) < (l.length : Int)) = true:=decide_eq_true (by omega)
   have d2 : (j : Int) < (l.length : Int):=by omega
   obtain ⟨b,o,c',e,hb,t,p,u,hel,c0,c1,hou⟩:=el_at HV.out hlt
   cases e
   obtain ⟨pa,rfl⟩:=o_shape hou
   have hbel : Below W0.heap.size W0 wr:=HW.out.trans (HB.out.mono HW.out.size)
   rw [<- hbel.cell (p:=⟨b,o + j * 2,none⟩) hb] at c0
   rw [<- hbel.cell (p:=⟨b,o + j * 2 + 1,none⟩) hb] at c1
   have hbw : b < wr.heap.size:=Nat.lt_of_lt_of_le hb hbel.size
   have HT:=hid (feed_take l j t p hel)
   have HE:=hid (feed_here l j t p hel)
   obtain ⟨x,hx⟩ : ∃ x,t.data.toList.contains 10 = x:=⟨_,rfl⟩
   rw [hx] at HT HE
   have HX:=hid hx
   clear hx hel hou hbel
   cases x
   ·go_wp2_with fail
    refine (HF.out _ _ _).mono ?_
    rw [HX.out]
    rintro e w1 ⟨rfl,hb1⟩
    have HB1:=hid (HB.out.trans (hb1.mono HB.out.size))
    clear hb1
    go_wp2
    go_roundw
    case rel=>exact ⟨j + 1,by go_num,hlt,hid (by rw [HT.out,HA.out]; rfl),HB1⟩
    case measure=>simp [intOf]; omega
   ·go_wp2_with fail
    refine (HF.out _ _ _).mono ?_
    rw [HX.out]
    rintro e w1 ⟨rfl,hb1⟩
    have HB1:=hid (HB.out.trans (hb1.mono HB.out.size))
    clear hb1
    go_wp2
    go_ret
    exact ⟨⟨_,rfl,by rw [HE.out (by first | trivial | rfl),decide_eq_true (by omega)]⟩,HB1.out⟩
  ·obtain rfl : j = l.length:=by omega
   have d1 : decide ((l.length : Int) < (l.length : Int)) = false:=decide_eq_false (by omega)
   have hA:=HA.out
   rw [List.take_of_length_le (Nat.le_refl _)] at hA
   have HA2:=hid hA
   clear hA
   go_wp2
   go_ret
   exact ⟨⟨_,rfl,by rw [HA2.out]; rfl⟩,HB.out⟩
set_option maxHeartbeats 4000000 in
set_option maxRecDepth 100000 in
theorem contF_any {W0 : World} (l : List EL) (v : Value) (hv : PatAt W0 l v) (hl : l.length <= 4000000) (w : World) (hW : Below W0.heap.size W0 w) :
  Calls Tryz.prog 202 #[v,.func (.func 201) #[] #[]] w fun e w'=>e = .returned (.bool (feedOf l)) /\ Below w.heap.size w w':=by
 have HI:=hid (idxF_any l v hv hl w hW)
 clear hv hW
 go_enter Tryz.func202,Tryz.ntmps202
 go_wp2_with fail
 go_at_call 231
 refine HI.out.mono ?_
 rintro e w1 ⟨⟨i,rfl,hi⟩,hb⟩
 have Hi:=hid hi
 have HB:=hid hb
 clear hi hb
 go_wp2
 go_ret
 exact ⟨ret_bool Hi.out,HB.out⟩
theorem odd_idx (t : ByteArray) : ∃ i : Int,Lib.indexAny t.data.toList [46,42,91] = i /\ (i != 0) = !(match t.data.toList with | []=>false | c :: _=>isMarkB c):=by
 refine ⟨_,rfl,?_⟩
 cases h : t.data.toList with
 | nil=>rfl
 | cons c r =>
  have hm : isMarkB c = ([46,42,91] : List UInt8).contains c:=by
   unfold isMarkB
   rw [Bool.eq_iff_iff,decide_eq_true_iff]
   have e : ∀ d : UInt8,c = d ↔ (c.toNat : Int) = (d.toNat : Int):=fun d=>⟨fun h=>by rw [h],fun h=>UInt8.toNat_inj.1 (by omega)⟩
   simp only [List.contains_cons,List.contains_nil,Bool.or_false,Bool.or_eq_true,beq_iff_eq,e 46,e 42,e 91]
   exact or_congr Iff.rfl Iff.rfl
  dsimp only
  rw [hm,Lib.indexAny]
  cases hc : ([46,42,91] : List UInt8).contains c
  ·rw [if_neg (by simp)]
   have hg : -1 <= Lib.indexAny r [46,42,91]:=by
    rw [idxAny_twM]
    split <;> omega
   split
   ·rfl
   ·next hh =>
    rw [beq_iff_eq] at hh
    rw [Bool.not_false,bne_iff_ne]; omega
  ·rw [if_pos rfl]; rfl
set_option maxHeartbeats 4000000 in
set_option maxRecDepth 100000 in
theorem begins_any {W0 : World} (l : List EL) (v : Value) (hv : PatAt W0 l v) (hl : sizeEs l <= 4000000) (w : World) (hW : Below W0.heap.size W0 w) :
  Calls Tryz.prog 161 #[v] w fun e w'=>e = .returned (.bool (feedOf l && !oddOf l)) /\ Below w.heap.size w w':=by
 have hll:=sizeEs_length l
 have HI:=hid (contF_any l v hv (by omega) w hW)
 have HW:=hid hW
 obtain ⟨f,hf⟩ : ∃ f,feedOf l = f:=⟨_,rfl⟩
 rw [hf] at HI ⊢
 cases f
 ·obtain ⟨A,c,rfl,_⟩:=hv
  rw [Bool.false_and]
  clear hW hf
  go_enter Tryz.func161,Tryz.ntmps161
  go_wp2_with fail
  go_at_call 202
  refine HI.out.mono ?_
  rintro e w1 ⟨rfl,hb⟩
  have HB:=hid hb
  clear hb
  go_wp2
  go_ret
  exact ⟨rfl,HB.out⟩
 ·have h0 : 0 < l.length:=by
   cases l with
   | nil=>cases hf
   | cons x r=>simp
  obtain ⟨b,o,c',e,hb,t,p,u,hel,c0,c1,hou⟩:=el_at hv h0
  subst e
  obtain ⟨pa,rfl⟩:=o_shape hou
  obtain ⟨i,hi,hio⟩:=odd_idx t
  have hod : oddOf l = (match t.data.toList with | []=>false | c :: _=>isMarkB c):=by
   cases l with
   | nil=>cases h0
   | cons x r =>
    simp at hel
    subst hel
    rfl
  rw [<- hod] at hio
  have ht : t.size <= 4000000:=by
   cases l with
   | nil=>cases h0
   | cons x r=>simp at hel; subst hel; rw [sizeEs] at hl; omega
  have hx:=fun W=>indexAny_anyM t ht W
  rw [hi] at hx
  have HX:=hid hx
  obtain ⟨od,ho⟩ : ∃ od,oddOf l = od:=⟨_,rfl⟩
  rw [ho] at hio ⊢
  have hl0 : (l.length : Int) <= 4000000:=by omega
  have h00 : 0 < (l.length : Int):=by omega
  rw [Bool.true_and]
  rw [Nat.zero_mul,Nat.add_zero] at c0 c1
  have HC0:=hid c0
  clear hW hf hel hou hi hod hx ho c0 c1 hv hll hl
  go_enter Tryz.func161,Tryz.ntmps161
  go_wp2_with fail
  go_at_call 202
  refine HI.out.mono ?_
  rintro e w1 ⟨rfl,hb1⟩
  have hbel : Below W0.heap.size W0 w1:=HW.out.trans (hb1.mono HW.out.size)
  have c0:=(hbel.cell (p:=⟨b,o,none⟩) hb).trans HC0.out
  have hbw : b < w1.heap.size:=Nat.lt_of_lt_of_le hb hbel.size
  have HB:=hid hb1
  clear hb1 hbel
  go_wp2_with fail
  go_at_call 203
  refine (HX.out _).mono ?_
  rintro e w2 ⟨rfl,hb2⟩
  have HB2:=hid (HB.out.trans (hb2.mono HB.out.size))
  clear hb2
  go_wp2
  go_ret
  exact ⟨ret_bool (by first | exact hio | simp_all),HB2.out⟩
theorem esT_app (m : Nat) : ∀ a b : List EL,esT m (a ++ b) = esT m a ++ esT m b
 | [],b=>by rw [List.nil_append,esT,List.nil_append]
 | .mk t none :: r,b=>by rw [List.cons_append,esT,esT,esT_app m r b,List.append_assoc]
 | .mk t (some e) :: r,b=>by rw [List.cons_append,esT,esT,esT_app m r b,List.append_assoc]
def elT (m : Nat) : EL -> List UInt8
 | .mk t none=>lineG (sps m) t.data.toList
 | .mk t (some e)=>plT m e
theorem esT_take (m : Nat) (l : List EL) (j : Nat) (x : EL) (h : l[j]? = some x) : esT m (l.take (j + 1)) = esT m (l.take j) ++ elT m x:=by
 rw [take_snoc l j x h,esT_app]
 congr 1
 obtain ⟨t,p⟩:=x
 cases p with
 | none=>rw [esT,esT,List.append_nil,elT]
 | some e=>rw [esT,esT,List.append_nil,elT]
theorem esT_take_le (m : Nat) (l : List EL) (j : Nat) : (esT m (l.take j)).length <= (esT m l).length:=by
 have:=congrArg List.length (esT_app m (l.take j) (l.drop j))
 rw [List.take_append_drop,List.length_append] at this
 omega
theorem szEs_get : ∀ (l : List EL) (j : Nat) (t : ByteArray) (p : Option EX),l[j]? = some (.mk t p) -> t.size + sizeO p <= sizeEs l
 | [],j,t,p,h=>by simp at h
 | .mk t' p' :: r,0,t,p,h=>by
  simp at h
  obtain ⟨rfl,rfl⟩:=h
  rw [sizeEs]; omega
 | .mk t' p' :: r,j + 1,t,p,h=>by
  have:=szEs_get r j t p (by simpa using h)
  rw [sizeEs]; omega
set_option maxHeartbeats 8000000 in
set_option maxRecDepth 100000 in
theorem wpat_any {W0 : World} (hM : MxW W0) {B b m : Nat} (l : List EL) (hsz : sizeEs l <= 4000000) (hP : ∀ (j : Nat) (t : ByteArray) (e : EX),l[j]? = some (.mk t (some e)) -> WpTo W0 B b m e) : WaTo W0 B b m l:=by
 intro v bs w hS hv h hn
 have hll:=sizeEs_length l
 have hbg:=begins_any l v hv hsz w hS.hW
 obtain ⟨f,hf⟩ : ∃ f,(feedOf l && !oddOf l) = f:=⟨_,rfl⟩
 unfold paT headG at hn ⊢
 rw [hf] at hbg hn ⊢
 have HB:=hid hbg
 have HV:=hid hv
 have HH:=hid h
 have HN:=hid hn
 have HS:=hid hS
 have HM:=hid hM
 have HP:=hid hP
 have HZ:=hid hsz
 have hl0 : (l.length : Int) <= 4000000:=by omega
 obtain ⟨A,c,rfl,_⟩:=hv
 clear hbg h hn hS hM hP hf hsz hll
 cases f
 case false =>
  rw [if_neg (by simp)]
  have he:=List.append_assoc bs [32] (esT m l)
  obtain ⟨Y,hY⟩ : ∃ Y,bs ++ ([32] ++ esT m l) = Y:=⟨_,rfl⟩
  rw [hY] at he ⊢
  have HE2:=hid he.symm
  clear he hY
  go_enter Tryz.func118,Tryz.ntmps118
  go_wp2_with fail
  go_at_call 161
  refine HB.out.mono ?_
  rintro e w1 ⟨rfl,hb1⟩
  have HW1:=hid (HH.out.later hb1)
  have HK1:=hid (Wk.of (b:=b) HH.out.le hb1)
  clear hb1
  have HX:=hid (write1 ⟨#[32]⟩ w1 HW1.out (by have:=HN.out; simp at this; show _ + 1 <= _; omega))
  go_wp2_with fail
  go_at_call 37
  refine HX.out.mono ?_
  rintro e w2 ⟨rfl,h2,g2⟩
  have HA2:=hid (show WrAt B b (bs ++ [32] ++ esT m (l.take 0)) w2 by rw [List.take_zero,esT,List.append_nil]; simpa [mgB_data] using h2)
  have HK2:=hid (HK1.out.trans g2)
  have HN2:=hid (show (bs ++ [32]).length + (esT m l).length <= 140737488355328 by have:=HN.out; simp at this ⊢; omega)
  clear h2 g2 HN HX HW1 HK1 HB HH
  obtain ⟨X,hX⟩ : ∃ X,bs ++ [32] = X:=⟨_,rfl⟩
  rw [hX] at HA2 HN2 HE2
  clear hX
  go_wp2
  go_loopw [19] (fun t19 wr=>∃ j : Nat,t19 = .int .i64 j /\ j <= l.length /\ Hid (WrAt B b (X ++ esT m (l.take j)) wr) /\ Hid (Wk B b w wr)) (fun t19 _=>l.length - (intOf t19).toNat)
  case atStart=>exact ⟨0,rfl,Nat.zero_le _,HA2,HK2⟩
  case round =>
   clear HA2 HK2
   obtain ⟨j,rfl,hj,HA,HK⟩:=hrel
   have hj0 : (j : Int) <= 4000000:=by omega
   have hSr:=HS.out.step HK.out
   by_cases hlt : j < l.length
   ·have d1 : decide ((j : Int) < (l.length : Int)) = true:=decide_eq_true (by omega)
    have d2 : (j : Int) < (l.length : Int):=by omega
    obtain ⟨eb,eo,c',e,hb,t,p,u,hel,c0,c1,hou⟩:=el_at HV.out hlt
    cases e
    rw [<- hSr.hW.cell (p:=⟨eb,eo + j * 2,none⟩) hb] at c0
    rw [<- hSr.hW.cell (p:=⟨eb,eo + j * 2 + 1,none⟩) hb] at c1
    have hbw : eb < wr.heap.size:=Nat.lt_of_lt_of_le hb hSr.hW.size
    have ht:=szEs_get l j t p hel
    have hz:=HZ.out
    have hlen : (X ++ esT m (l.take j)).length + (elT m (.mk t p)).length <= 140737488355328:=by
     have h1:=esT_take_le m l (j + 1)
     rw [esT_take m l j _ hel,List.length_append] at h1
     have h2:=HN2.out
     rw [List.length_append]; omega
    have HT:=hid (esT_take m l j _ hel)
    have hp:=fun e (q : l[j]? = some (.mk t (some e)))=>HP.out j t e q
    cases p with
    | none =>
     simp only [OAt] at hou
     subst hou
     have HC:=hid (ztext_any HM.out (bs:=X ++ esT m (l.take j)) m t (wr.alloc (.cells #[.string t,.pointer none] 50)) (hSr.alloc _) (HA.out.alloc _) (by omega) hlen)
     have HKa:=hid (HK.out.alloc HA.out.le (.cells #[.string t,.pointer none] 50))
     clear hel ht hz hlen hp hSr
     go_wp2_with fail
     go_at_call 163
     refine HC.out.mono ?_
     rintro e w3 ⟨rfl,h3,g3⟩
     have HA3:=hid h3
     have HK3:=hid (HKa.out.trans g3)
     clear h3 g3
     go_wp2
     go_roundw
     case rel=>exact ⟨j + 1,by go_num,hlt,hid (by rw [HT.out,<- List.append_assoc]; exact HA3.out),HK3⟩
     case measure=>simp [intOf]; omega
    | some e =>
     simp only [OAt] at hou
     obtain ⟨q',o',c'',rfl,hq',hc',hx'⟩:=hou
     have HC:=hid (hp e hel q' o' c'' (X ++ esT m (l.take j)) (wr.alloc (.cells #[.string t,.pointer (some ⟨q',o',none⟩)] 50)) (hSr.alloc _) hq' hc' hx' (HA.out.alloc _) hlen)
     have HKa:=hid (HK.out.alloc HA.out.le (.cells #[.string t,.pointer (some ⟨q',o',none⟩)] 50))
     clear hel ht hz hlen hp hSr hc' hx'
     go_wp2_with fail
     go_at_call 162
     refine HC.out.mono ?_
     rintro e w3 ⟨rfl,h3,g3⟩
     have HA3:=hid h3
     have HK3:=hid (HKa.out.trans g3)
     clear h3 g3
     go_wp2
     go_roundw
     case rel=>exact ⟨j + 1,by go_num,hlt,hid (by rw [HT.out,<- List.append_assoc]; exact HA3.out),HK3⟩
     case measure=>simp [intOf]; omega
   ·obtain rfl : j = l.length:=by omega
    have d1 : decide ((l.length : Int) < (l.length : Int)) = false:=decide_eq_false (by omega)
    have hA:=HA.out
    rw [List.take_of_length_le (Nat.le_refl _)] at hA
    have HA2:=hid hA
    clear hA hSr
    go_wp2
    go_end0
    exact ⟨rfl,by rw [HE2.out]; exact HA2.out,HK.out⟩
 case true =>
  rw [if_pos rfl]
  have he:=List.append_assoc bs (10 :: sps m) (esT m l)
  obtain ⟨Y,hY⟩ : ∃ Y,bs ++ ((10 :: sps m) ++ esT m l) = Y:=⟨_,rfl⟩
  rw [hY] at he ⊢
  have HE2:=hid he.symm
  clear he hY
  go_enter Tryz.func118,Tryz.ntmps118
  go_wp2_with fail
  go_at_call 161
  refine HB.out.mono ?_
  rintro e w1 ⟨rfl,hb1⟩
  have HW1:=hid (HH.out.later hb1)
  have HK1:=hid (Wk.of (b:=b) HH.out.le hb1)
  clear hb1
  have HX:=hid (write2 ⟨#[10]⟩ (mgB m) w1 HW1.out (by have:=HN.out; simp [sps] at this; rw [mgB_size]; show _ + (1 + _) <= _; omega))
  go_wp2_with fail
  go_at_call 37
  refine HX.out.mono ?_
  rintro e w2 ⟨rfl,h2,g2⟩
  have HA2:=hid (show WrAt B b (bs ++ (10 :: sps m) ++ esT m (l.take 0)) w2 by rw [List.take_zero,esT,List.append_nil]; simpa [mgB_data] using h2)
  have HK2:=hid (HK1.out.trans g2)
  have HN2:=hid (show (bs ++ (10 :: sps m)).length + (esT m l).length <= 140737488355328 by have:=HN.out; simp at this ⊢; omega)
  clear h2 g2 HN HX HW1 HK1 HB HH
  obtain ⟨X,hX⟩ : ∃ X,bs ++ (10 :: sps m) = X:=⟨_,rfl⟩
  rw [hX] at HA2 HN2 HE2
  clear hX
  go_wp2
  go_loopw [19] (fun t19 wr=>∃ j : Nat,t19 = .int .i64 j /\ j <= l.length /\ Hid (WrAt B b (X ++ esT m (l.take j)) wr) /\ Hid (Wk B b w wr)) (fun t19 _=>l.length - (intOf t19).toNat)
  case atStart=>exact ⟨0,rfl,Nat.zero_le _,HA2,HK2⟩
  case round =>
   clear HA2 HK2
   obtain ⟨j,rfl,hj,HA,HK⟩:=hrel
   have hj0 : (j : Int) <= 4000000:=by omega
   have hSr:=HS.out.step HK.out
   by_cases hlt : j < l.length
   ·have d1 : decide ((j : Int) < (l.length : Int)) = true:=decide_eq_true (by omega)
    have d2 : (j : Int) < (l.length : Int):=by omega
    obtain ⟨eb,eo,c',e,hb,t,p,u,hel,c0,c1,hou⟩:=el_at HV.out hlt
    cases e
    rw [<- hSr.hW.cell (p:=⟨eb,eo + j * 2,none⟩) hb] at c0
    rw [<- hSr.hW.cell (p:=⟨eb,eo + j * 2 + 1,none⟩) hb] at c1
    have hbw : eb < wr.heap.size:=Nat.lt_of_lt_of_le hb hSr.hW.size
    have ht:=szEs_get l j t p hel
    have hz:=HZ.out
    have hlen : (X ++ esT m (l.take j)).length + (elT m (.mk t p)).length <= 140737488355328:=by
     have h1:=esT_take_le m l (j + 1)
     rw [esT_take m l j _ hel,List.length_append] at h1
     have h2:=HN2.out
     rw [List.length_append]; omega
    have HT:=hid (esT_take m l j _ hel)
    have hp:=fun e (q : l[j]? = some (.mk t (some e)))=>HP.out j t e q
    cases p with
    | none =>
     simp only [OAt] at hou
     subst hou
     have HC:=hid (ztext_any HM.out (bs:=X ++ esT m (l.take j)) m t (wr.alloc (.cells #[.string t,.pointer none] 50)) (hSr.alloc _) (HA.out.alloc _) (by omega) hlen)
     have HKa:=hid (HK.out.alloc HA.out.le (.cells #[.string t,.pointer none] 50))
     clear hel ht hz hlen hp hSr
     go_wp2_with fail
     go_at_call 163
     refine HC.out.mono ?_
     rintro e w3 ⟨rfl,h3,g3⟩
     have HA3:=hid h3
     have HK3:=hid (HKa.out.trans g3)
     clear h3 g3
     go_wp2
     go_roundw
     case rel=>exact ⟨j + 1,by go_num,hlt,hid (by rw [HT.out,<- List.append_assoc]; exact HA3.out),HK3⟩
     case measure=>simp [intOf]; omega
    | some e =>
     simp only [OAt] at hou
     obtain ⟨q',o',c'',rfl,hq',hc',hx'⟩:=hou
     have HC:=hid (hp e hel q' o' c'' (X ++ esT m (l.take j)) (wr.alloc (.cells #[.string t,.pointer (some ⟨q',o',none⟩)] 50)) (hSr.alloc _) hq' hc' hx' (HA.out.alloc _) hlen)
     have HKa:=hid (HK.out.alloc HA.out.le (.cells #[.string t,.pointer (some ⟨q',o',none⟩)] 50))
     clear hel ht hz hlen hp hSr hc' hx'
     go_wp2_with fail
     go_at_call 162
     refine HC.out.mono ?_
     rintro e w3 ⟨rfl,h3,g3⟩
     have HA3:=hid h3
     have HK3:=hid (HKa.out.trans g3)
     clear h3 g3
     go_wp2
     go_roundw
     case rel=>exact ⟨j + 1,by go_num,hlt,hid (by rw [HT.out,<- List.append_assoc]; exact HA3.out),HK3⟩
     case measure=>simp [intOf]; omega
   ·obtain rfl : j = l.length:=by omega
    have d1 : decide ((l.length : Int) < (l.length : Int)) = false:=decide_eq_false (by omega)
    have hA:=HA.out
    rw [List.take_of_length_le (Nat.le_refl _)] at hA
    have HA2:=hid hA
    clear hA hSr
    go_wp2
    go_end0
    exact ⟨rfl,by rw [HE2.out]; exact HA2.out,HK.out⟩
theorem BoxAt.fzn {w : World} {k : Nat} {cs : Array Value} {t : TypeId} (h : BoxAt w k cs t) (o : Nat) : w.frozen? ⟨k,o,none⟩ = false:=Lib.frozen_of_heap h o
theorem WrAt.setO {B b : Nat} {bs : List UInt8} {W : World} (h : WrAt B b bs W) {g : Nat} {cs : Array Value} {t : TypeId} (hg : BoxAt W g cs t) (ht : t ≠ 56) (hu : t ≠ 5) (o : Nat) (x : Value) : WrAt B b bs (W.setCell ⟨g,o,none⟩ x):=by
 have hgb:=h.box_ne hg ht
 have go : ∀ {p : Value},Lib.BuilderAtF 56 5 B b p (Lib.byteCells bs) W -> Lib.BuilderAtF 56 5 B b p (Lib.byteCells bs) (W.setCell ⟨g,o,none⟩ x):=by
  rintro p ⟨h1,v,h2,h3,h4⟩
  refine ⟨h1,v,(Below.heap_setCell _ _ _ b (fun e=>hgb e.symm)).trans h2,?_,h4⟩
  obtain ⟨g1,g2⟩:=h3
  refine ⟨g1,?_⟩
  rcases g2 with g2 | ⟨q,cap,cur,fz,e,hq,hh,r⟩
  ·exact .inl g2
  ·refine .inr ⟨q,cap,cur,fz,e,hq,(Below.heap_setCell _ _ _ q (fun e=>?_)).trans hh,r⟩
   have e : q = g:=e
   subst e
   unfold BoxAt at hg
   rw [hg] at hh
   simp at hh
   exact hu hh.2.1
 refine ⟨?_,by simpa using h.le⟩
 rcases h.bld with h | h
 ·exact .inl (go h)
 ·exact .inr (go h)
set_option maxHeartbeats 1000000 in
set_option maxRecDepth 100000 in
theorem next_any {W0 : World} {B b : Nat} {bs : List UInt8} (al : List AR) (v : Value) (hv : LieAt (AsAt W0 al) v al.length) (hal : al.length <= 4000000) (k : Nat) (n : ByteArray) (e : EX) (he : al[k]? = some (.mk n e))
  (g o : Nat) (cur : Array Value) (w : World) (hS : Sw W0 B b w) (h : WrAt B b bs w) (hg : BoxAt w g cur 337) (hgB : W0.heap.size <= g) (h0 : cur[o]? = some v) (h1 : cur[o + 1]? = some (.int .i64 k)) (hn : bs.length + (nameG (k == 0) n).length <= 140737488355328) :
  Calls Tryz.prog 234 #[.pointer (some ⟨b,0,none⟩),.pointer (some ⟨g,o,none⟩)] w fun x w'=>(∃ q o' c,x = .returned (.pointer (some ⟨q,o',none⟩)) /\ q < W0.heap.size /\ CellsAt W0 q o' c /\ ExAt W0 e c) /\ WrAt B b (bs ++ nameG (k == 0) n) w' /\
   ∃ u,Wk B b w u /\ Wk B b (u.setCell ⟨g,o + 1,none⟩ (.int .i64 ((k : Int) + 1))) w':=by
 have hk : k < al.length:=(List.getElem?_eq_some_iff.1 he).1
 obtain ⟨ab,ao,c,rfl,hab,hcs⟩:=args_get hv hk
 obtain ⟨c0,c7,hc7,hx7⟩:=hcs k n e he
 have HC0:=hid c0
 have HR:=hid (show ∃ c,CellsAt W0 ab (ao + k * 8 + 1) c /\ ExAt W0 e c from ⟨c7,hc7,hx7⟩)
 have hgb : g ≠ b:=h.box_ne hg (by decide)
 have hag : ab ≠ g:=by omega
 have hga : g ≠ ab:=by omega
 have HS:=hid hS
 have HH:=hid h
 have HG:=hid hg
 have hk0 : (k : Int) <= 4000000:=by omega
 have hk00 : (0 : Int) <= (k : Int):=by omega
 have hk1 : (k : Int) < (al.length : Int):=by omega
 have hk2 : decide ((k : Int) < (al.length : Int)) = true:=decide_eq_true hk1
 have hal0 : (al.length : Int) <= 4000000:=by omega
 obtain ⟨em,hem⟩ : ∃ g,emp n = g:=⟨_,rfl⟩
 have hem2 : n.toList.isEmpty = em:=hem
 have H0:=hid h0
 have H1:=hid h1
 have HX : Hid (nameG (k == 0) n = (if k = 0 then [] else [44,32]) ++ (if em then [] else n.data.toList ++ [58,32])):=by
  unfold Hid nameG
  rw [hem]
  by_cases hk : k = 0
  ·subst hk; rfl
  ·have : (k == 0) = false:=by rw [beq_eq_false_iff_ne]; exact hk
   rw [this,if_neg hk]; rfl
 rw [HX.out] at hn ⊢
 have HNN:=hid hn
 have d0:=(hg.cell o).trans h0
 have d1:=(hg.cell (o + 1)).trans h1
 have hgl:=hg.lt
 clear hv hal he hcs c0 hc7 hx7 hS h hg hn h0 h1 hem HX
 by_cases hz : k = 0
 ·have z1 : decide (0 < k) = false:=decide_eq_false (by omega)
  have z2 : ¬ 0 < k:=by omega
  have HZ:=hid hz
  rw [if_pos hz,List.nil_append] at HNN ⊢
  clear hz
  cases em
  ·rw [if_neg (by simp)] at HNN ⊢
   go_enter Tryz.func234,Tryz.ntmps234
   have c0:=(HS.out.hW.cell (p:=⟨ab,ao + k * 8,none⟩) hab).trans HC0.out
   have hbw : ab < w.heap.size:=Nat.lt_of_lt_of_le hab HS.out.hW.size
   have f1:=HG.out.fzn (o + 1)
   have HA5:=hid ((HH.out.drew).setO (show BoxAt w.drew g cur 337 from HG.out) (by decide) (by decide) (o + 1) (.int .i64 ((k : Int) + 1)))
   have hw5:=write2 n ⟨#[58,32]⟩ _ HA5.out (by have:=HNN.out; simp at this ⊢; show _ + (_ + 2) <= _; omega)
   rw [show (w.drew.setCell ⟨g,o + 1,none⟩ (.int .i64 ((k : Int) + 1))).heap.size = w.heap.size from World.size_setCell ..] at hw5
   have HW5:=hid hw5
   clear hw5
   go_wp2
   go_region
   go_wp2_with fail
   go_at_call 37
   refine HW5.out.mono ?_
   rintro e w5 ⟨rfl,h5,g5⟩
   have HA6:=hid h5
   have HK6:=hid g5
   clear h5 g5
   go_wp2
   go_ret
   obtain ⟨c7,hc7,hx7⟩:=HR.out
   refine ⟨⟨_,_,c7,rfl,hab,hc7,hx7⟩,by simpa using HA6.out,w.drew,(Wk.refl B b w).drew,HK6.out⟩
  ·rw [if_pos rfl] at HNN ⊢
   go_enter Tryz.func234,Tryz.ntmps234
   have c0:=(HS.out.hW.cell (p:=⟨ab,ao + k * 8,none⟩) hab).trans HC0.out
   have hbw : ab < w.heap.size:=Nat.lt_of_lt_of_le hab HS.out.hW.size
   have f1:=HG.out.fzn (o + 1)
   go_wp2
   go_region
   go_wp2
   go_ret
   obtain ⟨c7,hc7,hx7⟩:=HR.out
   refine ⟨⟨_,_,c7,rfl,hab,hc7,hx7⟩,?_,w,(Wk.refl B b w),(Wk.refl _ _ _).drew⟩
   have:=(HH.out.setO HG.out (by decide) (by decide) (o + 1) (.int .i64 ((k : Int) + 1))).drew
   simpa using this
 ·have z1 : decide (0 < k) = true:=decide_eq_true (by omega)
  have z2 : 0 < k:=by omega
  rw [if_neg hz] at HNN ⊢
  clear hz d0 d1 hgl
  have d0:=(HG.out.cell o).trans H0.out
  have d1:=(HG.out.cell (o + 1)).trans H1.out
  have hgl:=HG.out.lt
  cases em
  ·rw [if_neg (by simp)] at HNN ⊢
   have HW:=hid (write1 ⟨#[44,32]⟩ w HH.out (by have:=HNN.out; simp at this; show _ + 2 <= _; omega))
   go_enter Tryz.func234,Tryz.ntmps234
   go_wp2_with fail
   go_at_call 37
   refine HW.out.mono ?_
   rintro e w1 ⟨rfl,h1,g1⟩
   have HA1:=hid h1
   have HK1:=hid g1
   have HS1:=hid (HS.out.step g1)
   have HG1:=hid (HG.out.wk g1 hgb (by decide))
   have d0:=(HG1.out.cell o).trans H0.out
   have d1:=(HG1.out.cell (o + 1)).trans H1.out
   have hgl:=HG1.out.lt
   clear h1 g1 HH HG HS
   have c0:=(HS1.out.hW.cell (p:=⟨ab,ao + k * 8,none⟩) hab).trans HC0.out
   have hbw : ab < w1.heap.size:=Nat.lt_of_lt_of_le hab HS1.out.hW.size
   have f1:=HG1.out.fzn (o + 1)
   have HA5:=hid ((HA1.out.drew).setO (show BoxAt w1.drew g cur 337 from HG1.out) (by decide) (by decide) (o + 1) (.int .i64 ((k : Int) + 1)))
   have hw5:=write2 n ⟨#[58,32]⟩ _ HA5.out (by have:=HNN.out; simp at this ⊢; show _ + (_ + 2) <= _; omega)
   rw [show (w1.drew.setCell ⟨g,o + 1,none⟩ (.int .i64 ((k : Int) + 1))).heap.size = w1.heap.size from World.size_setCell ..] at hw5
   have HW5:=hid hw5
   clear hw5
   go_wp2
   go_region
   go_wp2_with fail
   go_at_call 37
   refine HW5.out.mono ?_
   rintro e w5 ⟨rfl,h5,g5⟩
   have HA6:=hid h5
   have HK6:=hid g5
   clear h5 g5
   go_wp2
   go_ret
   obtain ⟨c7,hc7,hx7⟩:=HR.out
   refine ⟨⟨_,_,c7,rfl,hab,hc7,hx7⟩,by simpa using HA6.out,w1.drew,HK1.out.drew,HK6.out⟩
  ·rw [if_pos rfl] at HNN ⊢
   have HW:=hid (write1 ⟨#[44,32]⟩ w HH.out (by have:=HNN.out; simp at this; show _ + 2 <= _; omega))
   go_enter Tryz.func234,Tryz.ntmps234
   go_wp2_with fail
   go_at_call 37
   refine HW.out.mono ?_
   rintro e w1 ⟨rfl,h1,g1⟩
   have HA1:=hid h1
   have HK1:=hid g1
   have HS1:=hid (HS.out.step g1)
   have HG1:=hid (HG.out.wk g1 hgb (by decide))
   have d0:=(HG1.out.cell o).trans H0.out
   have d1:=(HG1.out.cell (o + 1)).trans H1.out
   have hgl:=HG1.out.lt
   clear h1 g1 HH HG HS
   have c0:=(HS1.out.hW.cell (p:=⟨ab,ao + k * 8,none⟩) hab).trans HC0.out
   have hbw : ab < w1.heap.size:=Nat.lt_of_lt_of_le hab HS1.out.hW.size
   have f1:=HG1.out.fzn (o + 1)
   go_wp2
   go_region
   go_wp2
   go_ret
   obtain ⟨c7,hc7,hx7⟩:=HR.out
   refine ⟨⟨_,_,c7,rfl,hab,hc7,hx7⟩,?_,w1,HK1.out,(Wk.refl _ _ _).drew⟩
   have:=(HA1.out.setO HG1.out (by decide) (by decide) (o + 1) (.int .i64 ((k : Int) + 1))).drew
   simpa using this
structure FR where
 al : List AR
 A : Option Addr
 c : Nat
 k : Nat
def FR.cells (x : FR) : List Value:=[.slice x.A x.al.length x.c,.int .i64 x.k]
def stkC (st : List FR) : List Value:=st.flatMap FR.cells
def stP (st : List FR) : List (List AR × Nat):=(st.map fun x=>(x.al,x.k)).reverse
theorem stP_snoc (st : List FR) (x : FR) : stP (st ++ [x]) = (x.al,x.k) :: stP st:=by simp [stP]
theorem stkC_snoc (st : List FR) (x : FR) : stkC (st ++ [x]) = stkC st ++ x.cells:=by simp [stkC]
theorem stkC_len (st : List FR) : (stkC st).length = st.length * 2:=by
 induction st with
 | nil=>rfl
 | cons x r ih =>
  have : stkC (x :: r) = x.cells ++ stkC r:=rfl
  rw [this,List.length_append,ih,List.length_cons]
  show 2 + _ = _
  omega
def StkR (n₀ : Nat) (W : World) (v : Value) (st : List FR) : Prop:=W.ownsRow n₀ 337 2 v st.length (stkC st)
theorem StkR.nil (n₀ : Nat) (W : World) : StkR n₀ W (.slice none 0 0) []:=World.ownsRow_nil _ _ _ _
theorem StkR.shape {n₀ : Nat} {W : World} {v : Value} {st : List FR} (h : StkR n₀ W v st) : ∃ A cap,v = .slice A st.length cap:=by
 rcases h.2 with ⟨rfl,h0⟩ | ⟨g,cap,cur,rfl,_⟩
 ·exact ⟨none,0,by rw [h0]⟩
 ·exact ⟨_,_,rfl⟩
theorem StkR.top {n₀ : Nat} {W : World} {v : Value} {st : List FR} {x : FR} (h : StkR n₀ W v (st ++ [x])) :
  ∃ g cap cur,v = .slice (some ⟨g,0,none⟩) (st.length + 1) cap /\ n₀ <= g /\ BoxAt W g cur 337 /\ st.length + 1 <= cap /\ cap <= maxLen /\ cur[st.length * 2]? = some (.slice x.A x.al.length x.c) /\ cur[st.length * 2 + 1]? = some (.int .i64 x.k):=by
 have hl : (st ++ [x]).length = st.length + 1:=by simp
 rcases h.2 with ⟨_,h0⟩ | ⟨g,cap,cur,rfl,hb,hg,hn,hm,hs,ht⟩
 ·rw [hl] at h0; omega
 ·rw [hl] at hn ht
  have hget : ∀ j u,j < (st.length + 1) * 2 -> (stkC (st ++ [x]))[j]? = some u -> cur[j]? = some u:=fun j u hj hu=>by
   rw [<- ht,List.getElem?_take_of_lt hj,Array.getElem?_toList] at hu
   exact hu
  refine ⟨g,cap,cur,by rw [hl],hb,hg,hn,hm,hget _ _ (by omega) ?_,hget _ _ (by omega) ?_⟩
  ·rw [stkC_snoc,List.getElem?_append_right (by rw [stkC_len]; omega),stkC_len,Nat.sub_self]; rfl
  ·rw [stkC_snoc,List.getElem?_append_right (by rw [stkC_len]; omega),stkC_len,show st.length * 2 + 1 - st.length * 2 = 1 by omega]; rfl
theorem StkR.pop {n₀ g cap : Nat} {W : World} {st : List FR} {x : FR} (h : StkR n₀ W (.slice (some ⟨g,0,none⟩) (st.length + 1) cap) (st ++ [x])) : StkR n₀ W (.slice (some ⟨g,0,none⟩) st.length cap) st:=by
 have hl : (st ++ [x]).length = st.length + 1:=by simp
 refine ⟨stkC_len st,?_⟩
 rcases h.2 with ⟨e,_⟩ | ⟨g',cap',cur,e,hb,hg,hn,hm,hs,ht⟩
 ·cases e
 ·obtain ⟨rfl,rfl⟩ : g = g' /\ cap = cap':=by simpa using e
  refine .inr ⟨g,cap,cur,rfl,hb,hg,by omega,hm,hs,?_⟩
  have:=congrArg (List.take (st.length * 2)) ht
  rw [List.take_take,hl,Nat.min_eq_left (by omega),stkC_snoc,List.take_append_of_le_length (by rw [stkC_len]; omega)] at this
  exact this.trans (List.take_of_length_le (by rw [stkC_len]; omega))
theorem stkC_set (st : List FR) (x : FR) (k : Nat) : (stkC (st ++ [x])).set (st.length * 2 + 1) (.int .i64 k) = stkC (st ++ [⟨x.al,x.A,x.c,k⟩]):=by
 rw [stkC_snoc,stkC_snoc,List.set_append_right _ _ (by rw [stkC_len]; omega),stkC_len,show st.length * 2 + 1 - st.length * 2 = 1 by omega]
 rfl
theorem StkR.bump {n₀ g cap : Nat} {W : World} {st : List FR} {x : FR} (h : StkR n₀ W (.slice (some ⟨g,0,none⟩) (st.length + 1) cap) (st ++ [x])) (k : Nat) : StkR n₀ (W.setCell ⟨g,st.length * 2 + 1,none⟩ (.int .i64 k)) (.slice (some ⟨g,0,none⟩) (st.length + 1) cap) (st ++ [⟨x.al,x.A,x.c,k⟩]):=by
 have hl : (st ++ [x]).length = st.length + 1:=by simp
 refine ⟨stkC_len _,?_⟩
 rcases h.2 with ⟨e,_⟩ | ⟨g',cap',cur,e,hb,hg,hn,hm,hs,ht⟩
 ·cases e
 ·obtain ⟨rfl,rfl⟩ : g = g' /\ cap = cap':=by simpa using e
  refine .inr ⟨g,cap,cur.setIfInBounds (st.length * 2 + 1) (.int .i64 k),by simp,hb,?_,by simpa using hn,hm,by simpa using hs,?_⟩
  ·simp [World.setCell,Array.getElem?_modify,hg]
  ·rw [Array.toList_setIfInBounds,List.take_set,show (st ++ [(⟨x.al,x.A,x.c,k⟩ : FR)]).length = (st ++ [x]).length by simp,ht,stkC_set]
theorem StkR.wk {n₀ B b : Nat} {W W' : World} {v : Value} {st : List FR} {bs : List UInt8} (h : StkR n₀ W v st) (hw : WrAt B b bs W) (g : Wk B b W W') : StkR n₀ W' v st:=by
 refine ⟨h.1,?_⟩
 rcases h.2 with h0 | ⟨q,cap,cur,e,hb,hg,r⟩
 ·exact .inl h0
 ·exact .inr ⟨q,cap,cur,e,hb,BoxAt.wk (t:=337) hg g (hw.box_ne hg (by decide)) (by decide),r⟩
theorem StkR.wkn {n₀ B b : Nat} {W W' : World} {v : Value} {st : List FR} (h : StkR n₀ W v st) (hne : ∀ k,v.ownBlock = some k -> k ≠ b) (g : Wk B b W W') : StkR n₀ W' v st:=by
 refine ⟨h.1,?_⟩
 rcases h.2 with h0 | ⟨q,cap,cur,e,hb,hg,r⟩
 ·exact .inl h0
 ·exact .inr ⟨q,cap,cur,e,hb,BoxAt.wk (t:=337) hg g (hne q (by rw [e]; rfl)) (by decide),r⟩
theorem StkR.below {n₀ : Nat} {W W' : World} {v : Value} {st : List FR} (h : StkR n₀ W v st) (g : Below W.heap.size W W') : StkR n₀ W' v st:=by
 refine ⟨h.1,?_⟩
 rcases h.2 with h0 | ⟨q,cap,cur,e,hb,hg,r⟩
 ·exact .inl h0
 ·exact .inr ⟨q,cap,cur,e,hb,BoxAt.later (t:=337) hg g,r⟩
theorem StkR.block {n₀ : Nat} {W : World} {v : Value} {st : List FR} (h : StkR n₀ W v st) {k : Nat} (hk : v.ownBlock = some k) : n₀ <= k /\ ∃ cs,BoxAt W k cs 337:=by
 rcases h.2 with ⟨rfl,_⟩ | ⟨q,cap,cur,rfl,hb,hg,r⟩
 ·cases hk
 ·cases hk; exact ⟨hb,cur,hg⟩
theorem Wk.setNew {B b : Nat} {w W : World} (h : Wk B b w W) {g : Nat} (hB : B <= w.heap.size) (hg : w.heap.size <= g) (o : Nat) (x : Value) : Wk B b w (W.setCell ⟨g,o,none⟩ x) :=
 ⟨h.below.setCell (p:=⟨g,o,none⟩) (Nat.le_trans hB hg) x,fun k ob hk hb hc=>by
  have hlt:=(Array.getElem?_eq_some_iff.1 hk).1
  exact (Below.heap_setCell _ _ _ k (by show k ≠ g; omega)).trans (h.kept k ob hk hb hc)⟩
theorem Wk.grown {B b : Nat} {w W W' : World} {row : Option Nat} (h : Wk B b w W) (hB : B <= w.heap.size) (g : W.grownBy W' row) (hr : ∀ k,row = some k -> w.heap.size <= k) : Wk B b w W' :=
 ⟨h.below.grown g (Nat.le_trans hB h.size) (fun k hk=>Nat.le_trans hB (hr k hk)),fun k ob hk hb hc=>by
  have hlt:=(Array.getElem?_eq_some_iff.1 hk).1
  refine (g.block k (Nat.lt_of_lt_of_le hlt h.size) (fun e=>?_)).trans (h.kept k ob hk hb hc)
  have:=hr k e.symm
  omega⟩
theorem WrAt.kept {B b : Nat} {bs : List UInt8} {W W' : World} {row : Option Nat} (h : WrAt B b bs W) (g : W.grownBy W' row) (hr : ∀ k,row = some k -> ∃ cs,BoxAt W k cs 337) : WrAt B b bs W':=by
 have hne : ∀ q o t,W.heap[q]? = some (.cells o t (0,0)) -> t ≠ 337 -> some q ≠ row:=fun q o t hq ht e=>by
  obtain ⟨cs,hb⟩:=hr q e.symm
  unfold BoxAt at hb
  rw [hq] at hb
  simp at hb
  exact ht hb.2
 have hne2 : ∀ q o fz,W.heap[q]? = some (.cells o 5 fz) -> some q ≠ row:=fun q o fz hq e=>by
  obtain ⟨cs,hb⟩:=hr q e.symm
  unfold BoxAt at hb
  rw [hq] at hb
  simp at hb
 have go : ∀ {p : Value},Lib.BuilderAtF 56 5 B b p (Lib.byteCells bs) W -> Lib.BuilderAtF 56 5 B b p (Lib.byteCells bs) W':=by
  rintro p ⟨h1,v,h2,h3,h4⟩
  refine ⟨h1,v,(g.block b (Array.getElem?_eq_some_iff.1 h2).1 (fun e=>hne b _ _ h2 (by decide) e)).trans h2,?_,h4⟩
  obtain ⟨g1,g2⟩:=h3
  refine ⟨g1,?_⟩
  rcases g2 with g2 | ⟨q,cap,cur,fz,e,hq,hh,r⟩
  ·exact .inl g2
  ·exact .inr ⟨q,cap,cur,fz,e,hq,(g.block q (Array.getElem?_eq_some_iff.1 hh).1 (fun e=>hne2 q _ _ hh e)).trans hh,r⟩
 refine ⟨?_,Nat.le_trans h.le g.size⟩
 rcases h.bld with h | h
 ·exact .inl (go h)
 ·exact .inr (go h)
theorem Sw.wk {W0 : World} {B b : Nat} {w W : World} (h : Sw W0 B b w) (g : Wk B b w W) : Sw W0 B b W:=h.step g
theorem infoCz : (Tryz.prog.info? 337).map (fun i=>(i.zero,i.size,i.bytes)) = some (some (.agg #[.slice none 0 0,.int .i64 0]),2,32):=by kernel_rfl
def StOk (W0 : World) (st : List FR) : Prop:=∀ x ∈ st,LieAt (AsAt W0 x.al) (.slice x.A x.al.length x.c) x.al.length /\ gdAs x.al = true /\ x.k <= x.al.length /\ sizeAs x.al <= 4000000
theorem exAr_size : ∀ e : EX,sizeAs (exArs e) + 1 <= e.size
 | .mk k t n a al i vs=>by rw [EX.size]; show sizeAs al + 1 <= _; omega
theorem asz_drop (al : List AR) : sizeAs (al.drop 0) = sizeAs al:=by rw [List.drop_zero]
set_option maxHeartbeats 2000000 in
set_option maxRecDepth 100000 in
theorem winl_any {W0 : World} {B b m : Nat} (e0 : EX) (hg0 : gdI e0 = true) (hz0 : e0.size <= 4000000) (hH : ∀ e : EX,gdI e = true -> e.size <= e0.size -> WhTo W0 B b m e) : WiTo W0 B b m e0:=by
 intro q o c bs w hS hq hc hx h hn
 obtain ⟨i0,hi0,hzz0,hzz1,hzz2⟩:=info_parts infoCz
 obtain ⟨T,hT⟩ : ∃ T,exT m e0 = T:=⟨_,rfl⟩
 rw [hT] at hn ⊢
 have HT:=hid hT
 have HH:=hid h
 have HN:=hid hn
 have HS:=hid hS
 have HHd:=hid hH
 have HX:=hid (show gdI e0 = true /\ q < W0.heap.size /\ CellsAt W0 q o c /\ ExAt W0 e0 c from ⟨hg0,hq,hc,hx⟩)
 have hBw:=h.le
 clear hT h hn hS hH hq hc hx hg0
 go_enter Tryz.func204,Tryz.ntmps204
 go_wp2
 go_loopg [1,6,7] (e0.size + 1) (fun gk t1 t6 t7 wr=>∃ (e : EX) (q o : Nat) (c : C7) (st : List FR) (D : List UInt8) (A : Option Addr) (cap : Nat),t1 = .pointer (some ⟨q,o,none⟩) /\ t6 = .slice A st.length cap /\
  Hid (gdI e = true /\ q < W0.heap.size /\ CellsAt W0 q o c /\ ExAt W0 e c) /\ Hid (StkR w.heap.size wr (.slice A st.length cap) st) /\ Hid (StOk W0 st) /\ Hid (WrAt B b (bs ++ D) wr) /\ Hid (Wk B b w wr) /\ Hid (D ++ (exT m e ++ restG m (stP st)) = T) /\ Hid (e.size + todoG (stP st) < gk) /\ Hid (st.length + (e.size + todoG (stP st)) <= e0.size))
 case atStart=>exact ⟨e0,q,o,c,[],[],none,0,rfl,rfl,HX,StkR.nil _ _,(fun x hx=>by cases hx),hid (by rw [List.append_nil]; exact HH.out),hid (Wk.refl _ _ _),hid (by rw [HT.out]; simp [stP,restG]),hid (by simp [stP,todoG]),hid (by simp [stP,todoG])⟩
 case round =>
  clear HX HH HT
  obtain ⟨e,q,o,c,st,D,A,cap,rfl,rfl,HX,HR,HO,HA,HK,HT,Hgk,Hsz⟩:=hrel
  obtain ⟨hgi,hq,hc,hx⟩:=HX.out
  have hse : e.size <= e0.size:=by have:=Hsz.out; omega
  have hSr:=HS.out.step HK.out
  have hhd:=exT_head m e (gdI_flat hgi) (stP st)
  have hlen : (bs ++ D).length + (hdT m e).length <= 140737488355328:=by
   have h1:=HT.out
   rw [hhd] at h1
   have h2:=congrArg List.length h1
   have h3:=HN.out
   rw [List.length_append,List.length_append] at h2
   rw [List.length_append]; omega
  have HC:=hid (HHd.out e hgi hse q o c (bs ++ D) wr hSr hq hc hx HA.out hlen)
  have HHG:=hid hhd
  have har:=exAr_size e
  obtain ⟨hd,hhd2⟩ : ∃ x,hdT m e = x:=⟨_,rfl⟩
  rw [hhd2] at HC HHG
  clear hhd hlen hhd2
  have hgs : gdAs (exArs e) = true:=by
   obtain ⟨k,t,n,a,al,i,vs⟩:=e
   exact (gdI_kind hgi).2.2
  obtain ⟨k,al,A1,c1,hck,hca,hvl,hop,hal⟩ : ∃ (k : Int) (al : List AR) (A1 : Option Addr) (c1 : Nat),c.k = .int .i64 k /\ c.al = .slice A1 al.length c1 /\ LieAt (AsAt W0 al) (.slice A1 al.length c1) al.length /\ opensE e = (k == 5 || decide (0 < al.length)) /\ exArs e = al:=by
   obtain ⟨k,t,n,a,al,i,vs⟩:=e
   rw [ExAt] at hx
   obtain ⟨e1,_,_,_,e5,_⟩:=hx
   obtain ⟨A1,c1,e6,r⟩:=e5
   refine ⟨k,al,A1,c1,e1,e6,⟨A1,c1,rfl,r⟩,?_,rfl⟩
   show (k == 5 || !al.isEmpty) = _
   cases al <;> simp
  rw [hal] at har hgs
  obtain ⟨ck,ct,cn,ca,cal,ci,cvs⟩:=c
  dsimp only at hck hca
  subst hck hca
  have HC7:=hid hc
  have HV:=hid hvl
  have hll:=sizeAs_length al
  have halz : (al.length : Int) <= 4000000:=by omega
  have Hgs:=hid hgs
  have Har:=hid har
  have Hal:=hid hal
  obtain ⟨b5,h5⟩ : ∃ x,(k == 5) = x:=⟨_,rfl⟩
  obtain ⟨bl,hbl⟩ : ∃ x,decide (0 < al.length) = x:=⟨_,rfl⟩
  rw [h5,hbl] at hop
  have Hop:=hid hop
  have Hse:=hid hse
  clear HX hgi hx hvl hgs har hal hop hll hse hc
  go_wp2_with fail
  go_at_call 233
  refine HC.out.mono ?_
  rintro e w1 ⟨rfl,h1,g1⟩
  obtain ⟨⟨k0,k1,k2,k3,k4,k5,k6⟩,hlt⟩:=(hSr.step g1).at_ hq HC7.out
  have HA1:=hid h1
  have HK1:=hid (HK.out.trans g1)
  have HR1:=hid (HR.out.wk HA.out g1)
  dsimp only at k0 k1 k2 k3 k4 k5 k6
  clear h1 g1 HC hSr HA HK HR
  cases b5
  ·cases bl
   ·have hn5 : ¬ k = 5:=by rw [beq_eq_false_iff_ne] at h5; exact h5
    have hnl : ¬ 0 < al.length:=of_decide_eq_false hbl
    have HA8:=hid (show WrAt B b (bs ++ (D ++ hd)) w1 by rw [<- List.append_assoc]; exact HA1.out)
    have HK8:=HK1
    have HR8:=HR1
    have HO8:=HO
    have HT8:=hid (show D ++ hd ++ restG m (stP st) = T by
     have h1:=HT.out
     rw [HHG.out,Hop.out,if_neg (by simp)] at h1
     rw [List.append_assoc]; exact h1)
    have Hg8:=hid (show todoG (stP st) + 1 < gk by have:=Hgk.out; have:=Har.out; omega)
    have Hs8:=hid (show st.length + todoG (stP st) <= e0.size by have:=Hsz.out; omega)
    have hsl : (st.length : Int) <= 4000000:=by have:=Hs8.out; omega
    clear HA1 HK1 HR1 HO HT Hgk Hsz HHG Hop Hal Har HV HC7 Hgs Hse
    go_wp2
    go_loopw [6,7] (fun t6 t7 wr=>∃ (st : List FR) (D : List UInt8) (A : Option Addr) (cap : Nat),t6 = .slice A st.length cap /\ t7 = .int .i64 ((st.length : Int) - 1) /\ Hid (StkR w.heap.size wr (.slice A st.length cap) st) /\ Hid (StOk W0 st) /\ Hid (WrAt B b (bs ++ D) wr) /\ Hid (Wk B b w wr) /\ Hid (D ++ restG m (stP st) = T) /\ Hid (todoG (stP st) + 1 < gk) /\ Hid (st.length + todoG (stP st) <= e0.size)) (fun _ t7 _=>(intOf t7 + 1).toNat)
    case atStart=>exact ⟨_,_,_,_,(by first | rfl | (rw [Hn8.out]; done) | (simp; done)),(by first | rfl | (rw [Hn8.out]; done) | (congr 1; simp; done) | (congr 1; simp; omega) | (congr 1; omega)),HR8,HO8,HA8,HK8,HT8,Hg8,Hs8⟩
    case round =>
     clear HR8 HO8 HA8 HK8 HT8 Hg8 Hs8
     obtain ⟨st,D,A,cap,rfl,rfl,HR,HO,HA,HK,HT,Hgk,Hsz⟩:=hrel
     rcases List.eq_nil_or_concat st with rfl | ⟨ini,x,hst⟩
     ·have z0 : decide ((0 : Int) <= -1) = false:=rfl
      have HT2:=hid (show D = T by have:=HT.out; simpa [stP,restG] using this)
      rw [show (([] : List FR).length : Int) - 1 = -1 from rfl]
      go_wp2
      go_region
      go_wp2
      (try simp only [Exit.inBlock,Exit.then])
      refine bodyPost_ret (results_none rfl _ _ _) rfl ?_
      have hA2:=HA.out.drew
      rw [HT2.out] at hA2
      first | exact ⟨rfl,hA2,HK.out.drew⟩ | exact ⟨hA2,HK.out.drew⟩ | exact ⟨trivial,hA2,HK.out.drew⟩
     ·rw [List.concat_eq_append] at hst
      subst hst
      obtain ⟨p,hp⟩ : ∃ p,ini.length = p:=⟨_,rfl⟩
      have hl1 : (ini ++ [x]).length = p + 1:=by rw [List.length_append,hp]; rfl
      have hr:=HR.out
      rw [hl1] at hr
      obtain ⟨g,cap',cur,hv,hg0,hbx,hcp,hcm,hc0,hc1⟩:=hr.top
      rw [hp] at hv hcp hc0 hc1
      obtain ⟨rfl,rfl⟩ : A = some ⟨g,0,none⟩ /\ cap = cap':=by simpa using hv
      have hsz:=Hsz.out
      rw [hl1] at hsz
      have hp0 : (p : Int) <= 4000000:=by omega
      have hp1 : (0 : Int) <= (p : Int):=by omega
      have hp2 : decide ((0 : Int) <= (p : Int)) = true:=decide_eq_true hp1
      have hp3 : (p : Int) < (p : Int) + 1:=by omega
      have hp4 : (p : Int) + 1 - 1 = (p : Int):=by omega
      have hp5 : ¬ (p : Int) < 0:=by omega
      have hp6 : decide ((p : Int) < 0) = false:=decide_eq_false hp5
      have hp7 : (p : Int) <= (cap : Int):=by omega
      have hp8 : (p : Int) <= (p : Int) + 1:=by omega
      obtain ⟨hox,hog,hok,hoz⟩:=HO.out x (by simp)
      have hxl:=sizeAs_length x.al
      have hx0 : (x.al.length : Int) <= 4000000:=by omega
      have hxk0 : (x.k : Int) <= 4000000:=by omega
      have d0:=(hbx.cell (p * 2)).trans hc0
      have d1:=(hbx.cell (p * 2 + 1)).trans hc1
      have hgl:=hbx.lt
      have e1 : (((ini ++ [x]).length : Nat) : Int) - 1 = (p : Int):=by rw [hl1]; omega
      rw [e1,hl1]
      have HRr:=hid hr
      have HBx:=hid hbx
      have HC0:=hid hc0
      have HC1:=hid hc1
      have Hp:=hid hp
      have Hl1:=hid hl1
      have HOI : Hid (StOk W0 ini):=fun y hy=>HO.out y (by simp [hy])
      have Hox:=hid hox
      have Hog:=hid hog
      have Hsz2:=hid hsz
      have Hok:=hid hok
      have Hxl:=hid hxl
      have Hoz:=hid hoz
      have Hhg:=hid hg0
      have hne:=HA.out.box_ne hbx (by decide)
      have HTT:=hid (show D ++ restG m ((x.al,x.k) :: stP ini) = T by rw [<- stP_snoc]; exact HT.out)
      have Hgk2:=hid (show todoG ((x.al,x.k) :: stP ini) + 1 < gk by rw [<- stP_snoc]; exact Hgk.out)
      have Hsz3:=hid (show p + 1 + todoG ((x.al,x.k) :: stP ini) <= e0.size by rw [<- stP_snoc]; exact hsz)
      obtain ⟨xal,xA,xc,xk⟩:=x
      dsimp only at *
      clear hp hl1 hr hv hbx hcp hcm hc0 hc1 hsz hox hog hxl hoz e1 HR hg0 HT Hgk Hsz HO Hsz2
      by_cases ht : xk = xal.length
      ·have t1 : ((xk : Int) == (xal.length : Int)) = true:=by rw [beq_iff_eq]; omega
       have t2 : (xk == xal.length) = true:=by rw [beq_iff_eq]; omega
       have hpop : restG m ((xal,xk) :: stP ini) = 41 :: restG m (stP ini):=by rw [ht]; exact restG_pop m xal (stP ini)
       have Hpop:=hid hpop
       have hlen : (bs ++ D).length + 1 <= 140737488355328:=by
        have h1:=congrArg List.length HTT.out
        rw [hpop,List.length_append,List.length_cons] at h1
        have:=HN.out
        rw [List.length_append]; omega
       have HW:=hid (write1 ⟨#[41]⟩ wr.drew HA.out.drew hlen)
       have Hht:=hid ht
       clear hpop hlen ht
       go_wp2
       go_region
       go_wp2_with fail
       go_at_call 37
       refine HW.out.mono ?_
       rintro e w9 ⟨rfl,h9,g9⟩
       have HA9:=hid (show WrAt B b (bs ++ (D ++ [41])) w9 by rw [<- List.append_assoc]; exact h9)
       have HK9:=hid (HK.out.trans ((Wk.refl B b wr).drew.trans g9))
       have HR9:=hid (HRr.out.wk HA.out ((Wk.refl B b wr).drew.trans g9))
       clear h9 g9
       go_wp2
       go_roundw
       case rel =>
        refine ⟨ini,D ++ [41],some ⟨g,0,none⟩,cap,by rw [Hp.out],(by rw [Hp.out]),hid ?_,HOI,HA9,HK9,hid ?_,hid ?_,hid ?_⟩
        ·have:=HR9.out
         rw [<- Hp.out] at this
         exact this.pop
        ·have:=HTT.out
         rw [Hpop.out] at this
         rw [List.append_assoc]; exact this
        ·have:=Hgk2.out; unfold todoG at this; omega
        ·have:=Hsz3.out; unfold todoG at this; rw [Hp.out]; omega
       case measure=>simp [intOf] <;> omega
      ·have t1 : ((xk : Int) == (xal.length : Int)) = false:=by rw [beq_eq_false_iff_ne]; omega
       have t2 : (xk == xal.length) = false:=by rw [beq_eq_false_iff_ne]; omega
       have hlt' : xk < xal.length:=by have:=Hok.out; omega
       obtain ⟨n,e',he⟩ : ∃ n e',xal[xk]? = some (.mk n e'):=by
        cases h : xal[xk] with
        | mk n e'=>exact ⟨n,e',by rw [List.getElem?_eq_getElem hlt',h]⟩
       have hnx:=restG_next m xal xk n e' (stP ini) he
       have htd:=todo_next xal xk n e' (stP ini) he
       have hge:=gdAs_get xal xk n e' Hog.out he
       have hlen : (bs ++ D).length + (nameG (xk == 0) n).length <= 140737488355328:=by
        have h1:=congrArg List.length HTT.out
        rw [hnx,List.length_append,List.length_append] at h1
        have:=HN.out
        rw [List.length_append]; omega
       have HC:=hid (next_any (bs:=bs ++ D) xal (.slice xA xal.length xc) Hox.out (by have:=Hxl.out; omega) xk n e' he g (p * 2) cur wr.drew (HS.out.step HK.out.drew) HA.out.drew HBx.out (Nat.le_trans HS.out.hB (Nat.le_trans hBw Hhg.out)) HC0.out HC1.out hlen)
       have Hnx:=hid hnx
       have Htd:=hid htd
       have Hge:=hid hge
       have Hlt:=hid hlt'
       clear ht hnx htd hge hlen he hlt'
       go_wp2
       go_region
       go_wp2_with fail
       go_at_call 234
       refine HC.out.mono ?_
       rintro y w9 ⟨⟨q9,o9,c9,rfl,hq9,hc9,hx9⟩,h9,u9,gu,gv⟩
       have HA9:=hid (show WrAt B b (bs ++ (D ++ nameG (xk == 0) n)) w9 by rw [<- List.append_assoc]; exact h9)
       have gu' : Wk B b wr u9:=(Wk.refl B b wr).drew.trans gu
       have HK9:=hid (((HK.out.trans gu').setNew hBw Hhg.out (p * 2 + 1) (.int .i64 ((xk : Int) + 1))).trans gv)
       have hr9:=HRr.out.wk HA.out gu'
       rw [<- Hp.out] at hr9
       have hr10:=hr9.bump (xk + 1)
       rw [Hp.out] at hr10
       have HR9:=hid (hr10.wkn (fun k hk=>by cases hk; exact hne) (by have:=gv; rw [show ((xk : Int) + 1) = ((xk + 1 : Nat) : Int) by omega] at this; exact this))
       have HX9:=hid (show gdI e' = true /\ q9 < W0.heap.size /\ CellsAt W0 q9 o9 c9 /\ ExAt W0 e' c9 from ⟨Hge.out,hq9,hc9,hx9⟩)
       clear h9 gu gv gu' hr9 hr10 hq9 hc9 hx9
       go_wp2
       go_roundg (e'.size + todoG ((xal,xk + 1) :: stP ini) + 1)
       case measure=>have:=Htd.out; have:=Hgk2.out; omega
       case rel =>
        refine ⟨e',q9,o9,c9,ini ++ [⟨xal,xA,xc,xk + 1⟩],D ++ nameG (xk == 0) n,some ⟨g,0,none⟩,cap,rfl,(by rw [List.length_append,Hp.out]; rfl),HX9,hid ?_,hid ?_,HA9,HK9,hid ?_,hid ?_,hid ?_⟩
        ·rw [List.length_append,Hp.out]; exact HR9.out
        ·intro y hy
         rcases List.mem_append.1 hy with hy | hy
         ·exact HOI.out y hy
         ·rw [List.mem_singleton] at hy
          subst hy
          exact ⟨Hox.out,Hog.out,Hlt.out,Hoz.out⟩
        ·have:=HTT.out
         rw [Hnx.out] at this
         rw [stP_snoc,List.append_assoc]; exact this
        ·rw [stP_snoc]; exact Nat.lt_succ_self _
        ·rw [stP_snoc,List.length_append,Hp.out]
         exact Nat.le_trans (Nat.add_le_add_left Htd.out (p + 1)) Hsz3.out
   ·have hn5 : ¬ k = 5:=by rw [beq_eq_false_iff_ne] at h5; exact h5
    have hnl : 0 < al.length:=of_decide_eq_true hbl
    have hop2 : opensE e = true:=by rw [Hop.out]; rfl
    have hlen1 : (bs ++ D ++ hd).length + 1 <= 140737488355328:=by
     have h1:=HT.out
     rw [HHG.out,hop2,if_pos rfl] at h1
     have h2:=congrArg List.length h1
     have:=HN.out
     simp at h2 ⊢
     omega
    have HW:=hid (write1 ⟨#[40]⟩ w1 HA1.out hlen1)
    have Hop2:=hid hop2
    clear hop2 hlen1
    go_wp2_with fail
    go_at_call 37
    refine HW.out.mono ?_
    rintro x w2 ⟨rfl,h2,g2⟩
    obtain ⟨⟨k0,k1,k2,k3,k4,k5,k6⟩,hlt⟩:=((HS.out.step HK1.out).step g2).at_ hq HC7.out
    dsimp only at k0 k1 k2 k3 k4 k5 k6
    have HA2:=hid (show WrAt B b (bs ++ (D ++ (hd ++ [40]))) w2 by have:=h2; simpa using this)
    have HK2:=hid (HK1.out.trans g2)
    have HR2:=hid (HR1.out.wk HA1.out g2)
    have hown1:=HR2.out.below ((Below.refl _ w2).alloc (Nat.le_refl _) (.cells #[.slice A1 al.length c1,.int .i64 0] 337))
    unfold StkR at hown1
    have hsl0 : (st.length : Int) <= 4000000:=by have:=Hsz.out; omega
    have hsl1 : st.length <= 4000000:=by omega
    have hw2:=HK2.out.size
    clear h2 g2 HA1 HK1 HR1
    go_wp2_with (at_builtin; refine wpList_append_where _ rfl _ _ 335 rfl w.heap.size 337 i0 (.agg #[.slice none 0 0,.int .i64 0]) 2 32 Tryz.underlying335 hi0 hzz0 hzz1 hzz2 rfl (by decide) _ _ _ rfl hown1 ⟨w2.heap.size,0,none⟩ 1 1 [.slice A1 al.length c1,.int .i64 0] rfl rfl ?c1 ?c2 ?c3 ?c4 ?c5 ?c6 ?_)
    case c1 =>
     intro j u hj
     match j,hj with
     | 0,hj=>simp at hj; subst hj; simp [Addr.add]
     | 1,hj=>simp at hj; subst hj; simp [Addr.add]
    case c2=>intro u hu; simp at hu; rcases hu with rfl | rfl <;> rfl
    case c3=>unfold maxLen; omega
    case c4=>omega
    case c5=>simp; omega
    case c6=>decide
    intro v' w8 hown' hgrow hwh
    have hr8 : StkR w.heap.size w8 v' (st ++ [⟨al,A1,c1,0⟩]):=by
     unfold StkR
     rw [stkC_snoc,List.length_append]
     exact hown'
    have hr8':=hr8
    obtain ⟨A8,cap8,hv8⟩:=hr8'.shape
    obtain ⟨n8,hn8⟩ : ∃ n,(st ++ [(⟨al,A1,c1,0⟩ : FR)]).length = n:=⟨_,rfl⟩
    rw [hn8] at hv8
    subst hv8
    have Hn8:=hid hn8
    have HR8:=hid (show StkR w.heap.size w8 (.slice A8 (st ++ [(⟨al,A1,c1,0⟩ : FR)]).length cap8) (st ++ [⟨al,A1,c1,0⟩]) by rw [hn8]; exact hr8)
    have HA8:=hid ((HA2.out.alloc (.cells #[.slice A1 al.length c1,.int .i64 0] 337)).kept hgrow (fun k hk=>((show StkR w.heap.size _ (.slice A st.length cap) st from hown1).block hk).2))
    have HK8:=hid ((HK2.out.alloc HA2.out.le (.cells #[.slice A1 al.length c1,.int .i64 0] 337)).grown hBw hgrow (fun k hk=>((show StkR w.heap.size _ (.slice A st.length cap) st from hown1).block hk).1))
    have HO8 : Hid (StOk W0 (st ++ [⟨al,A1,c1,0⟩])):=fun y hy=>by
     rcases List.mem_append.1 hy with hy | hy
     ·exact HO.out y hy
     ·rw [List.mem_singleton] at hy
      subst hy
      exact ⟨HV.out,Hgs.out,Nat.zero_le _,by have:=Har.out; have:=Hse.out; show sizeAs al <= _; omega⟩
    have HT8:=hid (show D ++ (hd ++ [40]) ++ restG m (stP (st ++ [⟨al,A1,c1,0⟩])) = T by
     have h1:=HT.out
     rw [HHG.out,Hop2.out,if_pos rfl,Hal.out] at h1
     rw [stP_snoc]
     simpa using h1)
    have Hg8:=hid (show todoG (stP (st ++ [⟨al,A1,c1,0⟩])) + 1 < gk by
     rw [stP_snoc]
     unfold todoG
     have:=Hgk.out; have:=Har.out; have:=asz_drop al
     dsimp only
     omega)
    have Hs8:=hid (show (st ++ [(⟨al,A1,c1,0⟩ : FR)]).length + todoG (stP (st ++ [⟨al,A1,c1,0⟩])) <= e0.size by
     rw [stP_snoc,List.length_append,List.length_singleton]
     unfold todoG
     have:=Hsz.out; have:=Har.out; have:=asz_drop al
     dsimp only
     omega)
    have hsl : (n8 : Int) <= 4000000:=by have:=Hs8.out; rw [Hn8.out] at this; omega
    clear HA2 HK2 HR2 hown' hgrow hwh hown1 hr8 hr8' hn8 HO HT Hgk Hsz HHG Hop Hal Har HV HC7 Hgs Hse HW
    go_wp2
    go_loopw [6,7] (fun t6 t7 wr=>∃ (st : List FR) (D : List UInt8) (A : Option Addr) (cap : Nat),t6 = .slice A st.length cap /\ t7 = .int .i64 ((st.length : Int) - 1) /\ Hid (StkR w.heap.size wr (.slice A st.length cap) st) /\ Hid (StOk W0 st) /\ Hid (WrAt B b (bs ++ D) wr) /\ Hid (Wk B b w wr) /\ Hid (D ++ restG m (stP st) = T) /\ Hid (todoG (stP st) + 1 < gk) /\ Hid (st.length + todoG (stP st) <= e0.size)) (fun _ t7 _=>(intOf t7 + 1).toNat)
    case atStart=>exact ⟨_,_,_,_,(by first | rfl | (rw [Hn8.out]; done) | (simp; done)),(by first | rfl | (rw [Hn8.out]; done) | (congr 1; simp; done) | (congr 1; simp; omega) | (congr 1; omega)),HR8,HO8,HA8,HK8,HT8,Hg8,Hs8⟩
    case round =>
     clear HR8 HO8 HA8 HK8 HT8 Hg8 Hs8
     obtain ⟨st,D,A,cap,rfl,rfl,HR,HO,HA,HK,HT,Hgk,Hsz⟩:=hrel
     rcases List.eq_nil_or_concat st with rfl | ⟨ini,x,hst⟩
     ·have z0 : decide ((0 : Int) <= -1) = false:=rfl
      have HT2:=hid (show D = T by have:=HT.out; simpa [stP,restG] using this)
      rw [show (([] : List FR).length : Int) - 1 = -1 from rfl]
      go_wp2
      go_region
      go_wp2
      (try simp only [Exit.inBlock,Exit.then])
      refine bodyPost_ret (results_none rfl _ _ _) rfl ?_
      have hA2:=HA.out.drew
      rw [HT2.out] at hA2
      first | exact ⟨rfl,hA2,HK.out.drew⟩ | exact ⟨hA2,HK.out.drew⟩ | exact ⟨trivial,hA2,HK.out.drew⟩
     ·rw [List.concat_eq_append] at hst
      subst hst
      obtain ⟨p,hp⟩ : ∃ p,ini.length = p:=⟨_,rfl⟩
      have hl1 : (ini ++ [x]).length = p + 1:=by rw [List.length_append,hp]; rfl
      have hr:=HR.out
      rw [hl1] at hr
      obtain ⟨g,cap',cur,hv,hg0,hbx,hcp,hcm,hc0,hc1⟩:=hr.top
      rw [hp] at hv hcp hc0 hc1
      obtain ⟨rfl,rfl⟩ : A = some ⟨g,0,none⟩ /\ cap = cap':=by simpa using hv
      have hsz:=Hsz.out
      rw [hl1] at hsz
      have hp0 : (p : Int) <= 4000000:=by omega
      have hp1 : (0 : Int) <= (p : Int):=by omega
      have hp2 : decide ((0 : Int) <= (p : Int)) = true:=decide_eq_true hp1
      have hp3 : (p : Int) < (p : Int) + 1:=by omega
      have hp4 : (p : Int) + 1 - 1 = (p : Int):=by omega
      have hp5 : ¬ (p : Int) < 0:=by omega
      have hp6 : decide ((p : Int) < 0) = false:=decide_eq_false hp5
      have hp7 : (p : Int) <= (cap : Int):=by omega
      have hp8 : (p : Int) <= (p : Int) + 1:=by omega
      obtain ⟨hox,hog,hok,hoz⟩:=HO.out x (by simp)
      have hxl:=sizeAs_length x.al
      have hx0 : (x.al.length : Int) <= 4000000:=by omega
      have hxk0 : (x.k : Int) <= 4000000:=by omega
      have d0:=(hbx.cell (p * 2)).trans hc0
      have d1:=(hbx.cell (p * 2 + 1)).trans hc1
      have hgl:=hbx.lt
      have e1 : (((ini ++ [x]).length : Nat) : Int) - 1 = (p : Int):=by rw [hl1]; omega
      rw [e1,hl1]
      have HRr:=hid hr
      have HBx:=hid hbx
      have HC0:=hid hc0
      have HC1:=hid hc1
      have Hp:=hid hp
      have Hl1:=hid hl1
      have HOI : Hid (StOk W0 ini):=fun y hy=>HO.out y (by simp [hy])
      have Hox:=hid hox
      have Hog:=hid hog
      have Hsz2:=hid hsz
      have Hok:=hid hok
      have Hxl:=hid hxl
      have Hoz:=hid hoz
      have Hhg:=hid hg0
      have hne:=HA.out.box_ne hbx (by decide)
      have HTT:=hid (show D ++ restG m ((x.al,x.k) :: stP ini) = T by rw [<- stP_snoc]; exact HT.out)
      have Hgk2:=hid (show todoG ((x.al,x.k) :: stP ini) + 1 < gk by rw [<- stP_snoc]; exact Hgk.out)
      have Hsz3:=hid (show p + 1 + todoG ((x.al,x.k) :: stP ini) <= e0.size by rw [<- stP_snoc]; exact hsz)
      obtain ⟨xal,xA,xc,xk⟩:=x
      dsimp only at *
      clear hp hl1 hr hv hbx hcp hcm hc0 hc1 hsz hox hog hxl hoz e1 HR hg0 HT Hgk Hsz HO Hsz2
      by_cases ht : xk = xal.length
      ·have t1 : ((xk : Int) == (xal.length : Int)) = true:=by rw [beq_iff_eq]; omega
       have t2 : (xk == xal.length) = true:=by rw [beq_iff_eq]; omega
       have hpop : restG m ((xal,xk) :: stP ini) = 41 :: restG m (stP ini):=by rw [ht]; exact restG_pop m xal (stP ini)
       have Hpop:=hid hpop
       have hlen : (bs ++ D).length + 1 <= 140737488355328:=by
        have h1:=congrArg List.length HTT.out
        rw [hpop,List.length_append,List.length_cons] at h1
        have:=HN.out
        rw [List.length_append]; omega
       have HW:=hid (write1 ⟨#[41]⟩ wr.drew HA.out.drew hlen)
       have Hht:=hid ht
       clear hpop hlen ht
       go_wp2
       go_region
       go_wp2_with fail
       go_at_call 37
       refine HW.out.mono ?_
       rintro e w9 ⟨rfl,h9,g9⟩
       have HA9:=hid (show WrAt B b (bs ++ (D ++ [41])) w9 by rw [<- List.append_assoc]; exact h9)
       have HK9:=hid (HK.out.trans ((Wk.refl B b wr).drew.trans g9))
       have HR9:=hid (HRr.out.wk HA.out ((Wk.refl B b wr).drew.trans g9))
       clear h9 g9
       go_wp2
       go_roundw
       case rel =>
        refine ⟨ini,D ++ [41],some ⟨g,0,none⟩,cap,by rw [Hp.out],(by rw [Hp.out]),hid ?_,HOI,HA9,HK9,hid ?_,hid ?_,hid ?_⟩
        ·have:=HR9.out
         rw [<- Hp.out] at this
         exact this.pop
        ·have:=HTT.out
         rw [Hpop.out] at this
         rw [List.append_assoc]; exact this
        ·have:=Hgk2.out; unfold todoG at this; omega
        ·have:=Hsz3.out; unfold todoG at this; rw [Hp.out]; omega
       case measure=>simp [intOf] <;> omega
      ·have t1 : ((xk : Int) == (xal.length : Int)) = false:=by rw [beq_eq_false_iff_ne]; omega
       have t2 : (xk == xal.length) = false:=by rw [beq_eq_false_iff_ne]; omega
       have hlt' : xk < xal.length:=by have:=Hok.out; omega
       obtain ⟨n,e',he⟩ : ∃ n e',xal[xk]? = some (.mk n e'):=by
        cases h : xal[xk] with
        | mk n e'=>exact ⟨n,e',by rw [List.getElem?_eq_getElem hlt',h]⟩
       have hnx:=restG_next m xal xk n e' (stP ini) he
       have htd:=todo_next xal xk n e' (stP ini) he
       have hge:=gdAs_get xal xk n e' Hog.out he
       have hlen : (bs ++ D).length + (nameG (xk == 0) n).length <= 140737488355328:=by
        have h1:=congrArg List.length HTT.out
        rw [hnx,List.length_append,List.length_append] at h1
        have:=HN.out
        rw [List.length_append]; omega
       have HC:=hid (next_any (bs:=bs ++ D) xal (.slice xA xal.length xc) Hox.out (by have:=Hxl.out; omega) xk n e' he g (p * 2) cur wr.drew (HS.out.step HK.out.drew) HA.out.drew HBx.out (Nat.le_trans HS.out.hB (Nat.le_trans hBw Hhg.out)) HC0.out HC1.out hlen)
       have Hnx:=hid hnx
       have Htd:=hid htd
       have Hge:=hid hge
       have Hlt:=hid hlt'
       clear ht hnx htd hge hlen he hlt'
       go_wp2
       go_region
       go_wp2_with fail
       go_at_call 234
       refine HC.out.mono ?_
       rintro y w9 ⟨⟨q9,o9,c9,rfl,hq9,hc9,hx9⟩,h9,u9,gu,gv⟩
       have HA9:=hid (show WrAt B b (bs ++ (D ++ nameG (xk == 0) n)) w9 by rw [<- List.append_assoc]; exact h9)
       have gu' : Wk B b wr u9:=(Wk.refl B b wr).drew.trans gu
       have HK9:=hid (((HK.out.trans gu').setNew hBw Hhg.out (p * 2 + 1) (.int .i64 ((xk : Int) + 1))).trans gv)
       have hr9:=HRr.out.wk HA.out gu'
       rw [<- Hp.out] at hr9
       have hr10:=hr9.bump (xk + 1)
       rw [Hp.out] at hr10
       have HR9:=hid (hr10.wkn (fun k hk=>by cases hk; exact hne) (by have:=gv; rw [show ((xk : Int) + 1) = ((xk + 1 : Nat) : Int) by omega] at this; exact this))
       have HX9:=hid (show gdI e' = true /\ q9 < W0.heap.size /\ CellsAt W0 q9 o9 c9 /\ ExAt W0 e' c9 from ⟨Hge.out,hq9,hc9,hx9⟩)
       clear h9 gu gv gu' hr9 hr10 hq9 hc9 hx9
       go_wp2
       go_roundg (e'.size + todoG ((xal,xk + 1) :: stP ini) + 1)
       case measure=>have:=Htd.out; have:=Hgk2.out; omega
       case rel =>
        refine ⟨e',q9,o9,c9,ini ++ [⟨xal,xA,xc,xk + 1⟩],D ++ nameG (xk == 0) n,some ⟨g,0,none⟩,cap,rfl,(by rw [List.length_append,Hp.out]; rfl),HX9,hid ?_,hid ?_,HA9,HK9,hid ?_,hid ?_,hid ?_⟩
        ·rw [List.length_append,Hp.out]; exact HR9.out
        ·intro y hy
         rcases List.mem_append.1 hy with hy | hy
         ·exact HOI.out y hy
         ·rw [List.mem_singleton] at hy
          subst hy
          exact ⟨Hox.out,Hog.out,Hlt.out,Hoz.out⟩
        ·have:=HTT.out
         rw [Hnx.out] at this
         rw [stP_snoc,List.append_assoc]; exact this
        ·rw [stP_snoc]; exact Nat.lt_succ_self _
        ·rw [stP_snoc,List.length_append,Hp.out]
         exact Nat.le_trans (Nat.add_le_add_left Htd.out (p + 1)) Hsz3.out
  ·have hn5 : k = 5:=by rw [beq_iff_eq] at h5; exact h5
   have hop2 : opensE e = true:=by rw [Hop.out]; rfl
   have hlen1 : (bs ++ D ++ hd).length + 1 <= 140737488355328:=by
    have h1:=HT.out
    rw [HHG.out,hop2,if_pos rfl] at h1
    have h2:=congrArg List.length h1
    have:=HN.out
    simp at h2 ⊢
    omega
   have HW:=hid (write1 ⟨#[40]⟩ w1 HA1.out hlen1)
   have Hop2:=hid hop2
   clear hop2 hlen1
   go_wp2_with fail
   go_at_call 37
   refine HW.out.mono ?_
   rintro x w2 ⟨rfl,h2,g2⟩
   obtain ⟨⟨k0,k1,k2,k3,k4,k5,k6⟩,hlt⟩:=((HS.out.step HK1.out).step g2).at_ hq HC7.out
   dsimp only at k0 k1 k2 k3 k4 k5 k6
   have HA2:=hid (show WrAt B b (bs ++ (D ++ (hd ++ [40]))) w2 by have:=h2; simpa using this)
   have HK2:=hid (HK1.out.trans g2)
   have HR2:=hid (HR1.out.wk HA1.out g2)
   have hown1:=HR2.out.below ((Below.refl _ w2).alloc (Nat.le_refl _) (.cells #[.slice A1 al.length c1,.int .i64 0] 337))
   unfold StkR at hown1
   have hsl0 : (st.length : Int) <= 4000000:=by have:=Hsz.out; omega
   have hsl1 : st.length <= 4000000:=by omega
   have hw2:=HK2.out.size
   clear h2 g2 HA1 HK1 HR1
   go_wp2_with (at_builtin; refine wpList_append_where _ rfl _ _ 335 rfl w.heap.size 337 i0 (.agg #[.slice none 0 0,.int .i64 0]) 2 32 Tryz.underlying335 hi0 hzz0 hzz1 hzz2 rfl (by decide) _ _ _ rfl hown1 ⟨w2.heap.size,0,none⟩ 1 1 [.slice A1 al.length c1,.int .i64 0] rfl rfl ?c1 ?c2 ?c3 ?c4 ?c5 ?c6 ?_)
   case c1 =>
    intro j u hj
    match j,hj with
    | 0,hj=>simp at hj; subst hj; simp [Addr.add]
    | 1,hj=>simp at hj; subst hj; simp [Addr.add]
   case c2=>intro u hu; simp at hu; rcases hu with rfl | rfl <;> rfl
   case c3=>unfold maxLen; omega
   case c4=>omega
   case c5=>simp; omega
   case c6=>decide
   intro v' w8 hown' hgrow hwh
   have hr8 : StkR w.heap.size w8 v' (st ++ [⟨al,A1,c1,0⟩]):=by
    unfold StkR
    rw [stkC_snoc,List.length_append]
    exact hown'
   have hr8':=hr8
   obtain ⟨A8,cap8,hv8⟩:=hr8'.shape
   obtain ⟨n8,hn8⟩ : ∃ n,(st ++ [(⟨al,A1,c1,0⟩ : FR)]).length = n:=⟨_,rfl⟩
   rw [hn8] at hv8
   subst hv8
   have Hn8:=hid hn8
   have HR8:=hid (show StkR w.heap.size w8 (.slice A8 (st ++ [(⟨al,A1,c1,0⟩ : FR)]).length cap8) (st ++ [⟨al,A1,c1,0⟩]) by rw [hn8]; exact hr8)
   have HA8:=hid ((HA2.out.alloc (.cells #[.slice A1 al.length c1,.int .i64 0] 337)).kept hgrow (fun k hk=>((show StkR w.heap.size _ (.slice A st.length cap) st from hown1).block hk).2))
   have HK8:=hid ((HK2.out.alloc HA2.out.le (.cells #[.slice A1 al.length c1,.int .i64 0] 337)).grown hBw hgrow (fun k hk=>((show StkR w.heap.size _ (.slice A st.length cap) st from hown1).block hk).1))
   have HO8 : Hid (StOk W0 (st ++ [⟨al,A1,c1,0⟩])):=fun y hy=>by
    rcases List.mem_append.1 hy with hy | hy
    ·exact HO.out y hy
    ·rw [List.mem_singleton] at hy
     subst hy
     exact ⟨HV.out,Hgs.out,Nat.zero_le _,by have:=Har.out; have:=Hse.out; show sizeAs al <= _; omega⟩
   have HT8:=hid (show D ++ (hd ++ [40]) ++ restG m (stP (st ++ [⟨al,A1,c1,0⟩])) = T by
    have h1:=HT.out
    rw [HHG.out,Hop2.out,if_pos rfl,Hal.out] at h1
    rw [stP_snoc]
    simpa using h1)
   have Hg8:=hid (show todoG (stP (st ++ [⟨al,A1,c1,0⟩])) + 1 < gk by
    rw [stP_snoc]
    unfold todoG
    have:=Hgk.out; have:=Har.out; have:=asz_drop al
    dsimp only
    omega)
   have Hs8:=hid (show (st ++ [(⟨al,A1,c1,0⟩ : FR)]).length + todoG (stP (st ++ [⟨al,A1,c1,0⟩])) <= e0.size by
    rw [stP_snoc,List.length_append,List.length_singleton]
    unfold todoG
    have:=Hsz.out; have:=Har.out; have:=asz_drop al
    dsimp only
    omega)
   have hsl : (n8 : Int) <= 4000000:=by have:=Hs8.out; rw [Hn8.out] at this; omega
   clear HA2 HK2 HR2 hown' hgrow hwh hown1 hr8 hr8' hn8 HO HT Hgk Hsz HHG Hop Hal Har HV HC7 Hgs Hse HW
   go_wp2
   go_loopw [6,7] (fun t6 t7 wr=>∃ (st : List FR) (D : List UInt8) (A : Option Addr) (cap : Nat),t6 = .slice A st.length cap /\ t7 = .int .i64 ((st.length : Int) - 1) /\ Hid (StkR w.heap.size wr (.slice A st.length cap) st) /\ Hid (StOk W0 st) /\ Hid (WrAt B b (bs ++ D) wr) /\ Hid (Wk B b w wr) /\ Hid (D ++ restG m (stP st) = T) /\ Hid (todoG (stP st) + 1 < gk) /\ Hid (st.length + todoG (stP st) <= e0.size)) (fun _ t7 _=>(intOf t7 + 1).toNat)
   case atStart=>exact ⟨_,_,_,_,(by first | rfl | (rw [Hn8.out]; done) | (simp; done)),(by first | rfl | (rw [Hn8.out]; done) | (congr 1; simp; done) | (congr 1; simp; omega) | (congr 1; omega)),HR8,HO8,HA8,HK8,HT8,Hg8,Hs8⟩
   case round =>
    clear HR8 HO8 HA8 HK8 HT8 Hg8 Hs8
    obtain ⟨st,D,A,cap,rfl,rfl,HR,HO,HA,HK,HT,Hgk,Hsz⟩:=hrel
    rcases List.eq_nil_or_concat st with rfl | ⟨ini,x,hst⟩
    ·have z0 : decide ((0 : Int) <= -1) = false:=rfl
     have HT2:=hid (show D = T by have:=HT.out; simpa [stP,restG] using this)
     rw [show (([] : List FR).length : Int) - 1 = -1 from rfl]
     go_wp2
     go_region
     go_wp2
     (try simp only [Exit.inBlock,Exit.then])
     refine bodyPost_ret (results_none rfl _ _ _) rfl ?_
     have hA2:=HA.out.drew
     rw [HT2.out] at hA2
     first | exact ⟨rfl,hA2,HK.out.drew⟩ | exact ⟨hA2,HK.out.drew⟩ | exact ⟨trivial,hA2,HK.out.drew⟩
    ·rw [List.concat_eq_append] at hst
     subst hst
     obtain ⟨p,hp⟩ : ∃ p,ini.length = p:=⟨_,rfl⟩
     have hl1 : (ini ++ [x]).length = p + 1:=by rw [List.length_append,hp]; rfl
     have hr:=HR.out
     rw [hl1] at hr
     obtain ⟨g,cap',cur,hv,hg0,hbx,hcp,hcm,hc0,hc1⟩:=hr.top
     rw [hp] at hv hcp hc0 hc1
     obtain ⟨rfl,rfl⟩ : A = some ⟨g,0,none⟩ /\ cap = cap':=by simpa using hv
     have hsz:=Hsz.out
     rw [hl1] at hsz
     have hp0 : (p : Int) <= 4000000:=by omega
     have hp1 : (0 : Int) <= (p : Int):=by omega
     have hp2 : decide ((0 : Int) <= (p : Int)) = true:=decide_eq_true hp1
     have hp3 : (p : Int) < (p : Int) + 1:=by omega
     have hp4 : (p : Int) + 1 - 1 = (p : Int):=by omega
     have hp5 : ¬ (p : Int) < 0:=by omega
     have hp6 : decide ((p : Int) < 0) = false:=decide_eq_false hp5
     have hp7 : (p : Int) <= (cap : Int):=by omega
     have hp8 : (p : Int) <= (p : Int) + 1:=by omega
     obtain ⟨hox,hog,hok,hoz⟩:=HO.out x (by simp)
     have hxl:=sizeAs_length x.al
     have hx0 : (x.al.length : Int) <= 4000000:=by omega
     have hxk0 : (x.k : Int) <= 4000000:=by omega
     have d0:=(hbx.cell (p * 2)).trans hc0
     have d1:=(hbx.cell (p * 2 + 1)).trans hc1
     have hgl:=hbx.lt
     have e1 : (((ini ++ [x]).length : Nat) : Int) - 1 = (p : Int):=by rw [hl1]; omega
     rw [e1,hl1]
     have HRr:=hid hr
     have HBx:=hid hbx
     have HC0:=hid hc0
     have HC1:=hid hc1
     have Hp:=hid hp
     have Hl1:=hid hl1
     have HOI : Hid (StOk W0 ini):=fun y hy=>HO.out y (by simp [hy])
     have Hox:=hid hox
     have Hog:=hid hog
     have Hsz2:=hid hsz
     have Hok:=hid hok
     have Hxl:=hid hxl
     have Hoz:=hid hoz
     have Hhg:=hid hg0
     have hne:=HA.out.box_ne hbx (by decide)
     have HTT:=hid (show D ++ restG m ((x.al,x.k) :: stP ini) = T by rw [<- stP_snoc]; exact HT.out)
     have Hgk2:=hid (show todoG ((x.al,x.k) :: stP ini) + 1 < gk by rw [<- stP_snoc]; exact Hgk.out)
     have Hsz3:=hid (show p + 1 + todoG ((x.al,x.k) :: stP ini) <= e0.size by rw [<- stP_snoc]; exact hsz)
     obtain ⟨xal,xA,xc,xk⟩:=x
     dsimp only at *
     clear hp hl1 hr hv hbx hcp hcm hc0 hc1 hsz hox hog hxl hoz e1 HR hg0 HT Hgk Hsz HO Hsz2
     by_cases ht : xk = xal.length
     ·have t1 : ((xk : Int) == (xal.length : Int)) = true:=by rw [beq_iff_eq]; omega
      have t2 : (xk == xal.length) = true:=by rw [beq_iff_eq]; omega
      have hpop : restG m ((xal,xk) :: stP ini) = 41 :: restG m (stP ini):=by rw [ht]; exact restG_pop m xal (stP ini)
      have Hpop:=hid hpop
      have hlen : (bs ++ D).length + 1 <= 140737488355328:=by
       have h1:=congrArg List.length HTT.out
       rw [hpop,List.length_append,List.length_cons] at h1
       have:=HN.out
       rw [List.length_append]; omega
      have HW:=hid (write1 ⟨#[41]⟩ wr.drew HA.out.drew hlen)
      have Hht:=hid ht
      clear hpop hlen ht
      go_wp2
      go_region
      go_wp2_with fail
      go_at_call 37
      refine HW.out.mono ?_
      rintro e w9 ⟨rfl,h9,g9⟩
      have HA9:=hid (show WrAt B b (bs ++ (D ++ [41])) w9 by rw [<- List.append_assoc]; exact h9)
      have HK9:=hid (HK.out.trans ((Wk.refl B b wr).drew.trans g9))
      have HR9:=hid (HRr.out.wk HA.out ((Wk.refl B b wr).drew.trans g9))
      clear h9 g9
      go_wp2
      go_roundw
      case rel =>
       refine ⟨ini,D ++ [41],some ⟨g,0,none⟩,cap,by rw [Hp.out],(by rw [Hp.out]),hid ?_,HOI,HA9,HK9,hid ?_,hid ?_,hid ?_⟩
       ·have:=HR9.out
        rw [<- Hp.out] at this
        exact this.pop
       ·have:=HTT.out
        rw [Hpop.out] at this
        rw [List.append_assoc]; exact this
       ·have:=Hgk2.out; unfold todoG at this; omega
       ·have:=Hsz3.out; unfold todoG at this; rw [Hp.out]; omega
      case measure=>simp [intOf] <;> omega
     ·have t1 : ((xk : Int) == (xal.length : Int)) = false:=by rw [beq_eq_false_iff_ne]; omega
      have t2 : (xk == xal.length) = false:=by rw [beq_eq_false_iff_ne]; omega
      have hlt' : xk < xal.length:=by have:=Hok.out; omega
      obtain ⟨n,e',he⟩ : ∃ n e',xal[xk]? = some (.mk n e'):=by
       cases h : xal[xk] with
       | mk n e'=>exact ⟨n,e',by rw [List.getElem?_eq_getElem hlt',h]⟩
      have hnx:=restG_next m xal xk n e' (stP ini) he
      have htd:=todo_next xal xk n e' (stP ini) he
      have hge:=gdAs_get xal xk n e' Hog.out he
      have hlen : (bs ++ D).length + (nameG (xk == 0) n).length <= 140737488355328:=by
       have h1:=congrArg List.length HTT.out
       rw [hnx,List.length_append,List.length_append] at h1
       have:=HN.out
       rw [List.length_append]; omega
      have HC:=hid (next_any (bs:=bs ++ D) xal (.slice xA xal.length xc) Hox.out (by have:=Hxl.out; omega) xk n e' he g (p * 2) cur wr.drew (HS.out.step HK.out.drew) HA.out.drew HBx.out (Nat.le_trans HS.out.hB (Nat.le_trans hBw Hhg.out)) HC0.out HC1.out hlen)
      have Hnx:=hid hnx
      have Htd:=hid htd
      have Hge:=hid hge
      have Hlt:=hid hlt'
      clear ht hnx htd hge hlen he hlt'
      go_wp2
      go_region
      go_wp2_with fail
      go_at_call 234
      refine HC.out.mono ?_
      rintro y w9 ⟨⟨q9,o9,c9,rfl,hq9,hc9,hx9⟩,h9,u9,gu,gv⟩
      have HA9:=hid (show WrAt B b (bs ++ (D ++ nameG (xk == 0) n)) w9 by rw [<- List.append_assoc]; exact h9)
      have gu' : Wk B b wr u9:=(Wk.refl B b wr).drew.trans gu
      have HK9:=hid (((HK.out.trans gu').setNew hBw Hhg.out (p * 2 + 1) (.int .i64 ((xk : Int) + 1))).trans gv)
      have hr9:=HRr.out.wk HA.out gu'
      rw [<- Hp.out] at hr9
      have hr10:=hr9.bump (xk + 1)
      rw [Hp.out] at hr10
      have HR9:=hid (hr10.wkn (fun k hk=>by cases hk; exact hne) (by have:=gv; rw [show ((xk : Int) + 1) = ((xk + 1 : Nat) : Int) by omega] at this; exact this))
      have HX9:=hid (show gdI e' = true /\ q9 < W0.heap.size /\ CellsAt W0 q9 o9 c9 /\ ExAt W0 e' c9 from ⟨Hge.out,hq9,hc9,hx9⟩)
      clear h9 gu gv gu' hr9 hr10 hq9 hc9 hx9
      go_wp2
      go_roundg (e'.size + todoG ((xal,xk + 1) :: stP ini) + 1)
      case measure=>have:=Htd.out; have:=Hgk2.out; omega
      case rel =>
       refine ⟨e',q9,o9,c9,ini ++ [⟨xal,xA,xc,xk + 1⟩],D ++ nameG (xk == 0) n,some ⟨g,0,none⟩,cap,rfl,(by rw [List.length_append,Hp.out]; rfl),HX9,hid ?_,hid ?_,HA9,HK9,hid ?_,hid ?_,hid ?_⟩
       ·rw [List.length_append,Hp.out]; exact HR9.out
       ·intro y hy
        rcases List.mem_append.1 hy with hy | hy
        ·exact HOI.out y hy
        ·rw [List.mem_singleton] at hy
         subst hy
         exact ⟨Hox.out,Hog.out,Hlt.out,Hoz.out⟩
       ·have:=HTT.out
        rw [Hnx.out] at this
        rw [stP_snoc,List.append_assoc]; exact this
       ·rw [stP_snoc]; exact Nat.lt_succ_self _
       ·rw [stP_snoc,List.length_append,Hp.out]
        exact Nat.le_trans (Nat.add_le_add_left Htd.out (p + 1)) Hsz3.out
end Go.Proofs.YtgdkpamlkpncgaaGreatDoor
