/-
  Several texts put together (part 20): what the law and the program call, walked; their contracts.
-/
import Derived.Test.YtgdkpamlkpncgaaGreatDoorR16
import Derived.Test.YtgdkpamlkpncgaaGreatDoorR9
import Derived.Test.YtgdkpamlkpncgaaGreatDoorR8
import Derived.Test.YtgdkpamlkpncgaaGreatDoorR5
import Derived.Test.YtgdkpamlkpncgaaGreatDoorR19
import Derived.Test.YtgdkpamlkpncgaaGreatDoorR18
import Derived.Lib.Index
import Derived.Lib.IndexMore
namespace Go.Proofs.YtgdkpamlkpncgaaGreatDoor
open Go.RowKit
open _root_.Go.Lib (hid)
set_option linter.unusedVariables false
set_option linter.unusedSimpArgs false
-- from Alz
theorem el_in {l : List EL} {t : ByteArray} {e : EX} (h : EL.mk t (some e) ∈ l) : e.size + 1 <= sizeEs l:=by
 induction l with
 | nil=>cases h
 | cons x r ih =>
  cases x with
  | mk t' p' =>
   rw [sizeEs]
   rcases List.mem_cons.1 h with h | h
   ·cases h
    have : sizeO (some e) = e.size:=by rw [sizeO]
    omega
   ·have:=ih h; omega
set_option maxHeartbeats 2000000 in
set_option maxRecDepth 1000000 in
theorem lin_other {W0 : World} (k : Int) (t n a : ByteArray) (al : List AR) (ie : Option EX) (vs : List VA) (d : Nat) (hk : ¬ (0 <= k /\ k <= 6)) : InTo W0 (.mk k t n a al ie vs) d:=by
 intro w c hex hW
 rw [ExAt] at hex
 obtain ⟨ck,ct,cn,ca,cal,ci,cvs⟩:=c
 obtain ⟨e1,e2,e3,e4,⟨A1,c1,e5,hr1⟩,hi,⟨A2,c2,e7,_⟩⟩:=hex
 simp only at e1 e2 e3 e4 e5 e7 hi
 subst e1 e2 e3 e4 e5 e7
 obtain ⟨p,rfl⟩ : ∃ p,ci = .pointer p:=by
  cases ie with
  | none=>simp only [OAt] at hi; exact ⟨_,hi⟩
  | some e=>simp only [OAt] at hi; obtain ⟨b,o,c,h,_⟩:=hi; exact ⟨_,h⟩
 have e : okE .inl (.mk k t n a al ie vs) d = false:=by
  rw [okE]; unfold inlP
  rw [if_neg (by omega),if_neg (by omega),if_neg (by omega),if_neg (by omega),if_neg (by omega),if_neg (by omega),if_neg (by omega)]
 rw [e]
 unfold C7.arr
 have z0 : (k == 0) = false:=beq_eq_false_iff_ne.2 (by omega)
 have z1 : (k == 1) = false:=beq_eq_false_iff_ne.2 (by omega)
 have z2 : (k == 2) = false:=beq_eq_false_iff_ne.2 (by omega)
 have z3 : (k == 3) = false:=beq_eq_false_iff_ne.2 (by omega)
 have z4 : (k == 4) = false:=beq_eq_false_iff_ne.2 (by omega)
 have z5 : (k == 5) = false:=beq_eq_false_iff_ne.2 (by omega)
 have z6 : (k == 6) = false:=beq_eq_false_iff_ne.2 (by omega)
 clear hk hW hi hr1 e
 go_enter Tryz.func82,Tryz.ntmps82
 go_wp2
 go_ret
 exact ⟨rfl,by repeat' first | with_reducible exact Below.refl _ _ | with_reducible apply Below.setCell | with_reducible apply Below.alloc | (simp; done) | (simp; omega)⟩
theorem brc_inl (e : EX) (d : Nat) (hd : d <= 20) (hk : ∀ k t n a al ie vs,e = .mk k t n a al ie vs -> k ≠ 7) : okE .brc e d = okE .inl e d:=by
 obtain ⟨k,t,n,a,al,ie,vs⟩:=e
 have:=hk _ _ _ _ _ _ _ rfl
 rw [okE,okE]
 simp only [decide_eq_true hd,if_neg this,Bool.true_and]
theorem place_plain {W0 : World} (k : Int) (t n a : ByteArray) (al : List AR) (ie : Option EX) (vs : List VA) (d : Nat) (hd : d <= 20) (hk : k ≠ 7) (hI : InTo W0 (.mk k t n a al ie vs) d) : PlaceTo W0 (.mk k t n a al ie vs) d:=by
 intro w c hex hW
 rw [brc_inl _ d hd (by rintro _ _ _ _ _ _ _ h; cases h; exact hk)]
 have hI2:=fun w1 h=>hI w1 c hex h
 rw [ExAt] at hex
 obtain ⟨ck,ct,cn,ca,cal,ci,cvs⟩:=c
 obtain ⟨e1,e2,e3,e4,⟨A1,c1,e5,hr1⟩,hi,⟨A2,c2,e7,_⟩⟩:=hex
 simp only at e1 e2 e3 e4 e5 e7 hi
 subst e1 e2 e3 e4 e5 e7
 obtain ⟨p,rfl⟩ : ∃ p,ci = .pointer p:=by
  cases ie with
  | none=>simp only [OAt] at hi; exact ⟨_,hi⟩
  | some e=>simp only [OAt] at hi; obtain ⟨b,o,c,h,_⟩:=hi; exact ⟨_,h⟩
 exact lplace_plain k t n a A1 al.length c1 p A2 vs.length c2 d hd hk _ w (fun w1 hb=>hI2 w1 (hW.trans (hb.mono hW.size)))
theorem rplace_deep (W0 : World) (e : EX) (d : Nat) (hd : 20 < d) : PlaceTo W0 e d:=by
 intro w c hex hW
 have : okE .brc e d = false:=by
  obtain ⟨k,t,n,a,al,ie,vs⟩:=e
  rw [okE]
  simp only [decide_eq_false (show ¬ d <= 20 by omega),Bool.false_and]
 rw [this]
 exact lplace_deep c d hd w
theorem knot {W0 : World} (hT : TabU W0) : ∀ (m : Nat) (e : EX),e.size <= m -> m <= 4000000 -> (∀ d,d <= 20 -> InTo W0 e d) /\ (∀ d,PlaceTo W0 e d):=by
 intro m
 induction m with
 | zero=>intro e h _; have:=e.size_pos; omega
 | succ m ih =>
  intro e he hm
  have hIn : ∀ d,d <= 20 -> InTo W0 e d:=by
   intro d hd
   obtain ⟨k,t,n,a,al,ie,vs⟩:=e
   have hs:=he
   rw [EX.size] at hs
   by_cases hk : 0 <= k /\ k <= 6
   ·by_cases h45 : k = 4 ∨ k = 5
    ·exact lin_args k t n a al ie vs d h45 (by omega) (fun t e hmem=>(ih e (by have:=ar_size hmem; omega) (by omega)).1 d hd)
    ·refine lin_simple hT k t n a al ie vs d (by omega) (by omega) (by omega) (fun e hee=>(ih e ?_ (by omega)).2 (d + 1))
     have : sizeO ie = e.size:=by rw [hee,sizeO]
     omega
   ·exact lin_other k t n a al ie vs d hk
  refine ⟨hIn,fun d=>?_⟩
  by_cases hd : d <= 20
  ·have hi:=hIn d hd
   obtain ⟨k,t,n,a,al,ie,vs⟩:=e
   have hs:=he
   rw [EX.size] at hs
   by_cases hk : k = 7
   ·subst hk
    refine lsel hT t n a al ie vs d hd (by omega) (fun key b l hmem t e hel=>(ih e (by have:=va_size hmem; have:=el_in hel; omega) (by omega)).2 (d + 1)) (fun e hee=>(ih (askedE e) ?_ (by omega)).1 d hd)
    have:=asked_size e
    have : sizeO ie = e.size:=by rw [hee,sizeO]
    omega
   ·exact place_plain k t n a al ie vs d hd hk hi
  ·exact rplace_deep W0 e d (by omega)
theorem rplace_any {W0 : World} (hT : TabU W0) (e : EX) (he : e.size <= 4000000) (d : Nat) : PlaceTo W0 e d:=(knot hT 4000000 e he (Nat.le_refl _)).2 d
theorem lpattern {W0 : World} (hT : TabU W0) (l : List EL) {v : Value} (hv : PatAt W0 l v) (d : Nat) (hd : d <= 4000000) (hsz : sizeEs l <= 4000000) (w : World) (hW : Below W0.heap.size W0 w) :
  Calls Tryz.prog 35 #[v,.int .i64 d] w fun e w'=>e = .returned (.bool (patB l d)) /\ Below w.heap.size w w' :=
 lpat_any hT l hv d hd hsz (fun t e h=>rplace_any hT e (by have:=el_in h; omega) (d + 1)) w hW
-- from Ama
theorem contains_step (s : ByteArray) (i : Nat) (h : i < s.size) : (s.data.toList.drop i).contains 13 = (((s[i].toNat : Int) == 13) || (s.data.toList.drop (i + 1)).contains 13):=by
 have hl : i < s.data.toList.length:=by rw [size_data]; exact h
 rw [List.drop_eq_getElem_cons hl,List.contains_cons]
 congr 1
 show (13 == s[i]) = ((s[i].toNat : Int) == 13)
 rw [Bool.eq_iff_iff,beq_iff_eq,beq_iff_eq,eq_comm,<- UInt8.toNat_inj]
 simp
 omega
-- from Amb
set_option maxHeartbeats 4000000 in
set_option maxRecDepth 1000000 in
theorem lright_com {W0 : World} (hT : TabU W0) (level : Int) (text name : ByteArray) (A : Option Addr) (n1 c1 : Nat) (A2 : Option Addr) (n2 c2 : Nat) (fr tu : Int) (hs : text.size <= 4000000) (w : World) (hW : Below W0.heap.size W0 w) :
  Calls Tryz.prog 20 #[entV 0 level text name (.slice A n1 c1) (.slice A2 n2 c2) fr tu] w fun e w'=>e = .returned (.bool (comB level text name n1 n2)) /\ Below w.heap.size w w':=by
 have HT:=hid (hT.below hW)
 have Hp:=hid (fun W h=>plain_any text W h hs)
 obtain ⟨q,hq⟩ : ∃ q,validB text = q:=⟨_,rfl⟩
 obtain ⟨c13,hc13⟩ : ∃ q,text.data.toList.contains 13 = q:=⟨_,rfl⟩
 unfold comB textB
 rw [hq] at Hp ⊢
 rw [hc13]
 have Hc:=hid hc13
 have HN0:=hid (show text.data.toList.contains 13 = (text.data.toList.drop 0).contains 13 by rw [List.drop_zero])
 clear hT hW hq hc13
 unfold entV
 have hts0 : (text.size : Int) <= 4000000:=by omega
 have z1 : ((n1 : Int) == 0) = decide (n1 = 0):=by by_cases h : n1 = 0 <;> simp [h]
 have z2 : ((n2 : Int) == 0) = decide (n2 = 0):=by by_cases h : n2 = 0 <;> simp [h]
 obtain ⟨y1,hy1⟩ : ∃ y,decide (n1 = 0) = y:=⟨_,rfl⟩
 obtain ⟨y2,hy2⟩ : ∃ y,decide (n2 = 0) = y:=⟨_,rfl⟩
 obtain ⟨g,hg⟩ : ∃ g,emp name = g:=⟨_,rfl⟩
 have hg2 : name.toList.isEmpty = g:=hg
 rw [hy1] at z1 ⊢
 rw [hy2] at z2 ⊢
 rw [hg]
 clear hy1 hy2 hg
 go_enter Tryz.func20,Tryz.ntmps20
 go_wp2
 go_loop [3] (fun s3=>∃ j : Nat,s3 = .int .i64 j /\ j <= text.size /\ Hid ((text.data.toList.drop j).contains 13 = c13)) (fun s3=>text.size - (intOf s3).toNat)
 case atStart=>exact ⟨0,rfl,Nat.zero_le _,by unfold Hid; rw [<- HN0.out]; exact Hc.out⟩
 case round =>
  obtain ⟨j,rfl,hj,Hoff⟩:=hrel
  by_cases hjl : j < text.size
  ·have hj' : decide ((j : Int) < (text.size : Int)) = true:=decide_eq_true (by omega)
   have hj3 : (j : Int) < (text.size : Int):=by omega
   have hj4 : decide (j < text.size) = true:=decide_eq_true hjl
   have hst:=contains_step text j hjl
   rw [Hoff.out] at hst
   obtain ⟨x1,hx1⟩ : ∃ x,((text[j].toNat : Int) == 13) = x:=⟨_,rfl⟩
   rw [hx1] at hst
   have Hst:=hid hst
   clear hst Hoff
   cases x1
   case true =>
    go_wp2
    go_ret
    exact ⟨ret_bool (by rw [Hst.out]; simp),(Below.refl _ _).alloc (Nat.le_refl _) _⟩
   go_wp2
   go_round
   case rel=>exact ⟨j + 1,by go_num,hjl,by unfold Hid; rw [Hst.out]; rfl⟩
   case measure=>simp [intOf]; omega
  ·have hj' : decide ((j : Int) < (text.size : Int)) = false:=decide_eq_false (by omega)
   have hj3 : ¬ (j : Int) < (text.size : Int):=by omega
   have hoff:=Hoff.out
   rw [List.drop_eq_nil_of_le (by rw [size_data]; omega)] at hoff
   have hc0 : c13 = false:=hoff.symm
   subst hc0
   clear hoff Hoff Hc HN0
   by_cases h1 : 1 <= level
   case neg =>
    have hz : decide ((1 : Int) <= level) = false:=decide_eq_false h1
    go_wp2
    go_ret
    exact ⟨ret_bool (by first | rfl | simp [hz]),(Below.refl _ _).alloc (Nat.le_refl _) _⟩
   have hz : decide ((1 : Int) <= level) = true:=decide_eq_true h1
   by_cases h3 : level <= 3
   case neg =>
    have hy : decide (level <= 3) = false:=decide_eq_false h3
    go_wp2
    go_ret
    exact ⟨ret_bool (by first | rfl | simp [hy]),(Below.refl _ _).alloc (Nat.le_refl _) _⟩
   have hy : decide (level <= 3) = true:=decide_eq_true h3
   cases q
   case false =>
    go_wp2_with fail
    go_at_call 33
    refine (Hp.out _ (HT.out.below ((Below.refl _ _).alloc (Nat.le_refl _) _))).mono ?_
    rintro e w2 ⟨rfl,hb⟩
    have HB:=hid (below_box hb)
    clear hb
    go_wp2
    go_ret
    exact ⟨ret_bool (by simp),HB.out⟩
   cases g <;> cases y1 <;> cases y2 <;>
   ·go_wp2_with fail
    go_at_call 33
    refine (Hp.out _ (HT.out.below ((Below.refl _ _).alloc (Nat.le_refl _) _))).mono ?_
    rintro e w2 ⟨rfl,hb⟩
    obtain ⟨hcc,hff⟩:=bcell hb
    have HB:=hid (below_box hb)
    clear hb
    go_wp2
    go_ret
    exact ⟨ret_bool (by first | rfl | simp [hz,hy]),HB.out⟩
theorem msg_eq (ty level : Int) (text name : ByteArray) (val : List EL) (ats : List AT) :
  msgB ty level text name val ats = (ats.all attrOk && ((level == 0) && emp text && isNameV name && (!val.isEmpty || (ty == 1) && !ats.isEmpty) && patB val 0)):=by
 unfold msgB
 generalize (!val.isEmpty || (ty == 1) && !ats.isEmpty) = S
 generalize ats.all attrOk = X
 cases (level == 0) <;> cases emp text <;> cases isNameV name <;> cases S <;> cases X <;> cases patB val 0 <;> rfl
set_option maxHeartbeats 8000000 in
set_option maxRecDepth 1000000 in
theorem lright_msg {W0 : World} (hT : TabU W0) (ty level : Int) (hty : ty = 1 ∨ ty = 2) (text name : ByteArray) (val : List EL) (ats : List AT) (v u : Value) (fr tu : Int) (hv : PatAt W0 val v) (hu : LieAt (TsAt W0 ats) u ats.length)
  (hnm : name.size <= 4000000) (hsz : sizeEs val + sizeTs ats <= 4000000) (w : World) (hW : Below W0.heap.size W0 w) :
  Calls Tryz.prog 20 #[entV ty level text name v u fr tu] w fun e w'=>e = .returned (.bool (msgB ty level text name val ats)) /\ Below w.heap.size w w':=by
 rw [msg_eq]
 have hP:=fun W h=>lpattern hT val hv 0 (by omega) (by omega) W h
 obtain ⟨PV,hPV⟩ : ∃ p,patB val 0 = p:=⟨_,rfl⟩
 rw [hPV] at hP ⊢
 have HP:=hid hP
 have hN:=fun W=>lname_any name W hnm
 rw [nameV_l]
 obtain ⟨NM,hNM⟩ : ∃ p,lnameB name.data.toList = p:=⟨_,rfl⟩
 rw [hNM] at hN ⊢
 have HN:=hid hN
 obtain ⟨em,hem⟩ : ∃ g,emp text = g:=⟨_,rfl⟩
 have hem2 : text.toList.isEmpty = em:=hem
 rw [hem]
 obtain ⟨lv,hlv⟩ : ∃ g,(level == 0) = g:=⟨_,rfl⟩
 rw [hlv]
 obtain ⟨S,hS⟩ : ∃ S,(!val.isEmpty || (ty == 1) && !ats.isEmpty) = S:=⟨_,rfl⟩
 rw [hS]
 obtain ⟨z,hz⟩ : ∃ z,(ats.all attrOk && (lv && em && NM && S && PV)) = z:=⟨_,rfl⟩
 rw [hz]
 have HZ:=hid hz
 have HS:=hid hS
 have hvl : (val.length : Int) <= 4000000:=by have:=sizeEs_length val; omega
 have hal : (ats.length : Int) <= 4000000:=by have:=sizeTs_length ats; omega
 obtain ⟨A,c,rfl,_⟩:=hv
 have HU:=hid hu
 obtain ⟨A2,c2,rfl,_⟩:=hu
 have HW:=hid hW
 have hWs:=hW.size
 have HT:=hid hT
 have Hsz:=hid hsz
 clear hP hPV hN hNM hem hz hS hT hW hsz
 unfold entV
 rcases hty with rfl | rfl
 all_goals
  go_enter Tryz.func20,Tryz.ntmps20
  go_wp2
  go_loopw [59] (fun t59 wr=>∃ j : Nat,t59 = .int .i64 j /\ j <= ats.length /\ Hid (((ats.drop j).all attrOk && (lv && em && NM && S && PV)) = z) /\ Hid (Below w.heap.size w wr) /\
   Hid (BoxAt wr w.heap.size #[.int .i64 _,.int .i64 level,.string text,.string name,.slice A val.length c,.slice A2 ats.length c2,.int .i64 fr,.int .i64 tu] 34)) (fun t59 _=>ats.length - (intOf t59).toNat)
  case atStart=>exact ⟨0,rfl,Nat.zero_le _,by unfold Hid; rw [List.drop_zero]; exact HZ.out,(Below.refl _ _).alloc (Nat.le_refl _) _,BoxAt.new _ _ _⟩
  case round =>
   obtain ⟨j,rfl,hj,Hans,HB,HE⟩:=hrel
   have hj0 : (j : Int) <= 4000000:=by omega
   have hbel : Below W0.heap.size W0 wr:=HW.out.trans (HB.out.mono hWs)
   have hbs:=hbel.size
   have hbw0:=HB.out.size
   have hel0:=HE.out.lt
   by_cases hlt : j < ats.length
   ·obtain ⟨b,o,c',e,hb,hcs⟩:=ats_get HU.out hlt
    cases e
    obtain ⟨t,p,hel⟩ : ∃ t p,ats[j]? = some (.mk t p):=by
     cases e : ats[j] with
     | mk t p=>exact ⟨t,p,by rw [List.getElem?_eq_getElem hlt,e]⟩
    obtain ⟨c0,uv,c1,hpat⟩:=hcs j t p hel
    rw [<- hbel.cell (p:=⟨b,o + j * 2,none⟩) hb] at c0
    rw [<- hbel.cell (p:=⟨b,o + j * 2 + 1,none⟩) hb] at c1
    have hp':=hpat
    obtain ⟨A3,c3,rfl,_,_,_⟩:=hp'
    have hbw : b < wr.heap.size:=by omega
    have hlt' : decide ((j : Int) < (ats.length : Int)) = true:=decide_eq_true (by omega)
    have hlt3 : ((j : Nat) : Int) < (ats.length : Int):=by omega
    have hszt : sizeTs (ats.take (j + 1)) = sizeTs (ats.take j) + (1 + t.size + sizeEs p):=by
     rw [take_snoc ats j _ hel,sizeTs_append,sizeTs,sizeTs,Nat.add_zero]
    have hszl:=sizeTs_take ats (j + 1)
    have hks : t.size <= 4000000:=by have:=Hsz.out; omega
    have hps : sizeEs p <= 4000000:=by have:=Hsz.out; omega
    have hpl : (p.length : Int) <= 4000000:=by have:=sizeEs_length p; omega
    have hL:=fun W h=>lpattern HT.out p hpat 0 (by omega) hps W h
    obtain ⟨r,hr⟩ : ∃ r,patB p 0 = r:=⟨_,rfl⟩
    rw [hr] at hL
    have HL:=hid hL
    have hans:=Hans.out
    rw [drop_cons ats j _ hel,List.all_cons] at hans
    obtain ⟨vk,hvk⟩ : ∃ v,attrOk (.mk t p) = v:=⟨_,rfl⟩
    rw [hvk] at hans
    have hvk2 : (isNameV t && (!p.isEmpty && patB p 0)) = vk:=hvk
    have hM:=fun W=>lname_any t W hks
    rw [hr,nameV_l] at hvk2
    obtain ⟨g,hg⟩ : ∃ g,lnameB t.data.toList = g:=⟨_,rfl⟩
    rw [hg] at hM hvk2
    have HM:=hid hM
    have Hans2:=hid hans
    have Hvk:=hid hvk2
    have Hbel:=hid hbel
    clear hL hr hans hvk hvk2 hM hg hbel hcs hel hpat hszt hszl Hans
    go_upto_region 14 with fail
    go_cut [78] (fun v wx=>v = .bool (!vk) /\ Hid (Below (wr.heap.size + 1) (wr.alloc (.cells #[.string t,.slice A3 p.length c3] 64)) wx))
    case first =>
     cases g
     case false =>
      have hv:=Hvk.out
      rw [Bool.false_and] at hv
      subst hv
      go_wp2_with fail
      go_at_call 34
      refine (HM.out _).mono ?_
      rintro e2 w2 ⟨rfl,rfl⟩
      go_wp2_with fail
      go_meet
      exact ⟨rfl,Below.refl _ _⟩
     by_cases h0 : p.length = 0
     ·have hz0 : ((p.length : Int) == 0) = true:=beq_iff_eq.2 (by omega)
      have hpe : p.isEmpty = true:=by rw [<- len0R]; exact decide_eq_true h0
      have hv:=Hvk.out
      rw [hpe] at hv
      have hv0 : vk = false:=by rw [<- hv]; simp
      subst hv0
      clear hv hpe h0
      go_wp2_with fail
      go_at_call 34
      refine (HM.out _).mono ?_
      rintro e2 w2 ⟨rfl,rfl⟩
      go_wp2_with fail
      go_meet
      exact ⟨rfl,Below.refl _ _⟩
     ·have hz0 : ((p.length : Int) == 0) = false:=beq_eq_false_iff_ne.2 (by omega)
      have hpe : p.isEmpty = false:=by rw [<- len0R]; exact decide_eq_false h0
      have hv:=Hvk.out
      rw [hpe] at hv
      have Hv:=hid hv
      clear hv hpe
      go_wp2_with fail
      go_at_call 34
      refine (HM.out _).mono ?_
      rintro e2 w2 ⟨rfl,rfl⟩
      go_wp2_with fail
      go_at_call 35
      refine (HL.out _ (Hbel.out.alloc hbs _)).mono ?_
      rintro e3 w3 ⟨rfl,hb3⟩
      have Hb3:=hid hb3
      clear hb3
      go_wp2_with fail
      go_meet
      exact ⟨by rw [<- Hv.out]; simp,by unfold Hid; simpa using Hb3.out⟩
    case rest =>
     obtain ⟨rfl,Hc⟩:=hcut
     have hcb : Below (wr.alloc (.cells #[.string t,.slice A3 p.length c3] 64)).heap.size (wr.alloc (.cells #[.string t,.slice A3 p.length c3] 64)) wc:=by simpa using Hc.out
     have hr3 : Below wr.heap.size wr wc:=((Below.refl wr.heap.size wr).alloc (Nat.le_refl _) _).trans (hcb.mono (by simp))
     have HBB:=hid (HB.out.trans (hr3.mono hbw0))
     have HEE:=hid (HE.out.later hr3)
     clear hcb hr3 Hc Hvk HM HL
     cases vk
     case false =>
      go_wp2
      go_ret
      exact ⟨ret_bool (by rw [<- Hans2.out]; simp),HBB.out⟩
     have hans:=Hans2.out
     rw [Bool.true_and] at hans
     have Hans3:=hid hans
     clear hans Hans2
     go_wp2
     go_roundw
     case rel=>exact ⟨j + 1,by go_num,hlt,Hans3.out,HBB.out,HEE.out⟩
     case measure=>simp [intOf]; omega
   ·obtain rfl : j = ats.length:=by omega
    have hlt' : decide ((ats.length : Int) < (ats.length : Int)) = false:=decide_eq_false (by omega)
    have hans:=Hans.out
    rw [List.drop_length,List.all_nil,Bool.true_and] at hans
    have y0:=HE.out.cell 0
    have y1:=HE.out.cell 1
    have y2:=HE.out.cell 2
    have y3:=HE.out.cell 3
    have y4:=HE.out.cell 4
    have y5:=HE.out.cell 5
    simp at y0 y1 y2 y3 y4 y5
    have Hbel:=hid hbel
    have Hans2:=hid hans
    clear hbel Hans hans
    go_upto_region 17 with fail
    go_cut [6] (fun v wx=>v = .bool S /\ wx = wr)
    case first =>
     have hve : val.isEmpty = !decide (0 < val.length):=by cases val <;> simp
     have hae : ats.isEmpty = !decide (0 < ats.length):=by cases ats <;> simp
     have hs:=HS.out
     rw [hve,hae] at hs
     clear hve hae
     by_cases h0 : 0 < val.length
     ·have hd : decide ((0 : Int) < (val.length : Int)) = true:=decide_eq_true (by omega)
      rw [decide_eq_true h0] at hs
      have hs1 : S = true:=by rw [<- hs]; simp
      subst hs1
      clear hs
      go_wp2_with fail
      go_meet
      exact ⟨rfl,rfl⟩
     ·have hd : decide ((0 : Int) < (val.length : Int)) = false:=decide_eq_false (by omega)
      rw [decide_eq_false h0] at hs
      by_cases h1 : 0 < ats.length
      ·have hd2 : decide ((0 : Int) < (ats.length : Int)) = true:=decide_eq_true (by omega)
       rw [decide_eq_true h1] at hs
       have Hs:=hid hs
       clear hs
       go_wp2_with fail
       go_meet
       exact ⟨by rw [<- Hs.out]; rfl,rfl⟩
      ·have hd2 : decide ((0 : Int) < (ats.length : Int)) = false:=decide_eq_false (by omega)
       rw [decide_eq_false h1] at hs
       have Hs:=hid hs
       clear hs
       go_wp2_with fail
       go_meet
       exact ⟨by rw [<- Hs.out]; rfl,rfl⟩
    case rest =>
     obtain ⟨rfl,rfl⟩:=hcut
     cases lv
     case false =>
      go_wp2
      go_ret
      exact ⟨ret_bool (by rw [<- Hans2.out]; rfl),HB.out⟩
     cases em
     case false =>
      go_wp2
      go_ret
      exact ⟨ret_bool (by rw [<- Hans2.out]; rfl),HB.out⟩
     cases NM
     case false =>
      go_wp2_with fail
      go_at_call 34
      refine (HN.out _).mono ?_
      rintro e2 w2 ⟨rfl,rfl⟩
      go_wp2
      go_ret
      exact ⟨ret_bool (by rw [<- Hans2.out]; rfl),HB.out⟩
     cases S
     case false =>
      go_wp2_with fail
      go_at_call 34
      refine (HN.out _).mono ?_
      rintro e2 w2 ⟨rfl,rfl⟩
      go_wp2
      go_ret
      exact ⟨ret_bool (by rw [<- Hans2.out]; rfl),HB.out⟩
     go_wp2_with fail
     go_at_call 34
     refine (HN.out _).mono ?_
     rintro e2 w2 ⟨rfl,rfl⟩
     go_wp2_with fail
     go_at_call 35
     refine (HP.out _ Hbel.out).mono ?_
     rintro e3 w3 ⟨rfl,hb3⟩
     have HBB:=hid (HB.out.trans (hb3.mono hbw0))
     clear hb3
     go_wp2
     go_ret
     exact ⟨ret_bool (by rw [<- Hans2.out]; simp),HBB.out⟩
set_option maxHeartbeats 2000000 in
set_option maxRecDepth 100000 in
theorem lright_any {W0 : World} (hT : TabU W0) (ty level : Int) (text name : ByteArray) (val : List EL) (ats : List AT) (v u : Value) (fr tu : Int) (hv : PatAt W0 val v) (hu : LieAt (TsAt W0 ats) u ats.length)
  (hnm : name.size <= 4000000) (htx : text.size <= 4000000) (hsz : sizeEs val + sizeTs ats <= 4000000) (w : World) (hW : Below W0.heap.size W0 w) :
  Calls Tryz.prog 20 #[entV ty level text name v u fr tu] w fun e w'=>e = .returned (.bool (rightB ty level text name val ats)) /\ Below w.heap.size w w':=by
 unfold rightB
 by_cases h0 : ty = 0
 ·subst h0
  rw [if_pos rfl]
  obtain ⟨A,c,rfl,_⟩:=hv
  obtain ⟨A2,c2,rfl,_⟩:=hu
  exact lright_com hT level text name A val.length c A2 ats.length c2 fr tu htx w hW
 rw [if_neg h0]
 by_cases h1 : ty = 1 ∨ ty = 2
 ·rw [if_pos h1]
  exact lright_msg hT ty level h1 text name val ats v u fr tu hv hu hnm hsz w hW
 ·rw [if_neg h1]
  obtain ⟨A,c,rfl,_⟩:=hv
  obtain ⟨A2,c2,rfl,_⟩:=hu
  have z0 : (ty == 0) = false:=beq_eq_false_iff_ne.2 h0
  have z1 : (ty == 1) = false:=beq_eq_false_iff_ne.2 (fun h=>h1 (.inl h))
  have z2 : (ty == 2) = false:=beq_eq_false_iff_ne.2 (fun h=>h1 (.inr h))
  clear h0 h1 hsz
  unfold entV
  go_enter Tryz.func20,Tryz.ntmps20
  go_wp2
  go_ret
  exact ⟨rfl,by repeat' first | with_reducible exact Below.refl _ _ | with_reducible apply Below.setCell | with_reducible apply Below.alloc | (simp; done) | (simp; omega)⟩
def Sx (s : ByteArray) (i : Nat) (L : List UInt8) : Prop:=i <= s.size /\ s.data.toList.drop i = L
section
variable {s : ByteArray} {i : Nat} {L R T : List UInt8} {c : UInt8}
theorem Sx.start (s : ByteArray) : Sx s 0 s.data.toList:=⟨Nat.zero_le _,rfl⟩
theorem Sx.len (h : Sx s i L) : i + L.length = s.size:=by
 have h1:=congrArg List.length h.2
 rw [List.length_drop,size_data] at h1
 have:=h.1
 omega
theorem Sx.lt (h : Sx s i (c :: R)) : i < s.size:=by
 have:=h.len
 rw [List.length_cons] at this
 omega
theorem Sx.app (h : Sx s i (T ++ R)) : Sx s (i + T.length) R:=by
 have hl:=h.len
 rw [List.length_append] at hl
 refine ⟨by omega,?_⟩
 rw [<- List.drop_drop,h.2,List.drop_left]
theorem Sx.tail (h : Sx s i (c :: R)) : Sx s (i + 1) R:=Sx.app (T:=[c]) h
theorem Sx.cast {L' : List UInt8} (h : Sx s i L) (e : L = L') : Sx s i L':=e ▸ h
theorem Sx.at0 (h : Sx s i (c :: R)) : at0 s.data.toList i = c:=by
 unfold Go.Proofs.YtgdkpamlkpncgaaGreatDoor.at0
 rw [List.getD_eq_getElem?_getD,<- Nat.add_zero i,<- List.getElem?_drop,h.2]
 rfl
theorem Sx.isAt (h : Sx s i (c :: R)) (d : UInt8) : isAt s i d = (c == d):=by
 unfold Go.Proofs.YtgdkpamlkpncgaaGreatDoor.isAt
 rw [h.at0,decide_eq_true h.lt,Bool.true_and]
theorem Sx.isEnd (h : Sx s i []) (d : UInt8) : Go.Proofs.YtgdkpamlkpncgaaGreatDoor.isAt s i d = false:=by
 unfold Go.Proofs.YtgdkpamlkpncgaaGreatDoor.isAt
 have:=h.len
 rw [List.length_nil] at this
 rw [decide_eq_false (by omega),Bool.false_and]
theorem Sx.behN (h : Sx s i L) (p : UInt8 -> Bool) : behN p s.data.toList i = i + (L.takeWhile p).length:=by
 unfold Go.Proofs.YtgdkpamlkpncgaaGreatDoor.behN
 rw [h.2]
theorem Sx.rest (h : Sx s i L) : s.extract i s.size = mkB L:=by
 apply bytes_eq
 have e : s.data.size - i = (s.data.toList.drop i).length:=by rw [List.length_drop]; simp
 simp [mkB,ByteArray.extract,ByteArray.copySlice]
 rw [<- h.2]
 have hz : s.size = s.data.size:=rfl
 rw [hz]
 apply List.take_of_length_le
 rw [List.length_drop]; simp
theorem Sx.ext (h : Sx s i (T ++ R)) : s.extract i (i + T.length) = mkB T:=by
 apply bytes_eq
 simp [mkB,ByteArray.extract,ByteArray.copySlice]
 rw [h.2]
 simp
end
def NoH (p : UInt8 -> Bool) (R : List UInt8) : Prop:=∀ c R',R = c :: R' -> p c = false
theorem NoH.nil (p : UInt8 -> Bool) : NoH p []:=fun _ _ h=>by cases h
theorem NoH.cons {p : UInt8 -> Bool} {c : UInt8} (h : p c = false) (R : List UInt8) : NoH p (c :: R):=fun _ _ e=>by cases e; exact h
theorem tw_stop {p : UInt8 -> Bool} : ∀ {T R : List UInt8},(∀ x ∈ T,p x = true) -> NoH p R -> (T ++ R).takeWhile p = T
 | [],R,_,hR=>by
  cases R with
  | nil=>rfl
  | cons c R=>rw [List.nil_append,List.takeWhile_cons,hR c R rfl]; rfl
 | c :: T,R,hT,hR=>by
  rw [List.cons_append,List.takeWhile_cons,hT c (List.mem_cons_self ..),if_pos rfl,tw_stop (fun x hx=>hT x (List.mem_cons_of_mem _ hx)) hR]
theorem tw_all {p : UInt8 -> Bool} : ∀ {l : List UInt8},(l.takeWhile p).length = l.length -> ∀ x ∈ l,p x = true
 | [],_,x,hx=>by cases hx
 | c :: l,h,x,hx=>by
  rw [List.takeWhile_cons] at h
  cases hp : p c
  ·rw [hp] at h; simp at h
  ·rw [hp,if_pos rfl,List.length_cons,List.length_cons] at h
   rcases List.mem_cons.1 hx with rfl | hx
   ·exact hp
   ·exact tw_all (by omega) x hx
section
variable {s : ByteArray} {i : Nat} {L R T : List UInt8} {c : UInt8}
theorem Sx.beh {p : UInt8 -> Bool} (h : Sx s i (T ++ R)) (hT : ∀ x ∈ T,p x = true) (hR : NoH p R) : Go.Proofs.YtgdkpamlkpncgaaGreatDoor.behN p s.data.toList i = i + T.length:=by rw [h.behN,tw_stop hT hR]
theorem Sx.bl (h : Sx s i (T ++ R)) (hT : ∀ x ∈ T,blB x = true) (hR : NoH blB R) : bl s i = i + T.length:=h.beh hT hR
theorem Sx.bl0 (h : Sx s i R) (hR : NoH blB R) : Go.Proofs.YtgdkpamlkpncgaaGreatDoor.bl s i = i:=Sx.bl (T:=[]) h (fun x hx=>by cases hx) hR
theorem Sx.bl1 (h : Sx s i (32 :: R)) (hR : NoH blB R) : Go.Proofs.YtgdkpamlkpncgaaGreatDoor.bl s i = i + 1:=Sx.bl (T:=[32]) h (fun x hx=>by rw [List.mem_singleton.1 hx]; decide) hR
theorem Sx.sp (h : Sx s i (T ++ R)) (hT : ∀ x ∈ T,spB x = true) (hR : NoH spB R) : sp s i = i + T.length:=h.beh hT hR
theorem Sx.sp0 (h : Sx s i R) (hR : NoH spB R) : Go.Proofs.YtgdkpamlkpncgaaGreatDoor.sp s i = i:=Sx.sp (T:=[]) h (fun x hx=>by cases hx) hR
theorem Sx.tx (h : Sx s i (T ++ R)) (hT : ∀ x ∈ T,txB x = true) (hR : NoH txB R) : tx s i = i + T.length:=h.beh hT hR
theorem Sx.nm (h : Sx s i (T ++ R)) {d : UInt8} {T' : List UInt8} (hT0 : T = d :: T') (hd : leB d = true) (hT : ∀ x ∈ T,naB x = true) (hR : NoH naB R) : nm s i = i + T.length:=by
 have h2:=h
 rw [hT0,List.cons_append] at h2
 unfold Go.Proofs.YtgdkpamlkpncgaaGreatDoor.nm
 rw [h2.at0,if_pos ⟨h2.lt,hd⟩]
 exact h.beh hT hR
theorem Sx.nm0 (h : Sx s i R) (hR : NoH leB R) : Go.Proofs.YtgdkpamlkpncgaaGreatDoor.nm s i = i:=by
 unfold Go.Proofs.YtgdkpamlkpncgaaGreatDoor.nm
 cases R with
 | nil =>
  have:=h.len
  rw [List.length_nil] at this
  rw [if_neg (fun x=>by have:=x.1; omega)]
 | cons c R=>rw [h.at0,hR c R rfl,if_neg (fun x=>by cases x.2)]
end
theorem emp_E {t : ByteArray} (h : emp t = true) : t = E0:=by
 unfold emp at h
 rw [Lib.toList_data,List.isEmpty_iff] at h
 apply bytes_eq
 rw [h]
 rfl
theorem emp_F {t : ByteArray} (h : emp t = false) : t.data.toList ≠ []:=fun e=>by
 unfold emp at h
 rw [Lib.toList_data,e] at h
 cases h
theorem behI0 (p : UInt8 -> Bool) (l : List UInt8) : behI p l 0 = ((l.takeWhile p).length : Int):=by
 unfold behI
 rw [if_neg (by decide)]
 show ((behN p l 0 : Nat) : Int) = _
 unfold behN
 rw [List.drop_zero,Nat.zero_add]
theorem name_form {n : ByteArray} (h : isNameV n = true) : ∃ c r,n.data.toList = c :: r /\ leB c = true /\ ∀ x ∈ n.data.toList,naB x = true:=by
 unfold isNameV at h
 rw [Bool.and_eq_true,Bool.not_eq_true',beq_iff_eq] at h
 obtain ⟨h1,h2⟩:=h
 have hz:=size_data n
 generalize n.data.toList = l at *
 cases l with
 | nil=>cases h1
 | cons c r =>
  refine ⟨c,r,rfl,?_⟩
  unfold nameI at h2
  cases hc : leB c
  ·rw [if_neg] at h2
   ·rw [List.length_cons] at hz; omega
   ·rintro ⟨_,_,h3⟩
    rw [show (c :: r).getD (0 : Int).toNat 0 = c from rfl,hc] at h3
    cases h3
  ·rw [if_pos ⟨Int.le_refl _,by rw [List.length_cons]; omega,by rw [show (c :: r).getD (0 : Int).toNat 0 = c from rfl]; exact hc⟩,behI0] at h2
   exact ⟨rfl,tw_all (by omega)⟩
theorem Sx.name {s : ByteArray} {i : Nat} {n : ByteArray} {R : List UInt8} (h : Sx s i (n.data.toList ++ R)) (hn : isNameV n = true) (hR : NoH naB R) : Go.Proofs.YtgdkpamlkpncgaaGreatDoor.nm s i = i + n.data.toList.length /\ s.extract i (i + n.data.toList.length) = n /\ 0 < n.data.toList.length:=by
 obtain ⟨c,r,e,hc,hall⟩:=name_form hn
 refine ⟨h.nm e hc hall hR,?_,by rw [e,List.length_cons]; omega⟩
 rw [h.ext]
 exact bytes_eq (by simp [mkB])
theorem mkB_of (n : ByteArray) : mkB n.data.toList = n:=bytes_eq (by simp [mkB])
structure NumF (T : List UInt8) (g D F : List UInt8) : Prop where
 eq : T = g ++ (D ++ F)
 sg : g = [] ∨ g = [45]
 d0 : D ≠ []
 dg : ∀ x ∈ D,dgB x = true
 fr : F = [] ∨ ∃ D2,F = 46 :: D2 /\ D2 ≠ [] /\ ∀ x ∈ D2,dgB x = true
theorem behI_app (p : UInt8 -> Bool) (A B : List UInt8) : behI p (A ++ B) (A.length : Int) = (A.length : Int) + ((B.takeWhile p).length : Int):=by
 unfold behI
 rw [if_neg (by omega),Int.toNat_natCast]
 unfold behN
 rw [List.drop_left]
 omega
theorem getD_app (A : List UInt8) (c : UInt8) (B : List UInt8) : (A ++ c :: B).getD (A.length : Int).toNat 0 = c:=by
 rw [Int.toNat_natCast,List.getD_eq_getElem?_getD,List.getElem?_append_right (Nat.le_refl _),Nat.sub_self]
 rfl
theorem tw_split (p : UInt8 -> Bool) (l : List UInt8) : ∃ D E,l = D ++ E /\ l.takeWhile p = D /\ (∀ x ∈ D,p x = true) /\ NoH p E:=by
 induction l with
 | nil=>exact ⟨[],[],rfl,rfl,(fun x hx=>by cases hx),NoH.nil _⟩
 | cons c l ih =>
  cases hc : p c
  ·exact ⟨[],c :: l,rfl,by rw [List.takeWhile_cons,hc]; rfl,(fun x hx=>by cases hx),NoH.cons hc l⟩
  ·obtain ⟨D,E,h1,h2,h3,h4⟩:=ih
   refine ⟨c :: D,E,by rw [h1]; rfl,by rw [List.takeWhile_cons,hc,if_pos rfl,h2],fun x hx=>?_,h4⟩
   rcases List.mem_cons.1 hx with rfl | hx
   ·exact hc
   ·exact h3 x hx
theorem num_rest (g D E : List UInt8) (hD : ∀ x ∈ D,dgB x = true) (hE : NoH dgB E) (hg : sgnI (g ++ (D ++ E)) 45 0 = (g.length : Int))
  (h : numI (g ++ (D ++ E)) 0 = ((g ++ (D ++ E)).length : Int)) (h0 : g ++ (D ++ E) ≠ []) : D ≠ [] /\ (E = [] ∨ ∃ D2,E = 46 :: D2 /\ D2 ≠ [] /\ ∀ x ∈ D2,dgB x = true):=by
 have hlen : ((g ++ (D ++ E)).length : Int) = g.length + (D.length + E.length):=by rw [List.length_append,List.length_append]; omega
 have hpos : 0 < (g ++ (D ++ E)).length:=List.length_pos_iff.2 h0
 have hb : behI dgB (g ++ (D ++ E)) (g.length : Int) = g.length + D.length:=by rw [behI_app,tw_stop hD hE]
 unfold numI at h
 rw [hg,hb] at h
 have hDne : D ≠ []:=by
  rintro rfl
  rw [if_neg (by simp)] at h
  omega
 have hDl : 0 < D.length:=List.length_pos_iff.2 hDne
 rw [if_pos (by omega)] at h
 refine ⟨hDne,?_⟩
 cases E with
 | nil=>exact .inl rfl
 | cons c E2 =>
  refine .inr ?_
  have e1 : g ++ (D ++ c :: E2) = (g ++ D) ++ c :: E2:=by rw [List.append_assoc]
  have e2 : ((g.length : Int) + (D.length : Int)) = ((g ++ D).length : Int):=by rw [List.length_append]; omega
  by_cases hc : c = 46
  ·subst hc
   have hs : sgnI (g ++ (D ++ 46 :: E2)) 46 ((g.length : Int) + (D.length : Int)) = g.length + D.length + 1:=by
    unfold sgnI
    rw [e1,e2,if_pos ⟨by omega,by rw [List.length_append,List.length_append,List.length_cons]; omega,getD_app _ _ _⟩]
   obtain ⟨D2,E3,f1,f2,f3,f4⟩:=tw_split dgB E2
   have e3 : g ++ (D ++ 46 :: E2) = (g ++ D ++ [46]) ++ E2:=by simp
   have e4 : ((g.length : Int) + (D.length : Int)) + 1 = ((g ++ D ++ [(46 : UInt8)]).length : Int):=by simp; omega
   have hb2 : behI dgB (g ++ (D ++ 46 :: E2)) ((g.length : Int) + (D.length : Int) + 1) = g.length + D.length + 1 + D2.length:=by
    rw [e4,e3,behI_app,f2]
   rw [hs,hb2] at h
   rw [List.length_cons] at hlen
   have hE2 : E2.length = D2.length + E3.length:=by rw [f1,List.length_append]
   by_cases hd : D2 = []
   ·subst hd
    rw [if_neg (by simp)] at h
    omega
   ·have:=List.length_pos_iff.2 hd
    rw [if_pos (by omega)] at h
    have : E3 = []:=List.eq_nil_of_length_eq_zero (by omega)
    subst this
    rw [List.append_nil] at f1
    exact ⟨D2,by rw [f1],hd,f3⟩
  ·exfalso
   have hs : sgnI (g ++ (D ++ c :: E2)) 46 ((g.length : Int) + (D.length : Int)) = g.length + D.length:=by
    unfold sgnI
    rw [e1,e2,if_neg]
    rintro ⟨_,_,h3⟩
    rw [getD_app] at h3
    exact hc h3
   have hb2 : behI dgB (g ++ (D ++ c :: E2)) ((g.length : Int) + (D.length : Int)) = g.length + D.length:=by
    rw [e2,e1,behI_app,List.takeWhile_cons,hE c E2 rfl]
    simp
   rw [hs,hb2,if_neg (by omega)] at h
   rw [List.length_cons] at hlen
   omega
theorem num_form {t : ByteArray} (h : isNum t = true) : ∃ g D F,NumF t.data.toList g D F:=by
 unfold isNum at h
 rw [Bool.and_eq_true,Bool.not_eq_true',beq_iff_eq] at h
 obtain ⟨h1,h2⟩:=h
 rw [show (t.size : Int) = (t.data.toList.length : Int) from by rw [size_data]] at h2
 generalize t.data.toList = l at *
 have hne : l ≠ []:=by rintro rfl; cases h1
 by_cases h45 : ∃ r,l = 45 :: r
 ·obtain ⟨r,rfl⟩:=h45
  obtain ⟨D,E,f1,f2,f3,f4⟩:=tw_split dgB r
  subst f1
  have:=num_rest [45] D E f3 f4 (by unfold sgnI; rw [if_pos ⟨Int.le_refl _,by simp; omega,rfl⟩]; rfl) h2 (by simp)
  exact ⟨[45],D,E,rfl,.inr rfl,this.1,f3,this.2⟩
 ·obtain ⟨D,E,f1,f2,f3,f4⟩:=tw_split dgB l
  subst f1
  have hs : sgnI ([] ++ (D ++ E)) 45 0 = (([] : List UInt8).length : Int):=by
   unfold sgnI
   rw [if_neg]
   ·rfl
   ·rintro ⟨_,_,h3⟩
    cases hl : D ++ E with
    | nil=>exact hne hl
    | cons c r =>
     rw [List.nil_append,hl] at h3
     exact h45 ⟨r,by rw [hl,<- h3]; rfl⟩
  have:=num_rest [] D E f3 f4 hs h2 hne
  exact ⟨[],D,E,rfl,.inl rfl,this.1,f3,this.2⟩
theorem Sx.num {s : ByteArray} {i : Nat} {t : ByteArray} {R : List UInt8} (h : Sx s i (t.data.toList ++ R)) (hn : isNum t = true) (hR : NoH dgB R) (hR2 : NoH (· == 46) R) :
  Go.Proofs.YtgdkpamlkpncgaaGreatDoor.nu s i = i + t.data.toList.length /\ s.extract i (i + t.data.toList.length) = t /\ 0 < t.data.toList.length:=by
 obtain ⟨g,D,F,hf⟩:=num_form hn
 have hDl : 0 < D.length:=List.length_pos_iff.2 hf.d0
 refine ⟨?_,by rw [h.ext]; exact mkB_of t,by rw [hf.eq,List.length_append,List.length_append]; omega⟩
 rw [hf.eq] at h ⊢
 have h1 : Sx s i (g ++ (D ++ (F ++ R))):=h.cast (by simp)
 have h2:=h1.app
 have h3:=h2.app
 have ha : (if i < s.data.toList.length /\ Go.Proofs.YtgdkpamlkpncgaaGreatDoor.at0 s.data.toList i = 45 then i + 1 else i) = i + g.length:=by
  rcases hf.sg with rfl | rfl
  ·rw [if_neg]
   ·rfl
   ·rintro ⟨_,h5⟩
    cases hd : D with
    | nil=>exact hf.d0 hd
    | cons c D' =>
     rw [hd] at h1
     have:=h1.at0
     rw [this] at h5
     have:=hf.dg c (by rw [hd]; exact List.mem_cons_self ..)
     rw [h5] at this
     exact absurd this (by decide)
  ·rw [if_pos ⟨by rw [size_data]; exact Sx.lt h1,Sx.at0 h1⟩]
   rfl
 have hFd : NoH dgB (F ++ R):=by
  rcases hf.fr with rfl | ⟨D2,rfl,_⟩
  ·exact hR
  ·exact NoH.cons (by decide) _
 have he : Go.Proofs.YtgdkpamlkpncgaaGreatDoor.behN dgB s.data.toList (i + g.length) = i + g.length + D.length:=h2.beh hf.dg hFd
 unfold Go.Proofs.YtgdkpamlkpncgaaGreatDoor.nu numN
 dsimp only
 rw [ha,he,if_pos (by omega)]
 rcases hf.fr with rfl | ⟨D2,rfl,hd2,hdg2⟩
 ·have hb : (if i + g.length + D.length < s.data.toList.length /\ Go.Proofs.YtgdkpamlkpncgaaGreatDoor.at0 s.data.toList (i + g.length + D.length) = 46 then i + g.length + D.length + 1 else i + g.length + D.length) = i + g.length + D.length:=by
   rw [if_neg]
   rintro ⟨h5,h6⟩
   rw [List.nil_append] at h3
   cases R with
   | nil=>have:=h3.len; rw [List.length_nil] at this; rw [size_data] at h5; omega
   | cons c R =>
    rw [h3.at0] at h6
    have:=hR2 c R rfl
    rw [h6] at this
    cases this
  have he2 : Go.Proofs.YtgdkpamlkpncgaaGreatDoor.behN dgB s.data.toList (i + g.length + D.length) = i + g.length + D.length:=by
   rw [List.nil_append] at h3
   exact Sx.beh (T:=[]) h3 (fun x hx=>by cases hx) hR
  rw [hb,he2,if_neg (by omega)]
  simp
  omega
 ·have hb : (if i + g.length + D.length < s.data.toList.length /\ Go.Proofs.YtgdkpamlkpncgaaGreatDoor.at0 s.data.toList (i + g.length + D.length) = 46 then i + g.length + D.length + 1 else i + g.length + D.length) = i + g.length + D.length + 1:=by
   rw [if_pos ⟨by rw [size_data]; exact Sx.lt (c:=46) (R:=D2 ++ R) h3,Sx.at0 (c:=46) (R:=D2 ++ R) h3⟩]
  have h4 : Sx s (i + g.length + D.length + 1) (D2 ++ R):=Sx.tail (c:=46) (R:=D2 ++ R) h3
  have he2 : Go.Proofs.YtgdkpamlkpncgaaGreatDoor.behN dgB s.data.toList (i + g.length + D.length + 1) = i + g.length + D.length + 1 + D2.length:=h4.beh hdg2 hR
  have : 0 < D2.length:=List.length_pos_iff.2 hd2
  rw [hb,he2,if_pos (by omega)]
  simp
  omega
def sps (n : Nat) : List UInt8:=List.replicate n 32
def lineG (mg : List UInt8) : List UInt8 -> List UInt8
 | []=>[]
 | c :: r=>if c = 10 /\ r.head? ≠ some 10 then 10 :: (mg ++ lineG mg r) else c :: lineG mg r
def feedOf (l : List EL) : Bool:=l.any fun x=>(elText x).data.toList.contains 10
def oddOf : List EL -> Bool
 | []=>false
 | .mk t _ :: _=>match t.data.toList with
  | []=>false
  | c :: _=>isMarkB c
def headG (m : Nat) (l : List EL) : List UInt8:=if feedOf l && !oddOf l then 10 :: sps m else [32]
def nameG (first : Bool) (n : ByteArray) : List UInt8:=(if first then [] else [44,32]) ++ (if emp n then [] else n.data.toList ++ [58,32])
def refG (k : Int) (n a : ByteArray) : List UInt8:=(if k = 4 then [45] else []) ++ (n.data.toList ++ (if emp a then [] else 46 :: a.data.toList))
def inlG (k : Int) (t n a : ByteArray) (none : Bool) (args inner : List UInt8) : List UInt8 :=
 if k = 0 then quoteAll t
 else if k = 1 then t.data.toList
 else if k = 2 then 36 :: n.data.toList
 else if k = 6 then inner
 else refG k n a ++ (if k ≠ 5 /\ none = true then [] else 40 :: (args ++ [41]))
mutual
def exT (m : Nat) : EX -> List UInt8
 | .mk k t n a al i vs=>inlG k t n a al.isEmpty (asT m true al) (plO m i)
def plT (m : Nat) : EX -> List UInt8
 | .mk k t n a al i vs=>if k = 7 then 123 :: 32 :: (exO m i ++ (32 :: 45 :: 62 :: (vsT m vs ++ (10 :: (sps m ++ [125]))))) else 123 :: 32 :: (inlG k t n a al.isEmpty (asT m true al) (plO m i) ++ [32,125])
def plO (m : Nat) : Option EX -> List UInt8
 | none=>[]
 | some e=>plT m e
def exO (m : Nat) : Option EX -> List UInt8
 | none=>[]
 | some e=>exT m e
def asT (m : Nat) (first : Bool) : List AR -> List UInt8
 | []=>[]
 | .mk n e :: r=>nameG first n ++ (exT m e ++ asT m false r)
def vsT (m : Nat) : List VA -> List UInt8
 | []=>[]
 | .mk k d v :: r=>10 :: (sps (m + 3) ++ ((if d then 42 else 32) :: 91 :: (k.data.toList ++ (93 :: (headG (m + 8) v ++ esT (m + 8) v))))) ++ vsT m r
def esT (m : Nat) : List EL -> List UInt8
 | []=>[]
 | .mk t none :: r=>lineG (sps m) t.data.toList ++ esT m r
 | .mk _ (some e) :: r=>plT m e ++ esT m r
end
def paT (m : Nat) (l : List EL) : List UInt8:=headG m l ++ esT m l
theorem plT_plain (m : Nat) (k : Int) (t n a : ByteArray) (al : List AR) (i : Option EX) (vs : List VA) (h : k ≠ 7) : plT m (.mk k t n a al i vs) = 123 :: 32 :: (exT m (.mk k t n a al i vs) ++ [32,125]):=by
 rw [plT,if_neg h,exT]
def cmlT (mk line : List UInt8) : List UInt8:=mk ++ ((if line.isEmpty then [] else 32 :: line) ++ [10])
def comT (mk line : List UInt8) : List UInt8 -> List UInt8
 | []=>cmlT mk line
 | c :: r=>if c = 10 then cmlT mk line ++ comT mk [] r else comT mk (line ++ [c]) r
def atsT : List AT -> List UInt8
 | []=>[]
 | .mk n v :: r=>10 :: 32 :: 32 :: 32 :: 32 :: 46 :: (n.data.toList ++ (32 :: 61 :: paT 8 v)) ++ atsT r
def entT (ty level : Int) (text name : ByteArray) (val : List EL) (ats : List AT) : List UInt8 :=
 if ty = 3 then text.data.toList
 else if ty = 0 then comT (List.replicate level.toNat 35) [] text.data.toList
 else (if ty = 2 then [45] else []) ++ (name.data.toList ++ (32 :: 61 :: ((if val.isEmpty then [] else paT 4 val) ++ (atsT ats ++ [10]))))
theorem lineG_len (mg : List UInt8) : ∀ l : List UInt8,(lineG mg l).length <= (1 + mg.length) * l.length
 | []=>by simp [lineG]
 | c :: r=>by
  have ih:=lineG_len mg r
  have e : (1 + mg.length) * (c :: r).length = (1 + mg.length) * r.length + (1 + mg.length):=by rw [List.length_cons,Nat.mul_add,Nat.mul_one]
  rw [lineG,e]
  split
  ·rw [List.length_cons,List.length_append]; omega
  ·rw [List.length_cons]; omega
theorem quoteAll_len (t : ByteArray) : (quoteAll t).length <= 6 * t.size + 2:=by
 unfold quoteAll
 rw [List.length_cons,List.length_append,List.length_singleton]
 have:=quoteFrom_length t t.size 0
 omega
theorem cmlT_len (mk line : List UInt8) : (cmlT mk line).length <= mk.length + line.length + 2:=by
 unfold cmlT
 rw [List.length_append,List.length_append]
 split
 ·simp; omega
 ·rw [List.length_cons,List.length_singleton]; omega
theorem comT_len (mk : List UInt8) : ∀ (l line : List UInt8),(comT mk line l).length <= line.length + (mk.length + 2) * (l.length + 1)
 | [],line=>by rw [comT,List.length_nil]; have:=cmlT_len mk line; omega
 | c :: r,line=>by
  have e : (mk.length + 2) * ((c :: r).length + 1) = (mk.length + 2) * (r.length + 1) + (mk.length + 2):=by rw [List.length_cons,Nat.mul_add _ (r.length + 1),Nat.mul_one]
  rw [comT,e]
  split
  ·rw [List.length_append]
   have h1:=cmlT_len mk line
   have h2:=comT_len mk r []
   rw [List.length_nil] at h2
   omega
  ·have:=comT_len mk r (line ++ [c])
   rw [List.length_append,List.length_singleton] at this
   omega
theorem emp_E0 : emp E0 = true:=by kernel_rfl
theorem emp_size (X : ByteArray) : emp X = decide (X.size = 0):=by
 unfold emp
 have h:=ext_empty X 0 X.size (Nat.zero_le _) (Nat.le_refl _)
 rw [show X.extract 0 X.size = X by apply bytes_eq; rw [extract_list,List.take_of_length_le (by rw [size_data]; exact Nat.le_refl _)]; rfl] at h
 exact h
def PlsOk (d : Nat) (l : List EL) : Prop:=∀ t e,EL.mk t (some e) ∈ l -> okE .brc e d = true
theorem PlsOk.append {d : Nat} {a b : List EL} (h : PlsOk d a) (g : PlsOk d b) : PlsOk d (a ++ b):=fun t e he=>by
 rcases List.mem_append.1 he with he | he
 ·exact h t e he
 ·exact g t e he
theorem PlsOk.text {d : Nat} (t : ByteArray) : PlsOk d [.mk t none]:=fun t' e he=>by simp at he
theorem PlsOk.nil {d : Nat} : PlsOk d []:=fun t e he=>by simp at he
theorem lineG_none (mg : List UInt8) : ∀ l : List UInt8,l.contains 10 = false -> lineG mg l = l
 | [],_=>rfl
 | c :: r,h=>by
  rw [List.contains_cons,Bool.or_eq_false_iff] at h
  have hc : ¬ c = 10:=fun e=>by rw [e] at h; simp at h
  rw [lineG,if_neg (fun q=>hc q.1),lineG_none mg r h.2]
theorem lineG_cut (mg B : List UInt8) : ∀ A : List UInt8,A.contains 10 = false -> lineG mg (A ++ 10 :: B) = A ++ (10 :: ((if B.head? = some 10 then [] else mg) ++ lineG mg B))
 | [],_=>by
  rw [List.nil_append,List.nil_append,lineG]
  by_cases h : B.head? = some 10
  ·rw [if_neg (fun q=>q.2 h),if_pos h,List.nil_append]
  ·rw [if_pos ⟨rfl,h⟩,if_neg h]
 | c :: r,h=>by
  rw [List.contains_cons,Bool.or_eq_false_iff] at h
  have hc : ¬ c = 10:=fun e=>by rw [e] at h; simp at h
  rw [List.cons_append,lineG,if_neg (fun q=>hc q.1),lineG_cut mg B r h.2,List.cons_append]
theorem comT_none (mk : List UInt8) : ∀ (l line : List UInt8),l.contains 10 = false -> comT mk line l = cmlT mk (line ++ l)
 | [],line,_=>by rw [comT,List.append_nil]
 | c :: r,line,h=>by
  rw [List.contains_cons,Bool.or_eq_false_iff] at h
  have hc : ¬ c = 10:=fun e=>by rw [e] at h; simp at h
  rw [comT,if_neg hc,comT_none mk r _ h.2,List.append_assoc,List.singleton_append]
theorem comT_cut (mk B : List UInt8) : ∀ (A line : List UInt8),A.contains 10 = false -> comT mk line (A ++ 10 :: B) = cmlT mk (line ++ A) ++ comT mk [] B
 | [],line,_=>by rw [List.nil_append,comT,if_pos rfl,List.append_nil]
 | c :: r,line,h=>by
  rw [List.contains_cons,Bool.or_eq_false_iff] at h
  have hc : ¬ c = 10:=fun e=>by rw [e] at h; simp at h
  rw [List.cons_append,comT,if_neg hc,comT_cut mk B r _ h.2,List.append_assoc,List.singleton_append]
def restG (m : Nat) : List (List AR × Nat) -> List UInt8
 | []=>[]
 | (al,k) :: st=>asT m (k == 0) (al.drop k) ++ (41 :: restG m st)
def opensE : EX -> Bool | .mk k _ _ _ al _ _=>k == 5 || !al.isEmpty
def hdT (m : Nat) : EX -> List UInt8
 | .mk k t n a al i vs=>if k = 0 then quoteAll t else if k = 1 then t.data.toList else if k = 2 then 36 :: n.data.toList else if k = 6 then plO m i else refG k n a
def flatE : EX -> Bool | .mk k _ _ _ al _ _=>al.isEmpty || !(decide (k = 0 ∨ k = 1 ∨ k = 2 ∨ k = 6))
def exArs : EX -> List AR | .mk _ _ _ _ al _ _=>al
theorem exT_head (m : Nat) (e : EX) (h : flatE e = true) (st : List (List AR × Nat)) : exT m e ++ restG m st = hdT m e ++ (if opensE e = true then 40 :: restG m ((exArs e,0) :: st) else restG m st):=by
 obtain ⟨k,t,n,a,al,i,vs⟩:=e
 have ho : opensE (.mk k t n a al i vs) = (k == 5 || !al.isEmpty):=rfl
 have hf : flatE (.mk k t n a al i vs) = (al.isEmpty || !(decide (k = 0 ∨ k = 1 ∨ k = 2 ∨ k = 6))):=rfl
 have ha : exArs (.mk k t n a al i vs) = al:=rfl
 rw [exT,hdT,ha]
 rw [hf] at h
 unfold inlG
 by_cases h4 : k = 0 ∨ k = 1 ∨ k = 2 ∨ k = 6
 ·rw [decide_eq_true h4,Bool.not_true,Bool.or_false] at h
  have h5 : (k == 5) = false:=by rw [beq_eq_false_iff_ne]; omega
  have hop : opensE (.mk k t n a al i vs) = false:=by rw [ho,h5,h]; rfl
  rw [hop,if_neg (by simp : ¬ (false = true))]
  rcases h4 with rfl | rfl | rfl | rfl <;> simp
 ·rw [if_neg (fun q=>h4 (.inl q)),if_neg (fun q=>h4 (.inr (.inl q))),if_neg (fun q=>h4 (.inr (.inr (.inl q)))),if_neg (fun q=>h4 (.inr (.inr (.inr q)))),
   if_neg (fun q=>h4 (.inl q)),if_neg (fun q=>h4 (.inr (.inl q))),if_neg (fun q=>h4 (.inr (.inr (.inl q)))),if_neg (fun q=>h4 (.inr (.inr (.inr q))))]
  by_cases h5 : k = 5
  ·subst h5
   have hop : opensE (.mk 5 t n a al i vs) = true:=by rw [ho]; rfl
   rw [hop,if_pos rfl,if_neg (by simp),restG]
   simp
  ·have e5 : (k == 5) = false:=by rw [beq_eq_false_iff_ne]; exact h5
   by_cases h6 : al.isEmpty = true
   ·have hop : opensE (.mk k t n a al i vs) = false:=by rw [ho,e5,h6]; rfl
    rw [hop,if_neg (by simp : ¬ (false = true)),if_pos ⟨h5,h6⟩,List.append_nil]
   ·have e6 : al.isEmpty = false:=by simpa using h6
    have hop : opensE (.mk k t n a al i vs) = true:=by rw [ho,e5,e6]; rfl
    rw [hop,if_pos rfl,if_neg (fun q=>h6 q.2),restG]
    simp
theorem restG_pop (m : Nat) (al : List AR) (st : List (List AR × Nat)) : restG m ((al,al.length) :: st) = 41 :: restG m st:=by
 rw [restG,List.drop_of_length_le (Nat.le_refl _),asT,List.nil_append]
theorem restG_next (m : Nat) (al : List AR) (k : Nat) (n : ByteArray) (e : EX) (st : List (List AR × Nat)) (h : al[k]? = some (.mk n e)) : restG m ((al,k) :: st) = nameG (k == 0) n ++ (exT m e ++ restG m ((al,k + 1) :: st)):=by
 rw [restG,drop_cons al k _ h,asT,restG,List.append_assoc,List.append_assoc]
 rfl
def todoG : List (List AR × Nat) -> Nat
 | []=>0
 | (al,k) :: st=>sizeAs (al.drop k) + todoG st
theorem todo_next (al : List AR) (k : Nat) (n : ByteArray) (e : EX) (st : List (List AR × Nat)) (h : al[k]? = some (.mk n e)) : e.size + todoG ((al,k + 1) :: st) <= todoG ((al,k) :: st):=by
 unfold todoG
 rw [drop_cons al k _ h,sizeAs]
 omega
def gdW (k : Int) (as0 args inner : Bool) : Bool:=if k = 6 then as0 && inner else if k = 0 ∨ k = 1 ∨ k = 2 then as0 else decide (k = 3 ∨ k = 4 ∨ k = 5) && args
mutual
def gdI : EX -> Bool
 | .mk k _ _ _ al i _=>gdW k al.isEmpty (gdAs al) (gdO i)
def gdP : EX -> Bool
 | .mk k _ _ _ al i vs=>if k = 7 then gdJ i && gdVs vs else gdW k al.isEmpty (gdAs al) (gdO i)
def gdO : Option EX -> Bool
 | none=>false
 | some e=>gdP e
def gdJ : Option EX -> Bool
 | none=>false
 | some e=>gdI e
def gdAs : List AR -> Bool
 | []=>true
 | .mk _ e :: r=>gdI e && gdAs r
def gdVs : List VA -> Bool
 | []=>true
 | .mk _ _ v :: r=>gdEs v && !v.isEmpty && gdVs r
def gdEs : List EL -> Bool
 | []=>true
 | .mk _ none :: r=>gdEs r
 | .mk _ (some e) :: r=>gdP e && gdEs r
end
theorem inlP_gd {k : Int} {t n a : ByteArray} {as0 i0 vs0 X Y X' Y' : Bool} (h : inlP k t n a as0 i0 vs0 X Y = true) (hX : X = true -> X' = true) (h0 : as0 = true -> X' = true) (hY : Y = true -> Y' = true) : gdW k as0 X' Y' = true:=by
 unfold inlP at h
 unfold gdW
 by_cases k0 : k = 0
 ·subst k0; simp at h; simp [h]
 by_cases k1 : k = 1
 ·subst k1; simp at h; simp [h]
 by_cases k2 : k = 2
 ·subst k2; simp at h; simp [h]
 by_cases k3 : k = 3
 ·subst k3; simp at h; simp [h0 h.2.1.1.2]
 by_cases k4 : k = 4
 ·subst k4; simp at h; simp [hX h.1.2]
 by_cases k5 : k = 5
 ·subst k5; simp at h; simp [hX h.1.2]
 by_cases k6 : k = 6
 ·subst k6; simp at h; simp [h.2.1.2,hY h.1]
 ·rw [if_neg k0,if_neg k1,if_neg k2,if_neg k3,if_neg k4,if_neg k5,if_neg k6] at h
  cases h
mutual
theorem ok_gd : ∀ (m : Md) (e : EX) (d : Nat),okE m e d = true -> (m = .brc -> gdP e = true) /\ (m ≠ .brc -> gdI e = true)
 | m,.mk k t n a al i vs,d,h=>by
  have hA : (argNames [] al && okAs al d) = true -> gdAs al = true:=fun q=>okAs_gd al d (Bool.and_eq_true_iff.1 q).2
  have h0 : al.isEmpty = true -> gdAs al = true:=fun q=>by
   rw [List.isEmpty_iff] at q
   subst q
   rfl
  have hI : okO .brc i (d + 1) = true -> gdO i = true:=okO_gd i (d + 1)
  cases m with
  | inl =>
   rw [okE] at h
   refine ⟨(fun q=>by cases q),fun _=>?_⟩
   rw [gdI]
   exact inlP_gd h hA h0 hI
  | brc =>
   rw [okE] at h
   refine ⟨fun _=>?_,fun q=>absurd rfl q⟩
   rw [Bool.and_eq_true] at h
   have h:=h.2
   rw [gdP]
   by_cases k7 : k = 7
   ·rw [if_pos k7] at h ⊢
    simp only [Bool.and_eq_true] at h
    rw [Bool.and_eq_true]
    refine ⟨okJ_gd i d h.2,okVs_gd vs d h.1.2 ?_⟩
    have hv:=h.1.1.2
    unfold varsL at hv
    rw [Bool.and_eq_true,List.all_eq_true] at hv
    intro v hm
    have:=hv.1 v hm
    simp only [Bool.and_eq_true] at this
    exact this.1.2
   ·rw [if_neg k7] at h ⊢
    exact inlP_gd h hA h0 hI
  | ask =>
   rw [okE] at h
   refine ⟨(fun q=>by cases q),fun _=>?_⟩
   rw [gdI]
   by_cases k4 : k = 4
   ·rw [if_pos k4,Bool.and_eq_true] at h
    exact inlP_gd h.2 hA h0 hI
   ·rw [if_neg k4] at h
    split at h
    ·exact inlP_gd h hA h0 hI
    ·cases h
theorem okO_gd : ∀ (i : Option EX) (d : Nat),okO .brc i d = true -> gdO i = true
 | none,d,h=>by rw [okO] at h; cases h
 | some e,d,h=>by
  rw [okO] at h
  rw [gdO]
  exact (ok_gd .brc e d h).1 rfl
theorem okJ_gd : ∀ (i : Option EX) (d : Nat),okO .ask i d = true -> gdJ i = true
 | none,d,h=>by rw [okO] at h; cases h
 | some e,d,h=>by
  rw [okO] at h
  rw [gdJ]
  exact (ok_gd .ask e d h).2 (by simp)
theorem okAs_gd : ∀ (l : List AR) (d : Nat),okAs l d = true -> gdAs l = true
 | [],d,h=>by rw [gdAs]
 | .mk n e :: r,d,h=>by
  rw [okAs,Bool.and_eq_true] at h
  rw [gdAs,Bool.and_eq_true]
  exact ⟨(ok_gd .inl e d h.1).2 (by simp),okAs_gd r d h.2⟩
theorem okVs_gd : ∀ (l : List VA) (d : Nat),okVs l d = true -> (∀ v ∈ l,(!(vaVal v).isEmpty) = true) -> gdVs l = true
 | [],d,h,_=>by rw [gdVs]
 | .mk k b v :: r,d,h,hv=>by
  rw [okVs,Bool.and_eq_true] at h
  rw [gdVs,Bool.and_eq_true,Bool.and_eq_true]
  exact ⟨⟨okEs_gd v (d + 1) h.1,hv _ (List.mem_cons_self ..)⟩,okVs_gd r d h.2 (fun x hx=>hv x (List.mem_cons_of_mem _ hx))⟩
theorem okEs_gd : ∀ (l : List EL) (d : Nat),okEs l d = true -> gdEs l = true
 | [],d,h=>by rw [gdEs]
 | .mk t none :: r,d,h=>by
  rw [okEs] at h
  rw [gdEs]
  exact okEs_gd r d h
 | .mk t (some e) :: r,d,h=>by
  rw [okEs,Bool.and_eq_true] at h
  rw [gdEs,Bool.and_eq_true]
  exact ⟨(ok_gd .brc e d h.1).1 rfl,okEs_gd r d h.2⟩
end
theorem patB_gd {l : List EL} {d : Nat} (h : patB l d = true) : gdEs l = true:=by
 unfold patB at h
 rw [Bool.and_eq_true] at h
 exact okEs_gd l (d + 1) h.2
theorem gdAs_get : ∀ (l : List AR) (j : Nat) (n : ByteArray) (e : EX),gdAs l = true -> l[j]? = some (.mk n e) -> gdI e = true
 | [],j,n,e,_,h=>by simp at h
 | .mk n' e' :: r,0,n,e,g,h=>by
  simp at h
  obtain ⟨rfl,rfl⟩:=h
  rw [gdAs,Bool.and_eq_true] at g
  exact g.1
 | .mk n' e' :: r,j + 1,n,e,g,h=>by
  rw [gdAs,Bool.and_eq_true] at g
  exact gdAs_get r j n e g.2 (by simpa using h)
theorem gdVs_get : ∀ (l : List VA) (j : Nat) (k : ByteArray) (b : Bool) (v : List EL),gdVs l = true -> l[j]? = some (.mk k b v) -> gdEs v = true /\ v ≠ []
 | [],j,k,b,v,_,h=>by simp at h
 | .mk k' b' v' :: r,0,k,b,v,g,h=>by
  simp at h
  obtain ⟨rfl,rfl,rfl⟩:=h
  rw [gdVs,Bool.and_eq_true,Bool.and_eq_true] at g
  exact ⟨g.1.1,by intro e; rw [e] at g; simp at g⟩
 | .mk k' b' v' :: r,j + 1,k,b,v,g,h=>by
  rw [gdVs,Bool.and_eq_true] at g
  exact gdVs_get r j k b v g.2 (by simpa using h)
theorem gdEs_get : ∀ (l : List EL) (j : Nat) (t : ByteArray) (e : EX),gdEs l = true -> l[j]? = some (.mk t (some e)) -> gdP e = true
 | [],j,t,e,_,h=>by simp at h
 | .mk t' none :: r,0,t,e,g,h=>by simp at h
 | .mk t' (some e') :: r,0,t,e,g,h=>by
  simp at h
  obtain ⟨rfl,rfl⟩:=h
  rw [gdEs,Bool.and_eq_true] at g
  exact g.1
 | .mk t' none :: r,j + 1,t,e,g,h=>by
  rw [gdEs] at g
  exact gdEs_get r j t e g (by simpa using h)
 | .mk t' (some e') :: r,j + 1,t,e,g,h=>by
  rw [gdEs,Bool.and_eq_true] at g
  exact gdEs_get r j t e g.2 (by simpa using h)
theorem gdI_flat {e : EX} (h : gdI e = true) : flatE e = true:=by
 obtain ⟨k,t,n,a,al,i,vs⟩:=e
 rw [gdI] at h
 unfold gdW at h
 show (al.isEmpty || !(decide (k = 0 ∨ k = 1 ∨ k = 2 ∨ k = 6))) = true
 by_cases k6 : k = 6
 ·rw [if_pos k6,Bool.and_eq_true] at h
  rw [h.1]; rfl
 ·rw [if_neg k6] at h
  split at h
  ·rw [h]; rfl
  ·next hk =>
   rw [decide_eq_false (by omega : ¬ (k = 0 ∨ k = 1 ∨ k = 2 ∨ k = 6))]
   simp
theorem gdI_kind {k : Int} {t n a : ByteArray} {al : List AR} {i : Option EX} {vs : List VA} (h : gdI (.mk k t n a al i vs) = true) :
  (k = 0 ∨ k = 1 ∨ k = 2 ∨ k = 3 ∨ k = 4 ∨ k = 5 ∨ k = 6) /\ (k = 6 -> ∃ e,i = some e /\ gdP e = true) /\ gdAs al = true:=by
 rw [gdI] at h
 unfold gdW at h
 by_cases k6 : k = 6
 ·rw [if_pos k6,Bool.and_eq_true] at h
  refine ⟨by omega,fun _=>?_,?_⟩
  ·cases i with
   | none=>rw [gdO] at h; cases h.2
   | some e=>rw [gdO] at h; exact ⟨e,rfl,h.2⟩
  ·have:=List.isEmpty_iff.1 h.1
   subst this
   rfl
 ·rw [if_neg k6] at h
  split at h
  ·next hk =>
   refine ⟨by omega,fun e=>absurd e k6,?_⟩
   have:=List.isEmpty_iff.1 h
   subst this
   rfl
  ·rw [Bool.and_eq_true,decide_eq_true_iff] at h
   exact ⟨by omega,fun e=>absurd e k6,h.2⟩
theorem gdP_inl {k : Int} {t n a : ByteArray} {al : List AR} {i : Option EX} {vs : List VA} (k7 : k ≠ 7) (h : gdP (.mk k t n a al i vs) = true) : gdI (.mk k t n a al i vs) = true:=by
 rw [gdP,if_neg k7] at h
 rw [gdI]
 exact h
theorem gdP_sel {t n a : ByteArray} {al : List AR} {i : Option EX} {vs : List VA} (h : gdP (.mk 7 t n a al i vs) = true) : (∃ e,i = some e /\ gdI e = true) /\ gdVs vs = true:=by
 rw [gdP,if_pos rfl,Bool.and_eq_true] at h
 refine ⟨?_,h.2⟩
 cases i with
 | none=>rw [gdJ] at h; cases h.1
 | some e=>rw [gdJ] at h; exact ⟨e,rfl,h.1⟩
section
variable {B b : Nat} {bs : List UInt8}
theorem write1 (x : ByteArray) (w : World) (h : WrAt B b bs w) (hn : bs.length + x.size <= 140737488355328) :
  Calls Tryz.prog 37 #[.pointer (some ⟨b,0,none⟩),.slice (some ⟨w.heap.size,0,none⟩) 1 1] (w.alloc (.cells #[.string x] 9)) fun e w'=>e = .returned (.tuple #[]) /\ WrAt B b (bs ++ x.data.toList) w' /\ Wk B b w w':=by
 have h2:=write_any (B:=B) (b:=b) (bs:=bs) [x] w.heap.size 1 (w.alloc (.cells #[.string x] 9)) (h.alloc _) (BoxAt.new w _ _) (by simpa [catL] using hn) (by simp)
 refine h2.mono ?_
 rintro e w' ⟨he,h3,h4⟩
 exact ⟨he,by simpa [catL] using h3,((Wk.refl B b w).alloc h.le _).trans h4⟩
theorem write2 (x y : ByteArray) (w : World) (h : WrAt B b bs w) (hn : bs.length + (x.size + y.size) <= 140737488355328) :
  Calls Tryz.prog 37 #[.pointer (some ⟨b,0,none⟩),.slice (some ⟨w.heap.size,0,none⟩) 2 2] (w.alloc (.cells #[.string x,.string y] 9)) fun e w'=>e = .returned (.tuple #[]) /\ WrAt B b (bs ++ (x.data.toList ++ y.data.toList)) w' /\ Wk B b w w':=by
 have h2:=write_any (B:=B) (b:=b) (bs:=bs) [x,y] w.heap.size 2 (w.alloc (.cells #[.string x,.string y] 9)) (h.alloc _) (BoxAt.new w _ _) (by simpa [catL] using hn) (by simp)
 refine h2.mono ?_
 rintro e w' ⟨he,h3,h4⟩
 exact ⟨he,by simpa [catL] using h3,((Wk.refl B b w).alloc h.le _).trans h4⟩
theorem write3 (x y z : ByteArray) (w : World) (h : WrAt B b bs w) (hn : bs.length + (x.size + (y.size + z.size)) <= 140737488355328) :
  Calls Tryz.prog 37 #[.pointer (some ⟨b,0,none⟩),.slice (some ⟨w.heap.size,0,none⟩) 3 3] (w.alloc (.cells #[.string x,.string y,.string z] 9)) fun e w'=>e = .returned (.tuple #[]) /\ WrAt B b (bs ++ (x.data.toList ++ (y.data.toList ++ z.data.toList))) w' /\ Wk B b w w':=by
 have h2:=write_any (B:=B) (b:=b) (bs:=bs) [x,y,z] w.heap.size 3 (w.alloc (.cells #[.string x,.string y,.string z] 9)) (h.alloc _) (BoxAt.new w _ _) (by simpa [catL] using hn) (by simp)
 refine h2.mono ?_
 rintro e w' ⟨he,h3,h4⟩
 exact ⟨he,by simpa [catL] using h3,((Wk.refl B b w).alloc h.le _).trans h4⟩
theorem write7 (x1 x2 x3 x4 x5 x6 x7 : ByteArray) (w : World) (h : WrAt B b bs w) (hn : bs.length + (x1.size + (x2.size + (x3.size + (x4.size + (x5.size + (x6.size + x7.size)))))) <= 140737488355328) :
  Calls Tryz.prog 37 #[.pointer (some ⟨b,0,none⟩),.slice (some ⟨w.heap.size,0,none⟩) 7 7] (w.alloc (.cells #[.string x1,.string x2,.string x3,.string x4,.string x5,.string x6,.string x7] 9)) fun e w'=>e = .returned (.tuple #[]) /\ WrAt B b (bs ++ (x1.data.toList ++ (x2.data.toList ++ (x3.data.toList ++ (x4.data.toList ++ (x5.data.toList ++ (x6.data.toList ++ x7.data.toList))))))) w' /\ Wk B b w w':=by
 have h2:=write_any (B:=B) (b:=b) (bs:=bs) [x1,x2,x3,x4,x5,x6,x7] w.heap.size 7 (w.alloc (.cells #[.string x1,.string x2,.string x3,.string x4,.string x5,.string x6,.string x7] 9)) (h.alloc _) (BoxAt.new w _ _) (by simpa [catL] using hn) (by simp)
 refine h2.mono ?_
 rintro e w' ⟨he,h3,h4⟩
 exact ⟨he,by simpa [catL] using h3,((Wk.refl B b w).alloc h.le _).trans h4⟩
end
def mgB (m : Nat) : ByteArray:=⟨(sps m).toArray⟩
theorem mgB_data (m : Nat) : (mgB m).data.toList = sps m:=by simp [mgB]
theorem mgB_size (m : Nat) : (mgB m).size = m:=by rw [<- size_data,mgB_data]; simp [sps]
theorem mgB_add (m n : Nat) : mgB m ++ mgB n = mgB (m + n):=by
 apply bytes_eq
 rw [mgB_data]
 simp [mgB_data,sps]
structure Sw (W0 : World) (B b : Nat) (w : World) : Prop where
 hB : W0.heap.size <= B
 hW : Below W0.heap.size W0 w
theorem Sw.step {W0 : World} {B b : Nat} {w w' : World} (h : Sw W0 B b w) (g : Wk B b w w') : Sw W0 B b w':=⟨h.hB,h.hW.trans (g.below.mono h.hB)⟩
theorem Sw.alloc {W0 : World} {B b : Nat} {w : World} (h : Sw W0 B b w) (o : Obj) : Sw W0 B b (w.alloc o):=⟨h.hB,h.hW.alloc h.hW.size o⟩
theorem Sw.drew {W0 : World} {B b : Nat} {w : World} (h : Sw W0 B b w) : Sw W0 B b w.drew:=⟨h.hB,h.hW.drew⟩
theorem Sw.at_ {W0 : World} {B b : Nat} {w : World} (h : Sw W0 B b w) {q o : Nat} {c : C7} (hq : q < W0.heap.size) (hc : CellsAt W0 q o c) : CellsAt w q o c /\ q < w.heap.size:=⟨hc.under hq h.hW,Nat.lt_of_lt_of_le hq h.hW.size⟩
set_option maxHeartbeats 4000000 in
set_option maxRecDepth 100000 in
theorem ref_any {W0 : World} {B b : Nat} {bs : List UInt8} (k : Int) (t n a : ByteArray) (al i vs : Value) (q o : Nat) (w : World) (hS : Sw W0 B b w) (hq : q < W0.heap.size) (hc : CellsAt W0 q o ⟨.int .i64 k,.string t,.string n,.string a,al,i,vs⟩) (h : WrAt B b bs w)
  (hn : bs.length + (n.data.toList ++ (if emp a then [] else 46 :: a.data.toList)).length <= 140737488355328) :
  Calls Tryz.prog 263 #[.pointer (some ⟨b,0,none⟩),.pointer (some ⟨q,o,none⟩)] w fun e w'=>e = .returned (.tuple #[]) /\ WrAt B b (bs ++ (n.data.toList ++ (if emp a then [] else 46 :: a.data.toList))) w' /\ Wk B b w w':=by
 obtain ⟨⟨k0,k1,k2,k3,k4,k5,k6⟩,hlt⟩:=hS.at_ hq hc
 have HW1:=hid (write1 n w h (by rw [List.length_append,size_data] at hn; omega))
 have HS:=hid hS
 have HC:=hid hc
 have HN:=hid hn
 have HH:=hid h
 obtain ⟨em,hem⟩ : ∃ g,emp a = g:=⟨_,rfl⟩
 have hem2 : a.toList.isEmpty = em:=hem
 rw [hem] at HN ⊢
 clear hS hc h hn hem
 go_enter Tryz.func263,Tryz.ntmps263
 go_wp2_with fail
 go_at_call 37
 refine HW1.out.mono ?_
 rintro e w1 ⟨rfl,h1,g1⟩
 obtain ⟨⟨j0,j1,j2,j3,j4,j5,j6⟩,hlt1⟩:=(HS.out.step g1).at_ hq HC.out
 have HA:=hid h1
 have HG:=hid g1
 clear h1 g1 k0 k1 k2 k3 k4 k5 k6
 cases em
 ·have HW2:=hid (write2 ⟨#[46]⟩ a w1 HA.out (by rw [List.length_append,size_data]; have hz:=HN.out; simp at hz; show _ + (1 + _) <= _; omega))
  go_wp2_with fail
  go_at_call 37
  refine HW2.out.mono ?_
  rintro e w2 ⟨rfl,h2,g2⟩
  have HA2:=hid h2
  have HG2:=hid (HG.out.trans g2)
  clear h2 g2
  go_wp2
  go_end0
  exact ⟨rfl,by simpa using HA2.out,HG2.out⟩
 ·go_wp2
  go_end0
  exact ⟨rfl,by simpa using HA.out,HG.out⟩
def MxW (w : World) : Prop:=∃ m,w.cell? ⟨5,0,none⟩ = some (.int .i64 m)
theorem MxW.below {w w' : World} {n : Nat} (h : MxW w) (g : Below n w w') (hn : w.heap.size <= n) : MxW w':=by
 obtain ⟨m,hm⟩:=h
 exact ⟨m,(g.cell (p:=⟨5,0,none⟩) (Nat.lt_of_lt_of_le (World.block_lt_of_cell? w _ hm) hn)).trans hm⟩
theorem Sw.mx {W0 : World} {B b : Nat} {w : World} (h : Sw W0 B b w) (hM : MxW W0) : MxW w:=hM.below h.hW (Nat.le_refl _)
theorem idx_nl : ∀ l : List UInt8,(l.contains 10 = false /\ Lib.index l [10] = -1) ∨ ∃ A R,l = A ++ 10 :: R /\ A.contains 10 = false /\ Lib.index l [10] = (A.length : Int)
 | []=>.inl ⟨rfl,rfl⟩
 | b :: l=>by
  by_cases hb : b = 10
  ·subst hb
   exact .inr ⟨[],l,rfl,rfl,by simp [Lib.index,List.isPrefixOf]⟩
  ·have hp : ([10] : List UInt8).isPrefixOf (b :: l) = false:=by simp [List.isPrefixOf,Ne.symm hb]
   have hc : ((10 : UInt8) == b) = false:=by rw [beq_eq_false_iff_ne]; exact Ne.symm hb
   rcases idx_nl l with ⟨h1,h2⟩ | ⟨A,R,h1,h2,h3⟩
   ·refine .inl ⟨?_,?_⟩
    ·rw [List.contains_cons,h1,hc]; rfl
    ·rw [Lib.index,hp,h2]; rfl
   ·refine .inr ⟨b :: A,R,by rw [h1]; rfl,?_,?_⟩
    ·rw [List.contains_cons,h2,hc]; rfl
    ·rw [Lib.index,hp,h3,if_neg (by simp),if_neg (by rw [beq_iff_eq]; omega),List.length_cons]; omega
theorem cut_nl (l : List UInt8) : (l.contains 10 = false /\ Lib.cut l [10] = (l,[],false)) ∨ ∃ A R,l = A ++ 10 :: R /\ A.contains 10 = false /\ Lib.cut l [10] = (A,R,true):=by
 rcases idx_nl l with ⟨h1,h2⟩ | ⟨A,R,h1,h2,h3⟩
 ·exact .inl ⟨h1,by unfold Lib.cut; rw [h2,if_neg (by decide)]⟩
 ·refine .inr ⟨A,R,h1,h2,?_⟩
  unfold Lib.cut
  rw [h3,if_pos (by omega),Int.toNat_natCast,h1]
  simp
theorem pre_nl (l : List UInt8) : Lib.hasPrefix l [10] = decide (l.head? = some 10):=by
 cases l with
 | nil=>rfl
 | cons c r =>
  rw [Bool.eq_iff_iff,decide_eq_true_iff]
  simp [Lib.hasPrefix,List.isPrefixOf]
  exact eq_comm
def tailG (mg : List UInt8) (L R : List UInt8) (m : Bool) : List UInt8:=L ++ (if m then 10 :: ((if R.head? = some 10 then [] else mg) ++ lineG mg R) else [])
theorem tail_of (mg : List UInt8) (l : List UInt8) : ∃ A R m,Lib.cut l [10] = (A,R,m) /\ lineG mg l = tailG mg A R m /\ (m = true -> R.length < l.length) /\ A.length <= l.length:=by
 rcases cut_nl l with ⟨h1,h2⟩ | ⟨A,R,h1,h2,h3⟩
 ·exact ⟨l,[],false,h2,by rw [lineG_none mg l h1]; simp [tailG],(fun h=>by cases h),Nat.le_refl _⟩
 ·refine ⟨A,R,true,h3,?_,fun _=>by rw [h1]; simp; omega,by rw [h1]; simp⟩
  rw [h1,lineG_cut mg R A h2]
  rfl
def msT : Value -> Value -> Nat
 | .string R,.bool true=>R.size + 1
 | _,_=>0
theorem cut_to {s : ByteArray} {A R : List UInt8} {m : Bool} (h : Lib.cut s.data.toList [10] = (A,R,m)) (hs : s.size <= 4000000) (w : World) (hM : MxW w) :
  Calls Tryz.prog 87 #[.string s,.string ⟨#[10]⟩] w fun e w'=>e = .returned (.tuple #[.string ⟨A.toArray⟩,.string ⟨R.toArray⟩,.bool m]) /\ ∃ n,w' = w.drewN n:=by
 obtain ⟨mx,hm⟩:=hM
 have:=Tryz.strings_Cut s ⟨#[10]⟩ mx w (by omega) hm
 rw [show (⟨#[10]⟩ : ByteArray).data.toList = [10] from rfl,h] at this
 exact this
theorem WrAt.drewN {B b : Nat} {bs : List UInt8} {W : World} (h : WrAt B b bs W) (n : Nat) : WrAt B b bs (W.drewN n):=⟨h.bld,h.le⟩
theorem Wk.drewN {B b : Nat} {u w : World} (h : Wk B b u w) (n : Nat) : Wk B b u (w.drewN n):=⟨⟨h.below.os,h.below.tape,h.below.output,h.below.size,h.below.block⟩,fun k o ho hb hc=>h.kept k o ho hb hc⟩
theorem data_mk (l : List UInt8) : (⟨l.toArray⟩ : ByteArray).data.toList = l:=rfl
set_option maxHeartbeats 4000000 in
set_option maxRecDepth 100000 in
theorem ztext_any {W0 : World} (hM : MxW W0) {B b : Nat} {bs : List UInt8} (m : Nat) (s : ByteArray) (w : World) (hS : Sw W0 B b w) (h : WrAt B b bs w) (hs : s.size <= 4000000) (hn : bs.length + (lineG (sps m) s.data.toList).length <= 140737488355328) :
  Calls Tryz.prog 163 #[.pointer (some ⟨b,0,none⟩),.string s,.string (mgB m)] w fun e w'=>e = .returned (.tuple #[]) /\ WrAt B b (bs ++ lineG (sps m) s.data.toList) w' /\ Wk B b w w':=by
 obtain ⟨A,R,q,hc,hl,hr,ha⟩:=tail_of (sps m) s.data.toList
 rw [size_data] at hr ha
 have HC:=hid (cut_to hc hs w (hS.mx hM))
 have HL:=hid hl
 have HH:=hid h
 have HN:=hid hn
 have HS:=hid hS
 have HM:=hid hM
 have HR:=hid hr
 have HA:=hid ha
 have HP:=hid (fun (x : ByteArray) W=>Tryz.strings_HasPrefix x ⟨#[10]⟩ W)
 clear hc hl h hn hS hM hr ha
 go_enter Tryz.func163,Tryz.ntmps163
 go_wp2_with fail
 go_at_call 87
 refine HC.out.mono ?_
 rintro e w1 ⟨rfl,n1,rfl⟩
 go_wp2
 go_loopw [6,7,8] (fun t6 t7 t8 wr=>∃ (L R : List UInt8) (q : Bool) (D : List UInt8),t6 = .string ⟨L.toArray⟩ /\ t7 = .string ⟨R.toArray⟩ /\ t8 = .bool q /\ Hid (WrAt B b (bs ++ D) wr) /\ Hid (Wk B b w wr) /\ Hid (lineG (sps m) s.data.toList = D ++ tailG (sps m) L R q) /\ Hid (q = true -> R.length <= 4000000)) (fun _ t7 t8 _=>msT t7 t8)
 case atStart=>exact ⟨A,R,q,[],rfl,rfl,rfl,hid (by rw [List.append_nil]; exact HH.out.drewN _),hid ((Wk.refl _ _ _).drewN _),hid HL.out,hid (fun hq=>by have:=HR.out hq; omega)⟩
 case round =>
  clear HC HL HR HA HH
  obtain ⟨L,R,q,D,rfl,rfl,rfl,HA,HK,HT,HZ⟩:=hrel
  have hN:=HN.out
  rw [HT.out] at hN
  have hSr:=HS.out.step HK.out
  unfold tailG at hN
  cases q
  case false =>
   have HW:=hid (write1 ⟨L.toArray⟩ wr HA.out (by rw [size_mk]; simp at hN ⊢; omega))
   clear hN hSr
   go_wp2_with fail
   go_at_call 37
   refine HW.out.mono ?_
   rintro e w2 ⟨rfl,h2,g2⟩
   have HA2:=hid h2
   have HK2:=hid (HK.out.trans g2)
   clear h2 g2
   go_wp2
   go_end0
   refine ⟨rfl,?_,HK2.out⟩
   have:=HA2.out
   rw [HT.out]
   simpa [tailG,data_mk] using this
  case true =>
   have hR:=HZ.out rfl
   have HW:=hid (write2 ⟨L.toArray⟩ ⟨#[10]⟩ wr HA.out (by rw [size_mk]; show _ + (_ + 1) <= _; simp at hN ⊢; omega))
   obtain ⟨A2,R2,q2,hc2,hl2,hr2,ha2⟩:=tail_of (sps m) R
   obtain ⟨p,hp⟩ : ∃ p,decide (R.head? = some 10) = p:=⟨_,rfl⟩
   have hpre : Lib.hasPrefix R [10] = p:=(pre_nl R).trans hp
   have HX:=hid hpre
   have HP2:=hid hp
   have HC2:=hid hc2
   have HL2:=hid hl2
   have HR2:=hid hr2
   have HRz:=hid hR
   have HSr:=hid hSr
   have HNN:=hid hN
   clear hN hSr hc2 hl2 hr2 ha2 hp hpre hR
   go_wp2_with fail
   go_at_call 37
   refine HW.out.mono ?_
   rintro e w2 ⟨rfl,h2,g2⟩
   have HA2:=hid h2
   have HK2:=hid (HK.out.trans g2)
   have HS2:=hid (HSr.out.step g2)
   clear h2 g2
   go_wp2_with fail
   go_at_call 65
   refine (HP.out _ _).mono ?_
   rintro e w3 ⟨rfl,rfl⟩
   rw [show (⟨R.toArray⟩ : ByteArray).data.toList = R from rfl,HX.out]
   cases p
   case true =>
    have HC3:=hid (cut_to (s:=⟨R.toArray⟩) HC2.out (by rw [size_mk]; exact HRz.out) _ (HS2.out.mx HM.out))
    go_wp2_with fail
    go_at_call 87
    refine HC3.out.mono ?_
    rintro e w4 ⟨rfl,n4,rfl⟩
    go_wp2
    go_roundw
    case rel =>
     refine ⟨A2,R2,q2,D ++ (L ++ [10]),rfl,rfl,rfl,hid ?_,hid (HK2.out.drewN _),hid ?_,hid (fun h=>by have:=HR2.out h; have:=HRz.out; omega)⟩
     ·have:=HA2.out.drewN n4
      simpa [data_mk] using this
     ·rw [HT.out,<- HL2.out]
      unfold tailG
      rw [if_pos rfl,if_pos (of_decide_eq_true HP2.out)]
      simp
    case measure =>
     cases q2
     ·simp [msT]
     ·have:=HR2.out rfl
      simp [msT,size_mk]
      omega
   case false =>
    have HW3:=hid (write1 (mgB m) _ HA2.out (by
     have h1:=HNN.out
     have h2:=of_decide_eq_false HP2.out
     rw [mgB_size]
     simp [h2,data_mk,sps] at h1 ⊢
     omega))
    go_wp2_with fail
    go_at_call 37
    refine HW3.out.mono ?_
    rintro e w4 ⟨rfl,h2,g2⟩
    have HA4:=hid h2
    have HK4:=hid (HK2.out.trans g2)
    have HS4:=hid (HS2.out.step g2)
    clear h2 g2
    have HC3:=hid (cut_to (s:=⟨R.toArray⟩) HC2.out (by rw [size_mk]; exact HRz.out) _ (HS4.out.mx HM.out))
    go_wp2_with fail
    go_at_call 87
    refine HC3.out.mono ?_
    rintro e w5 ⟨rfl,n5,rfl⟩
    go_wp2
    go_roundw
    case rel =>
     refine ⟨A2,R2,q2,D ++ (L ++ (10 :: sps m)),rfl,rfl,rfl,hid ?_,hid (HK4.out.drewN _),hid ?_,hid (fun h=>by have:=HR2.out h; have:=HRz.out; omega)⟩
     ·have:=HA4.out.drewN n5
      simpa [data_mk,mgB_data] using this
     ·rw [HT.out,<- HL2.out]
      unfold tailG
      rw [if_pos rfl,if_neg (of_decide_eq_false HP2.out)]
      simp
    case measure =>
     cases q2
     ·simp [msT]
     ·have:=HR2.out rfl
      simp [msT,size_mk]
      omega
theorem WrAt.later {B b : Nat} {bs : List UInt8} {w w' : World} (h : WrAt B b bs w) (hb : Below w.heap.size w w') : WrAt B b bs w':=by
 have go : ∀ {p : Value},Lib.BuilderAtF 56 5 B b p (Lib.byteCells bs) w -> Lib.BuilderAtF 56 5 B b p (Lib.byteCells bs) w':=by
  rintro p ⟨h1,v,h2,h3,h4⟩
  refine ⟨h1,v,(hb.block b (Array.getElem?_eq_some_iff.1 h2).1).trans h2,?_,h4⟩
  obtain ⟨g1,g2⟩:=h3
  refine ⟨g1,?_⟩
  rcases g2 with g2 | ⟨g,cap,cur,fz,e,hg,hh,r⟩
  ·exact .inl g2
  ·exact .inr ⟨g,cap,cur,fz,e,hg,(hb.block g (Array.getElem?_eq_some_iff.1 hh).1).trans hh,r⟩
 refine ⟨?_,Nat.le_trans h.le hb.size⟩
 rcases h.bld with h | h
 ·exact .inl (go h)
 ·exact .inr (go h)
theorem Wk.of {B b : Nat} {w w' : World} (hB : B <= w.heap.size) (g : Below w.heap.size w w') : Wk B b w w' :=
 ⟨g.mono hB,fun k o ho _ _=>(g.block k (Array.getElem?_eq_some_iff.1 ho).1).trans ho⟩
def WpTo (W0 : World) (B b m : Nat) (e : EX) : Prop:=∀ (q o : Nat) (c : C7) (bs : List UInt8) (w : World),Sw W0 B b w -> q < W0.heap.size -> CellsAt W0 q o c -> ExAt W0 e c -> WrAt B b bs w -> bs.length + (plT m e).length <= 140737488355328 ->
 Calls Tryz.prog 162 #[.pointer (some ⟨b,0,none⟩),.pointer (some ⟨q,o,none⟩),.string (mgB m)] w fun x w'=>x = .returned (.tuple #[]) /\ WrAt B b (bs ++ plT m e) w' /\ Wk B b w w'
def WiTo (W0 : World) (B b m : Nat) (e : EX) : Prop:=∀ (q o : Nat) (c : C7) (bs : List UInt8) (w : World),Sw W0 B b w -> q < W0.heap.size -> CellsAt W0 q o c -> ExAt W0 e c -> WrAt B b bs w -> bs.length + (exT m e).length <= 140737488355328 ->
 Calls Tryz.prog 204 #[.pointer (some ⟨b,0,none⟩),.pointer (some ⟨q,o,none⟩),.string (mgB m)] w fun x w'=>x = .returned (.tuple #[]) /\ WrAt B b (bs ++ exT m e) w' /\ Wk B b w w'
def WaTo (W0 : World) (B b m : Nat) (l : List EL) : Prop:=∀ (v : Value) (bs : List UInt8) (w : World),Sw W0 B b w -> PatAt W0 l v -> WrAt B b bs w -> bs.length + (paT m l).length <= 140737488355328 ->
 Calls Tryz.prog 118 #[.pointer (some ⟨b,0,none⟩),v,.string (mgB m)] w fun x w'=>x = .returned (.tuple #[]) /\ WrAt B b (bs ++ paT m l) w' /\ Wk B b w w'
def WhTo (W0 : World) (B b m : Nat) (e : EX) : Prop:=∀ (q o : Nat) (c : C7) (bs : List UInt8) (w : World),Sw W0 B b w -> q < W0.heap.size -> CellsAt W0 q o c -> ExAt W0 e c -> WrAt B b bs w -> bs.length + (hdT m e).length <= 140737488355328 ->
 Calls Tryz.prog 233 #[.pointer (some ⟨b,0,none⟩),.pointer (some ⟨q,o,none⟩),.string (mgB m)] w fun x w'=>x = .returned (.tuple #[]) /\ WrAt B b (bs ++ hdT m e) w' /\ Wk B b w w'
set_option maxHeartbeats 8000000 in
set_option maxRecDepth 100000 in
theorem whead_any {W0 : World} {B b m : Nat} (k : Int) (t n a : ByteArray) (al : List AR) (i : Option EX) (vs : List VA) (hg : gdI (.mk k t n a al i vs) = true) (ht : t.size <= 4000000) (hP : k = 6 -> ∀ e,i = some e -> WpTo W0 B b m e) : WhTo W0 B b m (.mk k t n a al i vs):=by
 intro q o c bs w hS hq hc hx h hn
 obtain ⟨hk,h6,_⟩:=gdI_kind hg
 obtain ⟨ck,ct,cn,ca,cal,ci,cvs⟩:=c
 rw [ExAt] at hx
 obtain ⟨e1,e2,e3,e4,_,e6,_⟩:=hx
 dsimp only at e1 e2 e3 e4 e6
 subst e1 e2 e3 e4
 obtain ⟨⟨k0,k1,k2,k3,k4,k5,k6⟩,hlt⟩:=hS.at_ hq hc
 rw [hdT] at hn ⊢
 have HS:=hid hS
 have HC:=hid hc
 have HH:=hid h
 clear hS hc h
 rcases hk with rfl | rfl | rfl | rfl | rfl | rfl | rfl
 ·rw [if_pos rfl] at hn ⊢
  have HQ:=hid (quote_any t w ht)
  have HN:=hid hn
  clear hn h6 e6
  go_enter Tryz.func233,Tryz.ntmps233
  go_wp2_with fail
  go_at_call 262
  refine HQ.out.mono ?_
  rintro e w1 ⟨rfl,hb⟩
  have HW:=hid (write1 ⟨(quoteAll t).toArray⟩ w1 (HH.out.later hb) (by rw [size_mk]; exact HN.out))
  have HK:=hid (Wk.of (b:=b) HH.out.le hb)
  clear hb
  go_wp2_with fail
  go_at_call 37
  refine HW.out.mono ?_
  rintro e w2 ⟨rfl,h2,g2⟩
  have HA:=hid h2
  have HG:=hid (HK.out.trans g2)
  clear h2 g2
  go_wp2
  go_end0
  exact ⟨rfl,HA.out,HG.out⟩
 ·rw [if_neg (by decide),if_pos rfl] at hn ⊢
  have HW:=hid (write1 t w HH.out (by rw [<- size_data]; exact hn))
  clear hn h6 e6
  go_enter Tryz.func233,Tryz.ntmps233
  go_wp2_with fail
  go_at_call 37
  refine HW.out.mono ?_
  rintro e w2 ⟨rfl,h2,g2⟩
  have HA:=hid h2
  have HG:=hid g2
  clear h2 g2
  go_wp2
  go_end0
  exact ⟨rfl,HA.out,HG.out⟩
 ·rw [if_neg (by decide),if_neg (by decide),if_pos rfl] at hn ⊢
  have HW:=hid (write2 ⟨#[36]⟩ n w HH.out (by rw [List.length_cons,size_data] at hn; show _ + (1 + _) <= _; omega))
  clear hn h6 e6
  go_enter Tryz.func233,Tryz.ntmps233
  go_wp2_with fail
  go_at_call 37
  refine HW.out.mono ?_
  rintro e w2 ⟨rfl,h2,g2⟩
  have HA:=hid h2
  have HG:=hid g2
  clear h2 g2
  go_wp2
  go_end0
  exact ⟨rfl,HA.out,HG.out⟩
 ·rw [if_neg (by decide),if_neg (by decide),if_neg (by decide),if_neg (by decide)] at hn ⊢
  unfold refG at hn ⊢
  rw [if_neg (by decide),List.nil_append] at hn ⊢
  have hr:=ref_any (bs:=bs) 3 t n a cal ci cvs q o w HS.out hq HC.out HH.out hn
  obtain ⟨X,hX⟩ : ∃ X,n.data.toList ++ (if emp a = true then [] else 46 :: a.data.toList) = X:=⟨_,rfl⟩
  rw [hX] at hr ⊢
  have HR:=hid hr
  clear hn h6 e6 hX hr
  go_enter Tryz.func233,Tryz.ntmps233
  go_wp2_with fail
  go_at_call 263
  refine HR.out.mono ?_
  rintro e w2 ⟨rfl,h2,g2⟩
  have HA:=hid h2
  have HG:=hid g2
  clear h2 g2
  go_wp2
  go_end0
  exact ⟨rfl,HA.out,HG.out⟩
 ·rw [if_neg (by decide),if_neg (by decide),if_neg (by decide),if_neg (by decide)] at hn ⊢
  unfold refG at hn ⊢
  rw [if_pos rfl] at hn ⊢
  have HW:=hid (write1 ⟨#[45]⟩ w HH.out (by rw [List.length_append,List.length_singleton] at hn; show _ + 1 <= _; omega))
  have HN:=hid hn
  obtain ⟨X,hX⟩ : ∃ X,n.data.toList ++ (if emp a = true then [] else 46 :: a.data.toList) = X:=⟨_,rfl⟩
  have hr:=fun w1 h0 h1 h2=>ref_any (B:=B) (b:=b) (bs:=bs ++ [45]) 4 t n a cal ci cvs q o w1 h0 hq HC.out h1 h2
  simp only [hX] at hr
  rw [hX]
  rw [hX] at hn
  have HN:=hid hn
  have HRR:=hid hr
  clear hn h6 e6 hX hr
  go_enter Tryz.func233,Tryz.ntmps233
  go_wp2_with fail
  go_at_call 37
  refine HW.out.mono ?_
  rintro e w1 ⟨rfl,h1,g1⟩
  have HR:=hid (HRR.out w1 (HS.out.step g1) h1 (by have:=HN.out; rw [List.length_append,List.length_singleton] at this ⊢; omega))
  have HK:=hid g1
  clear h1 g1
  go_wp2_with fail
  go_at_call 263
  refine HR.out.mono ?_
  rintro e w2 ⟨rfl,h2,g2⟩
  have HA:=hid h2
  have HG:=hid (HK.out.trans g2)
  clear h2 g2
  go_wp2
  go_end0
  exact ⟨rfl,by simpa using HA.out,HG.out⟩
 ·rw [if_neg (by decide),if_neg (by decide),if_neg (by decide),if_neg (by decide)] at hn ⊢
  unfold refG at hn ⊢
  rw [if_neg (by decide),List.nil_append] at hn ⊢
  have hr:=ref_any (bs:=bs) 5 t n a cal ci cvs q o w HS.out hq HC.out HH.out hn
  obtain ⟨X,hX⟩ : ∃ X,n.data.toList ++ (if emp a = true then [] else 46 :: a.data.toList) = X:=⟨_,rfl⟩
  rw [hX] at hr ⊢
  have HR:=hid hr
  clear hn h6 e6 hX hr
  go_enter Tryz.func233,Tryz.ntmps233
  go_wp2_with fail
  go_at_call 263
  refine HR.out.mono ?_
  rintro e w2 ⟨rfl,h2,g2⟩
  have HA:=hid h2
  have HG:=hid g2
  clear h2 g2
  go_wp2
  go_end0
  exact ⟨rfl,HA.out,HG.out⟩
 ·rw [if_neg (by decide),if_neg (by decide),if_neg (by decide),if_pos rfl] at hn ⊢
  obtain ⟨e',rfl,_⟩:=h6 rfl
  rw [plO] at hn ⊢
  simp only [OAt] at e6
  obtain ⟨q',o',c',rfl,hq',hc',hx'⟩:=e6
  have HR:=hid (hP rfl e' rfl q' o' c' bs w HS.out hq' hc' hx' HH.out hn)
  clear hn h6 hP
  go_enter Tryz.func233,Tryz.ntmps233
  go_wp2_with fail
  go_at_call 162
  refine HR.out.mono ?_
  rintro e w2 ⟨rfl,h2,g2⟩
  have HA:=hid h2
  have HG:=hid g2
  clear h2 g2
  go_wp2
  go_end0
  exact ⟨rfl,HA.out,HG.out⟩
end Go.Proofs.YtgdkpamlkpncgaaGreatDoor
