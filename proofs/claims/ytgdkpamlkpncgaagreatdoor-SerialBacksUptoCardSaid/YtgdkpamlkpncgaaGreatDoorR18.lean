/-
  Several texts put together (part 18): what the law and the program call, walked; their contracts.
-/
import Derived.Test.YtgdkpamlkpncgaaGreatDoorR17
import Derived.Test.YtgdkpamlkpncgaaGreatDoorR8
namespace Go.Proofs.YtgdkpamlkpncgaaGreatDoor
open Go.RowKit
open _root_.Go.Lib (hid)
set_option linter.unusedVariables false
set_option linter.unusedSimpArgs false
theorem ownOF {rb B : Nat} {w3 w4 W : World} {v : Value} {e : EX} {x0 x1 x2 x3 x4 x5 x6 : Value} {t : TypeId} (hbox : BoxAt W w4.heap.size #[x0,x1,x2,x3,x4,x5,x6] t) (hv : ∀ k,v.ownBlock = some k -> B <= k /\ k < w3.heap.size) (hs : w3.heap.size <= w4.heap.size)
  (hB : B <= w3.heap.size) (hrb : rb < B) (K : Kp rb w4 W) (hx : ExF w4 (Since w3.heap.size w4) e ⟨x0,x1,x2,x3,x4,x5,x6⟩) : OF W (OwnSet B W v) (some e) (.pointer (some ⟨w4.heap.size,0,none⟩)):=by
 simp only [OF]
 refine ⟨w4.heap.size,0,_,rfl,⟨⟨by omega,hbox.lt⟩,fun h=>by have:=hv _ h.symm; omega⟩,cells_box hbox,ExF.carry (fun b hb=>?_) _ _ hx⟩
 obtain ⟨hb1,hb2⟩:=hb
 exact ⟨⟨⟨by omega,Nat.lt_of_lt_of_le hb2 K.size⟩,fun h=>by have:=hv _ h.symm; omega⟩,K.others b hb2 (by omega)⟩
theorem tx_ok (s : ByteArray) (i : Nat) (hi : i <= s.size) : i <= tx s i /\ tx s i <= s.size:=⟨behN_ge _ _ _,by have:=behN_le txB s.data.toList i (by rw [size_data]; exact hi); rw [size_data] at this; exact this⟩
set_option maxHeartbeats 2000000 in
set_option maxRecDepth 100000 in
theorem parts_any {rb : Nat} {s : ByteArray} {d : Nat} {P : Nat -> Res} (hs : s.size <= 1000000000) (hd : d <= 4000) (hP : WayTo rb s 208 #[pt rb,.int .i64 d] P) (hPos : PosOk s P) (i : Nat) (w : World) (hr : Rd rb s i w) (hi : i <= s.size) :
  Calls Tryz.prog 171 #[pt rb,.int .i64 d] w (GotPs rb s w (partsS P s [] i)):=by
 obtain ⟨i0,hi0,hz0,hz1,hz2⟩:=info_parts infoL
 have HR:=hid hr
 have hlt:=hr.lt
 obtain ⟨R,hRR⟩ : ∃ R,partsS P s [] i = R:=⟨_,rfl⟩
 rw [hRR]
 have HRR:=hid hRR
 have HP:=hid hP
 have HPos:=hid hPos
 have HPt:=hid (fun j W (h : Rd rb s j W) hj=>pass_any endTextAny W h (show s.size <= 4000000000 by omega) hj)
 have hd0 : (d : Int) <= 4000:=by omega
 clear hr hRR hP hPos
 unfold pt at HP HPt ⊢
 go_enter Tryz.func171,Tryz.ntmps171
 go_wp2
 go_loopw [6] (fun t4 wr=>∃ (acc : List EL) (j : Nat) (A : Option Addr) (c : Nat),t4 = .slice A acc.length c /\ j <= s.size /\ acc.length <= j /\ Hid (partsS P s acc j = R) /\ Hid (Rd rb s j wr) /\ Hid (Kp rb w wr) /\ Hid (OwnE w.heap.size wr (.slice A acc.length c) acc)) (fun _ wr=>s.size - posOf rb wr)
 case atStart=>exact ⟨[],i,none,0,rfl,hi,Nat.zero_le _,HRR.out,HR.out,Kp.refl _ _,OwnE.nil _ _⟩
 case round =>
  obtain ⟨acc,j,A,c,rfl,hj,hal,Hans,HRd,HK,HO⟩:=hrel
  have hT:=tx_ok s j hj
  have hans:=Hans.out
  rw [partsS] at hans
  have hPt:=fun W h=>HPt.out j W h hj
  have he:=ext_empty s j (tx s j) hT.1 hT.2
  obtain ⟨q,hq⟩ : ∃ q,tx s j = q:=⟨_,rfl⟩
  rw [hq] at hPt hans hT he
  have HPq:=hid hPt
  have Hans2:=hid hans
  have HE:=hid he
  have Hpos:=hid HRd.out.pos
  obtain ⟨X,hX⟩ : ∃ X,s.extract j q = X:=⟨_,rfl⟩
  rw [hX] at HPq HE
  have HX:=hid hX
  clear hPt hans he hX
  clear hq
  go_wp2_with fail
  go_at_call 169
  refine (HPq.out _ HRd.out).mono ?_
  rintro e w1 ⟨rfl,g1,g2⟩
  have G1:=hid g1
  have HK1:=hid (HK.out.trans g2)
  have HO1:=hid (HO.out.kp g2 hlt)
  clear g1 g2
  obtain ⟨acc2,hacc2⟩ : ∃ l,addT s acc j q = l:=⟨_,rfl⟩
  have Hacc2:=hid hacc2
  have hal2 : acc2.length <= q:=by
   rw [<- hacc2]
   unfold addT
   split
   ·rw [List.length_append,List.length_singleton]; omega
   ·omega
  have hans:=Hans2.out
  rw [hacc2] at hans
  have Hans3:=hid hans
  clear hacc2 hans Hans2 Hans
  go_upto_if 13 with fail
  go_cut [6] (fun v wx=>∃ A2 c2,v = .slice A2 acc2.length c2 /\ Hid (Rd rb s q wx) /\ Hid (Kp rb w wx) /\ Hid (OwnE w.heap.size wx (.slice A2 acc2.length c2) acc2))
  case first =>
   cases hx : X.toList.isEmpty
   case true =>
    have hqj : q = j:=by have:=HE.out; rw [hx] at this; exact of_decide_eq_true this.symm
    have hac:=Hacc2.out
    unfold addT at hac
    rw [if_neg (by omega)] at hac
    subst hac
    clear hqj
    go_wp2_with fail
    go_meet
    exact ⟨A,c,rfl,G1,HK1,HO1⟩
   case false =>
    have hqj : q ≠ j:=fun h=>by have:=HE.out; rw [hx,decide_eq_true h] at this; cases this
    have hac:=Hacc2.out
    unfold addT at hac
    rw [if_pos (by omega)] at hac
    have Hac:=hid hac
    have hacc : (acc.length : Int) <= 1000000000:=by omega
    obtain ⟨xs6,ho6,hz6⟩:=HO1.out
    have hown1:=ho6.alloc (.cells #[.string X,.pointer none] 50)
    have Hv5:=hid (fun k e=>ho6.lt k e)
    have hs1:=HK1.out.size
    have hl1:=G1.out.lt
    clear hqj hac ho6
    go_wp2_with (at_builtin; refine wpList_append_where _ rfl _ _ 31 rfl w.heap.size 50 i0 (.agg #[.string ⟨#[]⟩,.pointer none]) 2 24 Tryz.underlying31 hi0 hz0 hz1 hz2 rfl (by decide) _ _ _ rfl hown1 ⟨w1.heap.size,0,none⟩ 1 1 [.string X,.pointer none] rfl rfl ?c1 ?c2 ?c3 ?c4 ?c5 ?c6 ?_)
    case c1 =>
     intro j u hj
     match j,hj with
     | 0,hj=>simp at hj; subst hj; simp [Addr.add] <;> rfl
     | 1,hj=>simp at hj; subst hj; simp [Addr.add]
    case c2=>intro u hu; simp at hu; rcases hu with rfl | rfl <;> rfl
    case c3=>unfold maxLen; omega
    case c4=>omega
    case c5=>simp; omega
    case c6=>decide
    intro v' w8 hown' hgrow hwh
    have K1 : Kp rb w1 (w1.alloc (.cells #[.string X,.pointer none] 50)):=(Kp.refl rb w1).alloc (Nat.le_of_lt hl1) _
    have HO8:=hid (ownE_push hlt K1 hz6 (p:=none) (by simp only [OF]) hown' hgrow (by simpa using hwh))
    have G8:=hid ((G1.out.alloc _).grown hgrow (fun k e=>by have:=Hv5.out k e; omega))
    have HK8:=hid (Kp.grown (HK1.out.trans K1) hgrow (fun k e=>(Hv5.out k e).1) hlt)
    obtain ⟨A2,c2,rfl⟩:=own_slice hown' (by omega)
    have hl8 : acc2.length = acc.length + 1:=by rw [<- Hac.out]; simp
    clear hown' hgrow hwh K1
    go_wp2_with fail
    go_meet
    refine ⟨A2,c2,by rw [hl8],G8,HK8,?_⟩
    have e1:=Hac.out
    rw [HX.out] at e1
    rw [hl8,<- e1]
    exact HO8
  obtain ⟨A2,c2,rfl,HR2,HK2,HO2⟩:=hcut
  have hx:=isAt_prefix s q 123 hT.2
  have hp:=fun W=>Tryz.strings_HasPrefix (s.extract q s.size) ⟨#[123]⟩ W
  rw [hx] at hp
  obtain ⟨b,hb⟩ : ∃ b,isAt s q 123 = b:=⟨_,rfl⟩
  have hans:=Hans3.out
  rw [hb] at hp hans
  have HHP:=hid hp
  have Hans4:=hid hans
  have hr0:=HR2.out.c0
  have hr1:=HR2.out.c1
  have hl2:=HR2.out.lt
  have hi0' : (q : Int) <= 4000000000:=by omega
  have hjs : (q : Int) <= (s.size : Int):=by omega
  have hss : (s.size : Int) <= 4000000000:=by omega
  have hi1' : (0 : Int) <= (q : Int):=by omega
  clear hx hp hb hans Hans3 HPq HE HX HO1 HK1 G1 Hacc2
  go_wp2_with fail
  go_region_held3 (fun w'=>w'.cell? ⟨rb,0,none⟩ = some (.string s) /\ w'.cell? ⟨rb,1,none⟩ = some (.int .i64 (q : Nat)) /\ rb + 1 <= w'.heap.size /\ Rd rb s q w' /\ Kp rb w w')
   (first | (exact rds_later (by assumption) (by assumption)) | (exact rds_of HR2.out.drew HK2.out.drew) | go_keep)
   (first | (go_at_call 65; refine (HHP.out _).mono ?_; rintro e w' ⟨rfl,rfl⟩))
  have HR3:=hid HR2.out.drew
  have HK3:=hid HK2.out.drew
  have HO3:=hid (HO2.out.kp ((Kp.refl rb wc).drew) hlt)
  obtain ⟨W3,hW3⟩ : ∃ W,wc.drew = W:=⟨_,rfl⟩
  rw [hW3] at HR3 HK3 HO3 ⊢
  have hl3:=HR3.out.lt
  clear hW3 hr0 hr1 HR2 HK2 HO2 HHP
  cases b
  case false =>
   have hR:=Hans4.out
   rw [if_neg (by simp)] at hR
   have Hfin:=hid hR
   clear hR Hans4
   go_wp2
   go_ret2
   have hR:=Hfin.out
   subst hR
   refine ⟨HK3.out,A2,acc2.length,c2,q,rfl,HR3.out,hT.2,fun l m h=>?_⟩
   cases h
   obtain ⟨A',c',e1,hpat⟩:=HO3.out.pat
   exact ⟨rfl,rfl,hal2,hpat⟩
  have hR:=Hans4.out
  rw [if_pos rfl] at hR
  have hPl:=fun W h=>HP.out q W h hT.2
  have hpos:=HPos.out q
  obtain ⟨r,hr⟩ : ∃ r,P q = r:=⟨_,rfl⟩
  rw [hr] at hPl hpos hR
  have HPl:=hid hPl
  have Hpq:=hid hpos
  have Hans5:=hid hR
  clear hPl hpos hr hR Hans4
  go_wp2_with fail
  go_at_call 208
  refine (HPl.out _ HR3.out).mono ?_
  rintro e w4 ⟨h1,k,t,n,a,A1,n1,c1,p,Ax,n2,cx,m,rfl,h2,hm,h3⟩
  have HK4:=hid (HK3.out.trans h1)
  have HO4:=hid (HO3.out.kp h1 hlt)
  have H2:=hid h2
  have H3:=hid h3
  have hs3:=h1.size
  have hl4:=h2.lt
  have hs30:=HK3.out.size
  clear h1 h2 h3
  unfold exV
  cases r with
  | none =>
   have hR:=Hans5.out
   dsimp only at hR
   subst hR
   go_wp2
   go_ret2
   exact ⟨HK4.out.alloc (by omega) _,none,0,0,m,rfl,H2.out.alloc _,hm,fun l m h=>by cases h⟩
  | some em =>
   obtain ⟨e,m'⟩:=em
   obtain ⟨rfl,hx⟩:=H3.out e m' rfl
   obtain ⟨hp1,hp2⟩:=Hpq.out _ _ rfl
   have hR:=Hans5.out
   dsimp only at hR
   rw [dif_pos (show j < m' /\ m' <= s.size from ⟨by omega,hp2⟩)] at hR
   have Hans6:=hid hR
   have HX:=hid hx
   obtain ⟨xs6,ho6,hz6⟩:=HO4.out
   have hown1:=(ho6.alloc (.cells #[.int .i64 k,.string t,.string n,.string a,.slice A1 n1 c1,.pointer p,.slice Ax n2 cx] 48)).alloc (.cells #[.string E0,.pointer (some ⟨w4.heap.size,0,none⟩)] 50)
   obtain ⟨xs5,ho5,_⟩:=HO3.out
   have Hv5:=hid (fun k e=>ho5.lt k e)
   have hacc : (acc2.length : Int) <= 1000000000:=by omega
   clear ho6 ho5 hR hx
   go_wp2_with (at_builtin; refine wpList_append_where _ rfl _ _ 31 rfl w.heap.size 50 i0 (.agg #[.string ⟨#[]⟩,.pointer none]) 2 24 Tryz.underlying31 hi0 hz0 hz1 hz2 rfl (by decide) _ _ _ rfl hown1 ⟨w4.heap.size + 1,0,none⟩ 1 1 [.string E0,.pointer (some ⟨w4.heap.size,0,none⟩)] rfl rfl ?c1 ?c2 ?c3 ?c4 ?c5 ?c6 ?_)
   case c1 =>
    intro j u hj
    match j,hj with
    | 0,hj=>simp at hj; subst hj; simp [Addr.add] <;> rfl
    | 1,hj=>simp at hj; subst hj; simp [Addr.add]
   case c2=>intro u hu; simp at hu; rcases hu with rfl | rfl <;> rfl
   case c3=>unfold maxLen; omega
   case c4=>omega
   case c5=>simp; omega
   case c6=>decide
   intro v' w8 hown' hgrow hwh
   have K1 : Kp rb w4 ((w4.alloc (.cells #[.int .i64 k,.string t,.string n,.string a,.slice A1 n1 c1,.pointer p,.slice Ax n2 cx] 48)).alloc (.cells #[.string E0,.pointer (some ⟨w4.heap.size,0,none⟩)] 50)):=((Kp.refl rb w4).alloc (Nat.le_of_lt hl4) _).alloc (by simp; omega) _
   have hbox:=(BoxAt.new w4 #[.int .i64 k,.string t,.string n,.string a,.slice A1 n1 c1,.pointer p,.slice Ax n2 cx] 48).alloc (.cells #[.string E0,.pointer (some ⟨w4.heap.size,0,none⟩)] 50)
   have hoF:=ownOF (t:=48) hbox Hv5.out hs3 (by omega) hlt K1 HX.out
   have HO8:=hid (ownE_push hlt K1 hz6 hoF hown' hgrow (by simpa using hwh))
   have G8:=hid (((H2.out.alloc _).alloc _).grown hgrow (fun k e=>by have:=Hv5.out k e; omega))
   have HK8:=hid (Kp.grown (HK4.out.trans K1) hgrow (fun k e=>(Hv5.out k e).1) hlt)
   obtain ⟨A3,c3,rfl⟩:=own_slice hown' (by omega)
   clear hown' hgrow hwh K1 hbox hoF
   go_wp2
   go_roundw
   case rel =>
    refine ⟨acc2 ++ [.mk E0 (some e)],m',A3,c3,?_,hp2,?_,Hans6,G8,HK8,?_⟩
    ·show Value.slice A3 _ c3 = _
     simp
    ·rw [List.length_append,List.length_singleton]; omega
    ·rw [List.length_append,List.length_singleton]
     exact HO8
   case measure =>
    show s.size - posOf rb _ < s.size - posOf rb wr
    rw [G8.out.pos,Hpos.out]
    omega
def LsAt (W : World) (F : Nat -> Prop) (g o : Nat) (ls : List LN) : Prop:=∀ (k : Nat) (x : LN),ls[k]? = some x -> W.cell? ⟨g,o + k * 3,none⟩ = some (.int .i64 x.feeds) /\ W.cell? ⟨g,o + k * 3 + 1,none⟩ = some (.int .i64 x.spaces) /\
 ∃ A c,W.cell? ⟨g,o + k * 3 + 2,none⟩ = some (.slice A x.parts.length c) /\ PatF W F x.parts (.slice A x.parts.length c)
theorem LsAt.carry {W W' : World} {F F' : Nat -> Prop} {g o : Nat} {ls : List LN} (h : LsAt W F g o ls) (hg : W'.heap[g]? = W.heap[g]?) (hF : ∀ b,F b -> F' b /\ W'.heap[b]? = W.heap[b]?) : LsAt W' F' g o ls:=by
 intro k x hx
 obtain ⟨h1,h2,A,c,h3,h4⟩:=h k x hx
 exact ⟨(cell_same hg _).trans h1,(cell_same hg _).trans h2,A,c,(cell_same hg _).trans h3,h4.carry hF⟩
theorem LsAt.tail {W : World} {F : Nat -> Prop} {g o : Nat} {x : LN} {ls : List LN} (h : LsAt W F g o (x :: ls)) : LsAt W F g (o + 3) ls:=by
 intro k y hy
 have:=h (k + 1) y (by simpa using hy)
 rw [show o + (k + 1) * 3 = o + 3 + k * 3 by omega] at this
 exact this
theorem leastS_snoc (ls : List LN) (y : LN) : leastS (ls ++ [y]) = if ls = [] ∨ y.spaces < leastS ls then y.spaces else leastS ls:=by
 cases ls with
 | nil=>simp [leastS]
 | cons x r=>simp [leastS,List.foldl_append]
theorem leastS_take (ls : List LN) (k : Nat) (hk : k < ls.length) : leastS (ls.take (k + 1)) = if k = 0 ∨ ls[k].spaces < leastS (ls.take k) then ls[k].spaces else leastS (ls.take k):=by
 rw [List.take_succ_eq_append_getElem hk,leastS_snoc]
 have : (ls.take k = []) = (k = 0):=by
  rw [List.take_eq_nil_iff]
  exact propext ⟨fun h=>h.elim id (fun e=>by rw [e] at hk; exact absurd hk (Nat.not_lt_zero _)),Or.inl⟩
 simp only [this]
theorem leastS_le {ls : List LN} {m : Nat} (h : ∀ x ∈ ls,x.spaces <= m) : leastS ls <= m:=by
 induction hn : ls.length generalizing ls with
 | zero=>have:=List.eq_nil_of_length_eq_zero hn; subst this; exact Nat.zero_le _
 | succ n ih =>
  obtain ⟨ys,y,rfl⟩ : ∃ ys y,ls = ys ++ [y]:=⟨ls.dropLast,ls.getLast (by intro e; rw [e] at hn; cases hn),(List.dropLast_concat_getLast _).symm⟩
  rw [leastS_snoc]
  have h1:=h y (by simp)
  have h2:=ih (ls:=ys) (fun x hx=>h x (by simp [hx])) (by simpa using hn)
  split <;> omega
set_option maxHeartbeats 2000000 in
set_option maxRecDepth 100000 in
theorem leastSpaces_any (ls : List LN) (F : Nat -> Prop) (A : Option Addr) (g o c : Nat) (w : World) (hn : ls.length <= 4000000000) (hsp : ∀ x ∈ ls,x.spaces <= 4000000000) (hA : 0 < ls.length -> A = some ⟨g,o,none⟩) (hc : LsAt w F g o ls) (hg : ls.length = 0 ∨ g < w.heap.size) :
  Calls Tryz.prog 211 #[.slice A ls.length c] w fun e w'=>e = .returned (.int .i64 (leastS ls)) /\ Below w.heap.size w w':=by
 have hn0 : (ls.length : Int) <= 4000000000:=by omega
 have HC:=hid hc
 have HA:=hid hA
 have Hsp:=hid hsp
 clear hc hA hsp
 go_enter Tryz.func211,Tryz.ntmps211
 go_wp2
 go_loopw [3,8] (fun t3 t8 wr=>∃ k : Nat,t8 = .int .i64 k /\ t3 = .int .i64 (leastS (ls.take k)) /\ k <= ls.length /\ Hid (Below w.heap.size w wr)) (fun _ t8 _=>ls.length - (intOf t8).toNat)
 case atStart=>exact ⟨0,rfl,rfl,Nat.zero_le _,Below.refl _ _⟩
 case round =>
  obtain ⟨k,rfl,rfl,hk,HB⟩:=hrel
  have hk0 : (k : Int) <= 4000000000:=by omega
  have hsz:=HB.out.size
  obtain ⟨m,hm⟩ : ∃ m,leastS (ls.take k) = m:=⟨_,rfl⟩
  have hm0 : m <= 4000000000:=by rw [<- hm]; exact leastS_le (fun x hx=>Hsp.out x (List.mem_of_mem_take hx))
  rw [hm]
  have Hm:=hid hm
  clear hm
  by_cases hlt : k < ls.length
  ·have hAe:=HA.out (by omega)
   subst hAe
   have hstep:=leastS_take ls k hlt
   obtain ⟨x,hx⟩ : ∃ x,ls[k]? = some x:=⟨_,List.getElem?_eq_getElem hlt⟩
   have hxe : ls[k] = x:=by rw [List.getElem?_eq_getElem hlt] at hx; exact Option.some.inj hx
   rw [hxe,Hm.out] at hstep
   have hgl : g < w.heap.size:=hg.resolve_left (by omega)
   obtain ⟨h1,h2,A3,c3,h3,h4⟩:=HC.out k x hx
   have e0:=HB.out.block g hgl
   have d0:=(cell_same e0 (o + k * 3)).trans h1
   have d1:=(cell_same e0 (o + k * 3 + 1)).trans h2
   have d2:=(cell_same e0 (o + k * 3 + 2)).trans h3
   have hxs : x.spaces <= 4000000000:=Hsp.out x (List.mem_of_getElem? hx)
   have hf0 : ∃ f : Nat,x.feeds = f:=⟨_,rfl⟩
   have hlt' : decide ((k : Int) < (ls.length : Int)) = true:=decide_eq_true (by omega)
   have hlt3 : (k : Int) < (ls.length : Int):=by omega
   have Hstep0:=hid hstep
   clear hstep h1 h2 h3 h4 e0 hx hxe
   obtain ⟨sp1,hsp1⟩ : ∃ q,x.spaces = q:=⟨_,rfl⟩
   obtain ⟨fd1,hfd1⟩ : ∃ q,x.feeds = q:=⟨_,rfl⟩
   obtain ⟨pl1,hpl1⟩ : ∃ q,x.parts.length = q:=⟨_,rfl⟩
   rw [hfd1] at d0
   have hstep2:=Hstep0.out
   rw [hsp1] at d1 hxs hstep2
   have Hstep:=hid hstep2
   rw [hpl1] at d2
   have hs0 : (sp1 : Int) <= 4000000000:=by omega
   have hgw : g < wr.heap.size:=by omega
   have hAl:=hid (HB.out.alloc (by omega) (.cells #[.int .i64 fd1,.int .i64 sp1,.slice A3 pl1 c3] 281))
   clear hsp1 hfd1 hpl1 hf0 hstep2 Hstep0
   by_cases hk1 : k = 0
   ·have b0 : ((k : Int) == 0) = true:=beq_iff_eq.2 (by omega)
    have hst:=Hstep.out
    rw [if_pos (Or.inl hk1)] at hst
    have Hst:=hid hst
    clear hst Hstep hk1
    go_wp2
    go_roundw
    case rel =>
     refine ⟨k + 1,?_,?_,by omega,HB.out.alloc (by omega) _⟩
     ·show Value.int .i64 _ = _
      rw [show ((k + 1 : Nat) : Int) = (k : Int) + 1 by omega]
     ·show Value.int .i64 _ = _
      rw [Hst.out]
    case measure =>
     show ls.length - ((k : Int) + 1).toNat < ls.length - ((k : Int)).toNat
     omega
   ·have b0 : ((k : Int) == 0) = false:=beq_eq_false_iff_ne.2 (by omega)
    by_cases hs1 : sp1 < m
    ·have b1 : decide ((sp1 : Int) < (m : Int)) = true:=decide_eq_true (by omega)
     have b2 : (sp1 : Int) < (m : Int):=by omega
     have hst:=Hstep.out
     rw [if_pos (Or.inr hs1)] at hst
     have Hst:=hid hst
     clear hst Hstep hk1 hs1
     go_wp2
     go_roundw
     case rel =>
      refine ⟨k + 1,?_,?_,by omega,HB.out.alloc (by omega) _⟩
      ·show Value.int .i64 _ = _
       rw [show ((k + 1 : Nat) : Int) = (k : Int) + 1 by omega]
      ·show Value.int .i64 _ = _
       rw [Hst.out]
     case measure =>
      show ls.length - ((k : Int) + 1).toNat < ls.length - ((k : Int)).toNat
      omega
    ·have b1 : decide ((sp1 : Int) < (m : Int)) = false:=decide_eq_false (by omega)
     have b2 : ¬ (sp1 : Int) < (m : Int):=by omega
     have hst:=Hstep.out
     rw [if_neg (by omega)] at hst
     have Hst:=hid hst
     clear hst Hstep hk1 hs1
     go_wp2
     go_roundw
     case rel =>
      refine ⟨k + 1,?_,?_,by omega,HB.out.alloc (by omega) _⟩
      ·show Value.int .i64 _ = _
       rw [show ((k + 1 : Nat) : Int) = (k : Int) + 1 by omega]
      ·show Value.int .i64 _ = _
       rw [Hst.out]
     case measure =>
      show ls.length - ((k : Int) + 1).toNat < ls.length - ((k : Int)).toNat
      omega
  ·have hlt' : decide ((k : Int) < (ls.length : Int)) = false:=decide_eq_false (by omega)
   have hlt3 : ¬ (k : Int) < (ls.length : Int):=by omega
   have hke : k = ls.length:=by omega
   have Hke:=hid hke
   clear hke
   go_wp2
   go_ret
   refine ⟨?_,HB.out⟩
   rw [<- Hm.out,Hke.out,List.take_length]
   rfl
def RowJ (w : World) (F : Nat -> Prop) (B : Nat) (acc : List EL) (W : World) (v : Value) : Prop:=∃ xs,W.ownsRow B 50 2 v acc.length xs /\ EZip w F acc xs
abbrev BldJ (B tb : Nat) (bs : List UInt8) (W : World) : Prop:=Lib.IsBuilderF 54 5 B tb (Lib.byteCells bs) W
structure JAt (w : World) (F : Nat -> Prop) (B lb tb : Nat) (bx : List (Nat × Obj)) (acc : List EL) (bs : List UInt8) (W : World) : Prop where
 below : Below B w W
 row : ∃ v,BoxAt W lb #[v] 31 /\ RowJ w F B acc W v /\ ∀ q ∈ bx,W.heap[q.1]? = some q.2 /\ v.ownBlock ≠ some q.1
 bld : BldJ B tb bs W
 lbB : B <= lb
 tbB : B <= tb
 BW : B <= W.heap.size
 ex : ∀ q ∈ bx,q.1 ≠ lb /\ q.1 ≠ tb /\ ∀ c fz,q.2 ≠ .cells c 5 fz
theorem row_kind {W : World} {B : Nat} {v : Value} {n : Nat} {xs : List Value} (h : W.ownsRow B 50 2 v n xs) {b : Nat} {cs : Array Value} {t : TypeId} {fz : Nat × Nat} (hb : W.heap[b]? = some (.cells cs t fz)) (ht : t ≠ 50) : v.ownBlock ≠ some b:=by
 rcases h.2 with ⟨rfl,_⟩ | ⟨g,cap,cur,rfl,_,hg,_⟩
 ·simp [Value.ownBlock]
 ·intro h
  simp only [Value.ownBlock,Option.some.injEq] at h
  subst h
  rw [hg] at hb
  simp only [Option.some.injEq,Obj.cells.injEq] at hb
  exact ht hb.2.1.symm
theorem bld_heap {B tb : Nat} {bs : List UInt8} {W : World} (h : BldJ B tb bs W) : ∃ p v,W.heap[tb]? = some (.cells #[p,v] 54 (0,0)):=by
 rcases h with ⟨_,v,hb,_⟩ | ⟨_,v,hb,_⟩ <;> exact ⟨_,_,hb⟩
theorem bldAt_kept {B tb : Nat} {p : Value} {bs : List Value} {W W' : World} (h : Lib.BuilderAtF 54 5 B tb p bs W) {row : Option Nat} (hg : W.grownBy W' row) (hr : ∀ k,row = some k -> ∃ c t fz,W.heap[k]? = some (.cells c t fz) /\ t ≠ 54 /\ t ≠ 5) :
  Lib.BuilderAtF 54 5 B tb p bs W':=by
 have hlt:=h.lt
 obtain ⟨hB,v,hb,hown,hne⟩:=h
 refine ⟨hB,v,?_,hown.kept hg ?_,hne⟩
 ·refine (hg.block tb hlt (fun e=>?_)).trans hb
  obtain ⟨c,t,fz,h1,h2,h3⟩:=hr tb e.symm
  rw [hb] at h1
  simp only [Option.some.injEq,Obj.cells.injEq] at h1
  exact h2 h1.2.1.symm
 ·by_cases hv : v.ownBlock = none
  ·exact .inl hv
  ·refine .inr (fun e=>?_)
   obtain ⟨k,hk⟩ : ∃ k,v.ownBlock = some k:=Option.ne_none_iff_exists'.1 hv
   obtain ⟨c,t,fz,h1,h2,h3⟩:=hr k (e.symm.trans hk)
   obtain ⟨c',fz',h4⟩:=Lib.ownsRowF_kind hown k hk
   rw [h4] at h1
   simp only [Option.some.injEq,Obj.cells.injEq] at h1
   exact h3 h1.2.1.symm
theorem bld_kept {B tb : Nat} {bs : List UInt8} {W W' : World} (h : BldJ B tb bs W) {row : Option Nat} (hg : W.grownBy W' row) (hr : ∀ k,row = some k -> ∃ c t fz,W.heap[k]? = some (.cells c t fz) /\ t ≠ 54 /\ t ≠ 5) : BldJ B tb bs W' :=
 h.elim (fun h=>.inl (bldAt_kept h hg hr)) (fun h=>.inr (bldAt_kept h hg hr))
theorem JAt.write {w : World} {F : Nat -> Prop} {B lb tb : Nat} {bx : List (Nat × Obj)} {acc : List EL} {bs bs' : List UInt8} {W W' : World} (h : JAt w F B lb tb bx acc bs W) (hb : BldJ B tb bs' W') (hB : Below B W W') (hk : Lib.OthersKept 5 (some tb) W W') : JAt w F B lb tb bx acc bs' W':=by
 obtain ⟨h1,⟨v,h2,⟨xs,h3,h4⟩,hx⟩,h5,h6,h7,h8,h9⟩:=h
 obtain ⟨p0,v0,htb⟩:=bld_heap h5
 refine ⟨h1.trans hB,⟨v,?_,⟨xs,?_,h4⟩,fun q hq=>⟨hk q.1 q.2 (hx q hq).1 (fun e=>(h9 q hq).2.1 (Option.some.inj e)) (h9 q hq).2.2,(hx q hq).2⟩⟩,hb,h6,h7,Nat.le_trans h8 hB.size,h9⟩
 ·refine hk lb _ h2 (fun e=>?_) (fun c fz e=>?_)
  ·have e:=Option.some.inj e
   subst e
   unfold BoxAt at h2
   rw [htb] at h2
   simp at h2
  ·simp at e
 ·refine ⟨h3.1,?_⟩
  rcases h3.2 with hn | ⟨g,cap,cur,rfl,hb',hg,rest⟩
  ·exact .inl hn
  ·refine .inr ⟨g,cap,cur,rfl,hb',hk g _ hg (fun e=>?_) (fun c fz e=>?_),rest⟩
   ·have e:=Option.some.inj e
    subst e
    rw [htb] at hg
    simp at hg
   ·simp at e
theorem JAt.more {w : World} {F : Nat -> Prop} {B lb tb : Nat} {bx : List (Nat × Obj)} {acc : List EL} {bs : List UInt8} {W W' : World} (h : JAt w F B lb tb bx acc bs W) (hB : Below W.heap.size W W') : JAt w F B lb tb bx acc bs W':=by
 obtain ⟨h1,⟨v,h2,⟨xs,h3,h4⟩,hx⟩,h5,h6,h7,h8,h9⟩:=h
 have hg : W.grownBy W' none:=⟨hB.os,hB.tape,hB.output,hB.size,fun k hk _=>hB.block k hk⟩
 exact ⟨h1.trans (hB.mono h8),⟨v,h2.later hB,⟨xs,h3.kept hg (by by_cases h : v.ownBlock = none; exact .inl h; exact .inr h),h4⟩,fun q hq=>⟨(hB.block q.1 (Array.getElem?_eq_some_iff.1 (hx q hq).1).1).trans (hx q hq).1,(hx q hq).2⟩⟩,bld_kept h5 hg (fun k e=>by cases e),h6,h7,Nat.le_trans h8 hB.size,h9⟩
theorem JAt.put {w : World} {F : Nat -> Prop} {B lb tb : Nat} {bx : List (Nat × Obj)} {acc : List EL} {bs : List UInt8} {W : World} (h : JAt w F B lb tb bx acc bs W) (o : Obj) (ho : ∀ c fz,o ≠ .cells c 5 fz) : JAt w F B lb tb ((W.heap.size,o) :: bx) acc bs (W.alloc o):=by
 have h':=h.more ((Below.refl _ W).alloc (Nat.le_refl _) o)
 obtain ⟨p0,v0,htb⟩:=bld_heap h.bld
 obtain ⟨v,h2,⟨xs,h3,h4⟩,hx⟩:=h'.row
 obtain ⟨v1,g2,⟨xs1,g3,g4⟩,_⟩:=h.row
 have hvv : v = v1:=by
  have e1:=g2.alloc o
  unfold BoxAt at e1 h2
  rw [e1] at h2
  simp at h2
  exact h2.symm
 refine ⟨h'.below,⟨v,h2,⟨xs,h3,h4⟩,fun q hq=>?_⟩,h'.bld,h'.lbB,h'.tbB,h'.BW,fun q hq=>?_⟩
 ·rcases List.mem_cons.1 hq with rfl | hq
  ·refine ⟨(by show (W.heap.push o)[W.heap.size]? = some o; simp : (W.alloc o).heap[W.heap.size]? = some o),fun e=>?_⟩
   rw [hvv] at e
   have:=(g3.lt _ e).2
   omega
  ·exact hx q hq
 ·rcases List.mem_cons.1 hq with rfl | hq
  ·have a1:=g2.lt
   have a2:=(Array.getElem?_eq_some_iff.1 htb).1
   exact ⟨by show W.heap.size ≠ lb; omega,by show W.heap.size ≠ tb; omega,ho⟩
  ·exact h'.ex q hq
theorem JAt.drop {w : World} {F : Nat -> Prop} {B lb tb : Nat} {bx bx' : List (Nat × Obj)} {acc : List EL} {bs : List UInt8} {W : World} (h : JAt w F B lb tb bx acc bs W) (hs : ∀ q ∈ bx',q ∈ bx) : JAt w F B lb tb bx' acc bs W:=by
 obtain ⟨h1,⟨v,h2,⟨xs,h3,h4⟩,hx⟩,h5,h6,h7,h8,h9⟩:=h
 exact ⟨h1,⟨v,h2,⟨xs,h3,h4⟩,fun q hq=>hx q (hs q hq)⟩,h5,h6,h7,h8,fun q hq=>h9 q (hs q hq)⟩
theorem JAt.at_ {w : World} {F : Nat -> Prop} {B lb tb : Nat} {bx : List (Nat × Obj)} {acc : List EL} {bs : List UInt8} {W : World} (h : JAt w F B lb tb bx acc bs W) {k : Nat} {o : Obj} (hk : (k,o) ∈ bx) : W.heap[k]? = some o:=by
 obtain ⟨_,⟨v,_,_,hx⟩,_⟩:=h
 exact (hx _ hk).1
theorem JAt.push {w : World} {F : Nat -> Prop} {B lb tb : Nat} {bx : List (Nat × Obj)} {acc : List EL} {bs : List UInt8} {W W' : World} {v v' : Value} {xs : List Value} {t : ByteArray} {p : Option EX} {u : Value} (h : JAt w F B lb tb bx acc bs W) (hl : BoxAt W lb #[v] 31) (hr : W.ownsRow B 50 2 v acc.length xs) (hz : EZip w F acc xs)
  (hx : ∀ q ∈ bx,W.heap[q.1]? = some q.2 /\ v.ownBlock ≠ some q.1) (hg : W.grownBy W' v.ownBlock) (hw : v'.ownBlock = v.ownBlock ∨ v'.ownBlock = some W.heap.size) (ho : W'.ownsRow B 50 2 v' (acc.length + 1) (xs ++ [.string t,u])) (hp : OF w F p u) : JAt w F B lb tb bx (acc ++ [.mk t p]) bs (W'.setCell ⟨lb,0,none⟩ v'):=by
 obtain ⟨h1,_,h5,h6,h7,h8,h9⟩:=h
 have hne:=row_kind hr hl (by decide)
 have hl2 : BoxAt W' lb #[v] 31:=(hg.block lb hl.lt (fun e=>hne e.symm)).trans hl
 have hs : W'.grownBy (W'.setCell ⟨lb,0,none⟩ v') (some lb):=⟨rfl,rfl,rfl,by simp,fun k _ hk=>Below.heap_setCell _ _ _ _ (fun e=>hk (by simp [e]))⟩
 have hne2:=row_kind ho hl2 (by decide)
 refine ⟨(h1.grown hg h8 (fun k hk=>(hr.lt k hk).1)).setCell (p:=⟨lb,0,none⟩) h6 _,⟨v',?_,⟨xs ++ [.string t,u],?_,EZip.snoc hp acc xs hz⟩,fun q hq=>?_⟩,?_,h6,h7,?_,h9⟩
 ·unfold BoxAt at hl2 ⊢
  simp [World.setCell,Array.getElem?_modify,hl2]
 ·rw [List.length_append]
  exact ho.kept hs (.inr hne2)
 ·obtain ⟨e1,e2⟩:=hx q hq
  have hql:=(Array.getElem?_eq_some_iff.1 e1).1
  refine ⟨(Below.heap_setCell _ _ _ q.1 (h9 q hq).1).trans ((hg.block q.1 hql (fun e=>e2 e.symm)).trans e1),?_⟩
  rcases hw with e | e
  ·rw [e]; exact e2
  ·rw [e]; intro e3; have:=Option.some.inj e3; omega
 ·refine bld_kept (bld_kept h5 hg (fun k hk=>?_)) hs (fun k hk=>?_)
  ·rcases hr.2 with ⟨rfl,_⟩ | ⟨g,cap,cur,rfl,_,hgg,_⟩
   ·simp [Value.ownBlock] at hk
   ·simp only [Value.ownBlock,Option.some.injEq] at hk
    subst hk
    exact ⟨_,_,_,hgg,by decide,by decide⟩
  ·have:=Option.some.inj hk
   subst this
   exact ⟨_,_,_,hl2,by decide,by decide⟩
 ·have:=hg.size
  simp
  omega
set_option maxHeartbeats 2000000 in
set_option maxRecDepth 100000 in
theorem bld_Reset {B tb : Nat} {bs : List UInt8} (w : World) (h : BldJ B tb bs w) (hB : B <= tb) :
  Calls Tryz.prog 210 #[.pointer (some ⟨tb,0,none⟩)] w fun e w'=>e = .returned (.tuple #[]) /\ BldJ B tb [] w' /\ Below B w w' /\ Lib.OthersKept 5 (some tb) w w':=by
 obtain ⟨p,v,hb⟩:=bld_heap h
 have c0 : w.cell? ⟨tb,0,none⟩ = some p:=by rw [Lib.cell_of_heap hb]; rfl
 have c1 : w.cell? ⟨tb,1,none⟩ = some v:=by rw [Lib.cell_of_heap hb]; rfl
 have f0 : w.frozen? ⟨tb,0,none⟩ = false:=Lib.frozen_of_heap hb 0
 have f1 : w.frozen? ⟨tb,1,none⟩ = false:=Lib.frozen_of_heap hb 1
 have Hb:=hid hb
 clear h hb
 go_enter Tryz.func210,Tryz.ntmps210
 go_wp2
 go_end0
 have hb:=Hb.out
 refine ⟨rfl,.inl ⟨hB,.slice none 0 0,?_,World.ownsRowF_nil _ _ _ _,by simp [Value.ownBlock]⟩,((Below.refl B w).setCell (p:=⟨tb,0,none⟩) hB _).setCell (p:=⟨tb,1,none⟩) hB _,((Lib.OthersKept.refl _ _ w).setCell ⟨tb,0,none⟩ rfl _).setCell ⟨tb,1,none⟩ rfl _⟩
 simp [World.setCell,Array.getElem?_modify,hb]
def addX (acc : List EL) (X : ByteArray) : List EL:=if X.toList.isEmpty = true then acc else acc ++ [.mk X none]
set_option maxHeartbeats 2000000 in
set_option maxRecDepth 100000 in
theorem joinEnd_any {w : World} {F : Nat -> Prop} {B lb tb : Nat} {bx : List (Nat × Obj)} {acc : List EL} {bs : List UInt8} (X : ByteArray) (W : World) (h : JAt w F B lb tb bx acc bs W) (hn : acc.length <= 40000000000) :
  Calls Tryz.prog 209 #[.string X,.pointer (some ⟨lb,0,none⟩),.pointer (some ⟨tb,0,none⟩)] W fun e W'=>e = .returned (.tuple #[]) /\ JAt w F B lb tb bx (addX acc X) [] W':=by
 obtain ⟨i0,hi0,hz0,hz1,hz2⟩:=info_parts infoL
 have HR:=hid (fun (l : List EL) (cs : List UInt8) (U : World) (h : JAt w F B lb tb bx l cs U)=>bld_Reset U h.bld h.tbB)
 have HJ:=hid h
 have hn0 : (acc.length : Int) <= 40000000000:=by omega
 obtain ⟨v,hv,⟨xs,hr,hz⟩,hxx⟩:=h.row
 have c0:=hv.cell 0
 have f0:=Lib.frozen_of_heap hv 0
 have hlt:=hv.lt
 have hBW:=h.BW
 simp at c0
 unfold addX
 cases hx : X.toList.isEmpty
 case true =>
  rw [if_pos rfl]
  clear h hxx
  go_enter Tryz.func209,Tryz.ntmps209
  go_wp2_with fail
  go_at_call 210
  refine (HR.out _ _ _ HJ.out).mono ?_
  rintro e W' ⟨rfl,h1,h2,h3⟩
  have HJ2:=hid (HJ.out.write h1 h2 h3)
  clear h1 h2 h3
  go_wp2
  go_end0
  exact ⟨rfl,HJ2.out⟩
 case false =>
  rw [if_neg (by simp)]
  have hown1:=hr.alloc (.cells #[.string X,.pointer none] 50)
  have HV:=hid hv
  have HRr:=hid hr
  have HZ:=hid hz
  have HX:=hid hxx
  clear h hv hr hz hxx
  go_enter Tryz.func209,Tryz.ntmps209
  go_wp2_with (at_builtin; refine wpList_append_where _ rfl _ _ 31 rfl B 50 i0 (.agg #[.string ⟨#[]⟩,.pointer none]) 2 24 Tryz.underlying31 hi0 hz0 hz1 hz2 rfl (by decide) _ _ _ rfl hown1 ⟨W.heap.size,0,none⟩ 1 1 [.string X,.pointer none] rfl rfl ?c1 ?c2 ?c3 ?c4 ?c5 ?c6 ?_)
  case c1 =>
   intro j u hj
   match j,hj with
   | 0,hj=>simp at hj; subst hj; simp [Addr.add]
   | 1,hj=>simp at hj; subst hj; simp [Addr.add]
  case c2=>intro u hu; simp at hu; rcases hu with rfl | rfl <;> rfl
  case c3=>unfold maxLen; omega
  case c4=>omega
  case c5=>simp; omega
  case c6=>decide
  intro v' W8 hown' hgrow hwh
  have hbel : Below W.heap.size W (W.alloc (.cells #[.string X,.pointer none] 50)):=(Below.refl _ W).alloc (Nat.le_refl _) _
  have HJ8:=hid ((HJ.out.more hbel).push (p:=none) (HV.out.later hbel) hown1 HZ.out (fun q hq=>⟨(hbel.block q.1 (Array.getElem?_eq_some_iff.1 (HX.out q hq).1).1).trans (HX.out q hq).1,(HX.out q hq).2⟩) hgrow (by simpa using hwh) hown' (by simp only [OF]))
  have hne:=row_kind hown1 (HV.out.later hbel) (by decide)
  have hl8 : BoxAt W8 lb #[v] 31:=(hgrow.block lb (HV.out.later hbel).lt (fun e=>hne e.symm)).trans (HV.out.later hbel)
  have d0:=hl8.cell 0
  have g0:=Lib.frozen_of_heap hl8 0
  have hlt8:=hl8.lt
  simp at d0
  obtain ⟨A2,c2,rfl⟩:=own_slice hown' (by omega)
  clear hown' hgrow hwh hbel hne hl8 hown1 c0 f0 hlt
  go_wp2_with fail
  go_at_call 210
  refine (HR.out _ _ _ HJ8.out).mono ?_
  rintro e W' ⟨rfl,h1,h2,h3⟩
  have HJ2:=hid (HJ8.out.write h1 h2 h3)
  clear h1 h2 h3
  go_wp2
  go_end0
  exact ⟨rfl,HJ2.out⟩
theorem repeatL_one (c : UInt8) (n : Nat) : Lib.repeatL [c] n = List.replicate n c:=by
 induction n with
 | zero=>rfl
 | succ n ih=>rw [Lib.repeatL,ih,List.replicate_succ]; rfl
theorem rep_any (c : UInt8) (n : Nat) (w : World) (hn : n <= 4000000000) : Calls Tryz.prog 86 #[.string ⟨#[c]⟩,.int .i64 n] w fun e w'=>e = .returned (.string (mkB (List.replicate n c))) /\ Below w.heap.size w w':=by
 have h:=Tryz.strings_Repeat ⟨#[c]⟩ n w (by omega) (by show 1 * n <= _; omega)
 rw [show (⟨#[c]⟩ : ByteArray).data.toList = [c] from rfl,repeatL_one] at h
 exact h
theorem mkB_data (l : List UInt8) : (mkB l).data.toList = l:=rfl
theorem mkB_size (l : List UInt8) : (mkB l).size = l.length:=rfl
theorem mkB_empty (l : List UInt8) : ((mkB l).toList.isEmpty = true) = (l = []):=by
 rw [Lib.toList_data,mkB_data]
 cases l <;> simp
theorem trim_any (l : List UInt8) (w : World) (hl : l.length <= 400000000000) : Calls Tryz.prog 212 #[.string (mkB l),.string ⟨#[32]⟩] w fun e w'=>e = .returned (.string (mkB (trimR l))) /\ w' = w:=by
 have h:=Tryz.strings_TrimRight_one (mkB l) 32 (by decide) w (by rw [mkB_size]; omega)
 rw [mkB_data] at h
 exact h
section
variable {w : World} {F : Nat -> Prop} {B lb tb : Nat} {bx : List (Nat × Obj)} {acc : List EL} {bs : List UInt8}
theorem JAt.writeStr (X : ByteArray) (W : World) (h : JAt w F B lb tb bx acc bs W) (hn : bs.length + X.size <= 140737488355328) :
  Calls Tryz.prog 57 #[.pointer (some ⟨tb,0,none⟩),.string X] W fun e W'=>e = .returned (.tuple #[.int .i64 X.size,.nilIface]) /\ JAt w F B lb tb bx acc (bs ++ X.data.toList) W':=by
 refine (bld_WriteString B tb (Lib.byteCells bs) X W h.bld (by rw [Lib.byteCells,List.length_map]; omega) h.BW).mono ?_
 rintro e W' ⟨he,h1,h2,h3⟩
 refine ⟨he,h.write ?_ h2 h3⟩
 rw [Lib.strCells_eq,<- Lib.byteCells_append] at h1
 exact .inr h1
theorem JAt.str (W : World) (h : JAt w F B lb tb bx acc bs W) : Calls Tryz.prog 22 #[.pointer (some ⟨tb,0,none⟩)] W fun e W'=>e = .returned (.string (mkB bs)) /\ JAt w F B lb tb bx acc bs W':=by
 refine (Tryz.Builder_String_any_k B tb bs W h.bld h.BW).mono ?_
 rintro e W' ⟨he,h1,h2,h3⟩
 exact ⟨he,h.write h1 h2 h3⟩
theorem JAt.len (W : World) (h : JAt w F B lb tb bx acc bs W) : Calls Tryz.prog 116 #[.pointer (some ⟨tb,0,none⟩)] W fun e W'=>e = .returned (.int .i64 bs.length) /\ W' = W:=by
 have:=Tryz.Builder_Len_f B tb (Lib.byteCells bs) W h.bld
 rw [Lib.byteCells,List.length_map] at this
 exact this
end
theorem addX_endS (acc : List EL) (bs : List UInt8) : addX acc (mkB bs) = endS (acc,bs):=by
 unfold addX endS
 by_cases h : bs = []
 ·rw [if_pos (by rw [mkB_empty]; exact h),if_pos h]
 ·rw [if_neg (by rw [mkB_empty]; exact h),if_neg h]
theorem leastS_mem (ls : List LN) (x : LN) (hx : x ∈ ls) : leastS ls <= x.spaces:=by
 induction hn : ls.length generalizing ls with
 | zero=>have:=List.eq_nil_of_length_eq_zero hn; subst this; cases hx
 | succ n ih =>
  obtain ⟨ys,y,rfl⟩ : ∃ ys y,ls = ys ++ [y]:=⟨ls.dropLast,ls.getLast (by intro e; rw [e] at hn; cases hn),(List.dropLast_concat_getLast _).symm⟩
  rw [leastS_snoc]
  rcases List.mem_append.1 hx with h | h
  ·have h2:=ih ys h (by simpa using hn)
   have hne : ys ≠ []:=fun e=>by rw [e] at h; cases h
   by_cases hlt : y.spaces < leastS ys
   ·rw [if_pos (Or.inr hlt)]; omega
   ·rw [if_neg (by rintro (h | h) <;> contradiction)]; exact h2
  ·have e:=List.mem_singleton.1 h
   subst e
   split
   ·exact Nat.le_refl _
   ·next h=>have h : ¬ (ys = [] ∨ x.spaces < leastS ys):=h; omega
def elW : EL -> Nat | .mk t _=>1 + t.size
def wtP (l : List EL) : Nat:=(l.map elW).sum
def wtL (x : LN) : Nat:=1 + x.feeds + x.spaces + wtP x.parts
def wtLs (ls : List LN) : Nat:=(ls.map wtL).sum
theorem endS_len (b : JS) : (endS b).length <= b.1.length + b.2.length:=by
 unfold endS
 split
 ·omega
 ·next h =>
  rw [List.length_append,List.length_singleton]
  have : 0 < b.2.length:=List.length_pos_iff.2 h
  omega
theorem partJ_len (b : JS) (e : EL) : (partJ b e).1.length + (partJ b e).2.length <= b.1.length + b.2.length + elW e:=by
 obtain ⟨t,p⟩:=e
 cases p with
 | none =>
  show b.1.length + (b.2 ++ t.data.toList).length <= _
  rw [List.length_append,size_data]
  show _ <= _ + (1 + t.size)
  omega
 | some x =>
  show (endS b ++ [EL.mk t (some x)]).length + 0 <= _
  rw [List.length_append,List.length_singleton]
  have:=endS_len b
  show _ <= _ + (1 + t.size)
  omega
theorem partsJ_len (l : List EL) (b : JS) : (l.foldl partJ b).1.length + (l.foldl partJ b).2.length <= b.1.length + b.2.length + wtP l:=by
 induction l generalizing b with
 | nil=>simp [wtP]
 | cons e r ih =>
  rw [List.foldl_cons]
  have h1:=ih (partJ b e)
  have h2:=partJ_len b e
  unfold wtP at *
  rw [List.map_cons,List.sum_cons]
  omega
theorem headJ_len (m : Nat) (b : JS) (x : LN) : (headJ m b x).1.length + (headJ m b x).2.length <= b.1.length + b.2.length + x.feeds + x.spaces:=by
 unfold headJ
 split
 ·omega
 ·simp only [List.length_append,List.length_replicate]
  omega
theorem lineJ_len (m : Nat) (b : JS) (x : LN) : (lineJ m b x).1.length + (lineJ m b x).2.length <= b.1.length + b.2.length + wtL x:=by
 unfold lineJ wtL
 have h1:=partsJ_len x.parts (headJ m b x)
 have h2:=headJ_len m b x
 omega
theorem linesJ_len (m : Nat) (ls : List LN) (b : JS) : (ls.foldl (lineJ m) b).1.length + (ls.foldl (lineJ m) b).2.length <= b.1.length + b.2.length + wtLs ls:=by
 induction ls generalizing b with
 | nil=>simp [wtLs]
 | cons x r ih =>
  rw [List.foldl_cons]
  have h1:=ih (lineJ m b x)
  have h2:=lineJ_len m b x
  unfold wtLs at *
  rw [List.map_cons,List.sum_cons]
  omega
theorem EsF.nth {W : World} {F : Nat -> Prop} : ∀ (l : List EL) (b o j : Nat) (t : ByteArray) (p : Option EX),EsF W F l b o -> l[j]? = some (.mk t p) -> F b /\ W.cell? ⟨b,o + j * 2,none⟩ = some (.string t) /\ ∃ u,W.cell? ⟨b,o + j * 2 + 1,none⟩ = some u /\ OF W F p u
 | [],b,o,j,t,p,h,hj=>by simp at hj
 | .mk t' p' :: r,b,o,0,t,p,h,hj=>by
  rw [EsF] at h
  obtain ⟨h0,h1,⟨u,h2,h3⟩,h4⟩:=h
  simp at hj
  obtain ⟨rfl,rfl⟩:=hj
  exact ⟨h0,h1,u,h2,h3⟩
 | .mk t' p' :: r,b,o,j + 1,t,p,h,hj=>by
  rw [EsF] at h
  obtain ⟨h0,h1,⟨u,h2,h3⟩,h4⟩:=h
  have:=EsF.nth r b (o + 2) j t p h4 (by simpa using hj)
  rw [show o + (j + 1) * 2 = o + 2 + j * 2 by omega]
  exact this
section
variable {w : World} {F : Nat -> Prop} {B lb tb : Nat} {bx : List (Nat × Obj)} {acc : List EL} {bs : List UInt8} {W : World}
theorem JAt.box (h : JAt w F B lb tb bx acc bs W) : ∃ A c xs,BoxAt W lb #[.slice A acc.length c] 31 /\ W.ownsRow B 50 2 (.slice A acc.length c) acc.length xs /\ EZip w F acc xs /\ ∀ q ∈ bx,W.heap[q.1]? = some q.2 /\ (Value.slice A acc.length c).ownBlock ≠ some q.1:=by
 obtain ⟨_,⟨v,h2,⟨xs,h3,h4⟩,hx⟩,_,_,_,_⟩:=h
 rcases h3.2 with ⟨rfl,h0⟩ | ⟨g,cap,cur,rfl,_⟩
 ·exact ⟨none,0,xs,by rw [h0]; exact h2,by rw [h0] at h3 ⊢; exact h3,h4,fun q hq=>⟨(hx q hq).1,by simp [Value.ownBlock]⟩⟩
 ·exact ⟨_,_,xs,h2,h3,h4,hx⟩
end
theorem jAt_new (w : World) (F : Nat -> Prop) : JAt w F w.heap.size w.heap.size (w.heap.size + 1) [] [] [] ((w.alloc (.cells #[.slice none 0 0] 31)).alloc (.cells #[.pointer none,.slice none 0 0] 54)):=by
 have h1:=BoxAt.new w #[.slice none 0 0] 31
 have h2:=BoxAt.new (w.alloc (.cells #[.slice none 0 0] 31)) #[.pointer none,.slice none 0 0] 54
 rw [World.size_alloc] at h2
 exact ⟨((Below.refl _ w).alloc (Nat.le_refl _) _).alloc (by simp) _,⟨.slice none 0 0,h1.alloc _,⟨[],World.ownsRow_nil _ _ _ _,rfl⟩,fun q hq=>by cases hq⟩,.inl ⟨by omega,.slice none 0 0,h2,World.ownsRowF_nil _ _ _ _,by simp [Value.ownBlock]⟩,Nat.le_refl _,by omega,by simp; omega,fun q hq=>by cases hq⟩
def foldL (m : Nat) (ls : List LN) (k : Nat) : JS:=(ls.take k).foldl (lineJ m) ([],[])
def foldP (l : List EL) (b : JS) (j : Nat) : JS:=(l.take j).foldl partJ b
theorem foldL_step (m : Nat) (ls : List LN) (k : Nat) (x : LN) (h : ls[k]? = some x) : foldL m ls (k + 1) = lineJ m (foldL m ls k) x:=by
 unfold foldL
 rw [List.take_add_one,h,List.foldl_append]
 rfl
theorem foldP_step (l : List EL) (b : JS) (j : Nat) (x : EL) (h : l[j]? = some x) : foldP l b (j + 1) = partJ (foldP l b j) x:=by
 unfold foldP
 rw [List.take_add_one,h,List.foldl_append]
 rfl
theorem wt_take {α : Type} (f : α -> Nat) (ls : List α) (k : Nat) : ((ls.take k).map f).sum <= (ls.map f).sum:=by
 conv=>rhs; rw [<- List.take_append_drop k ls]
 rw [List.map_append,List.sum_append]
 omega
theorem foldL_len (m : Nat) (ls : List LN) (k : Nat) : (foldL m ls k).1.length + (foldL m ls k).2.length <= wtLs ls:=by
 have h1:=linesJ_len m (ls.take k) ([],[])
 have h2:=wt_take wtL ls k
 unfold foldL wtLs at *
 simp only [List.length_nil] at h1
 omega
theorem wtP_len (l : List EL) : l.length <= wtP l:=by
 induction l with
 | nil=>simp [wtP]
 | cons e r ih =>
  unfold wtP at *
  rw [List.map_cons,List.sum_cons,List.length_cons]
  obtain ⟨t,p⟩:=e
  show r.length + 1 <= 1 + t.size + _
  omega
theorem wtL_mem (ls : List LN) (y : LN) (h : y ∈ ls) : wtL y <= wtLs ls:=by
 induction ls with
 | nil=>cases h
 | cons x r ih =>
  unfold wtLs at *
  rw [List.map_cons,List.sum_cons]
  rcases List.mem_cons.1 h with rfl | h
  ·omega
  ·have:=ih h; omega
theorem wtP_mem (l : List EL) (y : EL) (h : y ∈ l) : elW y <= wtP l:=by
 induction l with
 | nil=>cases h
 | cons x r ih =>
  unfold wtP at *
  rw [List.map_cons,List.sum_cons]
  rcases List.mem_cons.1 h with rfl | h
  ·omega
  ·have:=ih h; omega
theorem foldP_len (l : List EL) (b : JS) (j : Nat) : (foldP l b j).1.length + (foldP l b j).2.length <= b.1.length + b.2.length + wtP l:=by
 have h1:=partsJ_len (l.take j) b
 have h2:=wt_take elW l j
 unfold foldP wtP at *
 omega
theorem rowJ_pat {w W : World} {F : Nat -> Prop} {B : Nat} {acc : List EL} {v : Value} {xs : List Value} (h1 : W.ownsRow B 50 2 v acc.length xs) (h2 : EZip w F acc xs) (hB : Below w.heap.size w W) (hF : ∀ b,F b -> b < w.heap.size) : PatF W (fun b=>F b ∨ Since B W b) acc v:=by
 rcases h1.2 with ⟨rfl,h0⟩ | ⟨g,cap,cur,rfl,hb,hg,hc1,hc2,hcs,htk⟩
 ·have : acc = []:=List.eq_nil_of_length_eq_zero h0
  subst this
  exact ⟨none,0,rfl,Nat.le_refl _,Nat.zero_le _,fun h=>absurd h (by simp)⟩
 ·refine ⟨_,_,rfl,hc1,hc2,fun _=>⟨g,0,rfl,EZip.es (.inr ⟨hb,(Array.getElem?_eq_some_iff.1 hg).1⟩) acc xs 0 (fun j x hx=>?_) (EZip.carry (fun b hb=>⟨.inl hb,hB.block b (hF b hb)⟩) _ _ h2)⟩⟩
  have:=h1.cells (g:=g) rfl j x hx
  rw [Addr.add_mid] at this
  exact this
set_option maxHeartbeats 8000000 in
set_option maxRecDepth 100000 in
theorem join_any (ls : List LN) (F : Nat -> Prop) (g c : Nat) (w : World) (hn : 0 < ls.length) (hn2 : ls.length <= c) (hn4 : ls.length <= 4000000000) (hw : wtLs ls <= 4000000000) (hc : LsAt w F g 0 ls) (hg : g < w.heap.size) (hF : ∀ b,F b -> b < w.heap.size) :
  Calls Tryz.prog 172 #[.slice (some ⟨g,0,none⟩) ls.length c] w fun e w'=>Below w.heap.size w w' /\ ∃ A n c',e = .returned (.slice A n c') /\ (joinS ls).length = n /\ n <= 4000000000 /\ PatF w' (fun b=>F b ∨ Since w.heap.size w' b) (joinS ls) (.slice A n c'):=by
 obtain ⟨x,r,rfl⟩ : ∃ x r,ls = x :: r:=by cases ls with | nil=>exact absurd hn (by simp) | cons x r=>exact ⟨x,r,rfl⟩
 have hwt:=hid hw
 obtain ⟨m,hm⟩ : ∃ m,leastS r = m:=⟨_,rfl⟩
 have hL : ∀ (A : Option Addr) (c' : Nat) (W : World),Below w.heap.size w W -> (0 < r.length -> A = some ⟨g,0 + 3,none⟩) -> Calls Tryz.prog 211 #[.slice A r.length c'] W fun e w'=>e = .returned (.int .i64 m) /\ Below W.heap.size W w':=by
  intro A c' W hB hA
  rw [<- hm]
  refine leastSpaces_any r F A g (0 + 3) c' W (by simp at hn4; omega) (fun y hy=>?_) hA (LsAt.carry hc.tail (hB.block g hg) (fun b hb=>⟨hb,hB.block b (hF b hb)⟩)) (.inr (Nat.lt_of_lt_of_le hg hB.size))
  have:=wtL_mem (x :: r) y (List.mem_cons_of_mem _ hy)
  unfold wtL at this
  omega
 have HL:=hid hL
 have HC:=hid hc
 have Hm:=hid hm
 have Hsz:=hid (foldL_len m (x :: r))
 clear hL hc hm hw
 have hjs : joinS (x :: r) = endS ((foldL m (x :: r) (x :: r).length).1,trimR (foldL m (x :: r) (x :: r).length).2):=by
  unfold joinS foldL
  rw [List.take_length,<- Hm.out]
  rfl
 have Hjs:=hid hjs
 have hrl : r.length = (x :: r).length - 1:=by simp
 have htl : (x :: r).tail = r:=rfl
 clear hjs
 generalize x :: r = ls at *
 rw [hrl] at HL
 have Htl:=hid htl
 clear hrl htl
 have Hj0:=hid (jAt_new w F)
 have hls0 : (ls.length : Int) <= (c : Int):=by omega
 have hls1 : (1 : Int) <= (ls.length : Int):=by omega
 go_enter Tryz.func172,Tryz.ntmps172
 go_upto_region 4 with fail
 go_cut [0,6] (fun v0 v wx=>v0 = .slice (some ⟨g,0,none⟩) ls.length c /\ v = .int .i64 m /\ Hid (JAt w F w.heap.size w.heap.size (w.heap.size + 1) [] [] [] wx))
 case first =>
  go_wp2_with (first | (go_at_call 211; refine (HL.out _ _ _ (Hj0.out.below) (by intro h; first | rfl | omega)).mono ?_; rintro e w1 ⟨rfl,hb1⟩))
  all_goals
   go_meet
   exact ⟨by first | rfl | (congr 1; omega),rfl,Hj0.out.more hb1⟩
 obtain ⟨rfl,rfl,HJ1⟩:=hcut
 clear HL Hj0
 go_wp2
 go_loopw [18] (fun t18 wr=>∃ k : Nat,t18 = .int .i64 k /\ k <= ls.length /\ Hid (JAt w F w.heap.size w.heap.size (w.heap.size + 1) [] (foldL m ls k).1 (foldL m ls k).2 wr)) (fun t18 _=>ls.length - (intOf t18).toNat)
 case atStart=>exact ⟨0,rfl,Nat.zero_le _,HJ1⟩
 case round =>
  obtain ⟨k,rfl,hk,HJ⟩:=hrel
  by_cases hlt : k < ls.length
  ·obtain ⟨y,hy⟩ : ∃ y,ls[k]? = some y:=⟨_,List.getElem?_eq_getElem hlt⟩
   have hmem:=List.mem_of_getElem? hy
   have hstep:=foldL_step m ls k y hy
   obtain ⟨h1,h2,A3,c3,h3,h4⟩:=HC.out k y hy
   rw [Nat.zero_add] at h1 h2 h3
   have hwy:=wtL_mem ls y hmem
   have hw4:=hwt.out
   have hsz:=Hsz.out k
   have e0:=HJ.out.below.block g hg
   have d0:=(cell_same e0 (k * 3)).trans h1
   have d1:=(cell_same e0 (k * 3 + 1)).trans h2
   have d2:=(cell_same e0 (k * 3 + 2)).trans h3
   have hgw : g < wr.heap.size:=Nat.lt_of_lt_of_le hg HJ.out.below.size
   have hlt' : decide ((k : Int) < (ls.length : Int)) = true:=decide_eq_true (by omega)
   have hlt3 : (k : Int) < (ls.length : Int):=by omega
   have hpl:=wtP_len y.parts
   have hms : k ≠ 0 -> m <= y.spaces:=fun h0=>by
    have:=Htl.out
    rw [<- Hm.out,<- this]
    refine leastS_mem _ y (List.mem_of_getElem? (i:=k - 1) ?_)
    rw [List.getElem?_tail,show k - 1 + 1 = k by omega]
    exact hy
   have hk00 : k = 0 -> foldL m ls k = ([],[]):=fun h=>by subst h; rfl
   obtain ⟨b,hb⟩ : ∃ b,foldL m ls k = b:=⟨_,rfl⟩
   rw [hb] at hstep hsz HJ hk00
   obtain ⟨acc,bs⟩:=b
   unfold wtL at hwy
   dsimp only at hsz HJ
   have Hpat:=hid h4
   obtain ⟨fd,hfd⟩ : ∃ q,y.feeds = q:=⟨_,rfl⟩
   obtain ⟨sp1,hsp1⟩ : ∃ q,y.spaces = q:=⟨_,rfl⟩
   obtain ⟨n3,hn3⟩ : ∃ q,y.parts.length = q:=⟨_,rfl⟩
   obtain ⟨hd,hhd⟩ : ∃ q,headJ m (acc,bs) y = q:=⟨_,rfl⟩
   have hlj : lineJ m (acc,bs) y = foldP y.parts hd n3:=by unfold lineJ foldP; rw [<- hn3,List.take_length,hhd]
   have hhl:=headJ_len m (acc,bs) y
   rw [hhd] at hhl
   have hhd2:=hhd
   unfold headJ at hhd2
   rw [hfd,hsp1] at hhd2
   rw [hfd] at d0 hwy hhl
   rw [hsp1] at d1 hwy hhl hms
   rw [hn3] at d2 hpl
   dsimp only at hhl hhd2
   have hf0 : (fd : Int) <= 4000000000:=by omega
   have hs0 : (sp1 : Int) <= 4000000000:=by omega
   have hn30 : (n3 : Int) <= 4000000000:=by omega
   have hk0 : (k : Int) <= 4000000000:=by omega
   have hm0 : 0 <= (m : Int):=by omega
   have Hhd:=hid hhd2
   have Hlj:=hid hlj
   have Hstep:=hid hstep
   have Hms:=hid hms
   have Hk00:=hid hk00
   have Hn3:=hid hn3
   clear h1 h2 h3 h4 e0 hfd hsp1 hhd hhd2 hlj hstep hms hk00 hn3 hb hy hmem
   obtain ⟨isF,hisF⟩ : ∃ q,decide (acc = [] /\ bs = []) = q:=⟨_,rfl⟩
   have HisF:=hid hisF
   clear hisF
   obtain ⟨A4,c4,xs4,hb4,_⟩:=HJ.out.box
   have q0:=hb4.cell 0
   have hl4:=hb4.lt
   simp at q0
   have HP:=hid (HJ.out.put (.cells #[.int .i64 fd,.int .i64 sp1,.slice A3 n3 c3] 281) (by intro c fz h; simp at h))
   clear hb4
   go_upto_region 8 with fail
   go_cut [9] (fun v wx=>v = .bool isF /\ wx = wr.alloc (.cells #[.int .i64 fd,.int .i64 sp1,.slice A3 n3 c3] 281))
   case first =>
    by_cases e1 : acc = []
    ·have z1 : acc.length = 0:=by rw [e1]; rfl
     have z2 : ((acc.length : Int) == 0) = true:=beq_iff_eq.2 (by omega)
     have z3 : decide (bs.length = 0) = isF:=by
      rw [<- HisF.out]
      rw [decide_eq_decide]
      exact ⟨fun h=>⟨e1,List.eq_nil_of_length_eq_zero h⟩,fun h=>by rw [h.2]; rfl⟩
     have z4 : ((bs.length : Int) == 0) = isF:=by
      rw [<- z3,Bool.eq_iff_iff,beq_iff_eq,decide_eq_true_iff]
      omega
     have Hz:=hid z3
     clear e1 z3
     go_wp2_with fail
     go_at_call 116
     refine (HP.out.len _).mono ?_
     rintro e w2 ⟨rfl,rfl⟩
     go_wp2_with fail
     go_meet
     exact ⟨rfl,rfl⟩
    ·have z1 : acc.length ≠ 0:=fun h=>e1 (List.eq_nil_of_length_eq_zero h)
     have z2 : ((acc.length : Int) == 0) = false:=beq_eq_false_iff_ne.2 (by omega)
     have z3 : isF = false:=by
      rw [<- HisF.out]
      exact decide_eq_false (fun h=>e1 h.1)
     have Hz:=hid z3
     clear e1 z3
     go_wp2_with fail
     go_meet
     exact ⟨by rw [Hz.out],rfl⟩
   obtain ⟨rfl,rfl⟩:=hcut
   go_upto_if 30 with fail
   go_cut [9] (fun v wx=>v = .bool isF /\ Hid (JAt w F w.heap.size w.heap.size (w.heap.size + 1) [(wr.heap.size,.cells #[.int .i64 fd,.int .i64 sp1,.slice A3 n3 c3] 281)] hd.1 hd.2 wx))
   case first =>
    have hhd:=Hhd.out
    have hif:=HisF.out
    cases isF
    case true =>
     rw [if_pos (of_decide_eq_true hif)] at hhd
     subst hhd
     clear hif
     go_wp2_with fail
     go_meet
     exact ⟨rfl,HP.out⟩
    case false =>
     have hno:=of_decide_eq_false hif
     rw [if_neg hno] at hhd
     have hk1 : k ≠ 0:=fun h=>by
      have:=Hk00.out h
      cases this
      exact hno ⟨rfl,rfl⟩
     have hms:=Hms.out hk1
     have hsub : (sp1 : Int) - (m : Int) = ((sp1 - m : Nat) : Int):=by omega
     have Hhd2:=hid hhd
     have hl1:=hl4
     have hmle : (m : Int) <= (sp1 : Int):=by omega
     have hrep:=fun U=>rep_any 32 (sp1 - m) U (by omega)
     rw [<- hsub] at hrep
     have Hrep:=hid hrep
     have Hrep1:=hid (fun U=>rep_any 10 fd U (by omega))
     have hpb:=BoxAt.new wr #[.int .i64 fd,.int .i64 sp1,.slice A3 n3 c3] 281
     have p0:=hpb.cell 0
     have hpl1:=hpb.lt
     simp at p0
     clear hif hno hk1 hms hhd hsub hrep hpb
     go_wp2_with fail
     go_at_call 86
     refine (Hrep1.out _).mono ?_
     rintro e w2 ⟨rfl,hb2⟩
     have HP2:=hid (HP.out.more hb2)
     clear hb2
     go_wp2_with fail
     go_at_call 57
     refine (HP2.out.writeStr _ _ (by rw [mkB_size,List.length_replicate]; omega)).mono ?_
     rintro e w3 ⟨rfl,h3⟩
     have HP3:=hid (show JAt w F w.heap.size w.heap.size (w.heap.size + 1) [(wr.heap.size,.cells #[.int .i64 fd,.int .i64 sp1,.slice A3 n3 c3] 281)] acc (bs ++ List.replicate fd 10) w3 from h3)
     have hbx : BoxAt w3 wr.heap.size #[.int .i64 fd,.int .i64 sp1,.slice A3 n3 c3] 281:=h3.at_ (List.mem_cons_self ..)
     have r1:=hbx.cell 1
     have hlx:=hbx.lt
     simp at r1
     clear h3 hbx p0
     go_wp2_with fail
     go_at_call 86
     refine (Hrep.out _).mono ?_
     rintro e w4 ⟨rfl,hb4⟩
     have HP4:=hid (HP3.out.more hb4)
     clear hb4
     go_wp2_with fail
     go_at_call 57
     refine (HP4.out.writeStr _ _ (by rw [mkB_size,List.length_append,List.length_replicate,List.length_replicate]; omega)).mono ?_
     rintro e w5 ⟨rfl,h5⟩
     have HP5:=hid (show JAt w F w.heap.size w.heap.size (w.heap.size + 1) [(wr.heap.size,.cells #[.int .i64 fd,.int .i64 sp1,.slice A3 n3 c3] 281)] acc (bs ++ List.replicate fd 10 ++ List.replicate (sp1 - m) 32) w5 from h5)
     clear h5
     go_wp2_with fail
     go_meet
     refine ⟨rfl,?_⟩
     rw [<- Hhd2.out]
     exact HP5
   obtain ⟨rfl,HJ2⟩:=hcut
   have hbx : BoxAt wc wr.heap.size #[.int .i64 fd,.int .i64 sp1,.slice A3 n3 c3] 281:=HJ2.out.at_ (List.mem_cons_self ..)
   have r2:=hbx.cell 2
   have hlx:=hbx.lt
   simp at r2
   have HJ3:=hid (HJ2.out.drop (bx':=[]) (fun q hq=>by cases hq))
   clear hbx HP HJ2 HJ Hhd HisF Hms Hk00 d0 d1 d2 q0
   go_wp2
   go_loopw [44] (fun t44 wx=>∃ j : Nat,t44 = .int .i64 j /\ j <= n3 /\ Hid (JAt w F w.heap.size w.heap.size (w.heap.size + 1) [] (foldP y.parts hd j).1 (foldP y.parts hd j).2 wx)) (fun t44 _=>n3 - (intOf t44).toNat)
   case atStart=>exact ⟨0,rfl,Nat.zero_le _,HJ3⟩
   case round =>
    obtain ⟨j,rfl,hj,HJ⟩:=hrel
    by_cases hjlt : j < n3
    ·obtain ⟨e,he⟩ : ∃ e,y.parts[j]? = some e:=⟨_,List.getElem?_eq_getElem (by rw [Hn3.out]; exact hjlt)⟩
     have hst:=foldP_step y.parts hd j e he
     obtain ⟨t,p⟩:=e
     obtain ⟨A5,c5,e5,_,_,h5⟩:=Hpat.out
     obtain ⟨b3,o3,e6,h6⟩:=h5 (by rw [Hn3.out]; omega)
     have hA3 : A3 = some ⟨b3,o3,none⟩:=by injection e5 with e7 _ _; exact e7.trans e6
     subst hA3
     obtain ⟨hF3,s0,u,s1,hOF⟩:=EsF.nth y.parts b3 o3 j t p h6 he
     have e0:=HJ.out.below.block b3 (hF b3 hF3)
     have x0:=(cell_same e0 (o3 + j * 2)).trans s0
     have x1:=(cell_same e0 (o3 + j * 2 + 1)).trans s1
     have hb3 : b3 < wr.heap.size:=Nat.lt_of_lt_of_le (hF b3 hF3) HJ.out.below.size
     have hfl:=foldP_len y.parts hd j
     have hets : elW (.mk t p) <= wtP y.parts:=by
      exact wtP_mem _ _ (List.mem_of_getElem? he)
     obtain ⟨fb,hfb⟩ : ∃ q,foldP y.parts hd j = q:=⟨_,rfl⟩
     rw [hfb] at hst HJ hfl
     obtain ⟨acc1,bs1⟩:=fb
     dsimp only at HJ hfl
     have hts : 1 + t.size <= wtP y.parts:=hets
     obtain ⟨A6,c6,xs6,hb6,_⟩:=HJ.out.box
     have hl6:=hb6.lt
     have Hst:=hid hst
     have hlt' : decide ((j : Int) < (n3 : Int)) = true:=decide_eq_true (by omega)
     have hlt3 : (j : Int) < (n3 : Int):=by omega
     have hj0 : (j : Int) <= 4000000000:=by omega
     clear hst he e5 e6 h5 h6 e0 s0 s1 hfb hets hb6
     cases p with
     | none =>
      simp only [OF] at hOF
      subst hOF
      have HP:=hid (HJ.out.put (.cells #[.string t,.pointer none] 50) (by intro c fz h; simp at h))
      go_wp2_with fail
      go_at_call 57
      refine (HP.out.writeStr _ _ (by omega)).mono ?_
      rintro e w2 ⟨rfl,h2⟩
      have HJ2:=hid (h2.drop (bx':=[]) (fun q hq=>by cases hq))
      clear h2
      go_wp2
      go_roundw
      case rel =>
       refine ⟨j + 1,?_,by omega,?_⟩
       ·show Value.int .i64 _ = _
        rw [show ((j + 1 : Nat) : Int) = (j : Int) + 1 by omega]
       ·rw [Hst.out]
        exact HJ2
      case measure =>
       show n3 - ((j : Int) + 1).toNat < n3 - ((j : Int)).toNat
       omega
     | some ex =>
      obtain ⟨i0,hi0,hz0,hz1,hz2⟩:=info_parts infoL
      have HOF:=hid hOF
      simp only [OF] at hOF
      obtain ⟨b7,o7,c7,rfl,hF7,hc7,hx7⟩:=hOF
      have HP:=hid (HJ.out.put (.cells #[.string t,.pointer (some ⟨b7,o7,none⟩)] 50) (by intro c fz h; simp at h))
      clear hc7 hx7
      go_wp2_with fail
      go_at_call 22
      refine (HP.out.str _).mono ?_
      rintro e w2 ⟨rfl,h2⟩
      have HJ2:=hid h2
      clear h2
      have hal1 : acc1.length <= 40000000000:=by omega
      go_wp2_with fail
      go_at_call 209
      refine (joinEnd_any _ _ HJ2.out hal1).mono ?_
      rintro e w3 ⟨rfl,h3⟩
      have hL : (addX acc1 (mkB bs1)).length <= acc1.length + bs1.length:=by
       rw [addX_endS]
       exact endS_len (acc1,bs1)
      have hLe:=addX_endS acc1 bs1
      obtain ⟨L,hLL⟩ : ∃ l,addX acc1 (mkB bs1) = l:=⟨_,rfl⟩
      rw [hLL] at h3 hL hLe
      have HLe:=hid hLe
      have HJ3:=hid h3
      have hpb : BoxAt w3 wr.heap.size #[.string t,.pointer (some ⟨b7,o7,none⟩)] 50:=h3.at_ (List.mem_cons_self ..)
      obtain ⟨A8,c8,xs8,hb8,ho8,hz8,hx8⟩:=h3.box
      have y0:=hb8.cell 0
      have y1:=Lib.frozen_of_heap hb8 0
      have z0:=hpb.cell 0
      have z1:=hpb.cell 1
      have hl8:=hb8.lt
      have hlp:=hpb.lt
      simp at y0 z0 z1
      have hL0 : (L.length : Int) <= 40000000000:=by omega
      have hown1:=ho8.alloc (.cells #[.string t,.pointer (some ⟨b7,o7,none⟩)] 50)
      have HB8:=hid hb8
      have HZ8:=hid hz8
      have HX8:=hid hx8
      have hBW:=h3.BW
      clear h3 hLL hLe hpb hb8 ho8 hz8 hx8
      go_wp2_with (at_builtin; refine wpList_append_where _ rfl _ _ 31 rfl w.heap.size 50 i0 (.agg #[.string ⟨#[]⟩,.pointer none]) 2 24 Tryz.underlying31 hi0 hz0 hz1 hz2 rfl (by decide) _ _ _ rfl hown1 ⟨w3.heap.size,0,none⟩ 1 1 [.string t,.pointer (some ⟨b7,o7,none⟩)] rfl rfl ?c1 ?c2 ?c3 ?c4 ?c5 ?c6 ?_)
      case c1 =>
       intro j u hj
       match j,hj with
       | 0,hj=>simp at hj; subst hj; simp [Addr.add]
       | 1,hj=>simp at hj; subst hj; simp [Addr.add]
      case c2=>intro u hu; simp at hu; rcases hu with rfl | rfl <;> rfl
      case c3=>unfold maxLen; omega
      case c4=>omega
      case c5=>simp; omega
      case c6=>decide
      intro v' W8 hown' hgrow hwh
      have hbel : Below w3.heap.size w3 (w3.alloc (.cells #[.string t,.pointer (some ⟨b7,o7,none⟩)] 50)):=(Below.refl _ w3).alloc (Nat.le_refl _) _
      have HJ8:=hid (((HJ3.out.more hbel).push (p:=some ex) (HB8.out.later hbel) hown1 HZ8.out (fun q hq=>⟨(hbel.block q.1 (Array.getElem?_eq_some_iff.1 (HX8.out q hq).1).1).trans (HX8.out q hq).1,(HX8.out q hq).2⟩) hgrow (by simpa using hwh) hown' HOF.out).drop (bx':=[]) (fun q hq=>by cases hq))
      have hne:=row_kind hown1 (HB8.out.later hbel) (by decide)
      have hlb : BoxAt W8 w.heap.size #[.slice A8 L.length c8] 31:=(hgrow.block w.heap.size (HB8.out.later hbel).lt (fun e=>hne e.symm)).trans (HB8.out.later hbel)
      have d0:=hlb.cell 0
      have g0:=Lib.frozen_of_heap hlb 0
      have hlt8:=hlb.lt
      simp at d0
      obtain ⟨A9,c9,rfl⟩:=own_slice hown' (by omega)
      clear hown' hgrow hwh hbel hne hlb hown1 y0 y1 z0 z1
      go_wp2
      go_roundw
      case rel =>
       refine ⟨j + 1,?_,by omega,?_⟩
       ·show Value.int .i64 _ = _
        rw [show ((j + 1 : Nat) : Int) = (j : Int) + 1 by omega]
       ·rw [Hst.out]
        show Hid (JAt _ _ _ _ _ [] (endS (acc1,bs1) ++ [EL.mk t (some ex)]) [] _)
        rw [<- HLe.out]
        exact HJ8
      case measure =>
       show n3 - ((j : Int) + 1).toNat < n3 - ((j : Int)).toNat
       omega
    ·have hlt' : decide ((j : Int) < (n3 : Int)) = false:=decide_eq_false (by omega)
     have hlt3 : ¬ (j : Int) < (n3 : Int):=by omega
     have hje : j = n3:=by omega
     subst hje
     have hst : foldL m ls (k + 1) = foldP y.parts hd j:=by rw [Hstep.out,Hlj.out]
     have Hst:=hid hst
     clear hst
     go_wp2
     go_roundw
     case rel =>
      refine ⟨k + 1,?_,by omega,?_⟩
      ·show Value.int .i64 _ = _
       rw [show ((k + 1 : Nat) : Int) = (k : Int) + 1 by omega]
      ·rw [Hst.out]
       exact HJ
     case measure =>
      show ls.length - ((k : Int) + 1).toNat < ls.length - ((k : Int)).toNat
      omega
  ·have hlt' : decide ((k : Int) < (ls.length : Int)) = false:=decide_eq_false (by omega)
   have hlt3 : ¬ (k : Int) < (ls.length : Int):=by omega
   have hke : k = ls.length:=by omega
   subst hke
   obtain ⟨acc,hacc⟩ : ∃ l,(foldL m ls ls.length).1 = l:=⟨_,rfl⟩
   obtain ⟨bs,hbs⟩ : ∃ l,(foldL m ls ls.length).2 = l:=⟨_,rfl⟩
   have hjs:=Hjs.out
   have hsz:=Hsz.out ls.length
   have hw4:=hwt.out
   rw [hacc,hbs] at HJ hjs hsz
   have Hjs2:=hid hjs
   have hal : acc.length <= 4000000000:=by omega
   have hbl : bs.length <= 4000000000:=by omega
   clear hjs hacc hbs Hjs
   have HS:=hid (fun (U : World) (h : JAt w F w.heap.size w.heap.size (w.heap.size + 1) [] acc bs U)=>h.str U)
   have HE:=hid (fun (U : World) (h : JAt w F w.heap.size w.heap.size (w.heap.size + 1) [] acc bs U)=>joinEnd_any (mkB (trimR bs)) U h (by omega))
   have HT:=hid (fun U=>trim_any bs U (by omega))
   go_wp2_with fail
   go_at_call 22
   refine (HS.out _ HJ.out).mono ?_
   rintro e w2 ⟨rfl,h2⟩
   have HJ2:=hid h2
   clear h2
   go_wp2_with fail
   go_at_call 212
   refine (HT.out _).mono ?_
   rintro e w3 ⟨rfl,rfl⟩
   go_wp2_with fail
   go_at_call 209
   refine (HE.out _ HJ2.out).mono ?_
   rintro e w4 ⟨rfl,h4⟩
   have hbel:=h4.below
   obtain ⟨A4,c4,xs4,hb4,ho4,hz4,_⟩:=h4.box
   have c0:=hb4.cell 0
   have hl4:=hb4.lt
   simp at c0
   have HB4:=hid hbel
   have HO4:=hid ho4
   have HZ4:=hid hz4
   have hjs:=Hjs2.out
   rw [<- addX_endS] at hjs
   have Hjs3:=hid hjs
   clear h4 hbel hb4 ho4 hz4 hjs
   go_wp2
   go_ret
   refine ⟨HB4.out,A4,(joinS ls).length,c4,by rw [Hjs3.out]; rfl,rfl,?_,?_⟩
   ·rw [Hjs3.out,addX_endS]
    have h1:=endS_len (acc,trimR bs)
    have h2 : (trimR bs).length <= bs.length:=by
     unfold trimR
     rw [List.length_reverse]
     have:=(List.dropWhile_suffix (l:=bs.reverse) (· == 32)).length_le
     rw [List.length_reverse] at this
     exact this
    have h3 : (acc,trimR bs).1.length + (acc,trimR bs).2.length = acc.length + (trimR bs).length:=rfl
    omega
   ·rw [Hjs3.out]
    exact rowJ_pat HO4.out HZ4.out HB4.out hF
theorem wtP_append (a b : List EL) : wtP (a ++ b) = wtP a + wtP b:=by
 unfold wtP
 rw [List.map_append,List.sum_append]
theorem wtLs_append (a b : List LN) : wtLs (a ++ b) = wtLs a + wtLs b:=by
 unfold wtLs
 rw [List.map_append,List.sum_append]
theorem wtP_one (t : ByteArray) (p : Option EX) : wtP [.mk t p] = 1 + t.size:=by
 unfold wtP
 show (1 + t.size) + 0 = _
 omega
theorem addT_wt (s : ByteArray) (acc : List EL) (i t : Nat) (h1 : i <= t) (h2 : t <= s.size) : wtP (addT s acc i t) <= wtP acc + 2 * (t - i):=by
 unfold addT
 split
 ·rw [wtP_append,wtP_one,ByteArray.size_extract]
  omega
 ·omega
theorem parts_wt {s : ByteArray} {P : Nat -> Res} (hPos : PosOk s P) : ∀ (m : Nat) (acc : List EL) (i : Nat),s.size - i <= m -> i <= s.size -> ∀ ps j,partsS P s acc i = some (ps,j) -> wtP ps <= wtP acc + 2 * (j - i) /\ i <= j:=by
 intro m
 induction m with
 | zero =>
  intro acc i hm hi ps j h
  have ht:=tx_ok s i hi
  rw [partsS] at h
  split at h
  ·next hc=>have:=isAt_lt hc; omega
  ·cases h
   exact ⟨addT_wt s acc i _ ht.1 ht.2,ht.1⟩
 | succ m ih =>
  intro acc i hm hi ps j h
  have ht:=tx_ok s i hi
  have ha:=addT_wt s acc i _ ht.1 ht.2
  rw [partsS] at h
  split at h
  ·split at h
   ·cases h
   ·next e j' hp =>
    split at h
    ·next hg =>
     have h3:=hPos _ _ _ hp
     have h4:=ih _ _ (by omega) hg.2 ps j h
     rw [wtP_append,wtP_one] at h4
     have : (E0 : ByteArray).size = 0:=rfl
     omega
    ·cases h
  ·cases h
   exact ⟨ha,ht.1⟩
theorem nl_wt {s : ByteArray} (i0 : Nat) : ∀ (m f fr q : Nat),s.size - q <= m -> q <= s.size -> fr <= q -> f + (q - fr) + i0 <= q -> (nlS s f fr q).2.1 <= (nlS s f fr q).2.2 /\ (nlS s f fr q).1 + ((nlS s f fr q).2.2 - (nlS s f fr q).2.1) + i0 <= (nlS s f fr q).2.2:=by
 intro m
 induction m with
 | zero =>
  intro f fr q hm hq h1 h2
  rw [nlS]
  split
  ·next hc=>have:=isAt_lt hc; omega
  ·exact ⟨h1,h2⟩
 | succ m ih =>
  intro f fr q hm hq h1 h2
  rw [nlS]
  split
  ·next hc =>
   have:=isAt_lt hc
   have h3:=sp_ok s (q + 1) this
   exact ih _ _ _ (by omega) h3.2 h3.1 (by omega)
  ·exact ⟨h1,h2⟩
theorem next_wt {s : ByteArray} {i : Nat} (hi : i <= s.size) {f p k : Nat} (h : nextS s i = some (f,p,k)) : f + p + i <= k:=by
 have:=nl_wt i (s.size - i) 0 i i (Nat.le_refl _) hi (Nat.le_refl _) (by omega)
 unfold nextS at h
 split at h
 ·cases h
 ·cases h
  exact this.2
theorem lines_wt {s : ByteArray} {P : Nat -> Res} (hPos : PosOk s P) : ∀ (m : Nat) (acc : List LN) (f p i : Nat),s.size - i <= m -> i <= s.size -> ∀ ls j,linesS P s acc f p i = some (ls,j) -> wtLs ls <= wtLs acc + 1 + f + p + 3 * (j - i) /\ i <= j:=by
 intro m
 induction m with
 | zero =>
  intro acc f p i hm hi ls j h
  rw [linesS] at h
  split at h
  ·cases h
  ·next ps j0 hp =>
   have h1:=parts_wt hPos _ _ _ (Nat.le_refl _) hi _ _ hp
   split at h
   ·cases h
    rw [wtLs_append]
    refine ⟨?_,h1.2⟩
    have h2 : wtP ([] : List EL) = 0:=rfl
    show wtLs acc + ((1 + f + p + wtP ps) + 0) <= _
    omega
   ·split at h
    ·next hg=>omega
    ·cases h
 | succ m ih =>
  intro acc f p i hm hi ls j h
  rw [linesS] at h
  split at h
  ·cases h
  ·next ps j0 hp =>
   have h1:=parts_wt hPos _ _ _ (Nat.le_refl _) hi _ _ hp
   have hj0:=(parts_pos _ _ _ (Nat.le_refl _) hi _ _ hp).2
   have h2 : wtP ([] : List EL) = 0:=rfl
   split at h
   ·cases h
    rw [wtLs_append]
    refine ⟨?_,h1.2⟩
    show wtLs acc + ((1 + f + p + wtP ps) + 0) <= _
    omega
   ·next f' p' k hn =>
    split at h
    ·next hg =>
     have h3:=next_wt hj0 hn
     have h4:=ih _ _ _ _ (by omega) hg.2 ls j h
     rw [wtLs_append] at h4
     have h5 : wtLs [(⟨f,p,ps⟩ : LN)] = 1 + f + p + wtP ps:=by show (1 + f + p + wtP ps) + 0 = _; omega
     omega
    ·cases h
theorem infoLine : (Tryz.prog.info? 281).map (fun i=>(i.zero,i.size,i.bytes)) = some (some (.agg #[.int .i64 0,.int .i64 0,.slice none 0 0]),3,40):=by kernel_rfl
def LZip (W : World) (F : Nat -> Prop) : List LN -> List Value -> Prop
 | [],xs=>xs = []
 | x :: r,xs=>∃ A c ys,xs = .int .i64 x.feeds :: .int .i64 x.spaces :: .slice A x.parts.length c :: ys /\ PatF W F x.parts (.slice A x.parts.length c) /\ LZip W F r ys
theorem LZip.snoc {W : World} {F : Nat -> Prop} {f p : Nat} {l : List EL} {A : Option Addr} {c : Nat} (hp : PatF W F l (.slice A l.length c)) : ∀ (acc : List LN) (xs : List Value),LZip W F acc xs -> LZip W F (acc ++ [⟨f,p,l⟩]) (xs ++ [.int .i64 f,.int .i64 p,.slice A l.length c])
 | [],xs,h=>by
  rw [LZip] at h
  subst h
  exact ⟨A,c,[],rfl,hp,rfl⟩
 | x :: r,xs,h=>by
  rw [LZip] at h
  obtain ⟨A',c',ys,rfl,h2,h3⟩:=h
  exact ⟨A',c',_,rfl,h2,LZip.snoc hp r ys h3⟩
theorem LZip.carry {W W' : World} {F F' : Nat -> Prop} (g : ∀ b,F b -> F' b /\ W'.heap[b]? = W.heap[b]?) : ∀ (acc : List LN) (xs : List Value),LZip W F acc xs -> LZip W' F' acc xs
 | [],xs,h=>by rw [LZip] at h ⊢; exact h
 | x :: r,xs,h=>by
  rw [LZip] at h
  obtain ⟨A',c',ys,rfl,h2,h3⟩:=h
  exact ⟨A',c',ys,rfl,h2.carry g,LZip.carry g r ys h3⟩
theorem LZip.at_ {W : World} {F : Nat -> Prop} {g : Nat} : ∀ (acc : List LN) (xs : List Value) (o : Nat),(∀ j x,xs[j]? = some x -> W.cell? ⟨g,o + j,none⟩ = some x) -> LZip W F acc xs -> LsAt W F g o acc
 | [],xs,o,hc,h=>fun k x hx=>by simp at hx
 | y :: r,xs,o,hc,h=>by
  rw [LZip] at h
  obtain ⟨A',c',ys,rfl,h2,h3⟩:=h
  intro k x hx
  cases k with
  | zero =>
   simp at hx
   subst hx
   exact ⟨hc 0 _ rfl,hc 1 _ rfl,A',c',hc 2 _ rfl,h2⟩
  | succ k =>
   have:=LZip.at_ r ys (o + 3) (fun j x hx=>by
    have:=hc (j + 3) x (by simpa using hx)
    rw [show o + 3 + j = o + (j + 3) by omega]
    exact this) h3 k x (by simpa using hx)
   rw [show o + (k + 1) * 3 = o + 3 + k * 3 by omega]
   exact this
def OwnL (B : Nat) (W : World) (v : Value) (acc : List LN) : Prop:=∃ xs,W.ownsRow B 281 3 v acc.length xs /\ LZip W (OwnSet B W v) acc xs
theorem OwnL.nil (B : Nat) (W : World) : OwnL B W (.slice none 0 0) []:=⟨[],World.ownsRow_nil _ _ _ _,rfl⟩
theorem OwnL.kp {rb B : Nat} {W W' : World} {v : Value} {acc : List LN} (h : OwnL B W v acc) (g : Kp rb W W') (hrb : rb < B) : OwnL B W' v acc:=by
 obtain ⟨xs,h1,h2⟩:=h
 refine ⟨xs,h1.kept g.grownBy (.inr (fun e=>by have:=(h1.lt rb e).1; omega)),LZip.carry (fun b hb=>?_) _ _ h2⟩
 obtain ⟨⟨hb1,hb2⟩,hb3⟩:=hb
 exact ⟨⟨⟨hb1,Nat.lt_of_lt_of_le hb2 g.size⟩,hb3⟩,g.others b hb2 (by omega)⟩
theorem ownL_push {rb B : Nat} {w1 W2 W3 : World} {v v' : Value} {acc : List LN} {xs : List Value} {f p : Nat} {l : List EL} {A : Option Addr} {c : Nat} (hrb : rb < B) (K : Kp rb w1 W2) (hz : LZip w1 (OwnSet B w1 v) acc xs) (hp : PatF W2 (OwnSet B W2 v) l (.slice A l.length c))
  (ho : W3.ownsRow B 281 3 v' (acc.length + 1) (xs ++ [.int .i64 f,.int .i64 p,.slice A l.length c])) (hg : W2.grownBy W3 v.ownBlock) (hw : v'.ownBlock = v.ownBlock ∨ v'.ownBlock = some W2.heap.size) : OwnL B W3 v' (acc ++ [⟨f,p,l⟩]):=by
 refine ⟨_,by rw [List.length_append]; exact ho,?_⟩
 have g : ∀ b,OwnSet B W2 v b -> OwnSet B W3 v' b /\ W3.heap[b]? = W2.heap[b]?:=fun b hb=>by
  obtain ⟨⟨hb1,hb2⟩,hb3⟩:=hb
  refine ⟨⟨⟨hb1,Nat.lt_of_lt_of_le hb2 hg.size⟩,?_⟩,hg.block b hb2 hb3⟩
  rcases hw with e | e
  ·rw [e]; exact hb3
  ·rw [e]; intro e2; have:=Option.some.inj e2; omega
 refine LZip.carry g _ _ (LZip.snoc hp acc xs (LZip.carry (fun b hb=>?_) _ _ hz))
 obtain ⟨⟨hb1,hb2⟩,hb3⟩:=hb
 exact ⟨⟨⟨hb1,Nat.lt_of_lt_of_le hb2 K.size⟩,hb3⟩,K.others b hb2 (by omega)⟩
end Go.Proofs.YtgdkpamlkpncgaaGreatDoor
