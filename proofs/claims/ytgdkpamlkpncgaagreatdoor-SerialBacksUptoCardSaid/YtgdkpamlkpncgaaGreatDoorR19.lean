/-
  Several texts put together (part 19): what the law and the program call, walked; their contracts.
-/
import Derived.Test.YtgdkpamlkpncgaaGreatDoorR18
import Derived.Test.YtgdkpamlkpncgaaGreatDoorR11
import Derived.Test.YtgdkpamlkpncgaaGreatDoorR8
import Derived.Test.YtgdkpamlkpncgaaGreatDoorR5
import Derived.Lib.Join
import Derived.Test.YtgdkpamlkpncgaaGreatDoorR17
namespace Go.Proofs.YtgdkpamlkpncgaaGreatDoor
open Go.RowKit
open _root_.Go.Lib (hid)
set_option linter.unusedVariables false
set_option linter.unusedSimpArgs false
theorem next_pos {s : ByteArray} {i : Nat} (hi : i <= s.size) {f p k : Nat} (h : nextS s i = some (f,p,k)) : i < k:=by
 have h0:=nl_wt i (s.size - i) 0 i i (Nat.le_refl _) hi (Nat.le_refl _) (by omega)
 unfold nextS at h
 split at h
 ·cases h
 ·next hn =>
  cases h
  have h1 : ¬ (nlS s 0 i i).2.2 = (nlS s 0 i i).2.1:=fun e=>hn (Or.inl e)
  omega
theorem OwnL.set {B : Nat} {W : World} {v : Value} {acc : List LN} (h : OwnL B W v acc) {nb : Nat} (hb : nb < B) (o : Nat) (x : Value) : OwnL B (W.setCell ⟨nb,o,none⟩ x) v acc:=by
 obtain ⟨xs,h1,h2⟩:=h
 refine ⟨xs,h1.kept (row:=some nb) ⟨rfl,rfl,rfl,by simp,fun k _ hk=>Below.heap_setCell _ _ _ _ (fun e=>hk (by simp [e]))⟩ (.inr (fun e=>by have:=(h1.lt nb e).1; omega)),LZip.carry (fun b hb'=>?_) _ _ h2⟩
 obtain ⟨⟨hb1,hb2⟩,hb3⟩:=hb'
 exact ⟨⟨⟨hb1,by simpa using hb2⟩,hb3⟩,Below.heap_setCell _ ⟨nb,o,none⟩ _ b (by show b ≠ nb; omega)⟩
theorem box_third {w : World} {k : Nat} {a b c : Value} {t : TypeId} (h : BoxAt w k #[a,b,c] t) (v : Value) : BoxAt (w.setCell ⟨k,2,none⟩ v) k #[a,b,v] t:=by
 unfold BoxAt at h ⊢
 simp [World.setCell,Array.getElem?_modify,h]
def patQ : Option (List LN × Nat) -> Option (List EL × Nat)
 | none=>none
 | some (ls,j)=>some (joinS ls,j)
theorem patS_q (P : Nat -> Res) (s : ByteArray) (i : Nat) : patS P s i = patQ (linesS P s [] 0 0 (sp s i)):=by
 unfold patS
 cases linesS P s [] 0 0 (sp s i) with
 | none=>rfl
 | some v=>obtain ⟨ls,j⟩:=v; rfl
set_option maxHeartbeats 4000000 in
set_option maxRecDepth 100000 in
theorem pattern_any {rb : Nat} {s : ByteArray} {d : Nat} {P : Nat -> Res} (hs : s.size <= 1000000000) (hd : d <= 3000) (hP : WayTo rb s 208 #[pt rb,.int .i64 ((d + 1 : Nat) : Int)] P) (hPos : PosOk s P) : PatTo rb s d (patS P s):=by
 intro i w hr hi
 obtain ⟨i0,hi0,hz0,hz1,hz2⟩:=info_parts infoLine
 have HR:=hid hr
 have hlt:=hr.lt
 have hS:=sp_ok s i hi
 have hP1:=fun W (h : Rd rb s i W)=>pass_any endSpaces W h (by omega) hi
 obtain ⟨R,hRR⟩ : ∃ R,linesS P s [] 0 0 (sp s i) = R:=⟨_,rfl⟩
 have hwt:=fun ls j h=>lines_wt hPos _ _ _ _ _ (Nat.le_refl _) hS.2 ls j (hRR.trans h)
 rw [patS_q,hRR]
 obtain ⟨p0,hp0⟩ : ∃ p,sp s i = p:=⟨_,rfl⟩
 rw [hp0] at hS hP1 hRR hwt
 have hPt:=fun j W (h : Rd rb s j W) hj=>parts_any hs (show d + 1 <= 4000 by omega) hP hPos j W h hj
 have hNx:=fun j W (h : Rd rb s j W) hj=>nextLine_any hs j W h hj
 obtain ⟨Q,hQ⟩ : ∃ Q,patQ R = Q:=⟨_,rfl⟩
 rw [show ((d + 1 : Nat) : Int) = (d : Int) + 1 by omega] at hPt
 rw [hQ]
 have HP1:=hid hP1
 have HPt:=hid hPt
 have HNx:=hid hNx
 have HQ:=hid hQ
 have HRR:=hid hRR
 have Hwt:=hid hwt
 have hd0 : (d : Int) <= 3000:=by omega
 clear hr hP1 hp0 hP hPos hPt hNx hQ hRR hwt
 unfold pt at HP1 HPt HNx ⊢
 go_enter Tryz.func130,Tryz.ntmps130
 go_wp2_with fail
 go_at_call 169
 refine (HP1.out _ HR.out).mono ?_
 rintro e w1 ⟨rfl,g1,g2⟩
 have G1:=hid g1
 have HK:=hid g2
 clear g1 g2
 go_wp2
 go_loopw [6,8] (fun t6 t8 wr=>∃ (acc : List LN) (j f p : Nat) (gb : Bool) (A : Option Addr) (c : Nat),t6 = .slice A acc.length c /\ t8 = .bool gb /\ j <= s.size /\ f <= s.size /\ p <= s.size /\ acc.length <= j + 1 /\ (gb = true -> acc.length <= j) /\ Hid (gb = true -> linesS P s acc f p j = R) /\ Hid (gb = false -> some (acc,j) = R /\ 0 < acc.length) /\ Hid (Rd rb s j wr) /\ Hid (Kp rb w wr) /\ Hid (BoxAt wr w1.heap.size #[.int .i64 f,.int .i64 p,.slice none 0 0] 281) /\ Hid (OwnL (w1.heap.size + 1) wr (.slice A acc.length c) acc)) (fun _ t8 wr=>match t8 with | .bool true=>s.size - posOf rb wr + 1 | _=>0)
 case atStart=>exact ⟨[],p0,0,0,true,none,0,rfl,rfl,hS.2,Nat.zero_le _,Nat.zero_le _,Nat.zero_le _,fun _=>Nat.zero_le _,fun _=>HRR.out,(fun h=>by cases h),G1.out.alloc _,HK.out.alloc (by have:=HK.out.size; omega) _,BoxAt.new _ _ _,OwnL.nil _ _⟩
 case round =>
  obtain ⟨acc,j,f,p,gb,A,c,rfl,rfl,hj,hf,hp,hal,hal2,Hl,He,HRd,HKr,HB,HO⟩:=hrel
  have Hpos:=hid HRd.out.pos
  have hs1:=HK.out.size
  have hsr:=HKr.out.size
  have hbl:=HB.out.lt
  cases gb
  case false =>
   obtain ⟨hRe,h0⟩:=He.out rfl
   obtain ⟨xs,ho,hz⟩:=HO.out
   rcases ho.2 with ⟨_,hn⟩ | ⟨g,cap,cur,hv,hb,hg,hc1,hc2,hcs,htk⟩
   ·omega
   cases hv
   have hw:=(Hwt.out acc j hRe.symm).1
   have hw0 : wtLs ([] : List LN) = 0:=rfl
   have hJ:=join_any acc (OwnSet (w1.heap.size + 1) wr (.slice (some ⟨g,0,none⟩) acc.length c)) g c wr h0 hc1 (by omega) (by omega) (LZip.at_ acc xs 0 (fun j x hx=>by
    have:=ho.cells (g:=g) rfl j x hx
    rw [Addr.add_mid] at this
    exact this) hz) (Array.getElem?_eq_some_iff.1 hg).1 (fun b hb=>hb.1.2)
   have HJ:=hid hJ
   have HRe:=hid hRe
   clear hJ hRe hw hw0 ho hz hg hcs htk hc1 hc2
   go_wp2_with fail
   go_at_call 172
   refine (HJ.out).mono ?_
   rintro e w2 ⟨hb2,A2,n2,c2,rfl,hn,hn4,hpat⟩
   have HB2:=hid hb2
   have HPt2:=hid hpat
   clear hb2 hpat
   go_wp2
   go_ret2
   have hQe : Q = some (joinS acc,j):=by rw [<- HQ.out,<- HRe.out]; rfl
   subst hQe
   have hb2:=HB2.out.size
   refine ⟨HKr.out.trans (Kp.of_below HB2.out (by omega)),A2,n2,c2,j,rfl,HRd.out.later HB2.out,hj,hn4,fun l m h=>?_⟩
   cases h
   refine ⟨rfl,hn,PatF.carry (fun b hb=>?_) HPt2.out⟩
   rcases hb with ⟨⟨b1,b2⟩,_⟩ | ⟨b1,b2⟩
   ·exact ⟨⟨by omega,by omega⟩,rfl⟩
   ·exact ⟨⟨by omega,b2⟩,rfl⟩
  case true =>
   have hans:=Hl.out rfl
   have hal3:=hal2 rfl
   rw [linesS] at hans
   have hPt:=fun W h=>HPt.out j W h hj
   obtain ⟨r,hrr⟩ : ∃ r,partsS P s [] j = r:=⟨_,rfl⟩
   have hjp:=fun ps j' (h : r = some (ps,j'))=>parts_pos _ _ _ (Nat.le_refl _) hj ps j' (hrr.trans h)
   rw [hrr] at hPt hans
   have HPr:=hid hPt
   have Hans:=hid hans
   have Hjp:=hid hjp
   have hacc : (acc.length : Int) <= 1000000000:=by omega
   have hrb1 : rb ≠ w1.heap.size:=by omega
   clear hPt hans hrr hjp
   go_wp2_with fail
   go_at_call 171
   refine (HPr.out _ HRd.out).mono ?_
   rintro e w2 ⟨h1,A2,n2,c2,j2,rfl,h2,hj2,h3⟩
   have HK2:=hid (HKr.out.trans h1)
   have HB2:=hid (BoxAt.kp HB.out h1 (fun e=>hrb1 e.symm))
   have HO2:=hid (HO.out.kp h1 (by omega))
   have H2:=hid h2
   have H3:=hid h3
   have hs2:=h1.size
   clear h1 h2 h3
   cases r with
   | none =>
    have hR:=Hans.out
    dsimp only at hR
    have HRn:=hid hR
    clear hR
    go_wp2
    go_ret2
    have hQe : Q = none:=by rw [<- HQ.out,<- HRn.out]; rfl
    subst hQe
    exact ⟨HK2.out,none,0,0,j2,rfl,H2.out,hj2,Nat.zero_le _,fun l m h=>by cases h⟩
   | some pj =>
    obtain ⟨ps,j2'⟩:=pj
    obtain ⟨rfl,hpl,hpn,hpt⟩:=H3.out ps j2' rfl
    subst hpl
    have hR:=Hans.out
    dsimp only at hR
    have hjj:=Hjp.out _ _ rfl
    have hNx:=fun W h=>HNx.out j2' W h hj2
    have hnp:=fun f' p' k (h : nextS s j2' = some (f',p',k))=>next_pos hj2 h
    obtain ⟨rn,hrn⟩ : ∃ r,nextS s j2' = r:=⟨_,rfl⟩
    rw [hrn] at hR hNx hnp
    have HRn:=hid hR
    have HN:=hid hNx
    have Hnp:=hid hnp
    have HPF:=hid hpt
    obtain ⟨q0,q1,q2,p0',p1,p2⟩:=cells3 HB2.out
    have hl2:=HB2.out.lt
    obtain ⟨xs6,ho6,hz6⟩:=(HO2.out.set (nb:=w1.heap.size) (by omega) 2 (.slice A2 ps.length c2))
    have hown1:=ho6.alloc (.cells #[.int .i64 f,.int .i64 p,.slice A2 ps.length c2] 281)
    have hnew : BoxAt ((w2.setCell ⟨w1.heap.size,2,none⟩ (.slice A2 ps.length c2)).alloc (.cells #[.int .i64 f,.int .i64 p,.slice A2 ps.length c2] 281)) w2.heap.size #[.int .i64 f,.int .i64 p,.slice A2 ps.length c2] 281:=BoxAt.new' _ _ _ _ (by simp)
    have hmid : BoxAt ((w2.setCell ⟨w1.heap.size,2,none⟩ (.slice A2 ps.length c2)).alloc (.cells #[.int .i64 f,.int .i64 p,.slice A2 ps.length c2] 281)) w1.heap.size #[.int .i64 f,.int .i64 p,.slice A2 ps.length c2] 281:=(box_third HB2.out (.slice A2 ps.length c2)).alloc _
    have Hmid:=hid hmid
    clear hmid
    obtain ⟨_,ho5,_⟩:=HO.out
    have Hv5:=hid (fun k e=>ho5.lt k e)
    clear hR hNx hnp hrn hpt ho6 ho5
    go_wp2_with (at_builtin; refine wpList_append_where _ rfl _ _ 278 rfl (w1.heap.size + 1) 281 i0 (.agg #[.int .i64 0,.int .i64 0,.slice none 0 0]) 3 40 Tryz.underlying278 hi0 hz0 hz1 hz2 rfl (by decide) _ _ _ rfl hown1 ⟨w2.heap.size,0,none⟩ 1 1 [.int .i64 f,.int .i64 p,.slice A2 ps.length c2] rfl rfl ?c1 ?c2 ?c3 ?c4 ?c5 ?c6 ?_)
    case c1 =>
     intro j u hj
     match j,hj with
     | 0,hj=>simp at hj; subst hj; exact hnew.cell 0
     | 1,hj=>simp at hj; subst hj; exact hnew.cell 1
     | 2,hj=>simp at hj; subst hj; exact hnew.cell 2
    case c2=>intro u hu; simp at hu; rcases hu with rfl | rfl | rfl <;> rfl
    case c3=>unfold maxLen; omega
    case c4=>omega
    case c5=>simp; omega
    case c6=>decide
    intro v' w8 hown' hgrow hwh
    have K2 : Kp rb (w2.setCell ⟨w1.heap.size,2,none⟩ (.slice A2 ps.length c2)) ((w2.setCell ⟨w1.heap.size,2,none⟩ (.slice A2 ps.length c2)).alloc (.cells #[.int .i64 f,.int .i64 p,.slice A2 ps.length c2] 281)):=(Kp.refl rb _).alloc (by simp; omega) _
    have hcar : ∀ b,Since wr.heap.size w2 b -> OwnSet (w1.heap.size + 1) ((w2.setCell ⟨w1.heap.size,2,none⟩ (.slice A2 ps.length c2)).alloc (.cells #[.int .i64 f,.int .i64 p,.slice A2 ps.length c2] 281)) (.slice A acc.length c) b /\ ((w2.setCell ⟨w1.heap.size,2,none⟩ (.slice A2 ps.length c2)).alloc (.cells #[.int .i64 f,.int .i64 p,.slice A2 ps.length c2] 281)).heap[b]? = w2.heap[b]?:=fun b hb=>by
     obtain ⟨b1,b2⟩:=hb
     refine ⟨⟨⟨by omega,by simp; omega⟩,fun e=>by have:=Hv5.out b e.symm; omega⟩,?_⟩
     exact (Lib.alloc_old _ _ b (by simpa using b2)).trans (Below.heap_setCell _ ⟨w1.heap.size,2,none⟩ _ b (by show b ≠ w1.heap.size; omega))
    have HO8:=hid (ownL_push (rb:=rb) (f:=f) (p:=p) (l:=ps) (by omega) K2 hz6 (PatF.carry hcar HPF.out) hown' hgrow (by simpa using hwh))
    have G8:=hid (((H2.out.setOther hrb1 2 _).alloc _).grown hgrow (fun k e=>by have:=Hv5.out k e; omega))
    have HK8:=hid (Kp.grown ((HK2.out.setNew (b:=w1.heap.size) hs1 hlt 2 _).alloc (by simp; omega) _) hgrow (fun k e=>by have:=(Hv5.out k e).1; omega) hlt)
    have HB8:=hid (show BoxAt w8 w1.heap.size #[.int .i64 f,.int .i64 p,.slice A2 ps.length c2] 281 from (hgrow.block w1.heap.size Hmid.out.lt (fun e=>by have:=(Hv5.out _ e.symm).1; omega)).trans Hmid.out)
    obtain ⟨A9,c9,rfl⟩:=own_slice hown' (by omega)
    clear hown' hgrow hwh K2 hcar hnew q0 q1 q2 p0' p1 p2 hown1 hz6
    go_wp2_with fail
    go_at_call 170
    refine (HN.out _ G8.out).mono ?_
    rintro e w9 ⟨h4,f',p',j3,rfl,h5,hj3,hf',hp',hnone,hsome⟩
    have HK9:=hid (HK8.out.trans h4)
    have HB9:=hid (BoxAt.kp HB8.out h4 (fun e=>hrb1 e.symm))
    have HO9:=hid (HO8.out.kp h4 (by omega))
    have H9:=hid h5
    have hl9:=HB9.out.lt
    obtain ⟨q0,q1,q2,p0',p1,p2⟩:=cells3 HB9.out
    have Hnone:=hid hnone
    have Hsome:=hid hsome
    clear h4 h5 hnone hsome
    go_wp2
    go_roundw
    case rel =>
     refine ⟨acc ++ [⟨f,p,ps⟩],j3,f',p',rn.isSome,A9,c9,?_,rfl,hj3,hf',hp',?_,?_,?_,?_,H9.out.set3 hrb1 _ _ _,HK9.out.set3 hs1 hlt _ _ _,box_set3 HB9.out _ _ _,?_⟩
     ·show Value.slice A9 _ c9 = _
      simp
     ·rw [List.length_append,List.length_singleton]
      cases rn with
      | none=>have:=Hnone.out rfl; omega
      | some v=>obtain ⟨f2,p2,k2⟩:=v; have:=Hnp.out _ _ _ rfl; obtain ⟨_,_,e⟩:=Hsome.out _ _ _ rfl; omega
     ·intro hg
      rw [List.length_append,List.length_singleton]
      cases rn with
      | none=>cases hg
      | some v=>obtain ⟨f2,p2,k2⟩:=v; have:=Hnp.out _ _ _ rfl; obtain ⟨_,_,e⟩:=Hsome.out _ _ _ rfl; omega
     ·intro hg
      cases rn with
      | none=>cases hg
      | some v =>
       obtain ⟨f2,p2,k2⟩:=v
       have:=Hnp.out _ _ _ rfl
       obtain ⟨rfl,rfl,rfl⟩:=Hsome.out _ _ _ rfl
       have hR:=HRn.out
       dsimp only at hR
       rw [dif_pos (show j < k2 /\ k2 <= s.size from ⟨by omega,hj3⟩)] at hR
       exact hR
     ·intro hg
      cases rn with
      | some v=>cases hg
      | none =>
       have e:=Hnone.out rfl
       subst e
       have hR:=HRn.out
       dsimp only at hR
       exact ⟨hR,by simp⟩
     ·rw [List.length_append,List.length_singleton]
      exact ((HO9.out.set (nb:=w1.heap.size) (by omega) 0 _).set (nb:=w1.heap.size) (by omega) 1 _).set (nb:=w1.heap.size) (by omega) 2 _
    case measure =>
     have e3:=(H9.out.set3 hrb1 (.int .i64 f') (.int .i64 p') (.slice none 0 0)).pos
     cases rn with
     | none=>show 0 < s.size - posOf rb wr + 1; omega
     | some v =>
      obtain ⟨f2,p2,k2⟩:=v
      have:=Hnp.out _ _ _ rfl
      obtain ⟨_,_,e⟩:=Hsome.out _ _ _ rfl
      have e4:=Hpos.out
      show s.size - posOf rb (set3 w9 w1.heap.size (.int .i64 f') (.int .i64 p') (.slice none 0 0)) + 1 < s.size - posOf rb wr + 1
      rw [e3,e4]
      omega
theorem or_some {α : Type} {a b : Option α} {v : α} (h : a.or b = some v) : a = some v ∨ b = some v:=by
 cases a with
 | none=>exact .inr (by simpa using h)
 | some x=>exact .inl (by simpa using h)
section
variable {s : ByteArray} {P : Nat -> Res} {i j : Nat} {e : EX}
theorem quo_pos (hi : i <= s.size) (h : quoS s i = some (e,j)) : i < j /\ j <= s.size:=by
 obtain ⟨T,n,b,_,hn,_,h4⟩:=quo_val s i hi
 obtain ⟨rfl,_,h0⟩:=h4 _ _ h
 omega
theorem var_pos (hi : i <= s.size) (h : varS s i = some (e,j)) : i < j /\ j <= s.size:=by
 unfold varS at h
 split at h
 ·next hc =>
  rw [Bool.and_eq_true,decide_eq_true_iff] at hc
  have h1:=isAt_lt hc.1
  have h2:=nm_ok s (i + 1) h1
  cases h
  omega
 ·cases h
theorem nest_pos (hP : PosOk s P) (h : nestS P i = some (e,j)) : i < j /\ j <= s.size:=by
 unfold nestS at h
 split at h
 ·next hp=>cases h; exact hP _ _ _ hp
 ·cases h
theorem ref_pos {k : Int} (hi : i <= s.size) (h : refS k s i = some (e,j)) : i < j /\ j <= s.size:=by
 unfold refS at h
 have h1:=nm_ok s i hi
 split at h
 ·cases h
 ·split at h
  ·next hd =>
   have h2:=isAt_lt hd
   have h3:=nm_ok s (nm s i + 1) h2
   split at h
   ·cases h
   ·cases h; omega
  ·cases h; omega
theorem ter_pos (hi : i <= s.size) (h : terS s i = some (e,j)) : i < j /\ j <= s.size:=by
 unfold terS at h
 split at h
 ·next hc =>
  have h1:=isAt_lt hc
  have:=ref_pos (by omega) h
  omega
 ·cases h
theorem nub_pos (hi : i <= s.size) (h : nubS s i = some (e,j)) : i < j /\ j <= s.size:=by
 unfold nubS at h
 have h1:=nu_ok s i hi
 split at h
 ·cases h
 ·cases h; omega
theorem head_pos (hP : PosOk s P) (hi : i <= s.size) (h : headS P s i = some (e,j)) : i < j /\ j <= s.size:=by
 unfold headS at h
 rcases or_some h with h | h
 ·exact quo_pos hi h
 rcases or_some h with h | h
 ·exact var_pos hi h
 rcases or_some h with h | h
 ·exact nest_pos hP h
 rcases or_some h with h | h
 ·exact ter_pos hi h
 rcases or_some h with h | h
 ·exact ref_pos hi h
 ·exact nub_pos hi h
theorem opn_pos (e : EX) (hj : j <= s.size) : j <= (opnS s e j).2 /\ (opnS s e j).2 <= s.size:=by
 unfold opnS
 have h1:=bl_ok s j hj
 split
 ·split
  ·next hc=>have h2:=isAt_lt hc; exact ⟨by show j <= bl s j + 1; omega,h2⟩
  ·exact h1
 ·exact ⟨Nat.le_refl _,hj⟩
theorem nam_pos {n : ByteArray} (hi : i <= s.size) (h : namS s i = some (n,e,j)) : i < j /\ j <= s.size:=by
 unfold namS at h
 have h1:=nm_ok s i hi
 have h2:=bl_ok s (nm s i) h1.2
 split at h
 ·cases h
 ·split at h
  ·next hc =>
   have h3:=isAt_lt hc
   have h4:=bl_ok s (bl s (nm s i) + 1) h3
   split at h
   ·next e' q ho =>
    cases h
    have : bl s (bl s (nm s i) + 1) < j /\ j <= s.size:=by
     rcases or_some ho with ho | ho
     ·exact quo_pos h4.2 ho
     ·exact nub_pos h4.2 ho
    omega
   ·cases h
  ·cases h
theorem arg_pos {n : ByteArray} (hP : PosOk s P) (hi : i <= s.size) (h : argS P s i = some (n,e,j)) : i < j /\ j <= s.size:=by
 unfold argS at h
 split at h
 ·next hn=>cases h; exact nam_pos hi hn
 ·split at h
  ·next hh=>cases h; exact head_pos hP hi hh
  ·cases h
theorem args_pos (hP : PosOk s P) : ∀ (m : Nat) (xs : List AR) (want : Bool) (i : Nat),s.size - i <= m -> i <= s.size -> ∀ l j,argsS P s xs want i = some (l,j) -> i < j /\ j <= s.size:=by
 intro m
 induction m with
 | zero =>
  intro xs want i hm hi l j h
  have h1:=bl_ok s i hi
  rw [argsS] at h
  split at h
  ·next hc=>have:=isAt_lt hc; omega
  ·split at h
   ·split at h
    ·next hc=>have:=isAt_lt hc; omega
    ·cases h
   ·split at h
    ·cases h
    ·next hh=>have:=arg_pos hP h1.2 hh; omega
 | succ m ih =>
  intro xs want i hm hi l j h
  have h1:=bl_ok s i hi
  rw [argsS] at h
  split at h
  ·next hc=>have:=isAt_lt hc; cases h; omega
  ·split at h
   ·split at h
    ·next hc =>
     have h2:=isAt_lt hc
     have:=ih _ _ _ (by omega) h2 l j h
     omega
    ·cases h
   ·split at h
    ·cases h
    ·next n e' j' hh =>
     have h2:=arg_pos hP h1.2 hh
     split at h
     ·split at h
      ·next hg =>
       split at h
       ·cases h
       ·next hh2 =>
        have h3:=ih _ _ _ (by omega) hg.2 _ _ hh2
        split at h
        ·next hg2 =>
         split at h
         ·have:=ih _ _ _ (by omega) hg2.2 l j h
          omega
         ·cases h
        ·cases h
      ·cases h
     ·generalize (if emp n = true then (opnS s e' j').2 else j') = q at h
      split at h
      ·next hg =>
       split at h
       ·have:=ih _ _ _ (by omega) hg.2 l j h
        omega
       ·cases h
      ·cases h
theorem inl_pos (hP : PosOk s P) (hi : i <= s.size) (h : inlS P s i = some (e,j)) : i < j /\ j <= s.size:=by
 unfold inlS at h
 split at h
 ·cases h
 ·next e' j' hh =>
  have h1:=head_pos hP hi hh
  have h2:=opn_pos e' h1.2
  split at h
  ·split at h
   ·cases h
   ·next ha =>
    cases h
    have:=args_pos hP _ _ _ _ (Nat.le_refl _) h2.2 _ _ ha
    omega
  ·cases h; omega
theorem vars_pos : ∀ (m : Nat) (acc : List VA) (i : Nat),s.size - i <= m -> i <= s.size -> ∀ l j,varsS P s acc i = some (l,j) -> i < j /\ j <= s.size:=by
 intro m
 induction m with
 | zero =>
  intro acc i hm hi l j h
  rw [varsS] at h
  split at h
  ·next hc=>have:=isAt_lt hc; omega
  ·split at h
   ·cases h
   ·split at h
    ·next hg=>omega
    ·cases h
 | succ m ih =>
  intro acc i hm hi l j h
  rw [varsS] at h
  split at h
  ·next hc =>
   have:=isAt_lt hc
   split at h
   ·cases h; omega
   ·cases h
  ·split at h
   ·cases h
   ·split at h
    ·next hg=>have:=ih _ _ (by omega) hg.2 l j h; omega
    ·cases h
theorem sel_pos {l : List VA} (hi : i <= s.size) (h : selS P s i = some (l,j)) : i < j /\ j <= s.size:=by
 unfold selS at h
 have h1:=sp_ok s i hi
 split at h
 ·next hc =>
  have h2:=isAt_lt hc
  have h3:=bl_ok s (sp s i + 1) h2
  have:=vars_pos _ _ _ (Nat.le_refl _) h3.2 _ _ h
  omega
 ·cases h
theorem pl_pos (hP : PosOk s P) : PosOk s (plS P s):=by
 intro i e j h
 unfold plS at h
 split at h
 ·next hc =>
  have h1:=isAt_lt hc
  have h2:=bl_ok s (i + 1) h1
  split at h
  ·cases h
  ·next e' j' hin =>
   have h3:=inl_pos hP h2.2 hin
   have h4:=bl_ok s j' h3.2
   split at h
   ·next hb =>
    have h5:=isAt_lt hb
    split at h
    ·cases h
    ·cases h; omega
   ·split at h
    ·next hb =>
     rw [Bool.and_eq_true,Bool.and_eq_true] at hb
     have h5:=isAt_lt hb.1.2
     split at h
     ·cases h
     ·next hsl =>
      cases h
      have:=sel_pos (by omega) hsl
      omega
    ·cases h
 ·cases h
end
theorem place_pos (s : ByteArray) : ∀ r,PosOk s (placeS s r)
 | 0=>by
  intro i e j h
  rw [placeS] at h
  cases h
 | r + 1=>by
  rw [placeS_succ]
  exact pl_pos (place_pos s r)
def InKnot (rb : Nat) (s : ByteArray) : Prop:=∀ (d : Nat) (P : Nat -> Res),d <= 20 -> WayTo rb s 208 #[pt rb,.int .i64 ((d + 1 : Nat) : Int)] P -> PosOk s P -> WayTo rb s 237 #[pt rb,.int .i64 d] (inlS P s)
theorem place_knot {rb : Nat} {s : ByteArray} (hs : s.size <= 1000000000) (hIn : InKnot rb s) : ∀ (r d : Nat),d + r = 21 -> WayTo rb s 208 #[pt rb,.int .i64 (d : Nat)] (placeS s r)
 | 0,d,h=>by
  have:=place_deep (rb:=rb) (s:=s) (d:=d) (by omega) (by omega)
  have e : placeS s 0 = fun _=>none:=by funext i; rw [placeS]
  rw [e]
  exact this
 | r + 1,d,h=>by
  rw [placeS_succ]
  have hP:=place_knot hs hIn r (d + 1) (by omega)
  have hPos:=place_pos s r
  refine place_any hs (by omega) (hIn d _ (by omega) hP hPos) ?_
  intro i w hr hi
  exact variants_any hs (by omega) (pattern_any hs (by omega) hP hPos) i w hr hi
def li (s : ByteArray) (i : Nat) : Nat:=behN nlB s.data.toList i
def beh (s : ByteArray) (i : Nat) : Nat:=if li s i < s.size then li s i + 1 else s.size
theorem li_ok (s : ByteArray) (i : Nat) (hi : i <= s.size) : i <= li s i /\ li s i <= s.size:=⟨behN_ge _ _ _,by have:=behN_le nlB s.data.toList i (by rw [size_data]; exact hi); rw [size_data] at this; exact this⟩
theorem beh_ok (s : ByteArray) (i : Nat) (hi : i <= s.size) : i <= beh s i /\ beh s i <= s.size /\ (i < s.size -> i < beh s i):=by
 have:=li_ok s i hi
 unfold beh
 split <;> omega
def passE (s : ByteArray) (i : Nat) : Nat :=
 if h : i < s.size then
  if sp s i < s.size /\ isAt s (sp s i) 10 = false then i
  else if h2 : i < beh s (sp s i) then passE s (beh s (sp s i)) else i
 else i
termination_by s.size - i
decreasing_by omega
def mayB (s : ByteArray) (i : Nat) : Bool:=isAt s i 35 || isAt s i 45 || decide (i < nm s i)
def junkTo (s : ByteArray) (i : Nat) : Nat :=
 if h : i < s.size /\ mayB s i = false then
  if h2 : i < beh s i then junkTo s (beh s i) else i
 else i
termination_by s.size - i
decreasing_by omega
def namedS (s : ByteArray) (i : Nat) : Option (ByteArray × List EL × Nat) :=
 if nm s i = i then none
 else if isAt s (sp s (nm s i)) 61 then
  match patS (placeS s 20) s (sp s (nm s i) + 1) with
  | none=>none
  | some (l,e)=>if e = s.size ∨ isAt s e 10 = true then some (s.extract i (nm s i),l,e) else none
 else none
def attrS (s : ByteArray) (i : Nat) : Option (ByteArray × List EL × Nat) :=
 if isAt s (bl s i) 46 && (at0 s.data.toList (bl s i - 1) == 32) then
  match namedS s (bl s i + 1) with
  | none=>none
  | some (x,l,e)=>if l.isEmpty then none else some (x,l,e)
 else none
def atsS (s : ByteArray) (acc : List AT) (i : Nat) : List AT × Nat :=
 match attrS s i with
 | none=>(acc,i)
 | some (x,l,e)=>if h : i < e /\ e <= s.size then atsS s (acc ++ [.mk x l]) e else (acc,i)
termination_by s.size - i
decreasing_by omega
structure EN where
 ty : Int
 lv : Int
 tx : ByteArray
 nm : ByteArray
 val : List EL
 ats : List AT
 fr : Nat
 tu : Nat
def msgS (s : ByteArray) (i : Nat) : Option EN :=
 match namedS s (if isAt s i 45 then i + 1 else i) with
 | none=>none
 | some (x,l,e) =>
  if !l.isEmpty || (!isAt s i 45 && !(atsS s [] e).1.isEmpty) then some ⟨if isAt s i 45 then 2 else 1,0,E0,x,l,(atsS s [] e).1,i,beh s (atsS s [] e).2⟩ else none
def junkS (s : ByteArray) (i : Nat) : EN:=⟨3,0,s.extract i (junkTo s (beh s i)),E0,[],[],i,junkTo s (beh s i)⟩
def hsB (c : UInt8) : Bool:=c == 35
def hs (s : ByteArray) (i : Nat) : Nat:=behN hsB s.data.toList i
def comL (s : ByteArray) (i : Nat) : Nat × ByteArray :=
 if 3 < hs s i - i ∨ (hs s i < li s i /\ isAt s (hs s i) 32 = false) then (0,E0)
 else (hs s i - i,if hs s i < li s i then s.extract (hs s i + 1) (li s i) else E0)
def comGo (s : ByteArray) (lv : Nat) (acc : List ByteArray) (k : Nat) (w : ByteArray) : List ByteArray × Nat :=
 if h : (comL s (beh s k)).1 = lv /\ k < beh s k /\ beh s k <= s.size then comGo s lv (acc ++ [w]) (beh s k) (comL s (beh s k)).2
 else (acc ++ [w],beh s k)
termination_by s.size - k
decreasing_by omega
def comS (s : ByteArray) (i : Nat) : Option EN :=
 if (comL s i).1 = 0 then none
 else some ⟨0,(comL s i).1,mkB (Lib.join ((comGo s (comL s i).1 [] i (comL s i).2).1.map (·.data.toList)) [10]),E0,[],[],i,(comGo s (comL s i).1 [] i (comL s i).2).2⟩
def readS (s : ByteArray) (i : Nat) : EN:=match comS s i with
 | some x=>x
 | none=>match msgS s i with
  | some x=>x
  | none=>junkS s i
def parseGo (s : ByteArray) (acc : List EN) (i : Nat) : List EN :=
 if h : i < s.size /\ i < passE s (readS s i).tu then parseGo s (acc ++ [readS s i]) (passE s (readS s i).tu) else acc
termination_by s.size - i
decreasing_by omega
def parseS (s : ByteArray) : List EN:=parseGo s [] (passE s 0)
theorem line_nat (s : ByteArray) (i : Nat) (hs : s.size <= 4000000000) (hi : i <= s.size) (w : World) : Calls Tryz.prog 62 #[.string s,.int .i64 i] w fun e w'=>e = .returned (.int .i64 (li s i : Nat)) /\ w = w':=by
 have h:=line_any s (i : Int) w (by omega)
 have e : lineI s.data.toList (i : Int) = (li s i : Nat):=by
  unfold lineI li
  by_cases hl : i < s.size
  ·rw [if_pos ⟨by omega,by rw [size_data]; omega⟩,Int.toNat_natCast]
  ·rw [if_neg (by rw [size_data]; omega)]
   have:=behN_end nlB s.data.toList i (by rw [size_data]; omega)
   rw [this]
 rw [e] at h
 exact h
set_option maxHeartbeats 1000000 in
theorem behind_any (s : ByteArray) (i : Nat) (hs : s.size <= 4000000000) (hi : i <= s.size) (w : World) : Calls Tryz.prog 40 #[.string s,.int .i64 i] w fun e w'=>e = .returned (.int .i64 (beh s i : Nat)) /\ w = w':=by
 have hL:=fun W=>line_nat s i hs hi W
 have hok:=li_ok s i hi
 obtain ⟨l,hl⟩ : ∃ l,li s i = l:=⟨_,rfl⟩
 unfold beh
 rw [hl] at hL hok ⊢
 have HL:=hid hL
 have hl0 : (l : Int) <= 4000000000:=by omega
 clear hL hl
 by_cases h : l < s.size
 ·rw [if_pos h]
  have h1 : ((l : Int) + 1) <= (s.size : Int):=by omega
  have h2 : min ((l : Int) + 1) (s.size : Int) = (l : Int) + 1:=by omega
  go_enter Tryz.func40,Tryz.ntmps40
  go_wp2_with fail
  go_at_call 62
  refine (HL.out _).mono ?_
  rintro e w' ⟨rfl,rfl⟩
  go_wp2
  go_ret
  exact ⟨by go_num,rfl⟩
 ·rw [if_neg h]
  have h0 : l = s.size:=by omega
  have h1 : ¬ ((l : Int) + 1) <= (s.size : Int):=by omega
  have h2 : min ((l : Int) + 1) (s.size : Int) = (s.size : Int):=by omega
  clear h0
  go_enter Tryz.func40,Tryz.ntmps40
  go_wp2_with fail
  go_at_call 62
  refine (HL.out _).mono ?_
  rintro e w' ⟨rfl,rfl⟩
  go_wp2
  go_ret
  exact ⟨rfl,rfl⟩
theorem isAt_get (s : ByteArray) (q : Nat) (hc : q < s.size) (c : UInt8) : isAt s q c = ((s[q]'hc).toNat == c.toNat):=by
 unfold isAt at0
 rw [decide_eq_true hc,Bool.true_and,List.getD_eq_getElem?_getD,List.getElem?_eq_getElem (by rw [size_data]; exact hc),Option.getD_some,Bool.eq_iff_iff,beq_iff_eq,beq_iff_eq]
 exact ⟨fun h=>by rw [show (s.data.toList[q]'(by rw [size_data]; exact hc)) = s[q]'hc from rfl] at h; rw [h],fun h=>UInt8.toNat_inj.1 h⟩
theorem passE_go (s : ByteArray) (i : Nat) (hi : i < s.size) (h : ¬ (sp s i < s.size /\ isAt s (sp s i) 10 = false)) : passE s i = passE s (beh s (sp s i)) /\ i < beh s (sp s i) /\ beh s (sp s i) <= s.size:=by
 have h1 : i <= sp s i:=sp_ge s i
 have h2 : sp s i <= s.size:=by have:=behN_le spB s.data.toList i (by rw [size_data]; omega); rw [size_data] at this; exact this
 have h3:=beh_ok s (sp s i) h2
 have h4 : i < beh s (sp s i):=by
  by_cases hl : sp s i < s.size
  ·have:=h3.2.2 hl; omega
  ·unfold beh
   have:=li_ok s (sp s i) h2
   rw [if_neg (by omega)]
   exact hi
 refine ⟨?_,h4,h3.2.1⟩
 rw [passE,dif_pos hi,if_neg h,dif_pos h4]
set_option maxHeartbeats 2000000 in
set_option maxRecDepth 100000 in
theorem passEmpty_any (s : ByteArray) (i : Nat) (hs : s.size <= 4000000000) (hi : i <= s.size) (w : World) : Calls Tryz.prog 23 #[.string s,.int .i64 i] w fun e w'=>e = .returned (.int .i64 (passE s i : Nat)) /\ Below w.heap.size w w':=by
 have HS:=hid (fun j W (hj : j <= s.size)=>((endSpaces (s:=s)).2 j W hs hj).2.2)
 have HB:=hid (fun j W (hj : j <= s.size)=>behind_any s j hs hj W)
 obtain ⟨R,hR⟩ : ∃ R,passE s i = R:=⟨_,rfl⟩
 rw [hR]
 have HR:=hid hR
 clear hR
 go_enter Tryz.func23,Tryz.ntmps23
 go_wp2
 go_loopw [1] (fun t1 wr=>∃ j : Nat,t1 = .int .i64 j /\ j <= s.size /\ Hid (passE s j = R) /\ Hid (Below w.heap.size w wr)) (fun t1 _=>s.size - (intOf t1).toNat)
 case atStart=>exact ⟨i,rfl,hi,HR,Below.refl _ _⟩
 case round =>
  obtain ⟨j,rfl,hj,HP,HBel⟩:=hrel
  have hj0 : (j : Int) <= 4000000000:=by omega
  by_cases hlt : j < s.size
  ·have d1 : decide ((j : Int) < (s.size : Int)) = true:=decide_eq_true (by omega)
   have d2 : (j : Int) < (s.size : Int):=by omega
   have hS:=fun W=>HS.out j W hj
   have h2 : sp s j <= s.size:=by have:=behN_le spB s.data.toList j (by rw [size_data]; omega); rw [size_data] at this; exact this
   have hgo:=passE_go s j hlt
   have hst : (sp s j < s.size /\ isAt s (sp s j) 10 = false) -> passE s j = j:=fun h=>by rw [passE,dif_pos hlt,if_pos h]
   have hBb:=fun W=>HB.out (sp s j) W h2
   obtain ⟨q,hq⟩ : ∃ q,sp s j = q:=⟨_,rfl⟩
   obtain ⟨nx,hnx⟩ : ∃ nx,beh s (sp s j) = nx:=⟨_,rfl⟩
   rw [hnx] at hgo hBb
   rw [hq] at hS h2 hgo hst hBb
   have HSj:=hid hS
   have HBj:=hid hBb
   have Hgo:=hid hgo
   have Hst:=hid hst
   have hq0 : (q : Int) <= 4000000000:=by omega
   have hq1 : (0 : Int) <= (q : Int):=by omega
   clear hS hgo hst hBb hq hnx
   go_wp2_with fail
   go_at_call 39
   refine (HSj.out _).mono ?_
   rintro e w1 ⟨rfl,hb⟩
   have HB1:=hid (HBel.out.trans (hb.mono HBel.out.size))
   clear hb
   by_cases hc : q < s.size
   ·have d3 : decide ((q : Int) < (s.size : Int)) = true:=decide_eq_true (by omega)
    have d4 : (q : Int) < (s.size : Int):=by omega
    have e1 : isAt s q 10 = ((s[q]'hc).toNat == 10):=isAt_get s q hc 10
    by_cases hb10 : (s[q]'hc).toNat = 10
    ·have d5 : (((s[q]'hc).toNat : Int) != 10) = false:=by rw [bne_eq_false_iff_eq]; omega
     obtain ⟨h3,h4,h5⟩:=Hgo.out (fun h=>by have:=h.2; rw [e1,hb10] at this; cases this)
     have H3:=hid h3
     clear h3 e1 hb10
     go_wp2_with fail
     go_at_call 40
     refine (HBj.out _).mono ?_
     rintro e w2 ⟨rfl,rfl⟩
     go_wp2
     go_roundw
     case rel=>exact ⟨nx,rfl,h5,H3.out.symm.trans HP.out,HB1⟩
     case measure=>simp [intOf]; omega
    ·have d5 : (((s[q]'hc).toNat : Int) != 10) = true:=by rw [bne_iff_ne]; omega
     have h3:=Hst.out ⟨hc,by rw [e1,beq_eq_false_iff_ne]; exact hb10⟩
     have H3:=hid h3
     clear h3 e1 hb10
     go_wp2
     go_ret
     exact ⟨by rw [<- HP.out,H3.out]; rfl,HB1.out⟩
   ·have d3 : decide ((q : Int) < (s.size : Int)) = false:=decide_eq_false (by omega)
    have d4 : ¬ (q : Int) < (s.size : Int):=by omega
    obtain ⟨h3,h4,h5⟩:=Hgo.out (fun h=>hc h.1)
    have H3:=hid h3
    clear h3
    go_wp2_with fail
    go_at_call 40
    refine (HBj.out _).mono ?_
    rintro e w2 ⟨rfl,rfl⟩
    go_wp2
    go_roundw
    case rel=>exact ⟨nx,rfl,h5,H3.out.symm.trans HP.out,HB1⟩
    case measure=>simp [intOf]; omega
  ·have d1 : decide ((j : Int) < (s.size : Int)) = false:=decide_eq_false (by omega)
   have d2 : ¬ (j : Int) < (s.size : Int):=by omega
   have h3 : passE s j = j:=by rw [passE,dif_neg hlt]
   have H3:=hid h3
   clear h3
   go_wp2
   go_ret
   exact ⟨by rw [<- HP.out,H3.out]; rfl,HBel.out⟩
set_option maxHeartbeats 2000000 in
set_option maxRecDepth 100000 in
theorem mayBegin_any (s : ByteArray) (i : Nat) (hs : s.size <= 4000000000) (hi : i < s.size) (w : World) : Calls Tryz.prog 68 #[.string s,.int .i64 i] w fun e w'=>e = .returned (.bool (mayB s i)) /\ Below w.heap.size w w':=by
 have hN:=fun W=>((endName (s:=s)).2 i W hs (Nat.le_of_lt hi)).2.2
 obtain ⟨m,hm⟩ : ∃ m,nm s i = m:=⟨_,rfl⟩
 have e1:=isAt_get s i hi 35
 have e2:=isAt_get s i hi 45
 unfold mayB
 rw [hm] at hN
 rw [e1,e2,hm]
 have HN:=hid hN
 obtain ⟨c,hc⟩ : ∃ c,(s[i]'hi).toNat = c:=⟨_,rfl⟩
 rw [hc,show (35 : UInt8).toNat = 35 from rfl,show (45 : UInt8).toNat = 45 from rfl]
 have hi0 : (i : Int) < (s.size : Int):=by omega
 have hi1 : (0 : Int) <= (i : Int):=by omega
 clear hN e1 e2 hm
 by_cases h1 : c = 35
 ·have d1 : ((c : Int) == 35) = true:=beq_iff_eq.2 (by omega)
  have E : (c == 35 || c == 45 || decide (i < m)) = true:=by rw [h1]; rfl
  rw [E]
  clear h1 E
  go_enter Tryz.func68,Tryz.ntmps68
  go_wp2
  go_ret
  exact ⟨rfl,Below.refl _ _⟩
 have d1 : ((c : Int) == 35) = false:=beq_eq_false_iff_ne.2 (by omega)
 by_cases h2 : c = 45
 ·have d2 : ((c : Int) == 45) = true:=beq_iff_eq.2 (by omega)
  have E : (c == 35 || c == 45 || decide (i < m)) = true:=by rw [h2]; rfl
  rw [E]
  clear h1 h2 E
  go_enter Tryz.func68,Tryz.ntmps68
  go_wp2
  go_ret
  exact ⟨rfl,Below.refl _ _⟩
 have d2 : ((c : Int) == 45) = false:=beq_eq_false_iff_ne.2 (by omega)
 have E : (c == 35 || c == 45 || decide (i < m)) = decide (i < m):=by rw [beq_eq_false_iff_ne.2 h1,beq_eq_false_iff_ne.2 h2]; rfl
 rw [E]
 clear h1 h2 E
 go_enter Tryz.func68,Tryz.ntmps68
 go_wp2_with fail
 go_at_call 95
 refine (HN.out _).mono ?_
 rintro e w1 ⟨rfl,hb⟩
 have HB:=hid hb
 clear hb
 go_wp2
 go_ret
 refine ⟨?_,HB.out⟩
 by_cases h : i < m
 ·simp [h]
 ·simp [h]
abbrev zEn : Array Value:=#[.int .i64 0,.int .i64 0,.string ⟨#[]⟩,.string ⟨#[]⟩,.slice none 0 0,.slice none 0 0,.int .i64 0,.int .i64 0]
theorem junk_go (s : ByteArray) (i : Nat) (hi : i < s.size) : (mayB s i = true -> junkTo s i = i) /\ (mayB s i = false -> junkTo s i = junkTo s (beh s i) /\ i < beh s i /\ beh s i <= s.size):=by
 have h:=beh_ok s i (Nat.le_of_lt hi)
 refine ⟨fun hm=>by rw [junkTo,dif_neg (by rw [hm]; simp)],fun hm=>⟨by rw [junkTo,dif_pos ⟨hi,hm⟩,dif_pos (h.2.2 hi)],h.2.2 hi,h.2.1⟩⟩
theorem junk_end (s : ByteArray) (i : Nat) (hi : ¬ i < s.size) : junkTo s i = i:=by rw [junkTo,dif_neg (fun h=>hi h.1)]
theorem cellsE {w : World} {k : Nat} {x0 x1 x2 x3 x4 x5 x6 x7 : Value} {t : TypeId} (h : BoxAt w k #[x0,x1,x2,x3,x4,x5,x6,x7] t) :
  w.cell? ⟨k,0,none⟩ = some x0 /\ w.cell? ⟨k,1,none⟩ = some x1 /\ w.cell? ⟨k,2,none⟩ = some x2 /\ w.cell? ⟨k,3,none⟩ = some x3 /\ w.cell? ⟨k,4,none⟩ = some x4 /\ w.cell? ⟨k,5,none⟩ = some x5 /\ w.cell? ⟨k,6,none⟩ = some x6 /\ w.cell? ⟨k,7,none⟩ = some x7 /\
  w.frozen? ⟨k,0,none⟩ = false /\ w.frozen? ⟨k,1,none⟩ = false /\ w.frozen? ⟨k,2,none⟩ = false /\ w.frozen? ⟨k,3,none⟩ = false /\ w.frozen? ⟨k,4,none⟩ = false /\ w.frozen? ⟨k,5,none⟩ = false /\ w.frozen? ⟨k,6,none⟩ = false /\ w.frozen? ⟨k,7,none⟩ = false :=
 ⟨h.cell 0,h.cell 1,h.cell 2,h.cell 3,h.cell 4,h.cell 5,h.cell 6,h.cell 7,Lib.frozen_of_heap h 0,Lib.frozen_of_heap h 1,Lib.frozen_of_heap h 2,Lib.frozen_of_heap h 3,Lib.frozen_of_heap h 4,Lib.frozen_of_heap h 5,Lib.frozen_of_heap h 6,Lib.frozen_of_heap h 7⟩
set_option maxRecDepth 100000 in
theorem resE {fn : Func} {A : Nat} {tmps : Array Value} {w : World} {b : Nat} {x0 x1 x2 x3 x4 x5 x6 x7 : Value} {t : TypeId} (hres : fn.results = #[.cell A 34]) (ha : tmps.getD A undef = .pointer (some ⟨b,0,none⟩))
  (hb : BoxAt w b #[x0,x1,x2,x3,x4,x5,x6,x7] t) : (results fn tmps).run Tryz.prog w = .ok (.agg #[x0,x1,x2,x3,x4,x5,x6,x7]) w:=by
 obtain ⟨q0,q1,q2,q3,q4,q5,q6,q7,_⟩:=cellsE hb
 have ha' : tmps[A]?.getD undef = .pointer (some ⟨b,0,none⟩):=by rw [<- ha]; simp
 simp [results,hres,ha',go_sem,q0,q1,q2,q3,q4,q5,q6,q7]
theorem endE {fn : Func} {R : Ending -> World -> Prop} {a : Act} {w2 : World} {A b : Nat} {x0 x1 x2 x3 x4 x5 x6 x7 : Value} {t : TypeId} (hres : fn.results = #[.cell A 34]) (hbox : BoxAt w2 b #[x0,x1,x2,x3,x4,x5,x6,x7] t)
  (ha : a.tmps.getD A undef = .pointer (some ⟨b,0,none⟩)) (hd : a.defers = []) (hR : R (.returned (.agg #[x0,x1,x2,x3,x4,x5,x6,x7])) w2) : bodyPost Tryz.prog fn R .ret a w2 :=
 bodyPost_ret (resE hres ha hbox) hd hR
theorem below_set8 {B : Nat} {a w : World} (h : Below B a w) {b : Nat} (hb : B <= b) (x0 x1 x2 x3 x4 x5 x6 x7 : Value) : Below B a (set8 w b x0 x1 x2 x3 x4 x5 x6 x7) :=
 (((((((h.setCell (p:=⟨b,0,none⟩) hb x0).setCell (p:=⟨b,1,none⟩) hb x1).setCell (p:=⟨b,2,none⟩) hb x2).setCell (p:=⟨b,3,none⟩) hb x3).setCell (p:=⟨b,4,none⟩) hb x4).setCell (p:=⟨b,5,none⟩) hb x5).setCell (p:=⟨b,6,none⟩) hb x6).setCell (p:=⟨b,7,none⟩) hb x7
set_option maxHeartbeats 2000000 in
set_option maxRecDepth 100000 in
theorem junk_any (s : ByteArray) (i : Nat) (hs : s.size <= 4000000000) (hi : i < s.size) (w : World) : Calls Tryz.prog 43 #[.string s,.int .i64 i] w fun e w'=>e = .returned (entV 3 0 (s.extract i (junkTo s (beh s i))) ⟨#[]⟩ (.slice none 0 0) (.slice none 0 0) i (junkTo s (beh s i) : Nat)) /\ Below w.heap.size w w':=by
 have hB0:=fun W=>behind_any s i hs (Nat.le_of_lt hi) W
 have hok:=beh_ok s i (Nat.le_of_lt hi)
 have hok2:=hok.2.2 hi
 obtain ⟨b,hb⟩ : ∃ b,beh s i = b:=⟨_,rfl⟩
 rw [hb] at hB0 hok hok2 ⊢
 have HB0:=hid hB0
 have HB:=hid (fun j W (hj : j <= s.size)=>behind_any s j hs hj W)
 have HM:=hid (fun j W (hj : j < s.size)=>mayBegin_any s j hs hj W)
 obtain ⟨R,hR⟩ : ∃ R,junkTo s b = R:=⟨_,rfl⟩
 rw [hR]
 have HR:=hid hR
 have hc0:=BoxAt.new w zEn 34
 have HC0:=hid hc0
 clear hB0 hb hR hc0
 unfold entV
 go_enter Tryz.func43,Tryz.ntmps43
 go_wp2_with fail
 go_at_call 40
 refine (HB0.out _).mono ?_
 rintro e w1 ⟨rfl,rfl⟩
 go_wp2
 go_loopw [5] (fun t5 wr=>∃ j : Nat,t5 = .int .i64 j /\ i <= j /\ j <= s.size /\ Hid (junkTo s j = R) /\ Hid (BoxAt wr w.heap.size zEn 34) /\ Hid (Below w.heap.size w wr)) (fun t5 _=>s.size - (intOf t5).toNat)
 case atStart=>exact ⟨b,rfl,hok.1,hok.2.1,HR,HC0.out,(Below.refl _ _).alloc (Nat.le_refl _) _⟩
 case round =>
  obtain ⟨j,rfl,hij,hj,HJ,HC,HBel⟩:=hrel
  have hj0 : (j : Int) <= 4000000000:=by omega
  obtain ⟨q0,q1,q2,q3,q4,q5,q6,q7,p0,p1,p2,p3,p4,p5,p6,p7⟩:=cellsE HC.out
  have hlt0:=HC.out.lt
  by_cases hlt : j < s.size
  ·have d1 : decide ((j : Int) < (s.size : Int)) = true:=decide_eq_true (by omega)
   have d2 : (j : Int) < (s.size : Int):=by omega
   have hM:=fun W=>HM.out j W hlt
   have hgo:=junk_go s j hlt
   have hBb:=fun W=>HB.out j W hj
   obtain ⟨b2,hb2⟩ : ∃ b,mayB s j = b:=⟨_,rfl⟩
   obtain ⟨nx,hnx⟩ : ∃ nx,beh s j = nx:=⟨_,rfl⟩
   rw [hb2] at hM hgo
   rw [hnx] at hgo hBb
   have HMj:=hid hM
   have Hgo:=hid hgo
   have HBj:=hid hBb
   clear hM hgo hBb hb2 hnx
   go_wp2_with fail
   go_at_call 68
   refine (HMj.out _).mono ?_
   rintro e w2 ⟨rfl,hb⟩
   have HB2:=hid (HBel.out.trans (hb.mono HBel.out.size))
   have hc2:=HC.out.later hb
   have HC2:=hid hc2
   clear hb
   cases b2
   case false =>
    obtain ⟨h3,h4,h5⟩:=Hgo.out.2 rfl
    have H3:=hid h3
    clear h3 hc2
    go_wp2_with fail
    go_at_call 40
    refine (HBj.out _).mono ?_
    rintro e w3 ⟨rfl,rfl⟩
    go_wp2
    go_roundw
    case rel=>exact ⟨nx,rfl,by omega,h5,H3.out.symm.trans HJ.out,HC2,HB2⟩
    case measure=>simp [intOf]; omega
   case true =>
    have h3:=Hgo.out.1 rfl
    have hRj : R = j:=HJ.out.symm.trans h3
    obtain ⟨r0,r1,r2,r3,r4,r5,r6,r7,f0,f1,f2,f3,f4,f5,f6,f7⟩:=cellsE hc2
    have hlt2:=hc2.lt
    have HRj:=hid hRj
    clear h3 hc2 hRj q0 q1 q2 q3 q4 q5 q6 q7 p0 p1 p2 p3 p4 p5 p6 p7
    go_wp2
    refine endE Tryz.results43 (box_set8 HC2.out _ _ _ _ _ _ _ _) rfl rfl ⟨by rw [HRj.out],below_set8 HB2.out (Nat.le_refl _) _ _ _ _ _ _ _ _⟩
  ·have d1 : decide ((j : Int) < (s.size : Int)) = false:=decide_eq_false (by omega)
   have d2 : ¬ (j : Int) < (s.size : Int):=by omega
   have hRj : R = j:=HJ.out.symm.trans (junk_end s j hlt)
   have HRj:=hid hRj
   clear hRj
   go_wp2
   refine endE Tryz.results43 (box_set8 HC.out _ _ _ _ _ _ _ _) rfl rfl ⟨by rw [HRj.out],below_set8 HBel.out (Nat.le_refl _) _ _ _ _ _ _ _ _⟩
theorem tw_in {p q : UInt8 -> Bool} (h : ∀ c,p c = true -> q c = true) : ∀ l : List UInt8,(l.takeWhile q).takeWhile p = l.takeWhile p
 | []=>rfl
 | a :: l=>by
  by_cases hp : p a = true
  ·rw [List.takeWhile_cons,h a hp,if_pos rfl,List.takeWhile_cons,List.takeWhile_cons,hp,if_pos rfl,if_pos rfl,tw_in h l]
  ·by_cases hq : q a = true
   ·rw [List.takeWhile_cons,hq,if_pos rfl,List.takeWhile_cons,List.takeWhile_cons,if_neg hp,if_neg hp]
   ·rw [List.takeWhile_cons,if_neg hq,List.takeWhile_cons,if_neg hp]; rfl
theorem dw_drop (p : UInt8 -> Bool) : ∀ l : List UInt8,l.dropWhile p = l.drop (l.takeWhile p).length
 | []=>rfl
 | a :: l=>by
  by_cases h : p a = true
  ·rw [List.dropWhile_cons,List.takeWhile_cons,if_pos h,if_pos h,List.length_cons,List.drop_succ_cons,dw_drop p l]
  ·rw [List.dropWhile_cons,List.takeWhile_cons,if_neg h,if_neg h]; rfl
theorem tw_take (q : UInt8 -> Bool) (l : List UInt8) : l.take (l.takeWhile q).length = l.takeWhile q:=by
 induction l with
 | nil=>rfl
 | cons a l ih =>
  by_cases h : q a = true
  ·rw [List.takeWhile_cons,if_pos h,List.length_cons,List.take_succ_cons,ih]
  ·rw [List.takeWhile_cons,if_neg h]; rfl
theorem tw_len (p : UInt8 -> Bool) : ∀ l : List UInt8,(l.takeWhile p).length <= l.length
 | []=>Nat.le_refl _
 | a :: l=>by
  by_cases h : p a = true
  ·rw [List.takeWhile_cons,if_pos h,List.length_cons,List.length_cons]; have:=tw_len p l; omega
  ·rw [List.takeWhile_cons,if_neg h]; exact Nat.zero_le _
theorem hs_ok (s : ByteArray) (i : Nat) (hi : i <= s.size) : i <= hs s i /\ hs s i <= li s i:=by
 refine ⟨behN_ge _ _ _,?_⟩
 unfold hs li behN
 have h : ∀ c,hsB c = true -> nlB c = true:=fun c hc=>by
  unfold hsB at hc
  rw [beq_iff_eq] at hc
  rw [hc]; decide
 rw [<- tw_in h]
 have:=tw_len hsB ((s.data.toList.drop i).takeWhile nlB)
 omega
theorem extract_list (s : ByteArray) (i j : Nat) : (s.extract i j).data.toList = (s.data.toList.take j).drop i:=by
 rw [List.drop_take]
 simp [ByteArray.extract,ByteArray.copySlice]
theorem trim_hash (s : ByteArray) (i : Nat) (hi : i <= s.size) : (⟨(Lib.trimLeftB (s.extract i (li s i)).data.toList 35).toArray⟩ : ByteArray) = s.extract (hs s i) (li s i):=by
 apply bytes_eq
 rw [extract_list,extract_list]
 have h : ∀ c,hsB c = true -> nlB c = true:=fun c hc=>by
  unfold hsB at hc
  rw [beq_iff_eq] at hc
  rw [hc]; decide
 have e1 : (s.data.toList.take (li s i)).drop i = (s.data.toList.drop i).takeWhile nlB:=by
  rw [List.drop_take]
  unfold li behN
  rw [Nat.add_sub_cancel_left,tw_take]
 have e2 : hs s i = i + (((s.data.toList.drop i).takeWhile nlB).takeWhile hsB).length:=by
  unfold hs behN
  rw [tw_in h]
 rw [e2,<- List.drop_drop,e1]
 show Lib.trimLeftB _ 35 = _
 exact dw_drop hsB _
theorem trimP_space (B : ByteArray) : (Lib.hasPrefix B.data.toList [32] = true -> 0 < B.size /\ (⟨(Lib.trimPrefix B.data.toList [32]).toArray⟩ : ByteArray) = B.extract 1 B.size) /\ (Lib.hasPrefix B.data.toList [32] = false -> (⟨(Lib.trimPrefix B.data.toList [32]).toArray⟩ : ByteArray) = B):=by
 constructor
 ·intro h
  refine ⟨?_,?_⟩
  ·rw [<- size_data]
   cases e : B.data.toList with
   | nil=>rw [e] at h; cases h
   | cons a l=>simp
  ·apply bytes_eq
   unfold Lib.trimPrefix
   rw [h,if_pos rfl,extract_drop]
   rfl
 ·intro h
  apply bytes_eq
  unfold Lib.trimPrefix
  rw [h,if_neg (by simp)]
theorem ext_ext (s : ByteArray) (i j : Nat) (hj : j <= s.size) (hi : i < j) : (s.extract i j).extract 1 (s.extract i j).size = s.extract (i + 1) j:=by
 apply bytes_eq
 rw [extract_drop,extract_list,extract_list,List.drop_drop]
theorem pre_space (s : ByteArray) (i j : Nat) (hj : j <= s.size) (hi : i <= j) : Lib.hasPrefix (s.extract i j).data.toList [32] = (decide (i < j) && isAt s i 32):=by
 by_cases h : i < j
 ·rw [decide_eq_true h,Bool.true_and,<- isAt_prefix s i 32 (by omega),extract_list,extract_drop]
  unfold Lib.hasPrefix
  have hl : i < s.data.toList.length:=by rw [size_data]; omega
  have hl2 : i < (s.data.toList.take j).length:=by rw [List.length_take,size_data]; omega
  rw [List.drop_eq_getElem_cons hl,List.drop_eq_getElem_cons hl2,List.getElem_take]
  simp [List.isPrefixOf]
 ·have e : i = j:=by omega
  subst e
  rw [decide_eq_false h,Bool.false_and]
  have : (s.extract i i).data.toList = []:=by
   rw [extract_list,List.drop_eq_nil_of_le]
   rw [List.length_take]; omega
  rw [this]
  rfl
set_option maxHeartbeats 2000000 in
set_option maxRecDepth 100000 in
theorem commentLine_any (s : ByteArray) (i : Nat) (hsz : s.size <= 4000000000) (hi : i <= s.size) (w : World) : Calls Tryz.prog 63 #[.string s,.int .i64 i] w fun e w'=>e = .returned (.tuple #[.int .i64 ((comL s i).1 : Nat),.string (comL s i).2]) /\ w = w':=by
 have hL:=fun W=>line_nat s i hsz hi W
 have hok:=li_ok s i hi
 have hh:=hs_ok s i hi
 have ht:=trim_hash s i hi
 obtain ⟨R,hR⟩ : ∃ R,comL s i = R:=⟨_,rfl⟩
 rw [hR]
 unfold comL at hR
 obtain ⟨l,hl⟩ : ∃ l,li s i = l:=⟨_,rfl⟩
 obtain ⟨h,he⟩ : ∃ h,hs s i = h:=⟨_,rfl⟩
 rw [hl,he] at hh ht hR
 rw [hl] at hL hok
 have hT:=fun W=>Tryz.strings_TrimLeft_one (s.extract i l) 35 (by decide) W
 rw [ht] at hT
 have hC:=fun W=>Tryz.strings_CutPrefix (s.extract h l) ⟨#[32]⟩ W
 have hp:=pre_space s h l hok.2 hh.2
 have hz1 : (s.extract i l).size = l - i:=by rw [ByteArray.size_extract]; omega
 have hz2 : (s.extract h l).size = l - h:=by rw [ByteArray.size_extract]; omega
 have hX:=trimP_space (s.extract h l)
 have hE:=fun hlt=>ext_ext s h l hok.2 hlt
 have hem:=ext_empty s h l hh.2 hok.2
 obtain ⟨B,hB⟩ : ∃ B,s.extract h l = B:=⟨_,rfl⟩
 obtain ⟨X,hXe⟩ : ∃ X : ByteArray,⟨(Lib.trimPrefix B.data.toList [32]).toArray⟩ = X:=⟨_,rfl⟩
 obtain ⟨P,hP⟩ : ∃ P,Lib.hasPrefix B.data.toList [32] = P:=⟨_,rfl⟩
 rw [hB] at hT hC hp hz2 hX hE hem
 have Hem:=hid hem
 rw [show (⟨#[32]⟩ : ByteArray).data.toList = [32] from rfl,hXe,hP] at hC
 rw [hXe,hP] at hX
 rw [hP] at hp
 have HL:=hid hL
 have HT:=hid hT
 have HC:=hid hC
 have HR:=hid hR
 have HX:=hid hX
 have HE:=hid hE
 have Hp:=hid hp
 have hl0 : (l : Int) <= (s.size : Int):=by omega
 have hss : (s.size : Int) <= 4000000000:=by omega
 have hi0 : (i : Int) <= (l : Int):=by omega
 obtain ⟨x,hx⟩ : ∃ x,h = i + x:=⟨h - i,by omega⟩
 obtain ⟨m,hm⟩ : ∃ m,l - i = m:=⟨_,rfl⟩
 obtain ⟨y,hy⟩ : ∃ y,l - h = y:=⟨_,rfl⟩
 have hd : (m : Int) - (y : Int) = (x : Int):=by omega
 have hx0 : (x : Int) <= 4000000000:=by omega
 have hR2 : (if 3 < x ∨ 0 < y /\ isAt s h 32 = false then (0,E0) else (x,if 0 < y then s.extract (h + 1) l else E0)) = R:=by
  rw [<- HR.out,show h - i = x by omega]
  by_cases hlt : h < l
  ·have : 0 < y:=by omega
   simp [hlt,this]
  ·have : ¬ 0 < y:=by omega
   simp [hlt,this]
 have HR2:=hid hR2
 rw [hm] at hz1
 rw [hy] at hz2
 have Hz2:=hid hz2
 have Hy:=hid (show 0 < y ↔ h < l by omega)
 clear hem hL hT hC hR hX hE hp ht hl he hB hXe hP hR2 hm hy hx HR
 go_enter Tryz.func63,Tryz.ntmps63
 go_wp2_with fail
 go_at_call 62
 refine (HL.out _).mono ?_
 rintro e w1 ⟨rfl,rfl⟩
 go_wp2_with fail
 go_at_call 91
 refine (HT.out _).mono ?_
 rintro e w1 ⟨rfl,rfl⟩
 go_wp2_with fail
 go_at_call 92
 refine (HC.out _).mono ?_
 rintro e w1 ⟨rfl,rfl⟩
 by_cases h3 : 3 < x
 ·have d1 : decide ((3 : Int) < (x : Int)) = true:=decide_eq_true (by omega)
  have d2 : (3 : Int) < (x : Int):=by omega
  have hR:=HR2.out
  rw [if_pos (Or.inl h3)] at hR
  subst hR
  go_wp2
  go_ret2
  exact ⟨rfl,rfl⟩
 have d1 : decide ((3 : Int) < (x : Int)) = false:=decide_eq_false (by omega)
 have d2 : ¬ (3 : Int) < (x : Int):=by omega
 by_cases h0 : 0 < y
 case neg =>
  have hBe : B = ⟨#[]⟩:=bytes_eq (List.eq_nil_of_length_eq_zero (by rw [size_data,Hz2.out]; omega))
  have hPe : P = false:=by rw [Hp.out,decide_eq_false (fun e=>h0 (Hy.out.2 e))]; rfl
  have hXe:=HX.out.2 hPe
  subst hPe
  rw [hBe] at hXe
  subst hBe
  subst hXe
  have hR:=HR2.out
  rw [if_neg (by omega),if_neg h0] at hR
  subst hR
  go_wp2
  go_ret2
  exact ⟨rfl,rfl⟩
 have hlt:=Hy.out.1 h0
 rw [hlt |> decide_eq_true,Bool.true_and] at Hp
 have hne : B.toList.isEmpty = false:=by rw [Hem.out,decide_eq_false (by omega)]
 cases P
 case false =>
  have hR:=HR2.out
  rw [if_pos (Or.inr ⟨h0,Hp.out.symm⟩)] at hR
  subst hR
  go_wp2
  go_ret2
  exact ⟨rfl,rfl⟩
 case true =>
  have hXe:=(HX.out.1 rfl).2.trans (HE.out hlt)
  have hR:=HR2.out
  rw [if_neg (by rw [<- Hp.out]; simp; omega),if_pos h0,<- hXe] at hR
  subst hR
  go_wp2
  go_ret2
  exact ⟨rfl,rfl⟩
def GotPC (s : ByteArray) (w : World) (r : Option (List EL × Nat)) (e : Ending) (w' : World) : Prop :=
 Below w.heap.size w w' /\ ∃ (A : Option Addr) (n c j : Nat),e = .returned (.tuple #[.slice A n c,.int .i64 j,.bool r.isSome]) /\ j <= s.size /\ n <= 4000000000 /\
  ∀ l m,r = some (l,m) -> m = j /\ l.length = n /\ PatF w' (Since w.heap.size w') l (.slice A n c)
def PatCall (s : ByteArray) : Prop:=∀ (i : Nat) (w : World),i <= s.size -> Calls Tryz.prog 96 #[.string s,.int .i64 i] w (GotPC s w (patS (placeS s 20) s i))
def GotN (s : ByteArray) (w : World) (r : Option (ByteArray × List EL × Nat)) (e : Ending) (w' : World) : Prop :=
 Below w.heap.size w w' /\ ∃ (X : ByteArray) (A : Option Addr) (n c j : Nat),e = .returned (.tuple #[.agg #[.string X,.slice A n c],.int .i64 j,.bool r.isSome]) /\ j <= s.size /\ n <= 4000000000 /\
  ∀ x l m,r = some (x,l,m) -> x = X /\ m = j /\ l.length = n /\ PatF w' (Since w.heap.size w') l (.slice A n c)
abbrev zAt : Array Value:=#[.string ⟨#[]⟩,.slice none 0 0]
set_option maxRecDepth 100000 in
theorem res2a {fn : Func} {A M N : Nat} {tmps : Array Value} {w : World} {b : Nat} {x0 x1 u v : Value} {t : TypeId} (hres : fn.results = #[.cell A 64,.tmp M,.tmp N]) (ha : tmps.getD A undef = .pointer (some ⟨b,0,none⟩)) (hm : tmps.getD M undef = u) (hn : tmps.getD N undef = v)
  (hb : BoxAt w b #[x0,x1] t) : (results fn tmps).run Tryz.prog w = .ok (.tuple #[.agg #[x0,x1],u,v]) w:=by
 have q0:=hb.cell 0
 have q1:=hb.cell 1
 simp at q0 q1
 have ha' : tmps[A]?.getD undef = .pointer (some ⟨b,0,none⟩):=by rw [<- ha]; simp
 have hm' : tmps[M]?.getD undef = u:=by rw [<- hm]; simp
 have hn' : tmps[N]?.getD undef = v:=by rw [<- hn]; simp
 simp [results,hres,ha',hm',hn',go_sem,q0,q1]
theorem end2a {fn : Func} {R : Ending -> World -> Prop} {a : Act} {w2 : World} {A M N b : Nat} {x0 x1 u v : Value} {t : TypeId} (hres : fn.results = #[.cell A 64,.tmp M,.tmp N]) (hbox : BoxAt w2 b #[x0,x1] t)
  (ha : a.tmps.getD A undef = .pointer (some ⟨b,0,none⟩)) (hm : a.tmps.getD M undef = u) (hn : a.tmps.getD N undef = v) (hd : a.defers = []) (hR : R (.returned (.tuple #[.agg #[x0,x1],u,v])) w2) : bodyPost Tryz.prog fn R .ret a w2 :=
 bodyPost_ret (res2a hres ha hm hn hbox) hd hR
theorem box_set2 {w : World} {E : Nat} {x0 x1 : Value} {t : TypeId} (h : BoxAt w E #[x0,x1] t) (y0 y1 : Value) : BoxAt ((w.setCell ⟨E,0,none⟩ y0).setCell ⟨E,1,none⟩ y1) E #[y0,y1] t:=by
 unfold BoxAt at h ⊢
 simp [World.setCell,Array.getElem?_modify,h]
theorem below_set2 {B : Nat} {a w : World} (h : Below B a w) {b : Nat} (hb : B <= b) (x0 x1 : Value) : Below B a ((w.setCell ⟨b,0,none⟩ x0).setCell ⟨b,1,none⟩ x1):=(h.setCell (p:=⟨b,0,none⟩) hb x0).setCell (p:=⟨b,1,none⟩) hb x1
theorem set2_heap (w : World) (b : Nat) (x0 x1 : Value) (k : Nat) (hk : k ≠ b) : ((w.setCell ⟨b,0,none⟩ x0).setCell ⟨b,1,none⟩ x1).heap[k]? = w.heap[k]?:=by
 rw [Below.heap_setCell _ _ _ k hk,Below.heap_setCell _ _ _ k hk]
theorem set2_size (w : World) (b : Nat) (x0 x1 : Value) : ((w.setCell ⟨b,0,none⟩ x0).setCell ⟨b,1,none⟩ x1).heap.size = w.heap.size:=by simp
theorem pat_set2 {w w2 : World} {l : List EL} {v : Value} (h : PatF w2 (Since (w.heap.size + 1) w2) l v) (x0 x1 : Value) : PatF ((w2.setCell ⟨w.heap.size,0,none⟩ x0).setCell ⟨w.heap.size,1,none⟩ x1) (Since w.heap.size ((w2.setCell ⟨w.heap.size,0,none⟩ x0).setCell ⟨w.heap.size,1,none⟩ x1)) l v :=
 PatF.carry (fun b hb=>⟨⟨by have:=hb.1; omega,by rw [set2_size]; exact hb.2⟩,set2_heap _ _ _ _ b (by have:=hb.1; omega)⟩) h
set_option maxHeartbeats 2000000 in
set_option maxRecDepth 100000 in
theorem named_call {s : ByteArray} (hPC : PatCall s) (hs : s.size <= 1000000000) (i : Nat) (hi : i <= s.size) (w : World) : Calls Tryz.prog 66 #[.string s,.int .i64 i] w (GotN s w (namedS s i)):=by
 have hN:=fun W=>((endName (s:=s)).2 i W (by omega) hi).2.2
 have hnk:=nm_ok s i hi
 obtain ⟨R,hR⟩ : ∃ R,namedS s i = R:=⟨_,rfl⟩
 rw [hR]
 unfold namedS at hR
 obtain ⟨m,hm⟩ : ∃ m,nm s i = m:=⟨_,rfl⟩
 rw [hm] at hN hnk hR
 have hS:=fun W=>((endSpaces (s:=s)).2 m W (by omega) hnk.2).2.2
 have hsk : m <= sp s m /\ sp s m <= s.size:=⟨sp_ge s m,by have:=behN_le spB s.data.toList m (by rw [size_data]; exact hnk.2); rw [size_data] at this; exact this⟩
 obtain ⟨q,hq⟩ : ∃ q,sp s m = q:=⟨_,rfl⟩
 rw [hq] at hS hsk hR
 have hx:=isAt_prefix s q 61 hsk.2
 have hp:=fun W=>Tryz.strings_HasPrefix (s.extract q s.size) ⟨#[61]⟩ W
 rw [hx] at hp
 obtain ⟨b,hb⟩ : ∃ b,isAt s q 61 = b:=⟨_,rfl⟩
 have hq1 : b = true -> q + 1 <= s.size:=fun h=>isAt_lt (hb.trans h)
 rw [hb] at hp hR
 have HN:=hid hN
 have HS:=hid hS
 have HP:=hid hp
 have hi0 : (i : Int) <= 1000000000:=by omega
 have hm0 : (m : Int) <= 1000000000:=by omega
 have hq0 : (q : Int) <= 1000000000:=by omega
 have hqs : (q : Int) <= (s.size : Int):=by omega
 have hss : (s.size : Int) <= 1000000000:=by omega
 have hq2 : (0 : Int) <= (q : Int):=by omega
 have hc0:=BoxAt.new w zAt 64
 have HC0:=hid hc0
 clear hN hS hp hx hm hq hb hc0
 go_enter Tryz.func66,Tryz.ntmps66
 go_wp2_with fail
 go_at_call 95
 refine (HN.out _).mono ?_
 rintro e w1 ⟨rfl,hb1⟩
 have HB1:=hid (((Below.refl w.heap.size w).alloc (Nat.le_refl _) (.cells zAt 64)).trans (hb1.mono (by simp)))
 have HC1:=hid (BoxAt.later HC0.out hb1)
 clear hb1
 go_wp2_with fail
 go_at_call 39
 refine (HS.out _).mono ?_
 rintro e w2 ⟨rfl,hb2⟩
 have HB2:=hid (HB1.out.trans (hb2.mono HB1.out.size))
 have hc2:=BoxAt.later HC1.out hb2
 have HC2:=hid hc2
 have q0:=hc2.cell 0
 have q1:=hc2.cell 1
 have f0:=Lib.frozen_of_heap hc2 0
 have f1:=Lib.frozen_of_heap hc2 1
 have hlt:=hc2.lt
 simp at q0 q1
 clear hb2 hc2 HN HS HC0 HC1
 by_cases hmi : m = i
 ·rw [if_pos hmi] at hR
  subst hR
  have d1 : ((m : Int) == (i : Int)) = true:=beq_iff_eq.2 (by omega)
  clear hmi
  go_wp2
  exact end2a Tryz.results66 (box_set2 HC2.out _ _) rfl rfl rfl rfl ⟨below_set2 HB2.out (Nat.le_refl _) _ _,⟨#[]⟩,none,0,0,0,rfl,Nat.zero_le _,Nat.zero_le _,fun x l m h=>by cases h⟩
 have d1 : ((m : Int) == (i : Int)) = false:=beq_eq_false_iff_ne.2 (by omega)
 have d2 : ¬ (m : Int) = (i : Int):=by omega
 rw [if_neg hmi] at hR
 cases b
 case false =>
  rw [if_neg (by simp)] at hR
  subst hR
  clear hmi
  go_wp2_with fail
  go_at_call 65
  refine (HP.out _).mono ?_
  rintro e w3 ⟨rfl,rfl⟩
  go_wp2
  exact end2a Tryz.results66 (box_set2 HC2.out _ _) rfl rfl rfl rfl ⟨below_set2 HB2.out (Nat.le_refl _) _ _,⟨#[]⟩,none,0,0,0,rfl,Nat.zero_le _,Nat.zero_le _,fun x l m h=>by cases h⟩
 rw [if_pos rfl] at hR
 have hq3:=hq1 rfl
 have hPt:=fun W=>hPC (q + 1) W hq3
 obtain ⟨r,hr⟩ : ∃ r,patS (placeS s 20) s (q + 1) = r:=⟨_,rfl⟩
 rw [hr,show ((q + 1 : Nat) : Int) = (q : Int) + 1 by omega] at hPt
 rw [hr] at hR
 have HPt:=hid hPt
 have HR:=hid hR
 have hmi1 : (i : Int) <= (m : Int):=by omega
 have hms : (m : Int) <= (s.size : Int):=by omega
 clear hPt hr hR hq1 hmi
 go_wp2_with fail
 go_at_call 65
 refine (HP.out _).mono ?_
 rintro e w3 ⟨rfl,rfl⟩
 go_wp2_with fail
 go_at_call 96
 refine (HPt.out _).mono ?_
 rintro e w4 ⟨hb4,A,n,c,j,rfl,hj,hn4,h3⟩
 have HB4:=hid (HB2.out.trans (hb4.mono HB2.out.size))
 have hc4:=BoxAt.later HC2.out hb4
 have HC4:=hid hc4
 have e0:=hc4.cell 0
 have e1:=hc4.cell 1
 have g0:=Lib.frozen_of_heap hc4 0
 have g1:=Lib.frozen_of_heap hc4 1
 have hlt4:=hc4.lt
 simp at e0 e1
 have H3:=hid h3
 have hs4:=hb4.size
 have hj0 : (j : Int) <= 1000000000:=by omega
 have hj1 : (0 : Int) <= (j : Int):=by omega
 clear hb4 hc4 h3 q0 q1 f0 f1
 obtain ⟨ib,hib⟩ : ∃ ib : Bool,(decide (j = s.size) || isAt s j 10) = ib:=⟨_,rfl⟩
 have hfin : R.isSome = (r.isSome && ib) /\ ∀ x l m',R = some (x,l,m') -> x = s.extract i m /\ m' = j /\ l.length = n /\ PatF w4 (Since (w.heap.size + 1) w4) l (.slice A n c):=by
  have hR:=HR.out
  cases r with
  | none=>dsimp only at hR; subst hR; exact ⟨rfl,fun x l m' h=>by cases h⟩
  | some le =>
   obtain ⟨l,e⟩:=le
   obtain ⟨rfl,h5,h6⟩:=H3.out l e rfl
   dsimp only at hR
   by_cases hc : e = s.size ∨ isAt s e 10 = true
   ·rw [if_pos hc] at hR
    subst hR
    have : ib = true:=by
     rw [<- hib]
     rcases hc with h | h
     ·rw [decide_eq_true h]; rfl
     ·rw [h,Bool.or_true]
    rw [this]
    refine ⟨rfl,fun x l' m' h=>?_⟩
    cases h
    exact ⟨rfl,rfl,h5,PatF.carry (fun b hb=>⟨⟨by have:=hb.1; have:=HB2.out.size; omega,hb.2⟩,rfl⟩) h6⟩
   ·rw [if_neg hc] at hR
    subst hR
    have : ib = false:=by
     rw [<- hib]
     simp only [not_or,Bool.not_eq_true] at hc
     rw [decide_eq_false hc.1,hc.2]; rfl
    rw [this,Bool.and_false]
    exact ⟨rfl,fun x l' m' h=>by cases h⟩
 obtain ⟨rs,hrs⟩ : ∃ q : Bool,r.isSome = q:=⟨_,rfl⟩
 rw [hrs] at hfin ⊢
 have Hfin:=hid hfin
 clear hfin hrs H3 HR
 by_cases hje : j = s.size
 ·have d3 : ((j : Int) == (s.size : Int)) = true:=beq_iff_eq.2 (by omega)
  have hib2 : ib = true:=by rw [<- hib,decide_eq_true hje]; rfl
  subst hib2
  clear hib hje
  cases rs
  all_goals
   go_wp2
   exact end2a Tryz.results66 (box_set2 HC4.out _ _) rfl rfl rfl rfl ⟨below_set2 HB4.out (Nat.le_refl _) _ _,s.extract i m,A,n,c,j,by rw [Hfin.out.1]; rfl,hj,hn4,fun x l m' h=>by
    obtain ⟨h1,h2,h3,h4⟩:=Hfin.out.2 x l m' h
    exact ⟨h1,h2,h3,pat_set2 h4 _ _⟩⟩
 ·have d3 : ((j : Int) == (s.size : Int)) = false:=beq_eq_false_iff_ne.2 (by omega)
  have hjl : j < s.size:=by omega
  have d4 : (j : Int) < (s.size : Int):=by omega
  have hg:=isAt_get s j hjl 10
  rw [decide_eq_false hje,Bool.false_or] at hib
  rw [hg] at hib
  have hib3 : (((s[j]'hjl).toNat : Int) == 10) = ib:=by rw [<- hib,Bool.eq_iff_iff,beq_iff_eq,beq_iff_eq]; show _ ↔ (s[j]'hjl).toNat = 10; omega
  clear hib hje hg
  cases rs
  all_goals
   go_wp2
   exact end2a Tryz.results66 (box_set2 HC4.out _ _) rfl rfl rfl rfl ⟨below_set2 HB4.out (Nat.le_refl _) _ _,s.extract i m,A,n,c,j,by rw [Hfin.out.1]; rfl,hj,hn4,fun x l m' h=>by
    obtain ⟨h1,h2,h3,h4⟩:=Hfin.out.2 x l m' h
    exact ⟨h1,h2,h3,pat_set2 h4 _ _⟩⟩
theorem at0_byte (s : ByteArray) (q : Nat) (hc : q < s.size) (c : UInt8) : (at0 s.data.toList q == c) = ((s[q]'hc).toNat == c.toNat):=by
 have:=isAt_get s q hc c
 unfold isAt at this
 rw [decide_eq_true hc,Bool.true_and] at this
 exact this
theorem pat_fin2 {w w2 : World} {l : List EL} {v : Value} (h : PatF w2 (Since (w.heap.size + 1) w2) l v) (x0 x1 : Value) (o : Obj) : PatF (((w2.setCell ⟨w.heap.size,0,none⟩ x0).setCell ⟨w.heap.size,1,none⟩ x1).alloc o).drew (Since w.heap.size (((w2.setCell ⟨w.heap.size,0,none⟩ x0).setCell ⟨w.heap.size,1,none⟩ x1).alloc o).drew) l v :=
 PatF.carry (fun b hb=>by
  have h2 : b < ((w2.setCell ⟨w.heap.size,0,none⟩ x0).setCell ⟨w.heap.size,1,none⟩ x1).heap.size:=by rw [set2_size]; exact hb.2
  exact ⟨⟨by have:=hb.1; omega,by show b < (World.alloc _ o).heap.size; rw [World.size_alloc]; omega⟩,(Lib.alloc_old _ o b h2).trans (set2_heap _ _ _ _ b (by have:=hb.1; omega))⟩) h
set_option maxHeartbeats 4000000 in
set_option maxRecDepth 100000 in
theorem attr_call {s : ByteArray} (hPC : PatCall s) (hs : s.size <= 1000000000) (i : Nat) (h1i : 1 <= i) (hi : i <= s.size) (w : World) : Calls Tryz.prog 97 #[.string s,.int .i64 i] w (GotN s w (attrS s i)):=by
 have hBl:=fun W=>((endBlank (s:=s)).2 i W (by omega) hi).2.2
 have hbk:=bl_ok s i hi
 obtain ⟨R,hR⟩ : ∃ R,attrS s i = R:=⟨_,rfl⟩
 rw [hR]
 unfold attrS at hR
 obtain ⟨q,hq⟩ : ∃ q,bl s i = q:=⟨_,rfl⟩
 rw [hq] at hBl hbk hR
 have hx:=isAt_prefix s q 46 hbk.2
 have hp:=fun W=>Tryz.strings_HasPrefix (s.extract q s.size) ⟨#[46]⟩ W
 rw [hx] at hp
 obtain ⟨b,hb⟩ : ∃ b,isAt s q 46 = b:=⟨_,rfl⟩
 have hq1 : b = true -> q + 1 <= s.size:=fun h=>isAt_lt (hb.trans h)
 rw [hb] at hp hR
 have HB:=hid hBl
 have HP:=hid hp
 have hq0 : (q : Int) <= 1000000000:=by omega
 have hqs : (q : Int) <= (s.size : Int):=by omega
 have hss : (s.size : Int) <= 1000000000:=by omega
 have hq2 : (1 : Int) <= (q : Int):=by omega
 have hq22 : (0 : Int) <= (q : Int):=by omega
 have hc0:=BoxAt.new w zAt 64
 have HC0:=hid hc0
 clear hBl hp hx hq hb hc0
 go_enter Tryz.func97,Tryz.ntmps97
 go_wp2_with fail
 go_at_call 131
 refine (HB.out _).mono ?_
 rintro e w1 ⟨rfl,hb1⟩
 have HB1:=hid (((Below.refl w.heap.size w).alloc (Nat.le_refl _) (.cells zAt 64)).trans (hb1.mono (by simp)))
 have hc1:=BoxAt.later HC0.out hb1
 have HC1:=hid hc1
 have q0:=hc1.cell 0
 have q1:=hc1.cell 1
 have f0:=Lib.frozen_of_heap hc1 0
 have f1:=Lib.frozen_of_heap hc1 1
 have hlt:=hc1.lt
 simp at q0 q1
 clear hb1 hc1 HB HC0
 cases b
 case false =>
  rw [Bool.false_and,if_neg (by simp)] at hR
  subst hR
  go_wp2_with fail
  go_at_call 65
  refine (HP.out _).mono ?_
  rintro e w3 ⟨rfl,rfl⟩
  go_wp2
  exact end2a Tryz.results97 (box_set2 HC1.out _ _) rfl rfl rfl rfl ⟨below_set2 HB1.out (Nat.le_refl _) _ _,⟨#[]⟩,none,0,0,0,rfl,Nat.zero_le _,Nat.zero_le _,fun x l m h=>by cases h⟩
 have hq3:=hq1 rfl
 rw [Bool.true_and,at0_byte s (q - 1) (by omega) 32] at hR
 obtain ⟨k,rfl⟩ : ∃ k,q = k + 1:=⟨q - 1,by omega⟩
 have hkl : k < s.size:=by omega
 have hk1 : (k : Int) < (s.size : Int):=by omega
 have hk0 : (0 : Int) <= (k : Int):=by omega
 have hR2 : (if ((s[k]'hkl).toNat == (32 : UInt8).toNat) = true then (match namedS s (k + 1 + 1) with
   | none=>none
   | some (x,l,e)=>if l.isEmpty = true then none else some (x,l,e)) else none) = R:=hR
 obtain ⟨c,hc⟩ : ∃ c,(s[k]'hkl).toNat = c:=⟨_,rfl⟩
 rw [hc,show (32 : UInt8).toNat = 32 from rfl] at hR2
 clear hR hq1
 by_cases h32 : c = 32
 case neg =>
  have d1 : ((c : Int) != 32) = true:=by rw [bne_iff_ne]; omega
  rw [if_neg (by rw [beq_iff_eq]; exact h32)] at hR2
  subst hR2
  clear h32
  go_wp2_with fail
  go_at_call 65
  refine (HP.out _).mono ?_
  rintro e w3 ⟨rfl,rfl⟩
  go_wp2
  exact end2a Tryz.results97 (box_set2 HC1.out _ _) rfl rfl rfl rfl ⟨below_set2 HB1.out (Nat.le_refl _) _ _,⟨#[]⟩,none,0,0,0,rfl,Nat.zero_le _,Nat.zero_le _,fun x l m h=>by cases h⟩
 have d1 : ((c : Int) != 32) = false:=by rw [bne_eq_false_iff_eq]; omega
 rw [if_pos (by rw [beq_iff_eq]; exact h32)] at hR2
 have hNm:=fun W=>named_call hPC hs (k + 1 + 1) hq3 W
 obtain ⟨r,hr⟩ : ∃ r,namedS s (k + 1 + 1) = r:=⟨_,rfl⟩
 rw [hr,show ((k + 1 + 1 : Nat) : Int) = (k : Int) + 1 + 1 by omega] at hNm
 rw [hr] at hR2
 have HNm:=hid hNm
 have HR:=hid hR2
 clear hNm hr hR2 h32
 go_wp2_with fail
 go_at_call 65
 refine (HP.out _).mono ?_
 rintro e w3 ⟨rfl,rfl⟩
 go_wp2_with fail
 go_at_call 66
 refine (HNm.out _).mono ?_
 rintro e w4 ⟨hb4,X,A,n,cp,j,rfl,hj,hn4,h3⟩
 have HB4:=hid (HB1.out.trans (hb4.mono HB1.out.size))
 have hc4:=BoxAt.later HC1.out hb4
 have HC4:=hid hc4
 have hlt4:=hc4.lt
 have e0:=hc4.cell 0
 have e1:=hc4.cell 1
 have g0:=Lib.frozen_of_heap hc4 0
 have g1:=Lib.frozen_of_heap hc4 1
 simp at e0 e1
 have H3:=hid h3
 have hs4:=hb4.size
 have hj0 : (j : Int) <= 1000000000:=by omega
 have hn0 : (n : Int) <= 4000000000:=by omega
 have hfin : R.isSome = (r.isSome && decide (0 < n)) /\ ∀ x l m',R = some (x,l,m') -> x = X /\ m' = j /\ l.length = n /\ PatF w4 (Since (w.heap.size + 1) w4) l (.slice A n cp):=by
  have hR:=HR.out
  cases r with
  | none=>dsimp only at hR; subst hR; exact ⟨rfl,fun x l m' h=>by cases h⟩
  | some le =>
   obtain ⟨x,l,e⟩:=le
   obtain ⟨h4,h5,h6,h7⟩:=H3.out x l e rfl
   dsimp only at hR
   by_cases hl : l = []
   ·rw [hl] at hR
    simp at hR
    subst hR
    rw [hl] at h6
    have : n = 0:=h6.symm
    rw [this]
    exact ⟨rfl,fun x l' m' h=>by cases h⟩
   ·have hle : l.isEmpty = false:=by cases l with
     | nil=>exact absurd rfl hl
     | cons a b=>rfl
    rw [hle] at hR
    simp at hR
    subst hR
    have hl0 : 0 < n:=by rw [<- h6]; exact List.length_pos_iff.2 hl
    rw [decide_eq_true hl0]
    refine ⟨rfl,fun x' l' m' h=>?_⟩
    cases h
    exact ⟨h4,h5,h6,PatF.carry (fun b hb=>⟨⟨by have:=hb.1; have:=HB1.out.size; omega,hb.2⟩,rfl⟩) h7⟩
 obtain ⟨rs,hrs⟩ : ∃ q : Bool,r.isSome = q:=⟨_,rfl⟩
 rw [hrs] at hfin ⊢
 have Hfin:=hid hfin
 clear hb4 hc4 h3 hfin hrs H3 HR q0 q1 f0 f1
 cases rs
 all_goals
  go_wp2_with fail
  go_region
  all_goals (go_wp2_with fail)
  exact end2a Tryz.results97 (((box_set2 HC4.out _ _).alloc _)) rfl rfl rfl rfl ⟨((below_set2 HB4.out (Nat.le_refl _) _ _).alloc (by rw [set2_size]; omega) _).drew,X,A,n,cp,j,by rw [Hfin.out.1]; rfl,hj,hn4,fun x l m' h=>by
   obtain ⟨h1,h2,h3,h4⟩:=Hfin.out.2 x l m' h
   exact ⟨h1,h2,h3,pat_fin2 h4 _ _ _⟩⟩
theorem infoT : (Tryz.prog.info? 64).map (fun i=>(i.zero,i.size,i.bytes)) = some (some (.agg #[.string ⟨#[]⟩,.slice none 0 0]),2,40):=by kernel_rfl
def TsF (W : World) (F : Nat -> Prop) : List AT -> Nat -> Nat -> Prop
 | [],_,_=>True
 | .mk n v :: r,b,o=>F b /\ W.cell? ⟨b,o,none⟩ = some (.string n) /\ (∃ u,W.cell? ⟨b,o + 1,none⟩ = some u /\ PatF W F v u) /\ TsF W F r b (o + 2)
def AtsF (W : World) (F : Nat -> Prop) (l : List AT) (v : Value) : Prop:=LieAt (TsF W F l) v l.length
theorem TsF.carry {W W' : World} {F F' : Nat -> Prop} (g : ∀ b,F b -> F' b /\ W'.heap[b]? = W.heap[b]?) : ∀ (l : List AT) (b o : Nat),TsF W F l b o -> TsF W' F' l b o
 | [],b,o,_=>by rw [TsF]; trivial
 | .mk n v :: r,b,o,h=>by
  rw [TsF] at h ⊢
  obtain ⟨hb,h1,⟨u,h2,h3⟩,h4⟩:=h
  exact ⟨(g b hb).1,(cell_same (g b hb).2 _).trans h1,⟨u,(cell_same (g b hb).2 _).trans h2,h3.carry g⟩,TsF.carry g r b _ h4⟩
theorem AtsF.carry {W W' : World} {F F' : Nat -> Prop} (g : ∀ b,F b -> F' b /\ W'.heap[b]? = W.heap[b]?) {l : List AT} {v : Value} (h : AtsF W F l v) : AtsF W' F' l v:=LieAt.imp h (fun b o=>TsF.carry g l b o)
theorem AtsF.nil (W : World) (F : Nat -> Prop) : AtsF W F [] (.slice none 0 0):=⟨none,0,rfl,Nat.le_refl _,Nat.zero_le _,fun h=>absurd h (by simp)⟩
def TZip (W : World) (F : Nat -> Prop) : List AT -> List Value -> Prop
 | [],xs=>xs = []
 | .mk n v :: r,xs=>∃ u ys,xs = .string n :: u :: ys /\ PatF W F v u /\ TZip W F r ys
theorem TZip.snoc {W : World} {F : Nat -> Prop} {t : ByteArray} {p : List EL} {u : Value} (hp : PatF W F p u) : ∀ (acc : List AT) (xs : List Value),TZip W F acc xs -> TZip W F (acc ++ [.mk t p]) (xs ++ [.string t,u])
 | [],xs,h=>by
  rw [TZip] at h
  subst h
  exact ⟨u,[],rfl,hp,rfl⟩
 | .mk t' p' :: r,xs,h=>by
  rw [TZip] at h
  obtain ⟨u',ys,rfl,h2,h3⟩:=h
  exact ⟨u',_,rfl,h2,TZip.snoc hp r ys h3⟩
theorem TZip.carry {W W' : World} {F F' : Nat -> Prop} (g : ∀ b,F b -> F' b /\ W'.heap[b]? = W.heap[b]?) : ∀ (acc : List AT) (xs : List Value),TZip W F acc xs -> TZip W' F' acc xs
 | [],xs,h=>by rw [TZip] at h ⊢; exact h
 | .mk t' p' :: r,xs,h=>by
  rw [TZip] at h
  obtain ⟨u',ys,rfl,h2,h3⟩:=h
  exact ⟨u',ys,rfl,h2.carry g,TZip.carry g r ys h3⟩
theorem TZip.es {W : World} {F : Nat -> Prop} {g : Nat} (hg : F g) : ∀ (acc : List AT) (xs : List Value) (o : Nat),(∀ j x,xs[j]? = some x -> W.cell? ⟨g,o + j,none⟩ = some x) -> TZip W F acc xs -> TsF W F acc g o
 | [],xs,o,hc,h=>by rw [TsF]; trivial
 | .mk t' p' :: r,xs,o,hc,h=>by
  rw [TZip] at h
  obtain ⟨u',ys,rfl,h2,h3⟩:=h
  rw [TsF]
  refine ⟨hg,hc 0 _ rfl,⟨_,hc 1 _ rfl,h2⟩,TZip.es hg r ys (o + 2) (fun j x hx=>?_) h3⟩
  have:=hc (j + 2) x (by simpa using hx)
  rw [show o + 2 + j = o + (j + 2) by omega]
  exact this
def OwnT (B : Nat) (W : World) (v : Value) (acc : List AT) : Prop:=∃ xs,W.ownsRow B 64 2 v acc.length xs /\ TZip W (OwnSet B W v) acc xs
theorem OwnT.nil (B : Nat) (W : World) : OwnT B W (.slice none 0 0) []:=⟨[],World.ownsRow_nil _ _ _ _,rfl⟩
theorem OwnT.below {B : Nat} {W W' : World} {v : Value} {acc : List AT} (h : OwnT B W v acc) (g : Below W.heap.size W W') : OwnT B W' v acc:=by
 obtain ⟨xs,h1,h2⟩:=h
 refine ⟨xs,h1.kept (⟨g.os,g.tape,g.output,g.size,fun k hk _=>g.block k hk⟩ : W.grownBy W' none) (by by_cases h : v.ownBlock = none; exact .inl h; exact .inr h),TZip.carry (fun b hb=>?_) _ _ h2⟩
 obtain ⟨⟨hb1,hb2⟩,hb3⟩:=hb
 exact ⟨⟨⟨hb1,Nat.lt_of_lt_of_le hb2 g.size⟩,hb3⟩,g.block b hb2⟩
theorem OwnT.push {B : Nat} {w1 W2 W3 : World} {v v' : Value} {acc : List AT} {xs : List Value} {t : ByteArray} {p : List EL} {u : Value} (K : Below w1.heap.size w1 W2) (hz : TZip w1 (OwnSet B w1 v) acc xs) (hp : PatF W2 (OwnSet B W2 v) p u)
  (ho : W3.ownsRow B 64 2 v' (acc.length + 1) (xs ++ [.string t,u])) (hg : W2.grownBy W3 v.ownBlock) (hw : v'.ownBlock = v.ownBlock ∨ v'.ownBlock = some W2.heap.size) : OwnT B W3 v' (acc ++ [.mk t p]):=by
 refine ⟨_,by rw [List.length_append]; exact ho,?_⟩
 have hz2 : TZip W2 (OwnSet B W2 v) acc xs:=TZip.carry (fun b hb=>by
  obtain ⟨⟨hb1,hb2⟩,hb3⟩:=hb
  exact ⟨⟨⟨hb1,Nat.lt_of_lt_of_le hb2 K.size⟩,hb3⟩,K.block b hb2⟩) _ _ hz
 have g : ∀ b,OwnSet B W2 v b -> OwnSet B W3 v' b /\ W3.heap[b]? = W2.heap[b]?:=fun b hb=>by
  obtain ⟨⟨hb1,hb2⟩,hb3⟩:=hb
  refine ⟨⟨⟨hb1,Nat.lt_of_lt_of_le hb2 hg.size⟩,?_⟩,hg.block b hb2 hb3⟩
  rcases hw with e | e
  ·rw [e]; exact hb3
  ·rw [e]; intro e2; have:=Option.some.inj e2; omega
 exact TZip.carry g _ _ (TZip.snoc hp acc xs hz2)
theorem OwnT.ats {B : Nat} {W : World} {v : Value} {acc : List AT} (h : OwnT B W v acc) : ∃ A c,v = .slice A acc.length c /\ AtsF W (Since B W) acc v:=by
 obtain ⟨xs,h1,h2⟩:=h
 rcases h1.2 with ⟨rfl,h0⟩ | ⟨g,cap,cur,rfl,hb,hg,hc1,hc2,hcs,htk⟩
 ·have : acc = []:=List.eq_nil_of_length_eq_zero h0
  subst this
  exact ⟨none,0,rfl,AtsF.nil _ _⟩
 ·refine ⟨_,_,rfl,_,_,rfl,hc1,hc2,fun _=>⟨g,0,rfl,TZip.es ⟨hb,(Array.getElem?_eq_some_iff.1 hg).1⟩ acc xs 0 (fun j x hx=>?_) (TZip.carry (fun b hb=>⟨hb.1,rfl⟩) _ _ h2)⟩⟩
  have:=h1.cells (g:=g) rfl j x hx
  rw [Addr.add_mid] at this
  exact this
theorem named_pos {s : ByteArray} {i : Nat} (hi : i <= s.size) {x : ByteArray} {l : List EL} {e : Nat} (h : namedS s i = some (x,l,e)) : i < e /\ e <= s.size:=by
 unfold namedS at h
 have h1:=nm_ok s i hi
 have h2:=sp_ge s (nm s i)
 split at h
 ·cases h
 ·split at h
  ·next hc =>
   have h3:=isAt_lt hc
   split at h
   ·cases h
   ·next hp =>
    have h4:=pat_pos _ h3 _ _ hp
    split at h
    ·cases h; omega
    ·cases h
  ·cases h
theorem attr_pos {s : ByteArray} {i : Nat} (hi : i <= s.size) {x : ByteArray} {l : List EL} {e : Nat} (h : attrS s i = some (x,l,e)) : i < e /\ e <= s.size:=by
 unfold attrS at h
 have h1:=bl_ok s i hi
 split at h
 ·next hc =>
  rw [Bool.and_eq_true] at hc
  have h2:=isAt_lt hc.1
  split at h
  ·cases h
  ·next hn =>
   have h3:=named_pos h2 hn
   split at h
   ·cases h
   ·cases h; omega
 ·cases h
set_option maxHeartbeats 4000000 in
set_option maxRecDepth 100000 in
theorem attrs_call {s : ByteArray} (hPC : PatCall s) (hs : s.size <= 1000000000) (i : Nat) (h1i : 1 <= i) (hi : i <= s.size) (w : World) : Calls Tryz.prog 67 #[.string s,.int .i64 i] w fun e w' =>
  Below w.heap.size w w' /\ ∃ (A : Option Addr) (n c : Nat),e = .returned (.tuple #[.slice A n c,.int .i64 ((atsS s [] i).2 : Nat)]) /\ (atsS s [] i).2 <= s.size /\ i <= (atsS s [] i).2 /\ (atsS s [] i).1.length = n /\ n <= s.size /\ AtsF w' (Since w.heap.size w') (atsS s [] i).1 (.slice A n c):=by
 obtain ⟨i0,hi0,hz0,hz1,hz2⟩:=info_parts infoT
 obtain ⟨RL,hRL⟩ : ∃ R,atsS s [] i = R:=⟨_,rfl⟩
 rw [hRL]
 have HR:=hid hRL
 have HA:=hid (fun j W (h1 : 1 <= j) (hj : j <= s.size)=>attr_call hPC hs j h1 hj W)
 clear hRL
 go_enter Tryz.func67,Tryz.ntmps67
 go_wp2
 go_loopw [1,6] (fun t1 t6 wr=>∃ (acc : List AT) (j : Nat) (A : Option Addr) (c : Nat),t1 = .int .i64 j /\ t6 = .slice A acc.length c /\ i <= j /\ j <= s.size /\ acc.length <= j /\ Hid (atsS s acc j = RL) /\ Hid (Below w.heap.size w wr) /\ Hid (OwnT w.heap.size wr (.slice A acc.length c) acc)) (fun t1 _ _=>s.size - (intOf t1).toNat)
 case atStart=>exact ⟨[],i,none,0,rfl,rfl,Nat.le_refl _,hi,Nat.zero_le _,HR,Below.refl _ _,OwnT.nil _ _⟩
 case round =>
  obtain ⟨acc,j,A,c,rfl,rfl,hij,hj,hal,Hans,HBel,HO⟩:=hrel
  have hj0 : (j : Int) <= 1000000000:=by omega
  have hA:=fun W=>HA.out j W (by omega) hj
  have hans:=Hans.out
  rw [atsS] at hans
  have hpos:=fun x l e h=>attr_pos hj (x:=x) (l:=l) (e:=e) h
  obtain ⟨r,hr⟩ : ∃ r,attrS s j = r:=⟨_,rfl⟩
  rw [hr] at hA hans hpos
  have HAj:=hid hA
  have Hans2:=hid hans
  have Hpos:=hid hpos
  clear hA hans hr hpos
  go_wp2_with fail
  go_at_call 97
  refine (HAj.out _).mono ?_
  rintro e w1 ⟨hb1,X,A',n,c',m,rfl,hm,hn4,h3⟩
  have HB1:=hid (HBel.out.trans (hb1.mono HBel.out.size))
  have HO1:=hid (HO.out.below hb1)
  have H3:=hid h3
  have hs1:=hb1.size
  have hs0:=HBel.out.size
  clear hb1 h3
  cases r with
  | none =>
   have hR:=Hans2.out
   dsimp only at hR
   subst hR
   have HR':=hid HR.out
   go_wp2
   refine bodyPost_ret (v:=.tuple #[.slice A acc.length c,.int .i64 j]) (by simp [results,Tryz.results67,go_sem]) rfl ?_
   obtain ⟨A2,c2,e2,hats⟩:=HO1.out.ats
   refine ⟨HB1.out.alloc (by omega) _,A,acc.length,c,rfl,rfl,by omega,AtsF.carry (fun b hb=>⟨⟨hb.1,by rw [World.size_alloc]; have:=hb.2; omega⟩,Lib.alloc_old _ _ b hb.2⟩) hats⟩
  | some v =>
   obtain ⟨x,l,e⟩:=v
   obtain ⟨rfl,rfl,rfl,hpat⟩:=H3.out x l e rfl
   obtain ⟨hp1,hp2⟩:=Hpos.out _ _ _ rfl
   have hR:=Hans2.out
   dsimp only at hR
   rw [dif_pos ⟨hp1,hp2⟩] at hR
   have Hans3:=hid hR
   obtain ⟨xs6,ho6,hz6⟩:=HO1.out
   obtain ⟨xs5,ho5,_⟩:=HO.out
   have Hv5:=hid (fun k e=>ho5.lt k e)
   have HZ6:=hid hz6
   have HPat:=hid hpat
   have hown1:=(ho6.alloc (.cells #[.string x,.slice A' l.length c'] 64)).alloc (.cells #[.string x,.slice A' l.length c'] 64)
   have hacc : (acc.length : Int) <= 1000000000:=by omega
   clear ho6 ho5 hR hz6 hpat
   go_wp2_with (at_builtin; refine wpList_append_where _ rfl _ _ 32 rfl w.heap.size 64 i0 (.agg #[.string ⟨#[]⟩,.slice none 0 0]) 2 40 Tryz.underlying32 hi0 hz0 hz1 hz2 rfl (by decide) _ _ _ rfl hown1 ⟨w1.heap.size + 1,0,none⟩ 1 1 [.string x,.slice A' l.length c'] rfl rfl ?c1 ?c2 ?c3 ?c4 ?c5 ?c6 ?_)
   case c1 =>
    intro j u hj
    match j,hj with
    | 0,hj=>simp at hj; subst hj; simp [Addr.add] <;> rfl
    | 1,hj=>simp at hj; subst hj; simp [Addr.add]
   case c2=>intro u hu; simp at hu; rcases hu with rfl | rfl <;> rfl
   case c3=>unfold maxLen; omega
   case c4=>omega
   case c5=>simp; omega
   case c6=>decide
   intro v' w8 hown' hgrow hwh
   have K1 : Below w1.heap.size w1 ((w1.alloc (.cells #[.string x,.slice A' l.length c'] 64)).alloc (.cells #[.string x,.slice A' l.length c'] 64)):=((Below.refl _ _).alloc (Nat.le_refl _) _).alloc (by simp) _
   have hpo : PatF ((w1.alloc (.cells #[.string x,.slice A' l.length c'] 64)).alloc (.cells #[.string x,.slice A' l.length c'] 64)) (OwnSet w.heap.size ((w1.alloc (.cells #[.string x,.slice A' l.length c'] 64)).alloc (.cells #[.string x,.slice A' l.length c'] 64)) (.slice A acc.length c)) l (.slice A' l.length c') :=
    PatF.carry (fun b hb=>⟨⟨⟨by have:=hb.1; omega,by rw [World.size_alloc,World.size_alloc]; have:=hb.2; omega⟩,fun e=>by have:=Hv5.out b e.symm; have:=hb.1; omega⟩,K1.block b hb.2⟩) HPat.out
   have HO8:=hid (OwnT.push K1 HZ6.out hpo hown' hgrow (by simpa using hwh))
   have HB8:=hid ((HB1.out.trans (K1.mono (by omega))).grown hgrow (by simp; omega) (fun k e=>(Hv5.out k e).1))
   obtain ⟨A3,c3,rfl⟩:=own_slice hown' (by omega)
   clear hown' hgrow hwh K1 hpo
   go_wp2
   go_roundw
   case rel =>
    refine ⟨acc ++ [.mk x l],e,A3,c3,rfl,?_,by omega,hp2,?_,Hans3,HB8,?_⟩
    ·show Value.slice A3 _ c3 = _
     simp
    ·rw [List.length_append,List.length_singleton]; omega
    ·rw [List.length_append,List.length_singleton]
     exact HO8
   case measure=>simp [intOf]; omega
end Go.Proofs.YtgdkpamlkpncgaaGreatDoor
