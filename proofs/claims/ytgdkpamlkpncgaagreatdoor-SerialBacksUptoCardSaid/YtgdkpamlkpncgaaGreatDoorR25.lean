/-
  Several texts put together (part 25): what the law and the program call, walked; their contracts.
-/
import Derived.Test.YtgdkpamlkpncgaaGreatDoorR24
import Derived.Defers
import Derived.StillTailTactics
import Derived.IntWalk
namespace Go.Proofs.YtgdkpamlkpncgaaGreatDoor
open Go.RowKit
open _root_.Go.Lib (hid)
set_option linter.unusedVariables false
set_option linter.unusedSimpArgs false
set_option maxHeartbeats 2000000 in
set_option maxRecDepth 100000 in
theorem writeD {B b : Nat} {bs : List UInt8} (p : ByteArray) (a n : Nat) (u : FrameMode) (w : World) (h : WrAt B b bs w) (hbx : BoxAt w a #[.string p] 9) (hn : bs.length + p.size <= 140737488355328) :
  CallsD Tryz.prog 37 #[.pointer (some ⟨b,0,none⟩),.slice (some ⟨a,0,none⟩) 1 n] u w fun e u' w'=>u' = u /\ (e = .returned (.tuple #[]) /\ WrAt B b (bs ++ p.data.toList) w' /\ Wk B b w w'):=by
 have HW:=hid (fun (cs : List UInt8) (s : ByteArray) (W : World) (g : WrAt B b cs W) (hz : cs.length + s.size <= 140737488355328)=>writeS_any s W g hz)
 have H:=hid h
 have HX:=hid hbx
 have HN:=hid hn
 have hne:=h.box_ne hbx (by decide)
 clear h hbx hn
 go_enter_d Tryz.func37,Tryz.ntmps37
 go_wp2
 go_loopw [8] (fun t8 wr=>∃ j : Nat,t8 = .int .i64 j /\ ((j = 0 /\ wr = w) ∨ (j = 1 /\ Hid (WrAt B b (bs ++ p.data.toList) wr) /\ Hid (Wk B b w wr)))) (fun t8 _=>1 - (intOf t8).toNat)
 case atStart=>exact ⟨0,rfl,.inl ⟨rfl,rfl⟩⟩
 case round =>
  obtain ⟨j,rfl,⟨rfl,rfl⟩ | ⟨rfl,HA,HK⟩⟩:=hrel
  ·have c0 : wr.cell? ⟨a,0,none⟩ = some (.string p):=by rw [HX.out.cell]; rfl
   have hal:=HX.out.lt
   have hbl:=H.out.lt
   go_wp2_with fail
   go_at_call 57
   refine (HW.out _ _ _ H.out HN.out).mono ?_
   rintro e w1 ⟨rfl,h1,h2⟩
   have HA1:=hid h1
   have HK1:=hid h2
   clear h1 h2
   go_wp2
   go_roundw
   case rel=>exact ⟨1,by go_num,.inr ⟨rfl,HA1,HK1⟩⟩
   case measure=>simp [intOf]
  ·go_wp2
   go_end0
   first | exact ⟨rfl,rfl,HA.out,HK.out⟩ | exact ⟨rfl,HA.out,HK.out⟩
theorem variT (m : Nat) (k : ByteArray) (d : Bool) (v : List EL) (r : List VA) : vsT m (.mk k d v :: r) = (10 :: (sps (m + 3) ++ ((if d then 42 else 32) :: 91 :: (k.data.toList ++ (93 :: paT (m + 8) v))))) ++ vsT m r:=by
 rw [vsT,paT]
def vaT (m : Nat) : VA -> List UInt8
 | .mk k d v=>10 :: (sps (m + 3) ++ ((if d then 42 else 32) :: 91 :: (k.data.toList ++ (93 :: paT (m + 8) v))))
theorem vsT_app (m : Nat) : ∀ a b : List VA,vsT m (a ++ b) = vsT m a ++ vsT m b
 | [],b=>by rw [List.nil_append,vsT,List.nil_append]
 | .mk k d v :: r,b=>by rw [List.cons_append,variT,variT,vsT_app m r b,List.append_assoc]
theorem vsT_take (m : Nat) (l : List VA) (j : Nat) (x : VA) (h : l[j]? = some x) : vsT m (l.take (j + 1)) = vsT m (l.take j) ++ vaT m x:=by
 rw [take_snoc l j x h,vsT_app]
 congr 1
 obtain ⟨k,d,v⟩:=x
 rw [variT,vsT,List.append_nil]
 rfl
theorem vsT_take_le (m : Nat) (l : List VA) (j : Nat) : (vsT m (l.take j)).length <= (vsT m l).length:=by
 have:=congrArg List.length (vsT_app m (l.take j) (l.drop j))
 rw [List.take_append_drop,List.length_append] at this
 omega
theorem sps_add (m n : Nat) : sps (m + n) = sps m ++ sps n:=by simp [sps]
set_option maxHeartbeats 1000000 in
set_option maxRecDepth 100000 in
theorem wvar_any {W0 : World} {B b m : Nat} {bs : List UInt8} (hm : m <= 4000000) (k : ByteArray) (d : Bool) (l : List EL) (v : Value) (hv : PatAt W0 l v) (hP : WaTo W0 B b (m + 8) l) (w : World) (hS : Sw W0 B b w) (h : WrAt B b bs w) (hn : bs.length + (vaT m (.mk k d l)).length <= 140737488355328) :
  Calls Tryz.prog 205 #[.pointer (some ⟨b,0,none⟩),.agg #[.string k,.bool d,v],.string (mgB m)] w fun e w'=>e = .returned (.tuple #[]) /\ WrAt B b (bs ++ vaT m (.mk k d l)) w' /\ Wk B b w w':=by
 have hx : ∃ X : List UInt8,X = [10] ++ (sps m ++ ([32,32,32] ++ ((if d then [42] else [32]) ++ ([91] ++ (k.data.toList ++ [93]))))) /\ vaT m (.mk k d l) = X ++ paT (m + 8) l:=by
  refine ⟨_,rfl,?_⟩
  unfold vaT
  dsimp only
  rw [sps_add]
  cases d <;> simp [sps]
 obtain ⟨X,hX,hT⟩:=hx
 rw [hT] at hn ⊢
 have hmg : mgB m ++ ⟨#[32,32,32,32,32,32,32,32]⟩ = mgB (m + 8):=mgB_add m 8
 have hmz : (mgB m).size = m:=mgB_size m
 have hz : ¬ 9223372036854775807 < (mgB m).size + 8:=by omega
 have hlen : bs.length + X.length <= 140737488355328:=by rw [List.length_append] at hn; omega
 have hXl : X.length = 1 + (m + (3 + (1 + (1 + (k.size + 1))))):=by
  rw [hX]
  cases d <;> simp [sps] <;> omega
 have HN:=hid hn
 have HS:=hid hS
 have HP:=hid hP
 have HV:=hid hv
 have HH:=hid h
 have HMG:=hid hmg
 have HXe:=hid hX
 obtain ⟨A,c,rfl,_⟩:=hv
 have C0:=hid (BoxAt.new w #[.string k,.bool d,.slice A l.length c] 129)
 have hlt0:=h.lt
 have hwr:=fun x (hx : (x : ByteArray).size = 1)=>write7 ⟨#[10]⟩ (mgB m) ⟨#[32,32,32]⟩ x ⟨#[91]⟩ k ⟨#[93]⟩ (w.alloc (.cells #[.string k,.bool d,.slice A l.length c] 129)) (h.alloc _) (by rw [hmz,hx]; show _ + (1 + (_ + (3 + (_ + (1 + (_ + 1)))))) <= _; omega)
 simp only [World.size_alloc] at hwr
 clear hT hn hS hP h hmg hlen hXl hX hmz
 cases d
 case false =>
  have HW:=hid (hwr ⟨#[32]⟩ rfl)
  clear hwr
  go_enter Tryz.func205,Tryz.ntmps205
  go_wp2_with fail
  go_at_call 37
  refine HW.out.mono ?_
  rintro e w1 ⟨rfl,h1,g1⟩
  have h1' : WrAt B b (bs ++ X) w1:=by have:=h1; rw [HXe.out]; simpa [mgB_data] using this
  have HA1:=hid h1'
  have HK1:=hid (((Wk.refl B b w).alloc HH.out.le (.cells #[.string k,.bool false,.slice A l.length c] 129)).trans g1)
  have C1:=hid (C0.out.wk g1 ((HH.out.alloc _).box_ne C0.out (by decide)) (by decide))
  have hw1 : w.heap.size < w1.heap.size:=C1.out.lt
  have e2 : w1.cell? ⟨w.heap.size,2,none⟩ = some (.slice A l.length c):=C1.out.cell 2
  clear h1 g1 h1'
  have HC:=hid (HP.out (.slice A l.length c) (bs ++ X) w1 (HS.out.step HK1.out) HV.out HA1.out (by have:=HN.out; rw [List.length_append] at this ⊢; omega))
  go_wp2_with fail
  rw [HMG.out]
  go_at_call 118
  refine HC.out.mono ?_
  rintro e w2 ⟨rfl,h2,g2⟩
  have HA2:=hid h2
  have HK2:=hid (HK1.out.trans g2)
  clear h2 g2
  go_wp2
  go_end0
  exact ⟨rfl,by rw [<- List.append_assoc]; exact HA2.out,HK2.out⟩
 case true =>
  have HW:=hid (hwr ⟨#[42]⟩ rfl)
  clear hwr
  go_enter Tryz.func205,Tryz.ntmps205
  go_wp2_with fail
  go_at_call 37
  refine HW.out.mono ?_
  rintro e w1 ⟨rfl,h1,g1⟩
  have h1' : WrAt B b (bs ++ X) w1:=by have:=h1; rw [HXe.out]; simpa [mgB_data] using this
  have HA1:=hid h1'
  have HK1:=hid (((Wk.refl B b w).alloc HH.out.le (.cells #[.string k,.bool true,.slice A l.length c] 129)).trans g1)
  have C1:=hid (C0.out.wk g1 ((HH.out.alloc _).box_ne C0.out (by decide)) (by decide))
  have hw1 : w.heap.size < w1.heap.size:=C1.out.lt
  have e2 : w1.cell? ⟨w.heap.size,2,none⟩ = some (.slice A l.length c):=C1.out.cell 2
  clear h1 g1 h1'
  have HC:=hid (HP.out (.slice A l.length c) (bs ++ X) w1 (HS.out.step HK1.out) HV.out HA1.out (by have:=HN.out; rw [List.length_append] at this ⊢; omega))
  go_wp2_with fail
  rw [HMG.out]
  go_at_call 118
  refine HC.out.mono ?_
  rintro e w2 ⟨rfl,h2,g2⟩
  have HA2:=hid h2
  have HK2:=hid (HK1.out.trans g2)
  clear h2 g2
  go_wp2
  go_end0
  exact ⟨rfl,by rw [<- List.append_assoc]; exact HA2.out,HK2.out⟩
theorem exAt_parts {W0 : World} {k : Int} {t n a : ByteArray} {al : List AR} {i : Option EX} {vs : List VA} {c : C7} (h : ExAt W0 (.mk k t n a al i vs) c) :
  ∃ A1 c1 p A2 c2,c = ⟨.int .i64 k,.string t,.string n,.string a,.slice A1 al.length c1,.pointer p,.slice A2 vs.length c2⟩ /\ OAt W0 i (.pointer p) /\ LieAt (VsAt W0 vs) (.slice A2 vs.length c2) vs.length:=by
 obtain ⟨ck,ct,cn,ca,cal,ci,cvs⟩:=c
 rw [ExAt] at h
 obtain ⟨e1,e2,e3,e4,⟨A1,c1,e5,_⟩,e6,h7⟩:=h
 have h7':=h7
 obtain ⟨A2,c2,e7,_⟩:=h7'
 dsimp only at e1 e2 e3 e4 e5 e6 e7 h7
 obtain ⟨p,rfl⟩:=o_shape e6
 subst e1 e2 e3 e4 e5 e7
 exact ⟨_,_,_,_,_,rfl,e6,h7⟩
set_option maxHeartbeats 2000000 in
set_option maxRecDepth 100000 in
theorem wplace_plain {W0 : World} {B b m : Nat} (k : Int) (t n a : ByteArray) (al : List AR) (i : Option EX) (vs : List VA) (hk : k ≠ 7) (hI : WiTo W0 B b m (.mk k t n a al i vs)) : WpTo W0 B b m (.mk k t n a al i vs):=by
 intro q o c bs w hS hq hc hx h hn
 rw [plT_plain m k t n a al i vs hk] at hn ⊢
 obtain ⟨T,hT⟩ : ∃ T,exT m (.mk k t n a al i vs) = T:=⟨_,rfl⟩
 have hi:=fun bs w h1 h2 h3=>hI q o c bs w h1 hq hc hx h2 h3
 rw [hT] at hn ⊢
 simp only [hT] at hi
 have HI:=hid hi
 have HX:=hid hx
 obtain ⟨A1,c1,p,A2,c2,rfl,_,_⟩:=exAt_parts hx
 have HW:=hid (write1 ⟨#[123,32]⟩ w h (by simp at hn; show _ + 2 <= _; omega))
 have hne7 : (k != 7) = true:=bne_iff_ne.2 hk
 have HS:=hid hS
 have HC:=hid hc
 have HN:=hid hn
 have HH:=hid h
 clear hi hT hx hS hc h hn hI
 go_enter_defers Tryz.func162,Tryz.ntmps162
 go_wp2_with fail
 go_at_call 37
 refine HW.out.mono ?_
 rintro e w1 ⟨rfl,h1,g1⟩
 obtain ⟨⟨k0,k1,k2,k3,k4,k5,k6⟩,hlt⟩:=(HS.out.step g1).at_ hq HC.out
 dsimp only at k0 k1 k2 k3 k4 k5 k6
 have HA1:=hid (h1.alloc (.cells #[.string ⟨#[125]⟩] 9))
 have HK1:=hid (g1.alloc h1.le (.cells #[.string ⟨#[125]⟩] 9))
 have HB1:=hid (BoxAt.new w1 #[.string ⟨#[125]⟩] 9)
 have HI1:=hid (HI.out _ _ (HS.out.step HK1.out) HA1.out (by have:=HN.out; simp at this ⊢; omega))
 clear h1 g1
 go_wp2_with fail
 go_at_call 204
 refine HI1.out.mono ?_
 rintro e w2 ⟨rfl,h2,g2⟩
 have HW2:=hid (write1 ⟨#[32]⟩ w2 h2 (by have:=HN.out; simp at this ⊢; show _ + 1 <= _; omega))
 have HB2:=hid (HB1.out.wk g2 (HA1.out.box_ne HB1.out (by decide)) (by decide))
 have HK2:=hid (HK1.out.trans g2)
 clear h2 g2
 go_wp2_with fail
 go_at_call 37
 refine HW2.out.mono ?_
 rintro e w3 ⟨rfl,h3,g3⟩
 have HA3:=hid h3
 have HK3:=hid (HK2.out.trans g3)
 have hbne : w1.heap.size ≠ b:=HA1.out.box_ne HB1.out (by decide)
 have HB3:=hid (HB2.out.wk g3 hbne (by decide))
 clear h3 g3 hbne
 go_wp2
 refine leaves_cons (f:=37) (args:=#[.pointer (some ⟨b,0,none⟩),.slice (some ⟨w1.heap.size,0,none⟩) 1 1]) (by simp) (by simp [go_sem]) ?_
 refine (writeD ⟨#[125]⟩ w1.heap.size 1 .returning w3 HA3.out HB3.out (by have:=HN.out; simp at this ⊢; show _ + 1 <= _; omega)).mono ?_
 rintro e u' w4 ⟨rfl,rfl,h4,g4⟩
 simp [Leaves,settle,results,Tryz.results162]
 exact ⟨by simpa using h4,HK3.out.trans g4⟩
theorem va_at {W0 : World} {l : List VA} {v : Value} (hv : LieAt (VsAt W0 l) v l.length) {j : Nat} (hj : j < l.length) : ∃ b o c,v = .slice (some ⟨b,o,none⟩) l.length c /\ b < W0.heap.size /\ ∃ t d p u,l[j]? = some (.mk t d p) /\ W0.cell? ⟨b,o + j * 3,none⟩ = some (.string t) /\ W0.cell? ⟨b,o + j * 3 + 1,none⟩ = some (.bool d) /\ W0.cell? ⟨b,o + j * 3 + 2,none⟩ = some u /\ PatAt W0 p u:=by
 obtain ⟨b,o,c,hv,hb,hcs⟩:=vars_get hv hj
 obtain ⟨t,d,p,he⟩ : ∃ t d p,l[j]? = some (.mk t d p):=by
  cases e : l[j] with
  | mk t d p=>exact ⟨t,d,p,by rw [List.getElem?_eq_getElem hj,e]⟩
 obtain ⟨h1,h2,u,h3,h4⟩:=hcs j t d p he
 exact ⟨b,o,c,hv,hb,t,d,p,u,he,h1,h2,h3,h4⟩
set_option maxHeartbeats 4000000 in
set_option maxRecDepth 100000 in
theorem wplace_sel {W0 : World} {B b m : Nat} (hm : m <= 4000000) (t n a : ByteArray) (al : List AR) (e : EX) (vs : List VA) (hvz : vs.length <= 4000000) (hI : WiTo W0 B b m e) (hV : ∀ (j : Nat) (k : ByteArray) (d : Bool) (l : List EL),vs[j]? = some (.mk k d l) -> WaTo W0 B b (m + 8) l) : WpTo W0 B b m (.mk 7 t n a al (some e) vs):=by
 intro q o c bs w hS hq hc hx h hn
 have hpl : plT m (.mk 7 t n a al (some e) vs) = [123,32] ++ (exT m e ++ ([32,45,62] ++ (vsT m vs ++ (10 :: (sps m ++ [125]))))):=by
  rw [plT,if_pos rfl,exO]; rfl
 rw [hpl] at hn ⊢
 obtain ⟨T,hT⟩ : ∃ T,exT m e = T:=⟨_,rfl⟩
 obtain ⟨A1,c1,p,A2,c2,rfl,ho,hvl⟩:=exAt_parts hx
 simp only [OAt] at ho
 obtain ⟨q',o',c',hp',hq',hc',hx'⟩:=ho
 cases hp'
 have hi:=fun bs w h1 h2 h3=>hI q' o' c' bs w h1 hq' hc' hx' h2 h3
 rw [hT] at hn ⊢
 simp only [hT] at hi
 have HI:=hid hi
 have HVl:=hid hvl
 have HV:=hid hV
 have HW:=hid (write1 ⟨#[123,32]⟩ w h (by simp at hn; show _ + 2 <= _; omega))
 have HS:=hid hS
 have HC:=hid hc
 have HN:=hid hn
 have HH:=hid h
 obtain ⟨VT,hVT⟩ : ∃ x,vsT m vs = x:=⟨_,rfl⟩
 rw [hVT] at HN ⊢
 have HVT:=hid hVT
 have hvz0 : (vs.length : Int) <= 4000000:=by omega
 clear hi hT hx hS hc h hn hI hV hvl hpl hc' hx' hVT hq'
 go_enter_defers Tryz.func162,Tryz.ntmps162
 go_wp2_with fail
 go_at_call 37
 refine HW.out.mono ?_
 rintro e w1 ⟨rfl,h1,g1⟩
 obtain ⟨⟨k0,k1,k2,k3,k4,k5,k6⟩,hlt⟩:=(HS.out.step g1).at_ hq HC.out
 dsimp only at k0 k1 k2 k3 k4 k5 k6
 have HA1:=hid (h1.alloc (.cells #[.string ⟨#[125]⟩] 9))
 have HK1:=hid (g1.alloc h1.le (.cells #[.string ⟨#[125]⟩] 9))
 have HB1:=hid (BoxAt.new w1 #[.string ⟨#[125]⟩] 9)
 have HI1:=hid (HI.out _ _ (HS.out.step HK1.out) HA1.out (by have:=HN.out; simp at this ⊢; omega))
 have hbne : w1.heap.size ≠ b:=HA1.out.box_ne HB1.out (by decide)
 clear h1 g1 HI
 go_wp2_with fail
 go_at_call 204
 refine HI1.out.mono ?_
 rintro e w2 ⟨rfl,h2,g2⟩
 have HW2:=hid (write1 ⟨#[32,45,62]⟩ w2 h2 (by have:=HN.out; simp at this ⊢; show _ + 3 <= _; omega))
 have HB2:=hid (HB1.out.wk g2 hbne (by decide))
 have HK2:=hid (HK1.out.trans g2)
 clear h2 g2 HI1
 go_wp2_with fail
 go_at_call 37
 refine HW2.out.mono ?_
 rintro e w3 ⟨rfl,h3,g3⟩
 have HA3:=hid h3
 have HK3:=hid (HK2.out.trans g3)
 have HB3:=hid (HB2.out.wk g3 hbne (by decide))
 obtain ⟨⟨k0,k1,k2,k3,k4,k5,k6⟩,hlt⟩:=(HS.out.step HK3.out).at_ hq HC.out
 dsimp only at k0 k1 k2 k3 k4 k5 k6
 obtain ⟨X,hX⟩ : ∃ X,bs ++ [123,32] ++ T ++ [32,45,62] = X:=⟨_,rfl⟩
 have hXY : bs ++ ([123,32] ++ (T ++ ([32,45,62] ++ (VT ++ (10 :: (sps m ++ [125])))))) = X ++ (VT ++ (10 :: (sps m ++ [125]))):=by rw [<- hX]; simp
 have HXY:=hid hXY
 have HX3:=hid (show WrAt B b (X ++ vsT m (vs.take 0)) w3 by rw [List.take_zero,vsT,List.append_nil,<- hX]; exact HA3.out)
 have HN3:=hid (show X.length + (VT.length + (1 + (m + 1))) <= 140737488355328 by
  have h1:=HN.out
  rw [<- List.length_append,hXY] at h1
  simp [sps] at h1
  omega)
 clear h3 g3 hX hXY HA3 HB1 HB2 HK1 HK2 HA1 HW2 HN
 go_wp2
 go_loopw [40] (fun t40 wr=>∃ j : Nat,t40 = .int .i64 j /\ j <= vs.length /\ Hid (WrAt B b (X ++ vsT m (vs.take j)) wr) /\ Hid (Wk B b w wr) /\ Hid (BoxAt wr w1.heap.size #[.string ⟨#[125]⟩] 9)) (fun t40 _=>vs.length - (intOf t40).toNat)
 case atStart=>exact ⟨0,rfl,Nat.zero_le _,HX3,HK3,HB3⟩
 case round =>
  clear HX3 HK3 HB3 k0 k1 k2 k3 k4 k5 k6
  obtain ⟨j,rfl,hj,HA,HK,HB⟩:=hrel
  have hj0 : (j : Int) <= 4000000:=by omega
  have hSr:=HS.out.step HK.out
  by_cases hlt : j < vs.length
  ·have d1 : decide ((j : Int) < (vs.length : Int)) = true:=decide_eq_true (by omega)
   have d2 : (j : Int) < (vs.length : Int):=by omega
   obtain ⟨eb,eo,c',e,hb,k,d,l,u,hel,c0,c1',c2',hpt⟩:=va_at HVl.out hlt
   cases e
   have hpt':=hpt
   obtain ⟨A3,c3,rfl,_⟩:=hpt'
   rw [<- hSr.hW.cell (p:=⟨eb,eo + j * 3,none⟩) hb] at c0
   rw [<- hSr.hW.cell (p:=⟨eb,eo + j * 3 + 1,none⟩) hb] at c1'
   rw [<- hSr.hW.cell (p:=⟨eb,eo + j * 3 + 2,none⟩) hb] at c2'
   have hbw : eb < wr.heap.size:=Nat.lt_of_lt_of_le hb hSr.hW.size
   have hlen : (X ++ vsT m (vs.take j)).length + (vaT m (.mk k d l)).length <= 140737488355328:=by
    have h1:=vsT_take_le m vs (j + 1)
    rw [vsT_take m vs j _ hel,List.length_append,HVT.out] at h1
    have h2:=HN3.out
    rw [List.length_append]; omega
   have HT:=hid (vsT_take m vs j _ hel)
   have HC:=hid (wvar_any (bs:=X ++ vsT m (vs.take j)) hm k d l (.slice A3 l.length c3) hpt (HV.out j k d l hel) (wr.alloc (.cells #[.string k,.bool d,.slice A3 l.length c3] 129)) (hSr.alloc _) (HA.out.alloc _) hlen)
   have HKa:=hid (HK.out.alloc HA.out.le (.cells #[.string k,.bool d,.slice A3 l.length c3] 129))
   have HBa:=hid (HB.out.alloc (.cells #[.string k,.bool d,.slice A3 l.length c3] 129))
   clear hel hpt hlen hSr
   go_wp2_with fail
   go_at_call 205
   refine HC.out.mono ?_
   rintro e w4 ⟨rfl,h4,g4⟩
   have HA4:=hid h4
   have HK4:=hid (HKa.out.trans g4)
   have HB4:=hid (HBa.out.wk g4 hbne (by decide))
   clear h4 g4
   go_wp2
   go_roundw
   case rel=>exact ⟨j + 1,by go_num,hlt,hid (by rw [HT.out,<- List.append_assoc]; exact HA4.out),HK4,HB4⟩
   case measure=>simp [intOf]; omega
  ·obtain rfl : j = vs.length:=by omega
   have d1 : decide ((vs.length : Int) < (vs.length : Int)) = false:=decide_eq_false (by omega)
   have hA:=HA.out
   rw [List.take_of_length_le (Nat.le_refl _),HVT.out] at hA
   have HW5:=hid (write2 ⟨#[10]⟩ (mgB m) wr hA (by rw [mgB_size,List.length_append]; have:=HN3.out; show _ + (1 + _) <= _; omega))
   clear hA hSr
   go_wp2_with fail
   go_at_call 37
   refine HW5.out.mono ?_
   rintro e w5 ⟨rfl,h5,g5⟩
   have HA5:=hid h5
   have HK5:=hid (HK.out.trans g5)
   have HB5:=hid (HB.out.wk g5 hbne (by decide))
   clear h5 g5
   go_wp2
   refine leaves_cons (f:=37) (args:=#[.pointer (some ⟨b,0,none⟩),.slice (some ⟨w1.heap.size,0,none⟩) 1 1]) (by simp) (by simp [go_sem]) ?_
   refine (writeD ⟨#[125]⟩ w1.heap.size 1 .returning w5 HA5.out HB5.out (by have:=HN3.out; rw [List.length_append,List.length_append,List.length_append,mgB_data]; simp [sps]; show _ + 1 <= _; omega)).mono ?_
   rintro e u' w6 ⟨rfl,rfl,h6,g6⟩
   simp [Leaves,settle,results,Tryz.results162]
   refine ⟨?_,HK5.out.trans g6⟩
   have:=HXY.out
   simp at this
   rw [this]
   simpa [mgB_data] using h6
theorem szVs_get : ∀ (l : List VA) (j : Nat) (k : ByteArray) (d : Bool) (v : List EL),l[j]? = some (.mk k d v) -> 1 + sizeEs v <= sizeVs l
 | [],j,k,d,v,h=>by simp at h
 | .mk k' d' v' :: r,0,k,d,v,h=>by
  simp at h
  obtain ⟨rfl,rfl,rfl⟩:=h
  rw [sizeVs]; omega
 | .mk k' d' v' :: r,j + 1,k,d,v,h=>by
  have:=szVs_get r j k d v (by simpa using h)
  rw [sizeVs]; omega
theorem szEs_place (l : List EL) (j : Nat) (t : ByteArray) (e : EX) (h : l[j]? = some (.mk t (some e))) : 1 + e.size <= sizeEs l:=by
 induction l generalizing j with
 | nil=>simp at h
 | cons x r ih =>
  cases j with
  | zero =>
   simp at h
   subst h
   rw [sizeEs,sizeO]; omega
  | succ j =>
   have:=ih j (by simpa using h)
   obtain ⟨t',p'⟩:=x
   rw [sizeEs]; omega
theorem knotW {W0 : World} (hM : MxW W0) {B b : Nat} : ∀ (s : Nat) (e : EX),e.size <= s -> ∀ m,m + 2 * e.size <= 4000000 -> (gdI e = true -> WiTo W0 B b m e) /\ (gdP e = true -> WpTo W0 B b m e):=by
 intro s
 induction s with
 | zero=>intro e h; have:=e.size_pos; omega
 | succ s ih =>
  intro e he m hm
  have hI : ∀ x : EX,x.size <= e.size -> gdI x = true -> WiTo W0 B b m x:=by
   intro x hx hg
   refine winl_any x hg (by omega) fun y hy hyz=>?_
   obtain ⟨k,t,n,a,al,i,vs⟩:=y
   have hs:=hyz
   rw [EX.size] at hs
   refine whead_any k t n a al i vs hy (by omega) fun k6 z hz=>?_
   subst hz
   have hzz : sizeO (some z) = z.size:=by rw [sizeO]
   have hgz : gdP z = true:=by
    rw [gdI] at hy
    unfold gdW at hy
    rw [if_pos k6,Bool.and_eq_true,gdO] at hy
    exact hy.2
   exact (ih z (by omega) m (by omega)).2 hgz
  refine ⟨hI e (Nat.le_refl _),fun hg=>?_⟩
  obtain ⟨k,t,n,a,al,i,vs⟩:=e
  by_cases k7 : k = 7
  ·subst k7
   obtain ⟨⟨x,rfl,hgx⟩,hgv⟩:=gdP_sel hg
   have hs:=he
   rw [EX.size,sizeO] at hs
   rw [EX.size,sizeO] at hm
   have hvl:=sizeVs_length vs
   refine wplace_sel (by omega) t n a al x vs (by omega) (hI x (by rw [EX.size,sizeO]; omega) hgx) fun j k' d l hel=>?_
   have h1:=szVs_get vs j k' d l hel
   refine wpat_any hM l (by omega) fun j' t' z hz=>?_
   have h2:=szEs_place l j' t' z hz
   have h3:=x.size_pos
   exact (ih z (by omega) (m + 8) (by omega)).2 (gdEs_get l j' t' z (gdVs_get vs j k' d l hgv hel).1 hz)
  ·exact wplace_plain k t n a al i vs k7 (hI _ (Nat.le_refl _) (gdP_inl k7 hg))
theorem pat_writes {W0 : World} (hM : MxW W0) {B b : Nat} (m : Nat) (l : List EL) (hg : gdEs l = true) (hz : m + 2 * sizeEs l <= 4000000) : WaTo W0 B b m l :=
 wpat_any hM l (by omega) fun j t e he=>(knotW hM e.size e (Nat.le_refl _) m (by have:=szEs_place l j t e he; omega)).2 (gdEs_get l j t e hg he)
def namT (m : Nat) (n : ByteArray) (l : List EL) : List UInt8:=n.data.toList ++ (32 :: 61 :: (if l.isEmpty then [] else paT m l))
set_option maxHeartbeats 2000000 in
set_option maxRecDepth 100000 in
theorem wnamed_any {W0 : World} (hM : MxW W0) {B b : Nat} {bs : List UInt8} (m : Nat) (n : ByteArray) (l : List EL) (v : Value) (hv : PatAt W0 l v) (hg : gdEs l = true) (hz : m + 2 * sizeEs l <= 4000000) (w : World) (hS : Sw W0 B b w) (h : WrAt B b bs w) (hn : bs.length + (namT m n l).length <= 140737488355328) :
  Calls Tryz.prog 88 #[.pointer (some ⟨b,0,none⟩),.string n,v,.string (mgB m)] w fun e w'=>e = .returned (.tuple #[]) /\ WrAt B b (bs ++ namT m n l) w' /\ Wk B b w w':=by
 have hW:=pat_writes hM (B:=B) (b:=b) m l hg hz
 have HW:=hid (write2 n ⟨#[32,61]⟩ w h (by unfold namT at hn; simp at hn; show _ + (_ + 2) <= _; omega))
 have HWa:=hid hW
 have HS:=hid hS
 have HN:=hid hn
 have HV:=hid hv
 have hll:=sizeEs_length l
 have hl0 : (l.length : Int) <= 4000000:=by omega
 obtain ⟨A,c,rfl,_⟩:=hv
 obtain ⟨bl,hbl⟩ : ∃ x,decide (0 < l.length) = x:=⟨_,rfl⟩
 have hem : l.isEmpty = !bl:=by rw [<- hbl]; cases l <;> simp
 unfold namT at HN ⊢
 rw [hem] at HN ⊢
 clear hW hS hn h hz hll hem
 cases bl
 case false =>
  have hnl : ¬ 0 < l.length:=of_decide_eq_false hbl
  rw [if_pos (show (!false) = true from rfl)] at HN ⊢
  go_enter Tryz.func88,Tryz.ntmps88
  go_wp2_with fail
  go_at_call 37
  refine HW.out.mono ?_
  rintro e w1 ⟨rfl,h1,g1⟩
  have HA:=hid h1
  have HK:=hid g1
  clear h1 g1
  go_wp2
  go_end0
  exact ⟨rfl,HA.out,HK.out⟩
 case true =>
  have hnl : 0 < l.length:=of_decide_eq_true hbl
  rw [if_neg (show ¬ (!true) = true by simp)] at HN ⊢
  obtain ⟨T,hT⟩ : ∃ T,paT m l = T:=⟨_,rfl⟩
  have hwa:=HWa.out (.slice A l.length c) (bs ++ (n.data.toList ++ [32,61]))
  rw [hT] at HN hwa ⊢
  have HWb:=hid hwa
  clear hT hwa HWa
  go_enter Tryz.func88,Tryz.ntmps88
  go_wp2_with fail
  go_at_call 37
  refine HW.out.mono ?_
  rintro e w1 ⟨rfl,h1,g1⟩
  have HC:=hid (HWb.out w1 (HS.out.step g1) HV.out h1 (by have:=HN.out; simp at this ⊢; omega))
  have HK:=hid g1
  clear h1 g1
  go_wp2_with fail
  go_at_call 118
  refine HC.out.mono ?_
  rintro e w2 ⟨rfl,h2,g2⟩
  have HA2:=hid h2
  have HK2:=hid (HK.out.trans g2)
  clear h2 g2
  go_wp2
  go_end0
  exact ⟨rfl,by simpa using HA2.out,HK2.out⟩
def atT : AT -> List UInt8
 | .mk n v=>10 :: 32 :: 32 :: 32 :: 32 :: 46 :: namT 8 n v
def atsN (l : List AT) : List UInt8:=l.flatMap atT
theorem atsN_take (l : List AT) (j : Nat) (x : AT) (h : l[j]? = some x) : atsN (l.take (j + 1)) = atsN (l.take j) ++ atT x:=by
 rw [take_snoc l j x h]; simp [atsN]
theorem atsN_take_le (l : List AT) (j : Nat) : (atsN (l.take j)).length <= (atsN l).length:=by
 have e : atsN l = atsN (l.take j) ++ atsN (l.drop j):=by
  unfold atsN
  rw [<- List.flatMap_append,List.take_append_drop]
 rw [e,List.length_append]; omega
def gdTs (l : List AT) : Prop:=∀ n v,AT.mk n v ∈ l -> v ≠ [] /\ gdEs v = true
theorem atsN_eq : ∀ l : List AT,gdTs l -> atsN l = atsT l
 | [],_=>by rw [atsT]; rfl
 | .mk n v :: r,h=>by
  obtain ⟨h1,_⟩:=h n v (List.mem_cons_self ..)
  have ih:=atsN_eq r (fun n v hm=>h n v (List.mem_cons_of_mem _ hm))
  rw [atsT,<- ih]
  have e : v.isEmpty = false:=by cases v with
   | nil=>exact absurd rfl h1
   | cons x r=>rfl
  have : atsN (AT.mk n v :: r) = atT (.mk n v) ++ atsN r:=rfl
  rw [this]
  unfold atT namT
  dsimp only
  rw [e]
  simp
theorem szTs_get : ∀ (l : List AT) (j : Nat) (n : ByteArray) (v : List EL),l[j]? = some (.mk n v) -> sizeEs v <= sizeTs l
 | [],j,n,v,h=>by simp at h
 | .mk n' v' :: r,0,n,v,h=>by
  simp at h
  obtain ⟨rfl,rfl⟩:=h
  rw [sizeTs]; omega
 | .mk n' v' :: r,j + 1,n,v,h=>by
  have:=szTs_get r j n v (by simpa using h)
  rw [sizeTs]; omega
theorem at_at {W0 : World} {l : List AT} {v : Value} (hv : LieAt (TsAt W0 l) v l.length) {j : Nat} (hj : j < l.length) : ∃ b o c,v = .slice (some ⟨b,o,none⟩) l.length c /\ b < W0.heap.size /\ ∃ t p u,l[j]? = some (.mk t p) /\ W0.cell? ⟨b,o + j * 2,none⟩ = some (.string t) /\ W0.cell? ⟨b,o + j * 2 + 1,none⟩ = some u /\ PatAt W0 p u:=by
 obtain ⟨b,o,c,hv,hb,hcs⟩:=ats_get hv hj
 obtain ⟨t,p,he⟩ : ∃ t p,l[j]? = some (.mk t p):=by
  cases e : l[j] with
  | mk t p=>exact ⟨t,p,by rw [List.getElem?_eq_getElem hj,e]⟩
 obtain ⟨h1,u,h2,h3⟩:=hcs j t p he
 exact ⟨b,o,c,hv,hb,t,p,u,he,h1,h2,h3⟩
def mesT (name : ByteArray) (val : List EL) (ats : List AT) : List UInt8:=namT 4 name val ++ (atsN ats ++ [10])
set_option maxHeartbeats 4000000 in
set_option maxRecDepth 100000 in
theorem wmes_any {W0 : World} (hM : MxW W0) {B b : Nat} {bs : List UInt8} (ty lv : Int) (tx nm : ByteArray) (val : List EL) (ats : List AT) (v u : Value) (fr tu : Int) (hv : PatAt W0 val v) (hu : LieAt (TsAt W0 ats) u ats.length) (hg : gdEs val = true) (hgt : gdTs ats) (hz : 8 + 2 * (sizeEs val + sizeTs ats) <= 4000000)
  (w : World) (hS : Sw W0 B b w) (h : WrAt B b bs w) (hn : bs.length + (mesT nm val ats).length <= 140737488355328) :
  Calls Tryz.prog 59 #[.pointer (some ⟨b,0,none⟩),entV ty lv tx nm v u fr tu] w fun e w'=>e = .returned (.tuple #[]) /\ WrAt B b (bs ++ mesT nm val ats) w' /\ Wk B b w w':=by
 have hat:=sizeTs_length ats
 have hat0 : (ats.length : Int) <= 4000000:=by omega
 have HU:=hid hu
 have HGt:=hid hgt
 have HZ:=hid hz
 have HS:=hid hS
 have HN:=hid hn
 have HH:=hid h
 have HM:=hid hM
 have hwn:=fun W (h1 : Sw W0 B b W) (h2 : WrAt B b bs W) h3=>wnamed_any hM 4 nm val v hv hg (by omega) W h1 h2 h3
 obtain ⟨A,c,rfl,_⟩:=hv
 obtain ⟨A2,c2,rfl,_⟩:=hu
 unfold entV mesT at *
 obtain ⟨N,hNN⟩ : ∃ N,namT 4 nm val = N:=⟨_,rfl⟩
 rw [hNN] at HN ⊢
 simp only [hNN] at hwn
 have HWn:=hid hwn
 have C0:=hid ((BoxAt.new w #[.int .i64 ty,.int .i64 lv,.string tx,.string nm,.slice A val.length c,.slice A2 ats.length c2,.int .i64 fr,.int .i64 tu] 34).alloc (.cells #[.string ⟨#[10]⟩] 9))
 have B0:=hid (BoxAt.new' (w.alloc (.cells #[.int .i64 ty,.int .i64 lv,.string tx,.string nm,.slice A val.length c,.slice A2 ats.length c2,.int .i64 fr,.int .i64 tu] 34)) (w.heap.size + 1) #[.string ⟨#[10]⟩] 9 (by simp))
 have HA0:=hid ((h.alloc (.cells #[.int .i64 ty,.int .i64 lv,.string tx,.string nm,.slice A val.length c,.slice A2 ats.length c2,.int .i64 fr,.int .i64 tu] 34)).alloc (.cells #[.string ⟨#[10]⟩] 9))
 have HK0:=hid (((Wk.refl B b w).alloc h.le (.cells #[.int .i64 ty,.int .i64 lv,.string tx,.string nm,.slice A val.length c,.slice A2 ats.length c2,.int .i64 fr,.int .i64 tu] 34)).alloc (h.alloc _).le (.cells #[.string ⟨#[10]⟩] 9))
 have HC:=hid (HWn.out _ (HS.out.step HK0.out) HA0.out (by have:=HN.out; simp at this ⊢; omega))
 clear hS hn h hM hNN hwn hgt hz hat HWn
 go_enter_defers Tryz.func59,Tryz.ntmps59
 go_wp2_with fail
 go_at_call 88
 refine HC.out.mono ?_
 rintro e w1 ⟨rfl,h1,g1⟩
 have hb0 : w.heap.size ≠ b:=HA0.out.box_ne C0.out (by decide)
 have hb1 : w.heap.size + 1 ≠ b:=HA0.out.box_ne B0.out (by decide)
 have C1:=hid (C0.out.wk g1 hb0 (by decide))
 have B1:=hid (B0.out.wk g1 hb1 (by decide))
 have HK1:=hid (HK0.out.trans g1)
 have d5 : w1.cell? ⟨w.heap.size,5,none⟩ = some (.slice A2 ats.length c2):=C1.out.cell 5
 have hlt:=C1.out.lt
 obtain ⟨X,hX⟩ : ∃ X,bs ++ N = X:=⟨_,rfl⟩
 have HXY:=hid (show bs ++ (N ++ (atsN ats ++ [10])) = X ++ (atsN ats ++ [10]) by rw [<- hX]; simp)
 have HA1:=hid (show WrAt B b (X ++ atsN (ats.take 0)) w1 by rw [<- hX]; simpa [atsN] using h1)
 have HN1:=hid (show X.length + ((atsN ats).length + 1) <= 140737488355328 by have h2:=HN.out; rw [<- List.length_append,HXY.out] at h2; simpa using h2)
 obtain ⟨Y,hY⟩ : ∃ Y,atsN ats = Y:=⟨_,rfl⟩
 clear h1 g1 hX HC HA0 HK0 B0 C0 HN
 go_wp2
 go_loopw [17] (fun t17 wr=>∃ j : Nat,t17 = .int .i64 j /\ j <= ats.length /\ Hid (WrAt B b (X ++ atsN (ats.take j)) wr) /\ Hid (Wk B b w wr) /\ Hid (BoxAt wr (w.heap.size + 1) #[.string ⟨#[10]⟩] 9)) (fun t17 _=>ats.length - (intOf t17).toNat)
 case atStart=>exact ⟨0,rfl,Nat.zero_le _,HA1,HK1,B1⟩
 case round =>
  clear HA1 HK1 B1 d5 hlt C1
  obtain ⟨j,rfl,hj,HA,HK,HB⟩:=hrel
  have hj0 : (j : Int) <= 4000000:=by omega
  have hSr:=HS.out.step HK.out
  by_cases hlt : j < ats.length
  ·have d1 : decide ((j : Int) < (ats.length : Int)) = true:=decide_eq_true (by omega)
   have d2 : (j : Int) < (ats.length : Int):=by omega
   obtain ⟨eb,eo,c',e,hb,t,p,u,hel,c0,c1,hpt⟩:=at_at HU.out hlt
   cases e
   have hpt':=hpt
   obtain ⟨A3,c3,rfl,_⟩:=hpt'
   rw [<- hSr.hW.cell (p:=⟨eb,eo + j * 2,none⟩) hb] at c0
   rw [<- hSr.hW.cell (p:=⟨eb,eo + j * 2 + 1,none⟩) hb] at c1
   have hbw : eb < wr.heap.size:=Nat.lt_of_lt_of_le hb hSr.hW.size
   have hlen : (X ++ atsN (ats.take j)).length + (atT (.mk t p)).length <= 140737488355328:=by
    have h1:=atsN_take_le ats (j + 1)
    rw [atsN_take ats j _ hel,List.length_append] at h1
    have h2:=HN1.out
    rw [List.length_append]; omega
   obtain ⟨hpe,hpg⟩:=HGt.out t p (List.mem_of_getElem? hel)
   have hpz:=szTs_get ats j t p hel
   have hzz:=HZ.out
   have HT:=hid (atsN_take ats j _ hel)
   have C3:=hid (BoxAt.new wr #[.string t,.slice A3 p.length c3] 64)
   have hw3:=write3 (bs:=X ++ atsN (ats.take j)) ⟨#[10]⟩ ⟨#[32,32,32,32]⟩ ⟨#[46]⟩ (wr.alloc (.cells #[.string t,.slice A3 p.length c3] 64)) (HA.out.alloc _) (by unfold atT at hlen; simp at hlen ⊢; show _ + (1 + (4 + 1)) <= _; omega)
   simp only [World.size_alloc] at hw3
   have HW3:=hid hw3
   have hwn:=fun W (h1 : Sw W0 B b W) (h2 : WrAt B b (X ++ atsN (ats.take j) ++ ([10] ++ ([32,32,32,32] ++ [46]))) W) h3=>wnamed_any HM.out 8 t p (.slice A3 p.length c3) hpt hpg (by omega) W h1 h2 h3
   have HL:=hid hlen
   have hatT : atT (.mk t p) = ([10] ++ ([32,32,32,32] ++ [46])) ++ namT 8 t p:=rfl
   obtain ⟨N8,hN8⟩ : ∃ N,namT 8 t p = N:=⟨_,rfl⟩
   rw [hN8] at hatT
   simp only [hN8] at hwn
   have HatT:=hid hatT
   have HWn:=hid hwn
   have hb3 : wr.heap.size ≠ b:=(HA.out.alloc (.cells #[.string t,.slice A3 p.length c3] 64)).box_ne C3.out (by decide)
   have HKa:=hid (HK.out.alloc HA.out.le (.cells #[.string t,.slice A3 p.length c3] 64))
   have HBa:=hid (HB.out.alloc (.cells #[.string t,.slice A3 p.length c3] 64))
   clear hel hpt hlen hSr hpe hpg hpz hzz hw3 hwn hatT hN8
   go_wp2_with fail
   go_at_call 37
   refine HW3.out.mono ?_
   rintro e w3 ⟨rfl,h3,g3⟩
   have C4:=hid (C3.out.wk g3 hb3 (by decide))
   have HK3:=hid (HKa.out.trans g3)
   have HB3:=hid (HBa.out.wk g3 hb1 (by decide))
   have e0 : w3.cell? ⟨wr.heap.size,0,none⟩ = some (.string t):=C4.out.cell 0
   have e1 : w3.cell? ⟨wr.heap.size,1,none⟩ = some (.slice A3 p.length c3):=C4.out.cell 1
   have hl3:=C4.out.lt
   have HC:=hid (HWn.out w3 (HS.out.step HK3.out) h3 (by have:=HL.out; rw [HatT.out] at this; simp at this ⊢; omega))
   clear h3 g3
   go_wp2_with fail
   go_at_call 88
   refine HC.out.mono ?_
   rintro e w4 ⟨rfl,h4,g4⟩
   have HA4:=hid h4
   have HK4:=hid (HK3.out.trans g4)
   have HB4:=hid (HB3.out.wk g4 hb1 (by decide))
   clear h4 g4
   go_wp2
   go_roundw
   case rel=>exact ⟨j + 1,by go_num,hlt,hid (by rw [HT.out,HatT.out]; have:=HA4.out; simpa using this),HK4,HB4⟩
   case measure=>simp [intOf]; omega
  ·obtain rfl : j = ats.length:=by omega
   have d1 : decide ((ats.length : Int) < (ats.length : Int)) = false:=decide_eq_false (by omega)
   have hA:=HA.out
   rw [List.take_of_length_le (Nat.le_refl _)] at hA
   have HA2:=hid hA
   clear hA hSr
   go_wp2
   refine leaves_cons (f:=37) (args:=#[.pointer (some ⟨b,0,none⟩),.slice (some ⟨w.heap.size + 1,0,none⟩) 1 1]) (by simp) (by simp [go_sem]) ?_
   refine (writeD ⟨#[10]⟩ (w.heap.size + 1) 1 .returning wr HA2.out HB.out (by have:=HN1.out; rw [List.length_append]; show _ + 1 <= _; omega)).mono ?_
   rintro e u' w6 ⟨rfl,rfl,h6,g6⟩
   simp [Leaves,settle,results,Tryz.results59]
   refine ⟨?_,HK.out.trans g6⟩
   have h7:=HXY.out
   have h8:=h6
   rw [List.append_assoc] at h8
   have h9 : WrAt B b (bs ++ (N ++ (atsN ats ++ [10]))) w6:=by rw [h7]; exact h8
   simpa using h9
theorem repL_one (c : UInt8) : ∀ n,Lib.repeatL [c] n = List.replicate n c
 | 0=>rfl
 | n + 1=>by rw [Lib.repeatL,repL_one c n,List.replicate_succ]; rfl
theorem repM (n : Nat) (hn : n <= 3) (w : World) : Calls Tryz.prog 86 #[.string ⟨#[35]⟩,.int .i64 n] w fun e w'=>e = .returned (.string ⟨(List.replicate n 35).toArray⟩) /\ Below w.heap.size w w':=by
 have h:=Tryz.strings_Repeat ⟨#[35]⟩ n w (by omega) (by show 1 * n <= _; omega)
 rw [show (⟨#[35]⟩ : ByteArray).data.toList = [35] from rfl,repL_one] at h
 exact h
theorem com_of (mk : List UInt8) (l : List UInt8) : ∃ A R m,Lib.cut l [10] = (A,R,m) /\ comT mk [] l = cmlT mk A ++ (if m then comT mk [] R else []) /\ (m = true -> R.length < l.length):=by
 rcases cut_nl l with ⟨h1,h2⟩ | ⟨A,R,h1,h2,h3⟩
 ·exact ⟨l,[],false,h2,by rw [comT_none mk l [] h1]; simp,(fun h=>by cases h)⟩
 ·refine ⟨A,R,true,h3,?_,fun _=>by rw [h1]; simp; omega⟩
  rw [h1,comT_cut mk R A [] h2]
  simp
set_option maxHeartbeats 2000000 in
set_option maxRecDepth 100000 in
theorem wcom_any {W0 : World} (hM : MxW W0) {B b : Nat} {bs : List UInt8} (ty : Int) (lv : Nat) (hlv : lv <= 3) (tx nm : ByteArray) (A : Option Addr) (n c : Nat) (A2 : Option Addr) (n2 c2 : Nat) (fr tu : Int) (hz : tx.size <= 4000000)
  (w : World) (hS : Sw W0 B b w) (h : WrAt B b bs w) (hn : bs.length + (comT (List.replicate lv 35) [] tx.data.toList).length <= 140737488355328) :
  Calls Tryz.prog 58 #[.pointer (some ⟨b,0,none⟩),entV ty lv tx nm (.slice A n c) (.slice A2 n2 c2) fr tu] w fun e w'=>e = .returned (.tuple #[]) /\ WrAt B b (bs ++ comT (List.replicate lv 35) [] tx.data.toList) w' /\ Wk B b w w':=by
 obtain ⟨mk,hmk⟩ : ∃ m,List.replicate lv (35 : UInt8) = m:=⟨_,rfl⟩
 have hrp:=fun W=>repM lv hlv W
 simp only [hmk] at hrp
 rw [hmk] at hn ⊢
 obtain ⟨T,hT⟩ : ∃ T,comT mk [] tx.data.toList = T:=⟨_,rfl⟩
 rw [hT] at hn ⊢
 have HRp:=hid hrp
 have HT:=hid hT
 have HS:=hid hS
 have HN:=hid hn
 have HH:=hid h
 have HM:=hid hM
 have HZ:=hid hz
 have C0:=hid (BoxAt.new w #[.int .i64 ty,.int .i64 lv,.string tx,.string nm,.slice A n c,.slice A2 n2 c2,.int .i64 fr,.int .i64 tu] 34)
 unfold entV
 clear hmk hrp hT hS hn h hM hz
 go_enter Tryz.func58,Tryz.ntmps58
 go_wp2_with fail
 go_at_call 86
 refine (HRp.out _).mono ?_
 rintro e w1 ⟨rfl,hb1⟩
 have C1:=hid (C0.out.later hb1)
 have d2 : w1.cell? ⟨w.heap.size,2,none⟩ = some (.string tx):=C1.out.cell 2
 have hlt:=C1.out.lt
 have hbw:=below_box hb1
 have HA1:=hid (HH.out.later hbw)
 have HK1:=hid (Wk.of (b:=b) HH.out.le hbw)
 clear hb1 hbw
 go_wp2
 go_region
 go_wp2
 go_loopw [5,6,7] (fun t5 t6 t7 wr=>∃ (x R : List UInt8) (q : Bool) (D : List UInt8),t5 = .string ⟨x.toArray⟩ /\ t6 = .string ⟨R.toArray⟩ /\ t7 = .bool q /\ Hid (WrAt B b (bs ++ D) wr) /\ Hid (Wk B b w wr) /\ Hid (D ++ (if q = true then comT mk [] R else []) = T) /\ Hid (R.length <= 4000000)) (fun _ t6 t7 _=>msT t6 t7)
 case atStart=>exact ⟨[],tx.data.toList,true,[],rfl,rfl,rfl,hid (by rw [List.append_nil]; exact HA1.out.drew),hid HK1.out.drew,hid (by rw [if_pos rfl]; exact HT.out),hid (by rw [size_data]; exact HZ.out)⟩
 case round =>
  clear HT HA1 HK1
  obtain ⟨x,R,q,D,rfl,rfl,rfl,HA,HK,HT,HRz⟩:=hrel
  cases q
  case false =>
   have HT2:=hid (show D = T by have:=HT.out; simpa using this)
   go_wp2
   go_end0
   exact ⟨rfl,by rw [<- HT2.out]; exact HA.out,HK.out⟩
  have hT:=HT.out
  rw [if_pos rfl] at hT
  obtain ⟨A2,R2,q2,hc2,hm2,hr2⟩:=com_of mk R
  have hrz2 : q2 = false -> R2.length <= 4000000:=by
   intro hq
   subst hq
   rcases cut_nl R with ⟨h1,h2⟩ | ⟨A',R',h1,h2,h3⟩
   ·rw [h2] at hc2; cases hc2; simp
   ·rw [h3] at hc2; cases hc2
  obtain ⟨em,hem⟩ : ∃ g,A2.isEmpty = g:=⟨_,rfl⟩
  have hem2 : A2.isEmpty = em:=hem
  unfold cmlT at hm2
  rw [hem] at hm2
  have hlen : (bs ++ D).length + (mk ++ ((if em = true then [] else 32 :: A2) ++ [10])).length <= 140737488355328:=by
   rw [hm2] at hT
   have h1:=congrArg List.length hT
   have h2:=HN.out
   rw [List.length_append,List.length_append] at h1
   rw [List.length_append]; omega
  have HL:=hid hlen
  have HCm:=hid hm2
  have HR2:=hid hr2
  have hSr:=HS.out.step HK.out
  have HC:=hid (cut_to (s:=⟨R.toArray⟩) hc2 (by rw [size_mk]; exact HRz.out) wr (hSr.mx HM.out))
  clear HT
  have HT:=hid hT
  have HRz2:=hid hrz2
  clear hT hc2 hm2 hr2 hem hlen hSr hrz2
  go_wp2_with fail
  go_at_call 87
  refine HC.out.mono ?_
  rintro e w2 ⟨rfl,hn2⟩
  have HA2:=hid (show WrAt B b (bs ++ D) w2 by obtain ⟨n,rfl⟩:=hn2; exact HA.out.drewN n)
  have HK2:=hid (show Wk B b w w2 by obtain ⟨n,rfl⟩:=hn2; exact HK.out.drewN n)
  have HW2:=hid (write1 ⟨mk.toArray⟩ w2 HA2.out (by have:=HL.out; have e1:=size_mk mk; simp at this ⊢; omega))
  clear hn2
  go_wp2_with fail
  go_at_call 37
  refine HW2.out.mono ?_
  rintro e w3 ⟨rfl,h3,g3⟩
  have HA3:=hid (show WrAt B b (bs ++ D ++ mk) w3 by simpa [data_mk] using h3)
  have HK3:=hid (HK2.out.trans g3)
  clear h3 g3
  cases em
  case false =>
   have HW4:=hid (write2 ⟨#[32]⟩ ⟨A2.toArray⟩ w3 HA3.out (by have:=HL.out; rw [if_neg (by simp)] at this; have e1:=size_mk A2; simp at this ⊢; show _ + (1 + _) <= _; omega))
   go_wp2_with fail
   go_at_call 37
   refine HW4.out.mono ?_
   rintro e w4 ⟨rfl,h4,g4⟩
   have HA4:=hid (show WrAt B b (bs ++ D ++ mk ++ (if false = true then [] else 32 :: A2)) w4 by simpa [data_mk] using h4)
   have HK4:=hid (HK3.out.trans g4)
   clear h4 g4
   have HW5:=hid (write1 ⟨#[10]⟩ w4 HA4.out (by have:=HL.out; simp at this ⊢; show _ + 1 <= _; omega))
   go_wp2_with fail
   go_at_call 37
   refine HW5.out.mono ?_
   rintro e w5 ⟨rfl,h5,g5⟩
   have HA5:=hid h5
   have HK5:=hid (HK4.out.trans g5)
   clear h5 g5
   go_wp2
   go_roundw
   case rel =>
    refine ⟨A2,R2,q2,D ++ (mk ++ ((if false = true then [] else 32 :: A2) ++ [10])),rfl,rfl,rfl,hid ?_,HK5,hid ?_,hid ?_⟩
    ·have:=HA5.out
     simp at this ⊢
     exact this
    ·have:=HT.out
     rw [HCm.out] at this
     rw [List.append_assoc]; exact this
    ·cases q2
     ·exact HRz2.out rfl
     ·have:=HR2.out rfl; have:=HRz.out; omega
   case measure =>
    cases q2
    ·simp [msT]
    ·have:=HR2.out rfl
     simp [msT,size_mk]
     omega
  case true =>
   have HA4:=hid (show WrAt B b (bs ++ D ++ mk ++ (if true = true then [] else 32 :: A2)) w3 by simpa using HA3.out)
   have HK4:=HK3
   have HW5:=hid (write1 ⟨#[10]⟩ w3 HA4.out (by have:=HL.out; simp at this ⊢; show _ + 1 <= _; omega))
   go_wp2_with fail
   go_at_call 37
   refine HW5.out.mono ?_
   rintro e w5 ⟨rfl,h5,g5⟩
   have HA5:=hid h5
   have HK5:=hid (HK4.out.trans g5)
   clear h5 g5
   go_wp2
   go_roundw
   case rel =>
    refine ⟨A2,R2,q2,D ++ (mk ++ ((if true = true then [] else 32 :: A2) ++ [10])),rfl,rfl,rfl,hid ?_,HK5,hid ?_,hid ?_⟩
    ·have:=HA5.out
     simp at this ⊢
     exact this
    ·have:=HT.out
     rw [HCm.out] at this
     rw [List.append_assoc]; exact this
    ·cases q2
     ·exact HRz2.out rfl
     ·have:=HR2.out rfl; have:=HRz.out; omega
   case measure =>
    cases q2
    ·simp [msT]
    ·have:=HR2.out rfl
     simp [msT,size_mk]
     omega
structure EV where
 ty : Int
 lv : Int
 tx : ByteArray
 nm : ByteArray
 val : List EL
 ats : List AT
 A : Option Addr
 c : Nat
 A2 : Option Addr
 c2 : Nat
 fr : Int
 tu : Int
def EV.cells (x : EV) : List Value:=[.int .i64 x.ty,.int .i64 x.lv,.string x.tx,.string x.nm,.slice x.A x.val.length x.c,.slice x.A2 x.ats.length x.c2,.int .i64 x.fr,.int .i64 x.tu]
def EV.v (x : EV) : Value:=entV x.ty x.lv x.tx x.nm (.slice x.A x.val.length x.c) (.slice x.A2 x.ats.length x.c2) x.fr x.tu
def EV.obj (x : EV) : Obj:=.cells #[.int .i64 x.ty,.int .i64 x.lv,.string x.tx,.string x.nm,.slice x.A x.val.length x.c,.slice x.A2 x.ats.length x.c2,.int .i64 x.fr,.int .i64 x.tu] 34
structure EV.At (W0 : World) (x : EV) : Prop where
 pat : PatAt W0 x.val (.slice x.A x.val.length x.c)
 ats : LieAt (TsAt W0 x.ats) (.slice x.A2 x.ats.length x.c2) x.ats.length
 tz : x.tx.size <= 4000000
 wz : 8 + 2 * (sizeEs x.val + sizeTs x.ats) <= 4000000
def EV.fit (x : EV) : Prop:=(x.ty = 0 /\ 1 <= x.lv /\ x.lv <= 3) ∨ ((x.ty = 1 ∨ x.ty = 2) /\ gdEs x.val = true /\ gdTs x.ats) ∨ x.ty = 3
def EV.text (x : EV) : List UInt8:=entT x.ty x.lv x.tx x.nm x.val x.ats
theorem mes_ent (nm : ByteArray) (val : List EL) (ats : List AT) (h : gdTs ats) : mesT nm val ats = nm.data.toList ++ (32 :: 61 :: ((if val.isEmpty then [] else paT 4 val) ++ (atsT ats ++ [10]))):=by
 unfold mesT namT
 rw [atsN_eq ats h]
 simp
set_option maxHeartbeats 2000000 in
set_option maxRecDepth 100000 in
theorem went_any {W0 : World} (hM : MxW W0) {B b : Nat} {bs : List UInt8} (x : EV) (hx : x.At W0) (hf : x.fit) (w : World) (hS : Sw W0 B b w) (h : WrAt B b bs w) (hn : bs.length + x.text.length <= 140737488355328) :
  Calls Tryz.prog 38 #[.pointer (some ⟨b,0,none⟩),x.v] w fun e w'=>e = .returned (.tuple #[]) /\ WrAt B b (bs ++ x.text) w' /\ Wk B b w w':=by
 obtain ⟨ty,lv,tx,nm,val,ats,A,c,A2,c2,fr,tu⟩:=x
 obtain ⟨hp,ha,htz,hwz⟩:=hx
 unfold EV.text EV.v entT at *
 unfold EV.fit at hf
 dsimp only at *
 have HK0:=hid ((Wk.refl B b w).alloc h.le (.cells #[.int .i64 ty,.int .i64 lv,.string tx,.string nm,.slice A val.length c,.slice A2 ats.length c2,.int .i64 fr,.int .i64 tu] 34))
 have HA0:=hid (h.alloc (.cells #[.int .i64 ty,.int .i64 lv,.string tx,.string nm,.slice A val.length c,.slice A2 ats.length c2,.int .i64 fr,.int .i64 tu] 34))
 have C0:=hid (BoxAt.new w #[.int .i64 ty,.int .i64 lv,.string tx,.string nm,.slice A val.length c,.slice A2 ats.length c2,.int .i64 fr,.int .i64 tu] 34)
 have HN:=hid hn
 have HS0:=hid (hS.alloc (.cells #[.int .i64 ty,.int .i64 lv,.string tx,.string nm,.slice A val.length c,.slice A2 ats.length c2,.int .i64 fr,.int .i64 tu] 34))
 have hb0 : w.heap.size ≠ b:=HA0.out.box_ne C0.out (by decide)
 rcases hf with ⟨rfl,h1,h3⟩ | ⟨hty,hg,hgt⟩ | rfl
 ·rw [if_neg (by decide),if_pos rfl] at HN ⊢
  obtain ⟨l,rfl⟩ : ∃ l : Nat,lv = (l : Int):=⟨lv.toNat,by omega⟩
  rw [Int.toNat_natCast] at HN ⊢
  have hc:=wcom_any hM (bs:=bs) 0 l (by omega) tx nm A val.length c A2 ats.length c2 fr tu htz _ HS0.out HA0.out HN.out
  unfold entV at hc ⊢
  have HC:=hid hc
  clear hc hS h hn hp ha
  go_enter Tryz.func38,Tryz.ntmps38
  go_wp2_with fail
  go_at_call 58
  refine HC.out.mono ?_
  rintro e w2 ⟨rfl,h2,g2⟩
  have HA:=hid h2
  have HG:=hid (HK0.out.trans g2)
  clear h2 g2
  go_wp2
  go_end0
  exact ⟨rfl,HA.out,HG.out⟩
 ·rcases hty with rfl | rfl
  ·rw [if_neg (by decide),if_neg (by decide),if_neg (by decide),List.nil_append,<- mes_ent nm val ats hgt] at HN ⊢
   have hc:=wmes_any hM (bs:=bs) 1 lv tx nm val ats _ _ fr tu hp ha hg hgt hwz _ HS0.out HA0.out HN.out
   unfold entV at hc ⊢
   have HC:=hid hc
   clear hc hS h hn hp ha
   go_enter Tryz.func38,Tryz.ntmps38
   go_wp2_with fail
   go_at_call 59
   refine HC.out.mono ?_
   rintro e w2 ⟨rfl,h2,g2⟩
   have HA:=hid h2
   have HG:=hid (HK0.out.trans g2)
   clear h2 g2
   go_wp2
   go_end0
   exact ⟨rfl,HA.out,HG.out⟩
  ·rw [if_neg (by decide),if_neg (by decide),if_pos rfl,<- mes_ent nm val ats hgt] at HN ⊢
   have hw1:=write1 (bs:=bs) ⟨#[45]⟩ _ HA0.out (by have:=HN.out; rw [List.length_append] at this; show _ + 1 <= _; simp at this; omega)
   simp only [World.size_alloc] at hw1
   have HW1:=hid hw1
   have hc:=fun W (h1 : Sw W0 B b W) (h2 : WrAt B b (bs ++ [45]) W)=>wmes_any hM (bs:=bs ++ [45]) 2 lv tx nm val ats _ _ fr tu hp ha hg hgt hwz W h1 h2 (by have:=HN.out; rw [List.length_append] at this ⊢; simp at this ⊢; omega)
   unfold entV at hc ⊢
   have HC:=hid hc
   clear hc hS h hn hp ha hw1
   go_enter Tryz.func38,Tryz.ntmps38
   go_wp2_with fail
   go_at_call 37
   refine HW1.out.mono ?_
   rintro e w1 ⟨rfl,h1,g1⟩
   have C1:=hid (C0.out.wk g1 hb0 (by decide))
   have HC1:=hid (HC.out w1 (HS0.out.step g1) h1)
   have HK1:=hid (HK0.out.trans g1)
   have e0 : w1.cell? ⟨w.heap.size,0,none⟩ = some (.int .i64 2):=C1.out.cell 0
   have e1 : w1.cell? ⟨w.heap.size,1,none⟩ = some (.int .i64 lv):=C1.out.cell 1
   have e2 : w1.cell? ⟨w.heap.size,2,none⟩ = some (.string tx):=C1.out.cell 2
   have e3 : w1.cell? ⟨w.heap.size,3,none⟩ = some (.string nm):=C1.out.cell 3
   have e4 : w1.cell? ⟨w.heap.size,4,none⟩ = some (.slice A val.length c):=C1.out.cell 4
   have e5 : w1.cell? ⟨w.heap.size,5,none⟩ = some (.slice A2 ats.length c2):=C1.out.cell 5
   have e6 : w1.cell? ⟨w.heap.size,6,none⟩ = some (.int .i64 fr):=C1.out.cell 6
   have e7 : w1.cell? ⟨w.heap.size,7,none⟩ = some (.int .i64 tu):=C1.out.cell 7
   have hlt:=C1.out.lt
   clear h1 g1
   go_wp2_with fail
   go_at_call 59
   refine HC1.out.mono ?_
   rintro e w2 ⟨rfl,h2,g2⟩
   have HA:=hid h2
   have HG:=hid (HK1.out.trans g2)
   clear h2 g2
   go_wp2
   go_end0
   exact ⟨rfl,by simpa using HA.out,HG.out⟩
 ·rw [if_pos rfl] at HN ⊢
  have hw1:=write1 (bs:=bs) tx _ HA0.out (by have:=HN.out; rw [size_data] at this; exact this)
  simp only [World.size_alloc] at hw1
  have HW1:=hid hw1
  unfold entV
  clear hS h hn hp ha hw1
  go_enter Tryz.func38,Tryz.ntmps38
  go_wp2_with fail
  go_at_call 37
  refine HW1.out.mono ?_
  rintro e w2 ⟨rfl,h2,g2⟩
  have HA:=hid h2
  have HG:=hid (HK0.out.trans g2)
  clear h2 g2
  go_wp2
  go_end0
  exact ⟨rfl,HA.out,HG.out⟩
def oneB (x y : EV) : Bool:=(x.ty == 0) && (y.ty == 0) && (x.lv == y.lv)
set_option maxHeartbeats 2000000 in
set_option maxRecDepth 100000 in
theorem wone_any (x y : EV) (w : World) : Calls Tryz.prog 36 #[x.v,y.v] w fun e w'=>e = .returned (.bool (oneB x y)) /\ Below w.heap.size w w':=by
 obtain ⟨ty,lv,tx,nm,val,ats,A,c,A2,c2,fr,tu⟩:=x
 obtain ⟨ty',lv',tx',nm',val',ats',A',c',A2',c2',fr',tu'⟩:=y
 unfold EV.v entV oneB
 dsimp only
 obtain ⟨b1,h1⟩ : ∃ z,(ty == 0) = z:=⟨_,rfl⟩
 obtain ⟨b2,h2⟩ : ∃ z,(ty' == 0) = z:=⟨_,rfl⟩
 obtain ⟨b3,h3⟩ : ∃ z,(lv == lv') = z:=⟨_,rfl⟩
 rw [h1,h2,h3]
 have hb : Below w.heap.size w ((w.alloc (.cells #[.int .i64 ty,.int .i64 lv,.string tx,.string nm,.slice A val.length c,.slice A2 ats.length c2,.int .i64 fr,.int .i64 tu] 34)).alloc (.cells #[.int .i64 ty',.int .i64 lv',.string tx',.string nm',.slice A' val'.length c',.slice A2' ats'.length c2',.int .i64 fr',.int .i64 tu'] 34)):=((Below.refl _ _).alloc (Nat.le_refl _) _).alloc (by simp) _
 have HB:=hid hb
 clear hb
 cases b1 <;> cases b2 <;> cases b3 <;>
 ·go_enter Tryz.func36,Tryz.ntmps36
  go_wp2
  go_ret
  exact ⟨rfl,HB.out⟩
def CellsN (W : World) (lb lo : Nat) (l : List EV) : Prop:=lb < W.heap.size /\ ∀ (j : Nat) (x : EV),l[j]? = some x -> ∀ (i : Nat) (y : Value),x.cells[i]? = some y -> W.cell? ⟨lb,lo + j * 8 + i,none⟩ = some y
theorem cellsN8 {W : World} {lb lo : Nat} {l : List EV} (h : CellsN W lb lo l) {j : Nat} {x : EV} (hj : l[j]? = some x) :
  W.cell? ⟨lb,lo + j * 8,none⟩ = some (.int .i64 x.ty) /\ W.cell? ⟨lb,lo + j * 8 + 1,none⟩ = some (.int .i64 x.lv) /\ W.cell? ⟨lb,lo + j * 8 + 2,none⟩ = some (.string x.tx) /\ W.cell? ⟨lb,lo + j * 8 + 3,none⟩ = some (.string x.nm) /\
  W.cell? ⟨lb,lo + j * 8 + 4,none⟩ = some (.slice x.A x.val.length x.c) /\ W.cell? ⟨lb,lo + j * 8 + 5,none⟩ = some (.slice x.A2 x.ats.length x.c2) /\ W.cell? ⟨lb,lo + j * 8 + 6,none⟩ = some (.int .i64 x.fr) /\ W.cell? ⟨lb,lo + j * 8 + 7,none⟩ = some (.int .i64 x.tu) :=
 ⟨h.2 j x hj 0 _ rfl,h.2 j x hj 1 _ rfl,h.2 j x hj 2 _ rfl,h.2 j x hj 3 _ rfl,h.2 j x hj 4 _ rfl,h.2 j x hj 5 _ rfl,h.2 j x hj 6 _ rfl,h.2 j x hj 7 _ rfl⟩
def sepT (l : List EV) (j : Nat) (y : EV) : List UInt8:=match j with
 | 0=>[]
 | i + 1=>match l[i]? with
  | none=>[]
  | some x=>if oneB x y then [10] else []
def pieceT (l : List EV) (j : Nat) : List UInt8:=match l[j]? with
 | none=>[]
 | some y=>sepT l j y ++ y.text
def resN (l : List EV) (j : Nat) : List UInt8:=(List.range j).flatMap (pieceT l)
theorem resN_succ (l : List EV) (j : Nat) : resN l (j + 1) = resN l j ++ pieceT l j:=by
 unfold resN
 rw [List.range_succ,List.flatMap_append]
 simp
theorem resN_mono (l : List EV) (j : Nat) : ∀ k,(resN l j).length <= (resN l (j + k)).length
 | 0=>Nat.le_refl _
 | k + 1=>by rw [<- Nat.add_assoc,resN_succ,List.length_append]; have:=resN_mono l j k; omega
theorem piece_some (l : List EV) (j : Nat) (y : EV) (h : l[j]? = some y) : pieceT l j = sepT l j y ++ y.text:=by unfold pieceT; rw [h]
def resT (l : List EV) : List UInt8:=resN l l.length
set_option maxHeartbeats 4000000 in
set_option maxRecDepth 100000 in
theorem wents_any {W0 : World} (hM : MxW W0) {B b : Nat} {bs : List UInt8} (l : List EV) (hl : l.length <= 4000000) (hall : ∀ x ∈ l,x.At W0 /\ x.fit) (lb lo n : Nat) (A : Option Addr) (hA : 0 < l.length -> A = some ⟨lb,lo,none⟩) (w : World)
  (hst : ∀ W,Wk B b w W -> 0 < l.length -> CellsN W lb lo l) (hS : Sw W0 B b w) (h : WrAt B b bs w) (hn : bs.length + (resT l).length <= 140737488355328) :
  Calls Tryz.prog 21 #[.pointer (some ⟨b,0,none⟩),.slice A l.length n] w fun e w'=>e = .returned (.tuple #[]) /\ WrAt B b (bs ++ resT l) w' /\ Wk B b w w':=by
 have HAll:=hid hall
 have HSt:=hid hst
 have HS:=hid hS
 have HH:=hid h
 have HN:=hid hn
 have HM:=hid hM
 have HAd:=hid hA
 have hl0 : (l.length : Int) <= 4000000:=by omega
 clear hall hst hS h hn hM hA
 unfold resT at *
 obtain ⟨T,hT⟩ : ∃ T,resN l l.length = T:=⟨_,rfl⟩
 rw [hT] at HN ⊢
 have HT:=hid hT
 clear hT
 go_enter Tryz.func21,Tryz.ntmps21
 go_wp2
 go_loopw [8] (fun t8 wr=>∃ j : Nat,t8 = .int .i64 j /\ j <= l.length /\ Hid (WrAt B b (bs ++ resN l j) wr) /\ Hid (Wk B b w wr)) (fun t8 _=>l.length - (intOf t8).toNat)
 case atStart=>exact ⟨0,rfl,Nat.zero_le _,hid (by have : resN l 0 = []:=rfl; rw [this,List.append_nil]; exact HH.out),hid (Wk.refl _ _ _)⟩
 case round =>
  obtain ⟨j,rfl,hj,HA,HK⟩:=hrel
  have hj0 : (j : Int) <= 4000000:=by omega
  have hjn : (0 : Int) <= (j : Int):=by omega
  by_cases hlt : j < l.length
  ·have d1 : decide ((j : Int) < (l.length : Int)) = true:=decide_eq_true (by omega)
   have d2 : (j : Int) < (l.length : Int):=by omega
   obtain ⟨y,hy⟩ : ∃ y,l[j]? = some y:=⟨_,List.getElem?_eq_getElem hlt⟩
   have ha:=HAd.out (by omega)
   subst ha
   have hcs:=HSt.out wr HK.out (by omega)
   obtain ⟨c0,c1,c2,c3,c4,c5,c6,c7⟩:=cellsN8 hcs hy
   have hlb:=hcs.1
   have HKa:=hid (HK.out.alloc HA.out.le y.obj)
   have HAa:=hid (HA.out.alloc y.obj)
   have CB:=hid (BoxAt.new wr #[.int .i64 y.ty,.int .i64 y.lv,.string y.tx,.string y.nm,.slice y.A y.val.length y.c,.slice y.A2 y.ats.length y.c2,.int .i64 y.fr,.int .i64 y.tu] 34)
   obtain ⟨hyA,hyF⟩:=HAll.out y (List.mem_of_getElem? hy)
   have HE:=hid (fun (cs : List UInt8) W (h1 : Sw W0 B b W) (h2 : WrAt B b cs W) h3=>went_any HM.out (bs:=cs) y hyA hyF W h1 h2 h3)
   have hb3 : wr.heap.size ≠ b:=HAa.out.box_ne CB.out (by decide)
   have hrs:=resN_succ l j
   rw [piece_some l j y hy] at hrs
   have hlen : (bs ++ resN l j).length + (sepT l j y ++ y.text).length <= 140737488355328:=by
    have h1:=resN_mono l (j + 1) (l.length - (j + 1))
    rw [show j + 1 + (l.length - (j + 1)) = l.length by omega,HT.out,hrs,List.length_append] at h1
    have h2:=HN.out
    rw [List.length_append]; omega
   have Hrs:=hid hrs
   have HL:=hid hlen
   have HY:=hid hy
   clear hrs hlen hcs hyA hyF hy
   by_cases hz : j = 0
   ·have z1 : decide (0 < j) = false:=decide_eq_false (by omega)
    have z2 : ¬ 0 < j:=by omega
    have hs0 : sepT l j y = []:=by subst hz; rfl
    rw [hs0,List.nil_append] at Hrs HL
    have Hz:=hid hz
    have HC:=hid (HE.out (bs ++ resN l j) ((wr.alloc y.obj).drew) ((HS.out.step HKa.out).drew) HAa.out.drew HL.out)
    obtain ⟨yt,yl,yx,yn,yv,ya,yA,yc,yA2,yc2,yf,yu⟩:=y
    unfold EV.obj EV.v entV at *
    dsimp only at *
    clear hz hs0
    go_wp2
    go_region
    go_wp2_with fail
    go_at_call 38
    refine HC.out.mono ?_
    rintro e w4 ⟨rfl,h4,g4⟩
    have HA4:=hid h4
    have HK4:=hid (HKa.out.drew.trans g4)
    clear h4 g4
    go_wp2
    go_roundw
    case rel=>exact ⟨j + 1,by go_num,hlt,hid (by rw [Hrs.out,<- List.append_assoc]; exact HA4.out),HK4⟩
    case measure=>simp [intOf]; omega
   ·have z1 : decide (0 < j) = true:=decide_eq_true (by omega)
    have z2 : 0 < j:=by omega
    obtain ⟨p,hp⟩ : ∃ p,j = p + 1:=⟨j - 1,by omega⟩
    have hpj : (j : Int) - 1 = (p : Int):=by omega
    have hpl : p < l.length:=by omega
    have hp0 : (0 : Int) <= (p : Int):=by omega
    have hwp : IntKind.i64.wrap (p : Int) = (p : Int):=IntWalk.i64_in _ (by omega)
    have hp1 : (p : Int) < (l.length : Int):=by omega
    have hp2 : decide ((p : Int) < (l.length : Int)) = true:=decide_eq_true hp1
    obtain ⟨x,hx⟩ : ∃ x,l[p]? = some x:=⟨_,List.getElem?_eq_getElem hpl⟩
    have hsx : sepT l j y = if oneB x y then [10] else []:=by subst hp; unfold sepT; dsimp only; rw [hx]
    have hcs1:=HSt.out (wr.alloc y.obj) HKa.out (by omega)
    obtain ⟨x0,x1,x2,x3,x4,x5,x6,x7⟩:=cellsN8 hcs1 hx
    have hlb1:=hcs1.1
    have hw1:=wone_any x y
    obtain ⟨ob,hob⟩ : ∃ z,oneB x y = z:=⟨_,rfl⟩
    rw [hob] at hsx
    simp only [hob] at hw1
    have HW1:=hid hw1
    rw [hsx] at Hrs HL
    have Hp:=hid hp
    obtain ⟨f0,f1,f2,f3,f4,f5,f6,f7⟩ : (wr.alloc y.obj).cell? ⟨wr.heap.size,0,none⟩ = some (.int .i64 y.ty) /\ (wr.alloc y.obj).cell? ⟨wr.heap.size,1,none⟩ = some (.int .i64 y.lv) /\ (wr.alloc y.obj).cell? ⟨wr.heap.size,2,none⟩ = some (.string y.tx) /\ (wr.alloc y.obj).cell? ⟨wr.heap.size,3,none⟩ = some (.string y.nm) /\ (wr.alloc y.obj).cell? ⟨wr.heap.size,4,none⟩ = some (.slice y.A y.val.length y.c) /\ (wr.alloc y.obj).cell? ⟨wr.heap.size,5,none⟩ = some (.slice y.A2 y.ats.length y.c2) /\ (wr.alloc y.obj).cell? ⟨wr.heap.size,6,none⟩ = some (.int .i64 y.fr) /\ (wr.alloc y.obj).cell? ⟨wr.heap.size,7,none⟩ = some (.int .i64 y.tu):=⟨CB.out.cell 0,CB.out.cell 1,CB.out.cell 2,CB.out.cell 3,CB.out.cell 4,CB.out.cell 5,CB.out.cell 6,CB.out.cell 7⟩
    have hlw : wr.heap.size < (wr.alloc y.obj).heap.size:=CB.out.lt
    have hal : wr.alloc y.obj = wr.alloc (.cells #[.int .i64 y.ty,.int .i64 y.lv,.string y.tx,.string y.nm,.slice y.A y.val.length y.c,.slice y.A2 y.ats.length y.c2,.int .i64 y.fr,.int .i64 y.tu] 34):=rfl
    have CBa:=hid (show BoxAt (wr.alloc y.obj) wr.heap.size #[.int .i64 y.ty,.int .i64 y.lv,.string y.tx,.string y.nm,.slice y.A y.val.length y.c,.slice y.A2 y.ats.length y.c2,.int .i64 y.fr,.int .i64 y.tu] 34 from CB.out)
    have Hal:=hid hal
    clear hz hsx hcs1 hw1 hob hx hp CB hal
    go_upto_region 3 with fail
    rw [<- Hal.out]
    generalize wr.alloc y.obj = W1 at *
    clear c0 c1 c2 c3 c4 c5 c6 c7
    go_still_tail 9,(by kernel_rfl)
    change wpList _ _ _ _ _ W1.drew
    go_wp2_with fail
    go_at_call 36
    refine (HW1.out _).mono ?_
    rintro e w2 ⟨rfl,hb2⟩
    have hb2' : Below W1.heap.size W1 w2:=((Below.refl W1.heap.size W1).drew).trans hb2
    have CBw2:=hid (CBa.out.later hb2')
    have HK2:=hid (HKa.out.trans (Wk.of (b:=b) HAa.out.le hb2'))
    have HA2:=hid (HAa.out.later hb2')
    clear hb2 hb2' f0 f1 f2 f3 f4 f5 f6 f7 x0 x1 x2 x3 x4 x5 x6 x7 hlw hlb hlb1 hpj
    cases ob
    case false =>
     obtain ⟨e0,e1,e2,e3,e4,e5,e6,e7⟩ : w2.cell? ⟨wr.heap.size,0,none⟩ = some (.int .i64 y.ty) /\ w2.cell? ⟨wr.heap.size,1,none⟩ = some (.int .i64 y.lv) /\ w2.cell? ⟨wr.heap.size,2,none⟩ = some (.string y.tx) /\ w2.cell? ⟨wr.heap.size,3,none⟩ = some (.string y.nm) /\ w2.cell? ⟨wr.heap.size,4,none⟩ = some (.slice y.A y.val.length y.c) /\ w2.cell? ⟨wr.heap.size,5,none⟩ = some (.slice y.A2 y.ats.length y.c2) /\ w2.cell? ⟨wr.heap.size,6,none⟩ = some (.int .i64 y.fr) /\ w2.cell? ⟨wr.heap.size,7,none⟩ = some (.int .i64 y.tu):=⟨CBw2.out.cell 0,CBw2.out.cell 1,CBw2.out.cell 2,CBw2.out.cell 3,CBw2.out.cell 4,CBw2.out.cell 5,CBw2.out.cell 6,CBw2.out.cell 7⟩
     have hlt5:=CBw2.out.lt
     have HC:=hid (HE.out (bs ++ resN l j) w2 (HS.out.step HK2.out) HA2.out (by have:=HL.out; simp at this ⊢; omega))
     obtain ⟨yt,yl,yx,yn,yv,ya,yA,yc,yA2,yc2,yf,yu⟩:=y
     unfold EV.v entV at *
     dsimp only at *
     go_wp2_with fail
     go_at_call 38
     refine HC.out.mono ?_
     rintro e w5 ⟨rfl,h5,g5⟩
     have HA5:=hid h5
     have HK5:=hid (HK2.out.trans g5)
     clear h5 g5
     go_wp2
     go_roundw
     case rel=>exact ⟨j + 1,by go_num,hlt,hid (by rw [Hrs.out]; have:=HA5.out; simp at this ⊢; exact this),HK5⟩
     case measure=>simp [intOf]; omega
    case true =>
     have HW3:=hid (write1 ⟨#[10]⟩ w2 HA2.out (by have:=HL.out; simp at this ⊢; show _ + 1 <= _; omega))
     go_wp2_with fail
     go_at_call 37
     refine HW3.out.mono ?_
     rintro e w3 ⟨rfl,h3,g3⟩
     have HA3:=hid (show WrAt B b (bs ++ resN l j ++ [10]) w3 from h3)
     have HK3:=hid (HK2.out.trans g3)
     have CBw3:=hid (CBw2.out.wk g3 hb3 (by decide))
     clear h3 g3
     obtain ⟨e0,e1,e2,e3,e4,e5,e6,e7⟩ : w3.cell? ⟨wr.heap.size,0,none⟩ = some (.int .i64 y.ty) /\ w3.cell? ⟨wr.heap.size,1,none⟩ = some (.int .i64 y.lv) /\ w3.cell? ⟨wr.heap.size,2,none⟩ = some (.string y.tx) /\ w3.cell? ⟨wr.heap.size,3,none⟩ = some (.string y.nm) /\ w3.cell? ⟨wr.heap.size,4,none⟩ = some (.slice y.A y.val.length y.c) /\ w3.cell? ⟨wr.heap.size,5,none⟩ = some (.slice y.A2 y.ats.length y.c2) /\ w3.cell? ⟨wr.heap.size,6,none⟩ = some (.int .i64 y.fr) /\ w3.cell? ⟨wr.heap.size,7,none⟩ = some (.int .i64 y.tu):=⟨CBw3.out.cell 0,CBw3.out.cell 1,CBw3.out.cell 2,CBw3.out.cell 3,CBw3.out.cell 4,CBw3.out.cell 5,CBw3.out.cell 6,CBw3.out.cell 7⟩
     have hlt5:=CBw3.out.lt
     have HC:=hid (HE.out (bs ++ resN l j ++ [10]) w3 (HS.out.step HK3.out) HA3.out (by have:=HL.out; simp at this ⊢; omega))
     obtain ⟨yt,yl,yx,yn,yv,ya,yA,yc,yA2,yc2,yf,yu⟩:=y
     unfold EV.v entV at *
     dsimp only at *
     go_wp2_with fail
     go_at_call 38
     refine HC.out.mono ?_
     rintro e w5 ⟨rfl,h5,g5⟩
     have HA5:=hid h5
     have HK5:=hid (HK3.out.trans g5)
     clear h5 g5
     go_wp2
     go_roundw
     case rel=>exact ⟨j + 1,by go_num,hlt,hid (by rw [Hrs.out]; have:=HA5.out; simp at this ⊢; exact this),HK5⟩
     case measure=>simp [intOf]; omega
  ·obtain rfl : j = l.length:=by omega
   have d1 : decide ((l.length : Int) < (l.length : Int)) = false:=decide_eq_false (by omega)
   have hA:=HA.out
   rw [HT.out] at hA
   have HA2:=hid hA
   clear hA
   go_wp2
   go_end0
   exact ⟨rfl,HA2.out,HK.out⟩
theorem head_len (m : Nat) (l : List EL) : (headG m l).length <= m + 1:=by
 unfold headG
 split <;> simp [sps]
theorem refG_len (k : Int) (n a : ByteArray) : (refG k n a).length <= n.size + a.size + 2:=by
 unfold refG
 simp only [List.length_append,size_data]
 split <;> split <;> simp [size_data] <;> omega
theorem nameG_len (f : Bool) (n : ByteArray) : (nameG f n).length <= n.size + 4:=by
 unfold nameG
 simp only [List.length_append]
 split <;> split <;> simp [size_data] <;> omega
theorem inlG_len (k : Int) (t n a : ByteArray) (b : Bool) (args inner : List UInt8) : (inlG k t n a b args inner).length <= 6 * t.size + n.size + a.size + 6 + args.length + inner.length:=by
 have h1:=quoteAll_len t
 have h2:=refG_len k n a
 unfold inlG
 split
 ·omega
 split
 ·rw [size_data]; omega
 split
 ·rw [List.length_cons,size_data]; omega
 split
 ·omega
 rw [List.length_append]
 split
 ·simp; omega
 ·simp; omega
mutual
theorem exT_len (M : Nat) : ∀ (e : EX) (m : Nat),m + 8 * e.size <= M -> (exT m e).length + (M + 10) <= (2 * M + 20) * e.size /\ (plT m e).length <= (2 * M + 20) * e.size
 | .mk k t n a al i vs,m,h=>by
  rw [EX.size] at h ⊢
  have hA:=asT_len M al m true (by omega)
  have hO:=plO_len M i m (by omega)
  have hX:=exO_len M i m (by omega)
  have hV:=vsT_len M vs m (by omega)
  have hI:=inlG_len k t n a al.isEmpty (asT m true al) (plO m i)
  have p1:=Nat.mul_le_mul_right t.size (show 6 <= 2 * M + 20 by omega)
  have p2:=Nat.mul_le_mul_right n.size (show 1 <= 2 * M + 20 by omega)
  have p3:=Nat.mul_le_mul_right a.size (show 1 <= 2 * M + 20 by omega)
  simp only [Nat.mul_add,Nat.mul_one]
  rw [exT,plT]
  refine ⟨by omega,?_⟩
  split
  ·simp [sps]; omega
  ·simp; omega
theorem plO_len (M : Nat) : ∀ (i : Option EX) (m : Nat),m + 8 * sizeO i <= M -> (plO m i).length <= (2 * M + 20) * sizeO i
 | none,m,h=>by rw [plO]; simp
 | some e,m,h=>by
  rw [sizeO] at h ⊢
  rw [plO]
  exact (exT_len M e m h).2
theorem exO_len (M : Nat) : ∀ (i : Option EX) (m : Nat),m + 8 * sizeO i <= M -> (exO m i).length <= (2 * M + 20) * sizeO i
 | none,m,h=>by rw [exO]; simp
 | some e,m,h=>by
  rw [sizeO] at h ⊢
  rw [exO]
  have:=(exT_len M e m h).1
  omega
theorem asT_len (M : Nat) : ∀ (al : List AR) (m : Nat) (f : Bool),m + 8 * sizeAs al <= M -> (asT m f al).length <= (2 * M + 20) * sizeAs al
 | [],m,f,h=>by rw [asT]; simp
 | .mk n e :: r,m,f,h=>by
  rw [sizeAs] at h ⊢
  have h1:=(exT_len M e m (by omega)).1
  have h2:=asT_len M r m false (by omega)
  have h3:=nameG_len f n
  have p2:=Nat.mul_le_mul_right n.size (show 1 <= 2 * M + 20 by omega)
  rw [asT]
  simp only [Nat.mul_add,Nat.mul_one,List.length_append]
  omega
theorem vsT_len (M : Nat) : ∀ (vs : List VA) (m : Nat),m + 8 * sizeVs vs <= M -> (vsT m vs).length <= (2 * M + 20) * sizeVs vs
 | [],m,h=>by rw [vsT]; simp
 | .mk k d v :: r,m,h=>by
  rw [sizeVs] at h ⊢
  have h1:=esT_len M v (m + 8) (by omega)
  have h2:=vsT_len M r m (by omega)
  have h3:=head_len (m + 8) v
  have p2:=Nat.mul_le_mul_right k.size (show 1 <= 2 * M + 20 by omega)
  rw [vsT]
  simp only [Nat.mul_add,Nat.mul_one,List.length_append,List.length_cons,size_data]
  simp only [sps,List.length_replicate]
  omega
theorem esT_len (M : Nat) : ∀ (l : List EL) (m : Nat),m + 8 * sizeEs l <= M -> (esT m l).length <= (2 * M + 20) * sizeEs l
 | [],m,h=>by rw [esT]; simp
 | .mk t none :: r,m,h=>by
  rw [sizeEs] at h ⊢
  have h2:=esT_len M r m (by omega)
  have h3:=lineG_len (sps m) t.data.toList
  rw [size_data] at h3
  have h4:=Nat.mul_le_mul_right t.size (show 1 + (sps m).length <= 2 * M + 20 by simp [sps]; omega)
  rw [esT]
  simp only [Nat.mul_add,Nat.mul_one,List.length_append]
  omega
 | .mk t (some e) :: r,m,h=>by
  rw [sizeEs,sizeO] at h ⊢
  have h1:=(exT_len M e m (by omega)).2
  have h2:=esT_len M r m (by omega)
  rw [esT]
  simp only [Nat.mul_add,Nat.mul_one,List.length_append]
  omega
end
def EV.sz (x : EV) : Nat:=x.tx.size + x.nm.size + sizeEs x.val + sizeTs x.ats
theorem ent_ne (x : EV) (hf : x.fit) (h3 : x.ty ≠ 3) : x.text ≠ []:=by
 obtain ⟨ty,lv,tx,nm,val,ats,A,c,A2,c2,fr,tu⟩:=x
 unfold EV.text EV.fit entT at *
 dsimp only at *
 rw [if_neg h3]
 rcases hf with ⟨rfl,h1,h4⟩ | ⟨hty,hg,hgt⟩ | h5
 ·rw [if_pos rfl]
  obtain ⟨n,hn⟩ : ∃ n,lv.toNat = n + 1:=⟨lv.toNat - 1,by omega⟩
  rcases com_of (List.replicate lv.toNat 35) tx.data.toList with ⟨A',R,m,_,h,_⟩
  rw [h]
  unfold cmlT
  simp
 ·rw [if_neg (by omega)]
  simp
 ·exact absurd h5 h3
def wtsE : List EV -> Nat
 | []=>0
 | x :: r=>x.sz + wtsE r
theorem wtsE_app : ∀ a b : List EV,wtsE (a ++ b) = wtsE a + wtsE b
 | [],b=>by rw [List.nil_append,wtsE]; omega
 | x :: r,b=>by rw [List.cons_append,wtsE,wtsE,wtsE_app r b]; omega
theorem wtsE_get : ∀ (l : List EV) (x : EV),x ∈ l -> x.sz <= wtsE l
 | y :: r,x,h=>by
  rw [wtsE]
  rcases List.mem_cons.1 h with rfl | h
  ·omega
  ·have:=wtsE_get r x h; omega
theorem resN_len (C : Nat) (l : List EV) (h : ∀ x ∈ l,x.text.length <= C * x.sz + C) : ∀ j,j <= l.length -> (resN l j).length <= C * wtsE (l.take j) + j * (C + 1)
 | 0,_=>by show 0 <= _; omega
 | j + 1,hj=>by
  have ih:=resN_len C l h j (by omega)
  obtain ⟨y,hy⟩ : ∃ y,l[j]? = some y:=⟨_,List.getElem?_eq_getElem hj⟩
  rw [resN_succ,piece_some l j y hy,take_snoc l j y hy,wtsE_app,wtsE,wtsE]
  have h1:=h y (List.mem_of_getElem? hy)
  have h2 : (sepT l j y).length <= 1:=by
   unfold sepT
   split
   ·simp
   ·split
    ·simp
    ·split <;> simp
  simp only [List.length_append,Nat.mul_add,Nat.add_mul,Nat.one_mul,Nat.mul_one,Nat.mul_zero] at ih ⊢
  omega
theorem resT_len (C : Nat) (l : List EV) (h : ∀ x ∈ l,x.text.length <= C * x.sz + C) : (resT l).length <= C * wtsE l + l.length * (C + 1):=by
 have:=resN_len C l h l.length (Nat.le_refl _)
 rw [List.take_of_length_le (Nat.le_refl _)] at this
 exact this
theorem res_one (x : EV) : resT [x] = x.text:=by
 unfold resT resN
 simp [pieceT,sepT]
set_option maxHeartbeats 2000000 in
set_option maxRecDepth 100000 in
theorem sentry_any {W0 : World} (hM : MxW W0) (x : EV) (hx : x.At W0) (hf : x.fit) (h0 : x.text ≠ []) (hn : x.text.length <= 140737488355328) (w : World) (hW : Below W0.heap.size W0 w) :
  Calls Tryz.prog 14 #[x.v] w fun e w'=>e = .returned (.string ⟨x.text.toArray⟩) /\ Below w.heap.size w w':=by
 have hWs:=hW.size
 obtain ⟨B,hB⟩ : ∃ B,w.heap.size + 1 = B:=⟨_,rfl⟩
 have hw1 : WrAt B B [] ((w.alloc x.obj).alloc (.cells #[.pointer none,.slice none 0 0] 56)):=by
  have:=WrAt.start (w.alloc x.obj)
  rw [World.size_alloc,hB] at this
  exact this
 have hS : Sw W0 B B (((w.alloc x.obj).alloc (.cells #[.pointer none,.slice none 0 0] 56)).alloc x.obj):=⟨by omega,((hW.alloc hWs _).alloc (by simp; omega) _).alloc (by simp; omega) _⟩
 have hbx : BoxAt (((w.alloc x.obj).alloc (.cells #[.pointer none,.slice none 0 0] 56)).alloc x.obj) (B + 1) x.cells.toArray 34:=BoxAt.new' _ _ _ _ (by simp; omega)
 have hA:=hw1.alloc x.obj
 have hne : B + 1 ≠ B:=by omega
 have hst : ∀ W,Wk B B (((w.alloc x.obj).alloc (.cells #[.pointer none,.slice none 0 0] 56)).alloc x.obj) W -> 0 < [x].length -> CellsN W (B + 1) 0 [x]:=fun W g _=>by
  have hb:=hbx.wk g hne (by decide)
  refine ⟨hb.lt,fun j y hj i z hz=>?_⟩
  match j,hj with
  | 0,hj =>
   simp at hj
   subst hj
   rw [hb.cell,Nat.zero_mul,Nat.add_zero,Nat.zero_add]
   rw [List.getElem?_toArray]
   exact hz
 have hc:=wents_any hM (bs:=[]) [x] (by simp) (fun y hy=>by rw [List.mem_singleton] at hy; subst hy; exact ⟨hx,hf⟩) (B + 1) 0 1 (some ⟨B + 1,0,none⟩) (fun _=>rfl) _ hst hS hA (by rw [res_one]; simpa using hn)
 rw [res_one,List.nil_append] at hc
 have HC:=hid hc
 have H0:=hid h0
 have HK:=hid (show Below w.heap.size w (((w.alloc x.obj).alloc (.cells #[.pointer none,.slice none 0 0] 56)).alloc x.obj) from (((Below.refl _ _).alloc (Nat.le_refl _) _).alloc (by simp) _).alloc (by simp; omega) _)
 obtain ⟨T,hT⟩ : ∃ T,x.text = T:=⟨_,rfl⟩
 rw [hT] at HC H0 ⊢
 obtain ⟨xt,xl,xx,xn,xv,xa,xA,xc,xA2,xc2,xf,xu⟩:=x
 unfold EV.obj at HC HK
 unfold EV.v entV
 have HB:=hid hB
 dsimp only at HC HK ⊢
 clear hc hst hA hbx hS hw1 hn h0 hf hx hT hB
 go_enter Tryz.func14,Tryz.ntmps14
 go_wp2_with fail
 go_at_call 21
 rw [HB.out]
 refine HC.out.mono ?_
 rintro e w2 ⟨rfl,h2,g2⟩
 have HS:=hid (wr_String B B T w2 h2.bld H0.out)
 have HK2:=hid (HK.out.trans (g2.below.mono (by have:=HB.out; omega)))
 have hs2:=h2.le
 clear h2 g2
 go_wp2_with fail
 go_at_call 22
 refine HS.out.mono ?_
 rintro e w3 ⟨rfl,h3⟩
 have HK3:=hid (HK2.out.trans (h3.mono (by have:=HB.out; omega)))
 clear h3
 go_wp2
 go_ret
 exact ⟨rfl,HK3.out⟩
theorem piece_ne (l : List EV) (j : Nat) (h : j < l.length) (h0 : ∀ x ∈ l,x.text ≠ []) : pieceT l j ≠ []:=by
 obtain ⟨y,hy⟩ : ∃ y,l[j]? = some y:=⟨_,List.getElem?_eq_getElem h⟩
 rw [piece_some l j y hy]
 have:=h0 y (List.mem_of_getElem? hy)
 intro e
 exact this (List.append_eq_nil_iff.1 e).2
theorem resT_ne (l : List EV) (h : l ≠ []) (h0 : ∀ x ∈ l,x.text ≠ []) : resT l ≠ []:=by
 obtain ⟨n,hn⟩ : ∃ n,l.length = n + 1:=⟨l.length - 1,by cases l; exact absurd rfl h; simp⟩
 unfold resT
 rw [hn,resN_succ]
 intro e
 exact piece_ne l n (by omega) h0 (List.append_eq_nil_iff.1 e).2
set_option maxHeartbeats 1000000 in
set_option maxRecDepth 100000 in
theorem wr_String_nil (B b : Nat) (p : Value) (w : World) (hbk : w.heap[b]? = some (.cells #[p,.slice none 0 0] 56 (0,0))) :
  Calls Tryz.prog 22 #[.pointer (some ⟨b,0,none⟩)] w fun e w'=>e = .returned (.string ⟨#[]⟩) /\ Below B w w':=by
 have hUS : ∀ (W : World) (q : Option Addr),(Builtin.unsafeString_ #[89,3] 9 #[.pointer q,.int .i64 0]).run Tryz.prog W = .ok (.string .empty) W:=fun W q=>Lib.run_unsafeString_none W _ _ _ q
 have c1 : w.drew.cell? ⟨b,1,none⟩ = some (.slice none 0 0):=by
  have : w.drew.heap[b]? = some (.cells #[p,.slice none 0 0] 56 (0,0)):=hbk
  rw [Lib.cell_of_heap this]; rfl
 have hSD : (Builtin.unsafeSliceData_ #[41] 89 #[.slice none 0 0]).run Tryz.prog w.drew = .ok (.pointer none) w.drew:=rfl
 have mixed : Tryz.prog.follows Departure.mixedOrders = true:=by kernel_rfl
 go_enter Tryz.func22,Tryz.ntmps22
 go_wp2
 go_region_o
 all_goals (go_wp2; go_ret; exact ⟨rfl,Below.drew (Below.refl B w)⟩)
set_option maxHeartbeats 1000000 in
set_option maxRecDepth 100000 in
theorem wents_nil (b : Nat) (A : Option Addr) (n : Nat) (w : World) : Calls Tryz.prog 21 #[.pointer (some ⟨b,0,none⟩),.slice A 0 n] w fun e w'=>e = .returned (.tuple #[]) /\ w' = w:=by
 go_enter Tryz.func21,Tryz.ntmps21
 go_wp2
 go_loopw [8] (fun t8 wr=>t8 = .int .i64 0 /\ wr = w) (fun _ _=>0)
 case atStart=>exact ⟨rfl,rfl⟩
 case round =>
  obtain ⟨rfl,rfl⟩:=hrel
  go_wp2
  go_end0
  exact ⟨rfl,rfl⟩
set_option maxHeartbeats 2000000 in
set_option maxRecDepth 100000 in
theorem sres_any {W0 : World} (hM : MxW W0) (l : List EV) (hl : l.length <= 4000000) (hall : ∀ x ∈ l,x.At W0 /\ x.fit) (h0 : ∀ x ∈ l,x.text ≠ []) (lb lo n : Nat) (A : Option Addr) (hA : 0 < l.length -> A = some ⟨lb,lo,none⟩) (hcs : 0 < l.length -> CellsN W0 lb lo l) (hn : (resT l).length <= 140737488355328) (w : World) (hW : Below W0.heap.size W0 w) :
  Calls Tryz.prog 9 #[.slice A l.length n] w fun e w'=>e = .returned (.string ⟨(resT l).toArray⟩) /\ Below w.heap.size w w':=by
 by_cases hz : l = []
 ·subst hz
  have he : resT ([] : List EV) = []:=rfl
  rw [he]
  have HK:=hid (show Below w.heap.size w (w.alloc (.cells #[.pointer none,.slice none 0 0] 56)) from (Below.refl _ _).alloc (Nat.le_refl _) _)
  have HS:=hid (wr_String_nil w.heap.size w.heap.size (.pointer none) (w.alloc (.cells #[.pointer none,.slice none 0 0] 56)) (BoxAt.new w _ _))
  have HE:=hid (wents_nil w.heap.size A n (w.alloc (.cells #[.pointer none,.slice none 0 0] 56)))
  clear hM hall h0 hA hcs hn hW hl he
  go_enter Tryz.func9,Tryz.ntmps9
  go_wp2_with fail
  go_at_call 21
  refine HE.out.mono ?_
  rintro e w2 ⟨rfl,rfl⟩
  go_wp2_with fail
  go_at_call 22
  refine HS.out.mono ?_
  rintro e w3 ⟨rfl,h3⟩
  have HK3:=hid (HK.out.trans h3)
  clear h3
  go_wp2
  go_ret
  exact ⟨rfl,HK3.out⟩
 ·have hne:=resT_ne l hz h0
  have hWs:=hW.size
  have hw1 : WrAt w.heap.size w.heap.size [] (w.alloc (.cells #[.pointer none,.slice none 0 0] 56)):=WrAt.start w
  have hS : Sw W0 w.heap.size w.heap.size (w.alloc (.cells #[.pointer none,.slice none 0 0] 56)):=⟨hWs,hW.alloc hWs _⟩
  have hst : ∀ W,Wk w.heap.size w.heap.size (w.alloc (.cells #[.pointer none,.slice none 0 0] 56)) W -> 0 < l.length -> CellsN W lb lo l:=fun W g hp=>by
   obtain ⟨h1,h2⟩:=hcs hp
   have hb:=(hS.step g).hW
   exact ⟨Nat.lt_of_lt_of_le h1 hb.size,fun j x hj i y hy=>(hb.cell (p:=⟨lb,lo + j * 8 + i,none⟩) h1).trans (h2 j x hj i y hy)⟩
  have hc:=wents_any hM (bs:=[]) l hl hall lb lo n A hA _ hst hS hw1 (by simpa using hn)
  rw [List.nil_append] at hc
  have HC:=hid hc
  have HNe:=hid hne
  have HK:=hid (show Below w.heap.size w (w.alloc (.cells #[.pointer none,.slice none 0 0] 56)) from (Below.refl _ _).alloc (Nat.le_refl _) _)
  obtain ⟨T,hT⟩ : ∃ T,resT l = T:=⟨_,rfl⟩
  rw [hT] at HC HNe ⊢
  clear hM hall h0 hA hcs hn hW hl hne hc hst hS hw1 hT hz
  go_enter Tryz.func9,Tryz.ntmps9
  go_wp2_with fail
  go_at_call 21
  refine HC.out.mono ?_
  rintro e w2 ⟨rfl,h2,g2⟩
  have HS:=hid (wr_String w.heap.size w.heap.size T w2 h2.bld HNe.out)
  have HK2:=hid (HK.out.trans g2.below)
  clear h2 g2
  go_wp2_with fail
  go_at_call 22
  refine HS.out.mono ?_
  rintro e w3 ⟨rfl,h3⟩
  have HK3:=hid (HK2.out.trans h3)
  clear h3
  go_wp2
  go_ret
  exact ⟨rfl,HK3.out⟩
end Go.Proofs.YtgdkpamlkpncgaaGreatDoor
