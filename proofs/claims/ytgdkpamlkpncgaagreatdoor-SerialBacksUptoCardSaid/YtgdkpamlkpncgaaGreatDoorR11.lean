/-
  Several texts put together (part 11): what the law and the program call, walked; their contracts.
-/
import Derived.Test.YtgdkpamlkpncgaaGreatDoorR9
import Derived.Deep.RegionHeld3
namespace Go.Proofs.YtgdkpamlkpncgaaGreatDoor
open Go.RowKit
open _root_.Go.Lib (hid)
set_option linter.unusedVariables false
set_option linter.unusedSimpArgs false
def Got (rb : Nat) (s : ByteArray) (w : World) (r : Res) (e : Ending) (w' : World) : Prop :=
 Kp rb w w' /\ ∃ (k : Int) (t n a : ByteArray) (A1 : Option Addr) (n1 c1 : Nat) (p : Option Addr) (A2 : Option Addr) (n2 c2 : Nat) (j : Nat),
  e = .returned (.tuple #[exV k t n a A1 n1 c1 p A2 n2 c2,.bool r.isSome]) /\ Rd rb s j w' /\ j <= s.size /\
  ∀ x m,r = some (x,m) -> m = j /\ ExF w' (Since w.heap.size w') x ⟨.int .i64 k,.string t,.string n,.string a,.slice A1 n1 c1,.pointer p,.slice A2 n2 c2⟩
theorem exF_flat (W : World) (F : Nat -> Prop) (k : Int) (t n a : ByteArray) : ExF W F (.mk k t n a [] none []) ⟨.int .i64 k,.string t,.string n,.string a,.slice none 0 0,.pointer none,.slice none 0 0⟩:=by
 rw [ExF]
 exact ⟨rfl,rfl,rfl,rfl,LieN.nil _,by simp only [OF],⟨none,0,rfl,Nat.le_refl _,Nat.zero_le _,fun h=>absurd h (by simp)⟩⟩
theorem isAt_prefix (s : ByteArray) (i : Nat) (c : UInt8) (hi : i <= s.size) : Lib.hasPrefix (s.extract i s.size).data.toList [c] = isAt s i c:=by
 rw [extract_drop]
 unfold isAt
 by_cases h : i < s.size
 ·have hl : i < s.data.toList.length:=by rw [size_data]; exact h
  rw [List.drop_eq_getElem_cons hl,decide_eq_true h,Bool.true_and,at0_get _ _ hl]
  unfold Lib.hasPrefix
  rw [List.isPrefixOf,List.isPrefixOf,Bool.and_true,Bool.eq_iff_iff,beq_iff_eq,beq_iff_eq]
  exact eq_comm
 ·rw [List.drop_eq_nil_of_le (by rw [size_data]; omega),decide_eq_false h]
  rfl
theorem rds_of {rb : Nat} {s : ByteArray} {i : Nat} {w W : World} (hr : Rd rb s i W) (hk : Kp rb w W) : W.cell? ⟨rb,0,none⟩ = some (.string s) /\ W.cell? ⟨rb,1,none⟩ = some (.int .i64 (i : Nat)) /\ rb + 1 <= W.heap.size /\ Rd rb s i W /\ Kp rb w W:=⟨hr.c0,hr.c1,hr.lt,hr,hk⟩
theorem Rd.drew {rb : Nat} {s : ByteArray} {i : Nat} {w : World} (h : Rd rb s i w) : Rd rb s i w.drew:=h
theorem rds_later {rb : Nat} {s : ByteArray} {i : Nat} {w W W' : World} (h : W.cell? ⟨rb,0,none⟩ = some (.string s) /\ W.cell? ⟨rb,1,none⟩ = some (.int .i64 (i : Nat)) /\ rb + 1 <= W.heap.size /\ Rd rb s i W /\ Kp rb w W) (hb : Below W.heap.size W W') :
  W'.cell? ⟨rb,0,none⟩ = some (.string s) /\ W'.cell? ⟨rb,1,none⟩ = some (.int .i64 (i : Nat)) /\ rb + 1 <= W'.heap.size /\ Rd rb s i W' /\ Kp rb w W' :=
 rds_of (h.2.2.2.1.later hb) (h.2.2.2.2.trans (Kp.of_below hb (by have:=h.2.2.1; omega)))
set_option maxHeartbeats 2000000 in
set_option maxRecDepth 100000 in
theorem take_any {rb : Nat} {s : ByteArray} {i : Nat} (c : UInt8) (w : World) (hr : Rd rb s i w) (hs : s.size <= 4000000000) (hi : i <= s.size) :
  Calls Tryz.prog 236 #[pt rb,.string ⟨#[c]⟩] w fun e w'=>e = .returned (.bool (isAt s i c)) /\ Rd rb s (if isAt s i c then i + 1 else i) w' /\ Kp rb w w':=by
 have hx:=isAt_prefix s i c hi
 have hp:=fun W=>Tryz.strings_HasPrefix (s.extract i s.size) ⟨#[c]⟩ W
 rw [hx] at hp
 obtain ⟨b,hb⟩ : ∃ b,isAt s i c = b:=⟨_,rfl⟩
 have Hb:=hid hb
 rw [hb] at hp ⊢
 have HP:=hid hp
 have c0:=hr.c0
 have c1:=hr.c1
 have f0:=hr.f 0
 have f1:=hr.f 1
 have hlt:=hr.lt
 have HR:=hid hr
 have hi0 : (i : Int) <= 4000000000:=by omega
 have hjs : (i : Int) <= (s.size : Int):=by omega
 have hss : (s.size : Int) <= 4000000000:=by omega
 have hi1 : (0 : Int) <= (i : Int):=by omega
 clear hx hp hb hr
 unfold pt
 go_enter Tryz.func236,Tryz.ntmps236
 go_wp2_with fail
 go_region_held3 (fun w'=>w'.cell? ⟨rb,0,none⟩ = some (.string s) /\ w'.cell? ⟨rb,1,none⟩ = some (.int .i64 (i : Nat)) /\ rb + 1 <= w'.heap.size /\ Rd rb s i w' /\ Kp rb w w')
  (first | (exact rds_later (by assumption) (by assumption)) | (exact rds_of HR.out.drew (Kp.refl _ _).drew) | go_keep)
  (first | (go_at_call 65; refine (HP.out _).mono ?_; rintro e w' ⟨rfl,rfl⟩))
 have d1 : w.drew.cell? ⟨rb,1,none⟩ = some (.int .i64 (i : Nat)):=c1
 have g1 : w.drew.frozen? ⟨rb,1,none⟩ = false:=f1
 cases b
 ·go_wp2
  go_ret
  exact ⟨rfl,HR.out.drew,(Kp.refl _ _).drew⟩
 ·go_wp2
  go_ret
  exact ⟨rfl,HR.out.drew.set' (by omega),(Kp.refl _ _).drew.setCell 1 _⟩
def WayTo (rb : Nat) (s : ByteArray) (N : FuncId) (args : Array Value) (f : Nat -> Res) : Prop :=
 ∀ (i : Nat) (w : World),Rd rb s i w -> i <= s.size -> Calls Tryz.prog N args w (Got rb s w (f i))
theorem ext_empty (s : ByteArray) (i j : Nat) (hij : i <= j) (hj : j <= s.size) : (s.extract i j).toList.isEmpty = decide (j = i):=by
 rw [Lib.toList_data,Bool.eq_iff_iff,List.isEmpty_iff,decide_eq_true_iff,<- List.length_eq_zero_iff,size_data,ByteArray.size_extract]
 omega
theorem nm_ok (s : ByteArray) (i : Nat) (hi : i <= s.size) : i <= nm s i /\ nm s i <= s.size:=by
 unfold nm
 split
 ·exact ⟨behN_ge _ _ _,by have:=behN_le naB s.data.toList i (by rw [size_data]; exact hi); rw [size_data] at this; exact this⟩
 ·exact ⟨Nat.le_refl _,hi⟩
theorem nameI_nm (s : ByteArray) (i : Nat) : nameI s.data.toList (i : Int) = (nm s i : Int):=by
 unfold nameI nm behI at0
 rw [Int.toNat_natCast,size_data]
 by_cases h : i < s.size /\ leB (s.data.toList.getD i 0) = true
 ·rw [if_pos h,if_pos ⟨by omega,by omega,h.2⟩,if_neg (by omega)]
 ·rw [if_neg h,if_neg (fun x=>h ⟨by omega,x.2.2⟩)]
theorem numN_ok (l : List UInt8) (i : Nat) (hi : i <= l.length) : i <= numN l i /\ numN l i <= l.length:=by
 have h:=long_num l i hi
 rw [<- h]
 have : ∀ k,k <= l.length -> i <= longN lnumB l i k /\ longN lnumB l i k <= l.length:=by
  intro k
  induction k with
  | zero=>intro _; exact ⟨Nat.le_refl _,hi⟩
  | succ k ih =>
   intro hk
   unfold longN
   split
   ·next h=>exact ⟨Nat.le_of_lt h.1,hk⟩
   ·exact ih (by omega)
 exact this _ (Nat.le_refl _)
theorem nu_ok (s : ByteArray) (i : Nat) (hi : i <= s.size) : i <= nu s i /\ nu s i <= s.size:=by
 have:=numN_ok s.data.toList i (by rw [size_data]; exact hi)
 rw [size_data] at this
 exact this
theorem endName {s : ByteArray} : EndFn 95 nm s:=⟨fun args w=>by go_simp,fun i w hs hi=>⟨(nm_ok s i hi).1,(nm_ok s i hi).2,by
 rw [<- nameI_nm]
 exact (name_any s i w (by omega)).mono (by rintro e w' ⟨rfl,rfl⟩; exact ⟨rfl,Below.refl _ _⟩)⟩⟩
theorem endNumber {s : ByteArray} : EndFn 300 nu s:=⟨fun args w=>by go_simp,fun i w hs hi=>⟨(nu_ok s i hi).1,(nu_ok s i hi).2,by
 have:=number_any s i w (by omega)
 rw [numI_nat] at this
 exact this⟩⟩
theorem endBlank {s : ByteArray} : EndFn 131 bl s:=⟨fun args w=>by go_simp,fun i w hs hi=>⟨behN_ge _ _ _,by have:=behN_le blB s.data.toList i (by rw [size_data]; exact hi); rw [size_data] at this; exact this,by
 have:=blank_any s i w (by omega)
 unfold behI at this
 rw [if_neg (by omega),Int.toNat_natCast] at this
 exact this.mono (by rintro e w' ⟨rfl,rfl⟩; exact ⟨rfl,Below.refl _ _⟩)⟩⟩
theorem endSpaces {s : ByteArray} : EndFn 39 sp s:=⟨fun args w=>by go_simp,fun i w hs hi=>⟨behN_ge _ _ _,by have:=behN_le spB s.data.toList i (by rw [size_data]; exact hi); rw [size_data] at this; exact this,by
 have:=spaces_any s i w (by omega)
 unfold behI at this
 rw [if_neg (by omega),Int.toNat_natCast] at this
 exact this.mono (by rintro e w' ⟨rfl,rfl⟩; exact ⟨rfl,Below.refl _ _⟩)⟩⟩
theorem cells7 {w : World} {k : Nat} {x0 x1 x2 x3 x4 x5 x6 : Value} {t : TypeId} (h : BoxAt w k #[x0,x1,x2,x3,x4,x5,x6] t) :
  w.cell? ⟨k,0,none⟩ = some x0 /\ w.cell? ⟨k,1,none⟩ = some x1 /\ w.cell? ⟨k,2,none⟩ = some x2 /\ w.cell? ⟨k,3,none⟩ = some x3 /\ w.cell? ⟨k,4,none⟩ = some x4 /\ w.cell? ⟨k,5,none⟩ = some x5 /\ w.cell? ⟨k,6,none⟩ = some x6 /\
  w.frozen? ⟨k,0,none⟩ = false /\ w.frozen? ⟨k,1,none⟩ = false /\ w.frozen? ⟨k,2,none⟩ = false /\ w.frozen? ⟨k,3,none⟩ = false /\ w.frozen? ⟨k,4,none⟩ = false /\ w.frozen? ⟨k,5,none⟩ = false /\ w.frozen? ⟨k,6,none⟩ = false :=
 ⟨h.cell 0,h.cell 1,h.cell 2,h.cell 3,h.cell 4,h.cell 5,h.cell 6,Lib.frozen_of_heap h 0,Lib.frozen_of_heap h 1,Lib.frozen_of_heap h 2,Lib.frozen_of_heap h 3,Lib.frozen_of_heap h 4,Lib.frozen_of_heap h 5,Lib.frozen_of_heap h 6⟩
theorem Kp.setNew {rb : Nat} {a w : World} (h : Kp rb a w) {b : Nat} (hb : a.heap.size <= b) (hr : rb < a.heap.size) (o : Nat) (v : Value) : Kp rb a (w.setCell ⟨b,o,none⟩ v) :=
 ⟨h.below.setCell (p:=⟨b,o,none⟩) (by show rb <= b; omega) v,fun k hk hn=>(Below.heap_setCell w ⟨b,o,none⟩ v k (by show k ≠ b; omega)).trans (h.others k hk hn)⟩
theorem Rd.setOther {rb : Nat} {s : ByteArray} {i : Nat} {w : World} (h : Rd rb s i w) {b : Nat} (hb : rb ≠ b) (o : Nat) (v : Value) : Rd rb s i (w.setCell ⟨b,o,none⟩ v):=BoxAt.setOther h ⟨b,o,none⟩ v hb
def set7 (w : World) (b : Nat) (x0 x1 x2 x3 x4 x5 x6 : Value) : World:=((((((w.setCell ⟨b,0,none⟩ x0).setCell ⟨b,1,none⟩ x1).setCell ⟨b,2,none⟩ x2).setCell ⟨b,3,none⟩ x3).setCell ⟨b,4,none⟩ x4).setCell ⟨b,5,none⟩ x5).setCell ⟨b,6,none⟩ x6
theorem set7_heap (w : World) (b : Nat) (x0 x1 x2 x3 x4 x5 x6 : Value) (k : Nat) (hk : k ≠ b) : (set7 w b x0 x1 x2 x3 x4 x5 x6).heap[k]? = w.heap[k]?:=by
 unfold set7
 rw [Below.heap_setCell _ _ _ k hk,Below.heap_setCell _ _ _ k hk,Below.heap_setCell _ _ _ k hk,Below.heap_setCell _ _ _ k hk,Below.heap_setCell _ _ _ k hk,Below.heap_setCell _ _ _ k hk,Below.heap_setCell _ _ _ k hk]
theorem set7_size (w : World) (b : Nat) (x0 x1 x2 x3 x4 x5 x6 : Value) : (set7 w b x0 x1 x2 x3 x4 x5 x6).heap.size = w.heap.size:=by
 unfold set7; simp
theorem Kp.set7 {rb : Nat} {a w : World} (h : Kp rb a w) {b : Nat} (hb : a.heap.size <= b) (hr : rb < a.heap.size) (x0 x1 x2 x3 x4 x5 x6 : Value) : Kp rb a (set7 w b x0 x1 x2 x3 x4 x5 x6) :=
 ((((((h.setNew hb hr 0 x0).setNew hb hr 1 x1).setNew hb hr 2 x2).setNew hb hr 3 x3).setNew hb hr 4 x4).setNew hb hr 5 x5).setNew hb hr 6 x6
theorem Rd.set7 {rb : Nat} {s : ByteArray} {i : Nat} {w : World} (h : Rd rb s i w) {b : Nat} (hb : rb ≠ b) (x0 x1 x2 x3 x4 x5 x6 : Value) : Rd rb s i (set7 w b x0 x1 x2 x3 x4 x5 x6) :=
 ((((((h.setOther hb 0 x0).setOther hb 1 x1).setOther hb 2 x2).setOther hb 3 x3).setOther hb 4 x4).setOther hb 5 x5).setOther hb 6 x6
theorem got_fin {rb : Nat} {s : ByteArray} {w w1 : World} {r : Res} {b : Nat} {k : Int} {t n a : ByteArray} {A1 : Option Addr} {n1 c1 : Nat} {p : Option Addr} {A2 : Option Addr} {n2 c2 : Nat} {j : Nat} {ok : Bool} {x0 x1 x2 x3 x4 x5 x6 : Value}
  (hK : Kp rb w w1) (hb : w.heap.size <= b) (hlt : rb < w.heap.size) (hR : Rd rb s j w1) (hj : j <= s.size) (hok : ok = r.isSome)
  (hx : ∀ x m,r = some (x,m) -> m = j /\ ExF w1 (fun q=>Since w.heap.size w1 q /\ q ≠ b) x ⟨.int .i64 k,.string t,.string n,.string a,.slice A1 n1 c1,.pointer p,.slice A2 n2 c2⟩) :
  Got rb s w r (.returned (.tuple #[exV k t n a A1 n1 c1 p A2 n2 c2,.bool ok])) (set7 w1 b x0 x1 x2 x3 x4 x5 x6):=by
 refine ⟨hK.set7 hb hlt _ _ _ _ _ _ _,k,t,n,a,A1,n1,c1,p,A2,n2,c2,j,by rw [hok],hR.set7 (by omega) _ _ _ _ _ _ _,hj,fun x m h=>?_⟩
 obtain ⟨h1,h2⟩:=hx x m h
 refine ⟨h1,ExF.carry (fun q hq=>⟨?_,set7_heap _ _ _ _ _ _ _ _ _ q hq.2⟩) _ _ h2⟩
 obtain ⟨⟨ha,hb⟩,_⟩:=hq
 exact ⟨ha,by rw [set7_size]; exact hb⟩
theorem box_set7 {w : World} {E : Nat} {x0 x1 x2 x3 x4 x5 x6 : Value} {t : TypeId} (h : BoxAt w E #[x0,x1,x2,x3,x4,x5,x6] t) (y0 y1 y2 y3 y4 y5 y6 : Value) :
  BoxAt (set7 w E y0 y1 y2 y3 y4 y5 y6) E #[y0,y1,y2,y3,y4,y5,y6] t:=by
 unfold set7
 unfold BoxAt at h ⊢
 simp [World.setCell,Array.getElem?_modify,h]
set_option maxRecDepth 100000 in
theorem res7 {fn : Func} {A M : Nat} {tmps : Array Value} {w : World} {b : Nat} {x0 x1 x2 x3 x4 x5 x6 v : Value} {t : TypeId} (hres : fn.results = #[.cell A 48,.tmp M]) (ha : tmps.getD A undef = .pointer (some ⟨b,0,none⟩)) (hm : tmps.getD M undef = v)
  (hb : BoxAt w b #[x0,x1,x2,x3,x4,x5,x6] t) : (results fn tmps).run Tryz.prog w = .ok (.tuple #[.agg #[x0,x1,x2,x3,x4,x5,x6],v]) w:=by
 obtain ⟨q0,q1,q2,q3,q4,q5,q6,_⟩:=cells7 hb
 have ha' : tmps[A]?.getD undef = .pointer (some ⟨b,0,none⟩):=by rw [<- ha]; simp
 have hm' : tmps[M]?.getD undef = v:=by rw [<- hm]; simp
 simp [results,hres,ha',hm',go_sem,q0,q1,q2,q3,q4,q5,q6]
theorem end7 {fn : Func} {R : Ending -> World -> Prop} {a : Act} {w1 w2 : World} {A M b : Nat} {x0 x1 x2 x3 x4 x5 x6 y0 y1 y2 y3 y4 y5 y6 v : Value} {t : TypeId} (hres : fn.results = #[.cell A 48,.tmp M]) (hbox : BoxAt w1 b #[y0,y1,y2,y3,y4,y5,y6] t)
  (hw : w2 = set7 w1 b x0 x1 x2 x3 x4 x5 x6) (ha : a.tmps.getD A undef = .pointer (some ⟨b,0,none⟩)) (hm : a.tmps.getD M undef = v) (hd : a.defers = []) (hR : R (.returned (.tuple #[.agg #[x0,x1,x2,x3,x4,x5,x6],v])) (set7 w1 b x0 x1 x2 x3 x4 x5 x6)) : bodyPost Tryz.prog fn R .ret a w2:=by
 subst hw
 exact bodyPost_ret (res7 hres ha hm (box_set7 hbox x0 x1 x2 x3 x4 x5 x6)) hd hR
theorem end7w {fn : Func} {R : Ending -> World -> Prop} {a : Act} {w2 : World} {A M b : Nat} {x0 x1 x2 x3 x4 x5 x6 v : Value} {t : TypeId} (hres : fn.results = #[.cell A 48,.tmp M]) (hbox : BoxAt w2 b #[x0,x1,x2,x3,x4,x5,x6] t)
  (ha : a.tmps.getD A undef = .pointer (some ⟨b,0,none⟩)) (hm : a.tmps.getD M undef = v) (hd : a.defers = []) (hR : R (.returned (.tuple #[.agg #[x0,x1,x2,x3,x4,x5,x6],v])) w2) : bodyPost Tryz.prog fn R .ret a w2 :=
 bodyPost_ret (res7 hres ha hm hbox) hd hR
theorem got_end {rb : Nat} {s : ByteArray} {w w2 : World} {r : Res} {k : Int} {t n a : ByteArray} {A1 : Option Addr} {n1 c1 : Nat} {p : Option Addr} {A2 : Option Addr} {n2 c2 : Nat} {j : Nat} {ok : Bool}
  (hK : Kp rb w w2) (hR : Rd rb s j w2) (hj : j <= s.size) (hok : ok = r.isSome)
  (hx : ∀ x m,r = some (x,m) -> m = j /\ ExF w2 (Since w.heap.size w2) x ⟨.int .i64 k,.string t,.string n,.string a,.slice A1 n1 c1,.pointer p,.slice A2 n2 c2⟩) :
  Got rb s w r (.returned (.tuple #[exV k t n a A1 n1 c1 p A2 n2 c2,.bool ok])) w2 :=
 ⟨hK,k,t,n,a,A1,n1,c1,p,A2,n2,c2,j,by rw [hok],hR,hj,hx⟩
set_option maxHeartbeats 2000000 in
set_option maxRecDepth 100000 in
theorem number_way {rb : Nat} {s : ByteArray} (hs : s.size <= 4000000000) : WayTo rb s 297 #[pt rb] (nubS s):=by
 intro i w hr hi
 have hn:=nu_ok s i hi
 have he:=ext_empty s i (nu s i) hn.1 hn.2
 have hP:=fun W (h : Rd rb s i W)=>pass_any endNumber W h hs hi
 unfold nubS
 obtain ⟨j,hj⟩ : ∃ j,nu s i = j:=⟨_,rfl⟩
 rw [hj] at hn he hP ⊢
 have HP:=hid hP
 have HR:=hid hr
 have hlt:=hr.lt
 obtain ⟨X,hX⟩ : ∃ X,s.extract i j = X:=⟨_,rfl⟩
 rw [hX] at he HP ⊢
 have HE:=hid he
 have HX:=hid hX
 clear hj hP hr he hX
 unfold pt at HP ⊢
 by_cases hji : j = i
 ·have hx : X.toList.isEmpty = true:=by rw [HE.out,decide_eq_true hji]
  rw [if_pos hji]
  go_enter Tryz.func297,Tryz.ntmps297
  go_wp2_with fail
  go_at_call 169
  refine (HP.out _ (HR.out.alloc _)).mono ?_
  rintro e w1 ⟨rfl,h1,h2⟩
  have H1:=hid h1
  have HK:=hid (((Kp.refl rb w).alloc (Nat.le_of_lt hlt) _).trans h2)
  have hc:=BoxAt.kp (BoxAt.new w #[.int .i64 0,.string ⟨#[]⟩,.string ⟨#[]⟩,.string ⟨#[]⟩,.slice none 0 0,.pointer none,.slice none 0 0] 48) h2 (by omega)
  have hl:=hc.lt
  have HC:=hid hc
  have q:=cells7 hc
  obtain ⟨q0,q1,q2,q3,q4,q5,q6,p0,p1,p2,p3,p4,p5,p6⟩:=q
  clear h1 h2 hc
  go_wp2
  exact end7 Tryz.results297 HC.out rfl rfl rfl rfl (got_fin (b:=w.heap.size) HK.out (Nat.le_refl _) hlt H1.out hn.2 rfl (fun x m h=>by cases h))
 ·have hx : X.toList.isEmpty = false:=by rw [HE.out,decide_eq_false hji]
  rw [if_neg hji]
  go_enter Tryz.func297,Tryz.ntmps297
  go_wp2_with fail
  go_at_call 169
  refine (HP.out _ (HR.out.alloc _)).mono ?_
  rintro e w1 ⟨rfl,h1,h2⟩
  have H1:=hid h1
  have HK:=hid (((Kp.refl rb w).alloc (Nat.le_of_lt hlt) _).trans h2)
  have hc:=BoxAt.kp (BoxAt.new w #[.int .i64 0,.string ⟨#[]⟩,.string ⟨#[]⟩,.string ⟨#[]⟩,.slice none 0 0,.pointer none,.slice none 0 0] 48) h2 (by omega)
  have hl:=hc.lt
  have HC:=hid hc
  have q:=cells7 hc
  obtain ⟨q0,q1,q2,q3,q4,q5,q6,p0,p1,p2,p3,p4,p5,p6⟩:=q
  clear h1 h2 hc
  go_wp2
  exact end7 Tryz.results297 HC.out rfl rfl rfl rfl (got_fin (b:=w.heap.size) HK.out (Nat.le_refl _) hlt H1.out hn.2 rfl (fun x m h=>by cases h; exact ⟨rfl,exF_flat _ _ _ _ _ _⟩))
abbrev zE : Array Value:=#[.int .i64 0,.string ⟨#[]⟩,.string ⟨#[]⟩,.string ⟨#[]⟩,.slice none 0 0,.pointer none,.slice none 0 0]
theorem since_ne {w w1 : World} {o : Obj} : ∀ q,Since (w.alloc o).heap.size w1 q -> (Since w.heap.size w1 q /\ q ≠ w.heap.size) /\ w1.heap[q]? = w1.heap[q]?:=fun q h=>by
 obtain ⟨h1,h2⟩:=h
 rw [World.size_alloc] at h1
 exact ⟨⟨⟨by omega,h2⟩,by omega⟩,rfl⟩
set_option maxHeartbeats 2000000 in
set_option maxRecDepth 100000 in
theorem variable_way {rb : Nat} {s : ByteArray} (hs : s.size <= 4000000000) : WayTo rb s 294 #[pt rb] (varS s):=by
 intro i w hr hi
 have hT:=fun W (h : Rd rb s i W)=>take_any 36 W h hs hi
 unfold varS
 obtain ⟨b,hb⟩ : ∃ b,isAt s i 36 = b:=⟨_,rfl⟩
 have hi1 : b = true -> i + 1 <= s.size:=fun h=>isAt_lt (hb.trans h)
 rw [hb] at hT ⊢
 have HT:=hid hT
 have HR:=hid hr
 have hlt:=hr.lt
 clear hT hr hb
 unfold pt at HT ⊢
 cases b
 case false =>
  go_enter Tryz.func294,Tryz.ntmps294
  go_wp2_with fail
  go_at_call 236
  refine (HT.out _ (HR.out.alloc _)).mono ?_
  rintro e w1 ⟨rfl,h1,h2⟩
  have H1:=hid h1
  have HK:=hid (((Kp.refl rb w).alloc (Nat.le_of_lt hlt) _).trans h2)
  have hc:=BoxAt.kp (BoxAt.new w zE 48) h2 (by omega)
  have hl:=hc.lt
  have HC:=hid hc
  obtain ⟨q0,q1,q2,q3,q4,q5,q6,p0,p1,p2,p3,p4,p5,p6⟩:=cells7 hc
  clear h1 h2 hc
  go_wp2
  exact end7 Tryz.results294 HC.out rfl rfl rfl rfl (got_fin (b:=w.heap.size) HK.out (Nat.le_refl _) hlt H1.out hi rfl (fun x m h=>by cases h))
 have hi2:=hi1 rfl
 have hn:=nm_ok s (i + 1) hi2
 have he:=ext_empty s (i + 1) (nm s (i + 1)) hn.1 hn.2
 have hP:=fun W (h : Rd rb s (i + 1) W)=>pass_any endName W h hs hi2
 obtain ⟨j,hj⟩ : ∃ j,nm s (i + 1) = j:=⟨_,rfl⟩
 rw [hj] at hn he hP ⊢
 have HP:=hid hP
 obtain ⟨X,hX⟩ : ∃ X,s.extract (i + 1) j = X:=⟨_,rfl⟩
 rw [hX] at he HP ⊢
 have HE:=hid he
 clear hj hP he hX hi1
 rw [Bool.true_and]
 unfold pt at HP
 by_cases hji : j = i + 1
 ·have hx : X.toList.isEmpty = true:=by rw [HE.out,decide_eq_true hji]
  rw [decide_eq_false (by omega),if_neg (by simp)]
  go_enter Tryz.func294,Tryz.ntmps294
  go_wp2_with fail
  go_at_call 236
  refine (HT.out _ (HR.out.alloc _)).mono ?_
  rintro e w1 ⟨rfl,h1,h2⟩
  have H1:=hid (show Rd rb s (i + 1) w1 by simpa using h1)
  have H2:=hid h2
  clear h1 h2
  go_wp2_with fail
  go_at_call 169
  refine (HP.out _ H1.out).mono ?_
  rintro e w2 ⟨rfl,h3,h4⟩
  have H3:=hid h3
  have HK:=hid ((((Kp.refl rb w).alloc (Nat.le_of_lt hlt) _).trans H2.out).trans h4)
  have hc:=BoxAt.kp (BoxAt.kp (BoxAt.new w zE 48) H2.out (by omega)) h4 (by omega)
  have hl:=hc.lt
  have HC:=hid hc
  obtain ⟨q0,q1,q2,q3,q4,q5,q6,p0,p1,p2,p3,p4,p5,p6⟩:=cells7 hc
  clear h3 h4 hc
  go_wp2
  exact end7 Tryz.results294 HC.out rfl rfl rfl rfl (got_fin (b:=w.heap.size) HK.out (Nat.le_refl _) hlt H3.out hn.2 rfl (fun x m h=>by cases h))
 ·have hx : X.toList.isEmpty = false:=by rw [HE.out,decide_eq_false hji]
  rw [decide_eq_true (by omega),if_pos rfl]
  go_enter Tryz.func294,Tryz.ntmps294
  go_wp2_with fail
  go_at_call 236
  refine (HT.out _ (HR.out.alloc _)).mono ?_
  rintro e w1 ⟨rfl,h1,h2⟩
  have H1:=hid (show Rd rb s (i + 1) w1 by simpa using h1)
  have H2:=hid h2
  clear h1 h2
  go_wp2_with fail
  go_at_call 169
  refine (HP.out _ H1.out).mono ?_
  rintro e w2 ⟨rfl,h3,h4⟩
  have H3:=hid h3
  have HK:=hid ((((Kp.refl rb w).alloc (Nat.le_of_lt hlt) _).trans H2.out).trans h4)
  have hc:=BoxAt.kp (BoxAt.kp (BoxAt.new w zE 48) H2.out (by omega)) h4 (by omega)
  have hl:=hc.lt
  have HC:=hid hc
  obtain ⟨q0,q1,q2,q3,q4,q5,q6,p0,p1,p2,p3,p4,p5,p6⟩:=cells7 hc
  clear h3 h4 hc
  go_wp2
  exact end7 Tryz.results294 HC.out rfl rfl rfl rfl (got_fin (b:=w.heap.size) HK.out (Nat.le_refl _) hlt H3.out hn.2 rfl (fun x m h=>by cases h; exact ⟨rfl,exF_flat _ _ _ _ _ _⟩))
set_option maxHeartbeats 2000000 in
set_option maxRecDepth 100000 in
theorem ref_way {rb : Nat} {s : ByteArray} (hs : s.size <= 4000000000) (k : Int) : WayTo rb s 318 #[pt rb,.int .i64 k] (refS k s):=by
 intro i w hr hi
 have hn:=nm_ok s i hi
 have he:=ext_empty s i (nm s i) hn.1 hn.2
 have hP:=fun W (h : Rd rb s i W)=>pass_any endName W h hs hi
 unfold refS
 obtain ⟨j,hj⟩ : ∃ j,nm s i = j:=⟨_,rfl⟩
 rw [hj] at hn he hP ⊢
 have HP:=hid hP
 have HR:=hid hr
 have hlt:=hr.lt
 obtain ⟨X,hX⟩ : ∃ X,s.extract i j = X:=⟨_,rfl⟩
 rw [hX] at he HP ⊢
 have HE:=hid he
 clear hj hP hr he hX
 unfold pt at HP ⊢
 by_cases hji : j = i
 ·have hx : X.toList.isEmpty = true:=by rw [HE.out,decide_eq_true hji]
  rw [if_pos hji]
  go_enter Tryz.func318,Tryz.ntmps318
  go_wp2_with fail
  go_at_call 169
  refine (HP.out _ (HR.out.alloc _)).mono ?_
  rintro e w1 ⟨rfl,h1,h2⟩
  have H1:=hid h1
  have hl1:=h1.lt
  have HK:=hid (((Kp.refl rb w).alloc (Nat.le_of_lt hlt) _).trans h2)
  have hc:=BoxAt.kp (BoxAt.new w zE 48) h2 (by omega)
  have hl:=hc.lt
  have HC:=hid hc
  obtain ⟨q0,q1,q2,q3,q4,q5,q6,p0,p1,p2,p3,p4,p5,p6⟩:=cells7 hc
  clear h1 h2 hc
  go_wp2
  go_region
  go_wp2
  exact end7w Tryz.results318 ((box_set7 HC.out _ _ _ _ _ _ _).alloc _).drew rfl rfl rfl (got_end (((HK.out.set7 (Nat.le_refl _) hlt _ _ _ _ _ _ _).alloc (by rw [set7_size]; omega) _).drew) (((H1.out.set7 (by omega) _ _ _ _ _ _ _).alloc _).drew) hn.2 rfl (fun x m h=>by cases h))
 have hx : X.toList.isEmpty = false:=by rw [HE.out,decide_eq_false hji]
 rw [if_neg hji]
 have hT:=fun W (h : Rd rb s j W)=>take_any 46 W h hs hn.2
 obtain ⟨b,hb⟩ : ∃ b,isAt s j 46 = b:=⟨_,rfl⟩
 have hj1 : b = true -> j + 1 <= s.size:=fun h=>isAt_lt (hb.trans h)
 rw [hb] at hT ⊢
 have HT:=hid hT
 clear hT hb
 unfold pt at HT
 cases b
 case false =>
  go_enter Tryz.func318,Tryz.ntmps318
  go_wp2_with fail
  go_at_call 169
  refine (HP.out _ (HR.out.alloc _)).mono ?_
  rintro e w1 ⟨rfl,h1,h2⟩
  have hl1:=h1.lt
  have H1:=hid (h1.alloc (.cells #[.int .i64 k,.string ⟨#[]⟩,.string X,.string ⟨#[]⟩,.slice none 0 0,.pointer none,.slice none 0 0] 48))
  have HK:=hid ((((Kp.refl rb w).alloc (Nat.le_of_lt hlt) _).trans h2).alloc (Nat.le_of_lt hl1) (.cells #[.int .i64 k,.string ⟨#[]⟩,.string X,.string ⟨#[]⟩,.slice none 0 0,.pointer none,.slice none 0 0] 48))
  have hc:=BoxAt.kp (BoxAt.new w zE 48) h2 (by omega)
  have hl:=hc.lt
  have HC:=hid (hc.alloc (.cells #[.int .i64 k,.string ⟨#[]⟩,.string X,.string ⟨#[]⟩,.slice none 0 0,.pointer none,.slice none 0 0] 48))
  have HN:=hid (BoxAt.new w1 #[.int .i64 k,.string ⟨#[]⟩,.string X,.string ⟨#[]⟩,.slice none 0 0,.pointer none,.slice none 0 0] 48)
  clear h1 h2 hc
  go_wp2_with fail
  go_at_call 236
  refine (HT.out _ H1.out).mono ?_
  rintro e w2 ⟨rfl,h3,h4⟩
  have H3:=hid (show Rd rb s j w2 by simpa using h3)
  have HK2:=hid (HK.out.trans h4)
  have hc2:=BoxAt.kp HC.out h4 (by omega)
  have hl2:=hc2.lt
  have HC2:=hid hc2
  have hn2:=BoxAt.kp HN.out h4 (by omega)
  have hl3:=hn2.lt
  obtain ⟨q0,q1,q2,q3,q4,q5,q6,p0,p1,p2,p3,p4,p5,p6⟩:=cells7 hc2
  obtain ⟨y0,y1,y2,y3,y4,y5,y6,_⟩:=cells7 hn2
  clear h3 h4 hc2 hn2
  go_wp2
  go_region
  go_wp2
  exact end7w Tryz.results318 (box_set7 HC2.out _ _ _ _ _ _ _).drew rfl rfl rfl (got_end (HK2.out.set7 (Nat.le_refl _) hlt _ _ _ _ _ _ _).drew (H3.out.set7 (by omega) _ _ _ _ _ _ _).drew hn.2 rfl (fun x m h=>by cases h; exact ⟨rfl,exF_flat _ _ _ _ _ _⟩))
 have hj2:=hj1 rfl
 rw [if_pos rfl]
 have hn':=nm_ok s (j + 1) hj2
 have he':=ext_empty s (j + 1) (nm s (j + 1)) hn'.1 hn'.2
 have hP':=fun W (h : Rd rb s (j + 1) W)=>pass_any endName W h hs hj2
 obtain ⟨m,hm⟩ : ∃ m,nm s (j + 1) = m:=⟨_,rfl⟩
 rw [hm] at hn' he' hP' ⊢
 have HP':=hid hP'
 obtain ⟨Y,hY⟩ : ∃ Y,s.extract (j + 1) m = Y:=⟨_,rfl⟩
 rw [hY] at he' HP' ⊢
 have HE':=hid he'
 clear hm hP' he' hY hj1
 unfold pt at HP'
 have key : ∀ (v : Bool),Y.toList.isEmpty = v -> Calls Tryz.prog 318 #[.pointer (some ⟨rb,0,none⟩),.int .i64 k] w (Got rb s w (if v then none else some (.mk k E0 X Y [] none [],m))):=by
  intro v hv
  obtain ⟨R,hR⟩ : ∃ R,(if v then none else some (EX.mk k E0 X Y [] none [],m)) = R:=⟨_,rfl⟩
  rw [hR]
  have HRR:=hid hR
  clear hR
  go_enter Tryz.func318,Tryz.ntmps318
  go_wp2_with fail
  go_at_call 169
  refine (HP.out _ (HR.out.alloc _)).mono ?_
  rintro e w1 ⟨rfl,h1,h2⟩
  have hl1:=h1.lt
  have H1:=hid (h1.alloc (.cells #[.int .i64 k,.string ⟨#[]⟩,.string X,.string ⟨#[]⟩,.slice none 0 0,.pointer none,.slice none 0 0] 48))
  have HK:=hid ((((Kp.refl rb w).alloc (Nat.le_of_lt hlt) _).trans h2).alloc (Nat.le_of_lt hl1) (.cells #[.int .i64 k,.string ⟨#[]⟩,.string X,.string ⟨#[]⟩,.slice none 0 0,.pointer none,.slice none 0 0] 48))
  have hc:=BoxAt.kp (BoxAt.new w zE 48) h2 (by omega)
  have hl:=hc.lt
  have HC:=hid (hc.alloc (.cells #[.int .i64 k,.string ⟨#[]⟩,.string X,.string ⟨#[]⟩,.slice none 0 0,.pointer none,.slice none 0 0] 48))
  have HN:=hid (BoxAt.new w1 #[.int .i64 k,.string ⟨#[]⟩,.string X,.string ⟨#[]⟩,.slice none 0 0,.pointer none,.slice none 0 0] 48)
  clear h1 h2 hc
  go_wp2_with fail
  go_at_call 236
  refine (HT.out _ H1.out).mono ?_
  rintro e w2 ⟨rfl,h3,h4⟩
  have H3:=hid (show Rd rb s (j + 1) w2 by simpa using h3)
  have HK2:=hid (HK.out.trans h4)
  have hc2:=BoxAt.kp HC.out h4 (by omega)
  have hl2:=hc2.lt
  have HC2:=hid hc2
  have hn2:=BoxAt.kp HN.out h4 (by omega)
  have HN2:=hid hn2
  have hl3:=hn2.lt
  clear h3 h4 hc2 hn2
  go_wp2_with fail
  go_at_call 169
  refine (HP'.out _ H3.out).mono ?_
  rintro e w3 ⟨rfl,h5,h6⟩
  have hc3:=BoxAt.kp HC2.out h6 (by omega)
  have hn3:=BoxAt.kp HN2.out h6 (by omega)
  have hl4:=hc3.lt
  have hl5:=hn3.lt
  have hne : w1.heap.size ≠ w.heap.size:=by omega
  have hne2 : w.heap.size ≠ w1.heap.size:=by omega
  have HK3:=hid ((HK2.out.trans h6).setNew (b:=w1.heap.size) (by omega) hlt 3 (.string Y))
  have H5:=hid (h5.setOther (b:=w1.heap.size) (by omega) 3 (.string Y))
  have HC3:=hid (BoxAt.setOther hc3 ⟨w1.heap.size,3,none⟩ (.string Y) hne2)
  obtain ⟨q0,q1,q2,q3,q4,q5,q6,p0,p1,p2,p3,p4,p5,p6⟩:=cells7 hc3
  obtain ⟨y0,y1,y2,y3,y4,y5,y6,g0,g1,g2,g3,_⟩:=cells7 hn3
  clear h5 h6 hc3 hn3
  cases v
  all_goals
   go_wp2
   go_region
   go_wp2
   refine end7w Tryz.results318 (box_set7 HC3.out _ _ _ _ _ _ _).drew rfl rfl rfl (got_end (HK3.out.set7 (Nat.le_refl _) hlt _ _ _ _ _ _ _).drew (H5.out.set7 (by omega) _ _ _ _ _ _ _).drew hn'.2 (by rw [<- HRR.out]; rfl) (fun x q h=>?_))
   rw [<- HRR.out] at h
   cases h
   try exact ⟨rfl,exF_flat _ _ _ _ _ _⟩
 have hk:=key _ HE'.out
 simpa using hk
set_option maxHeartbeats 2000000 in
set_option maxRecDepth 100000 in
theorem message_way {rb : Nat} {s : ByteArray} (hs : s.size <= 4000000000) : WayTo rb s 296 #[pt rb] (refS 3 s):=by
 intro i w hr hi
 have hP:=fun W (h : Rd rb s i W)=>ref_way hs 3 i W h hi
 have HP:=hid hP
 have HR:=hid hr
 have hlt:=hr.lt
 obtain ⟨R,hR⟩ : ∃ R,refS 3 s i = R:=⟨_,rfl⟩
 rw [hR] at HP ⊢
 clear hP hr hR
 unfold pt at HP ⊢
 go_enter Tryz.func296,Tryz.ntmps296
 go_wp2_with fail
 go_at_call 318
 refine (HP.out _ (HR.out.alloc _)).mono ?_
 rintro e w1 ⟨h1,k,t,n,a,A1,n1,c1,p,A2,n2,c2,j,rfl,h2,hj,h3⟩
 have HK:=hid (((Kp.refl rb w).alloc (Nat.le_of_lt hlt) _).trans h1)
 have hc:=BoxAt.kp (BoxAt.new w zE 48) h1 (by omega)
 have hl:=hc.lt
 have HC:=hid hc
 have H2:=hid h2
 have H3:=hid h3
 obtain ⟨q0,q1,q2,q3,q4,q5,q6,p0,p1,p2,p3,p4,p5,p6⟩:=cells7 hc
 unfold exV
 clear h1 h2 h3 hc HP
 go_wp2
 exact end7 Tryz.results296 HC.out rfl rfl rfl rfl (got_fin (b:=w.heap.size) HK.out (Nat.le_refl _) hlt H2.out hj rfl (fun x m h=>⟨(H3.out x m h).1,ExF.carry since_ne _ _ (H3.out x m h).2⟩))
set_option maxHeartbeats 2000000 in
set_option maxRecDepth 100000 in
theorem term_way {rb : Nat} {s : ByteArray} (hs : s.size <= 4000000000) : WayTo rb s 295 #[pt rb] (terS s):=by
 intro i w hr hi
 have hT:=fun W (h : Rd rb s i W)=>take_any 45 W h hs hi
 unfold terS
 obtain ⟨b,hb⟩ : ∃ b,isAt s i 45 = b:=⟨_,rfl⟩
 have hi1 : b = true -> i + 1 <= s.size:=fun h=>isAt_lt (hb.trans h)
 rw [hb] at hT ⊢
 have HT:=hid hT
 have HR:=hid hr
 have hlt:=hr.lt
 clear hT hr hb
 unfold pt at HT ⊢
 cases b
 case false =>
  rw [if_neg (by simp)]
  go_enter Tryz.func295,Tryz.ntmps295
  go_wp2_with fail
  go_at_call 236
  refine (HT.out _ (HR.out.alloc _)).mono ?_
  rintro e w1 ⟨rfl,h1,h2⟩
  have H1:=hid (show Rd rb s i w1 by simpa using h1)
  have HK:=hid (((Kp.refl rb w).alloc (Nat.le_of_lt hlt) _).trans h2)
  have hc:=BoxAt.kp (BoxAt.new w zE 48) h2 (by omega)
  have hl:=hc.lt
  have HC:=hid hc
  obtain ⟨q0,q1,q2,q3,q4,q5,q6,p0,p1,p2,p3,p4,p5,p6⟩:=cells7 hc
  clear h1 h2 hc
  go_wp2
  exact end7 Tryz.results295 HC.out rfl rfl rfl rfl (got_fin (b:=w.heap.size) HK.out (Nat.le_refl _) hlt H1.out hi rfl (fun x m h=>by cases h))
 have hi2:=hi1 rfl
 rw [if_pos rfl]
 have hP:=fun W (h : Rd rb s (i + 1) W)=>ref_way hs 4 (i + 1) W h hi2
 have HP:=hid hP
 obtain ⟨R,hR⟩ : ∃ R,refS 4 s (i + 1) = R:=⟨_,rfl⟩
 rw [hR] at HP ⊢
 clear hP hR hi1
 unfold pt at HP
 go_enter Tryz.func295,Tryz.ntmps295
 go_wp2_with fail
 go_at_call 236
 refine (HT.out _ (HR.out.alloc _)).mono ?_
 rintro e w0 ⟨rfl,g1,g2⟩
 have G1:=hid (show Rd rb s (i + 1) w0 by simpa using g1)
 have G2:=hid g2
 have hw0:=g2.size
 rw [World.size_alloc] at hw0
 clear g1 g2
 go_wp2_with fail
 go_at_call 318
 refine (HP.out _ G1.out).mono ?_
 rintro e w1 ⟨h1,k,t,n,a,A1,n1,c1,p,A2,n2,c2,j,rfl,h2,hj,h3⟩
 have HK:=hid ((((Kp.refl rb w).alloc (Nat.le_of_lt hlt) _).trans G2.out).trans h1)
 have hc:=BoxAt.kp (BoxAt.kp (BoxAt.new w zE 48) G2.out (by omega)) h1 (by omega)
 have hl:=hc.lt
 have HC:=hid hc
 have H2:=hid h2
 have H3:=hid h3
 obtain ⟨q0,q1,q2,q3,q4,q5,q6,p0,p1,p2,p3,p4,p5,p6⟩:=cells7 hc
 unfold exV
 clear h1 h2 h3 hc HP
 go_wp2
 exact end7 Tryz.results295 HC.out rfl rfl rfl rfl (got_fin (b:=w.heap.size) HK.out (Nat.le_refl _) hlt H2.out hj rfl (fun x m h=>⟨(H3.out x m h).1,ExF.carry (fun q hq=>⟨⟨⟨by have:=hq.1; omega,hq.2⟩,by have:=hq.1; omega⟩,rfl⟩) _ _ (H3.out x m h).2⟩))
theorem unqFrom_pos (s : ByteArray) : ∀ (f pos next : Nat) (acc t : List UInt8) (n : Nat),unqFrom s f pos next acc = some (t,n) -> pos < n /\ n <= s.size
 | 0,pos,next,acc,t,n,h=>by cases h
 | f + 1,pos,next,acc,t,n,h=>by
  unfold unqFrom at h
  split at h
  case isFalse=>cases h
  case isTrue hp =>
   split at h
   ·have:=unqFrom_pos s f _ _ _ t n h; omega
   ·split at h
    ·cases h; omega
    ·split at h
     ·cases h
     ·split at h
      ·split at h
       ·cases h
       ·have:=unqFrom_pos s f _ _ _ t n h; omega
      ·have:=unqFrom_pos s f _ _ _ t n h; omega
theorem unqAll_pos (s : ByteArray) (t : List UInt8) (n : Nat) (h : unqAll s = some (t,n)) : 0 < n /\ n <= s.size:=by
 unfold unqAll at h
 split at h
 ·exact unqFrom_pos s _ _ _ _ t n h
 ·cases h
theorem quo_val (s : ByteArray) (i : Nat) (hi : i <= s.size) : ∃ (T : ByteArray) (n : Nat) (b : Bool),unqVal (unqAll (s.extract i s.size)) = .tuple #[.string T,.int .i64 n,.bool b] /\ i + n <= s.size /\ b = (quoS s i).isSome /\
  ∀ x m,quoS s i = some (x,m) -> m = i + n /\ x = .mk 0 T E0 E0 [] none [] /\ 0 < n:=by
 unfold quoS
 cases h : unqAll (s.extract i s.size) with
 | none=>exact ⟨_,0,_,rfl,by omega,rfl,fun x m h=>by cases h⟩
 | some p =>
  obtain ⟨t,n⟩:=p
  have:=unqAll_pos _ t n h
  rw [ByteArray.size_extract] at this
  exact ⟨_,n,_,rfl,by omega,rfl,fun x m h=>by cases h; exact ⟨rfl,rfl,this.1⟩⟩
set_option maxHeartbeats 2000000 in
set_option maxRecDepth 100000 in
theorem quoted_way {rb : Nat} {s : ByteArray} (hs : s.size <= 1000000000) : WayTo rb s 293 #[pt rb] (quoS s):=by
 intro i w hr hi
 have hU:=fun W=>unquote_any (s.extract i s.size) W (by rw [ByteArray.size_extract]; omega)
 obtain ⟨T,n,b,hv,hn,hR3,hR4⟩:=quo_val s i hi
 rw [hv] at hU
 obtain ⟨R,hRR⟩ : ∃ R,quoS s i = R:=⟨_,rfl⟩
 rw [hRR] at hR3 hR4 ⊢
 have HU:=hid hU
 have HR:=hid hr
 have Hb:=hid hR3
 have Ht:=hid hR4
 clear hRR hR3 hR4
 have c0:=(hr.alloc (.cells zE 48)).c0
 have c1:=(hr.alloc (.cells zE 48)).c1
 have f0:=(hr.alloc (.cells zE 48)).f 0
 have f1:=(hr.alloc (.cells zE 48)).f 1
 have hlt:=hr.lt
 have hi0 : (i : Int) <= 4000000000:=by omega
 have hjs : (i : Int) <= (s.size : Int):=by omega
 have hss : (s.size : Int) <= 4000000000:=by omega
 have hi1 : (0 : Int) <= (i : Int):=by omega
 have hn0 : (n : Int) <= 4000000000:=by omega
 clear hU hv hr
 unfold pt
 go_enter Tryz.func293,Tryz.ntmps293
 go_wp2_with fail
 go_region_held3 (fun w'=>w'.cell? ⟨rb,0,none⟩ = some (.string s) /\ w'.cell? ⟨rb,1,none⟩ = some (.int .i64 (i : Nat)) /\ rb + 1 <= w'.heap.size /\ Rd rb s i w' /\ Kp rb (w.alloc (.cells zE 48)) w')
  (first | (exact rds_later (by assumption) (by assumption)) | (exact rds_of (HR.out.alloc (.cells zE 48)).drew (Kp.refl _ _).drew) | go_keep)
  (first | (go_at_call 317; refine (HU.out _).mono ?_; rintro e w' ⟨rfl,hb5⟩))
 rename_i hmE
 obtain ⟨g0,g1,_,g3,g4⟩:=hmE
 have hc:=BoxAt.kp (BoxAt.new w zE 48) g4 (by omega)
 have hl:=hc.lt
 have k1:=g3.f 1
 have HK:=hid ((((Kp.refl rb w).alloc (Nat.le_of_lt hlt) _).trans g4).setCell 1 (.int .i64 ((i : Int) + (n : Int))))
 have H1:=hid (g3.set' (j:=i + n) (v:=(i : Int) + (n : Int)) (by omega))
 have hne : w.heap.size ≠ rb:=by omega
 have HC:=hid (BoxAt.setOther hc ⟨rb,1,none⟩ (.int .i64 ((i : Int) + (n : Int))) hne)
 have hrb : rb < w'.heap.size:=g3.lt
 obtain ⟨q0,q1,q2,q3,q4,q5,q6,p0,p1,p2,p3,p4,p5,p6⟩:=cells7 hc
 clear hb5 g3 g4 hc c0 c1 f0 f1
 go_wp2
 refine end7w Tryz.results293 (box_set7 HC.out _ _ _ _ _ _ _) rfl rfl rfl (got_end (HK.out.set7 (Nat.le_refl _) hlt _ _ _ _ _ _ _) (H1.out.set7 (by omega) _ _ _ _ _ _ _) hn Hb.out (fun x m h=>?_))
 obtain ⟨rfl,rfl,_⟩:=Ht.out x m h
 exact ⟨rfl,exF_flat _ _ _ _ _ _⟩
def orAll : List (Nat -> Res) -> Nat -> Res
 | [],_=>none
 | f :: r,i=>(f i).or (orAll r i)
def Got0 (rb : Nat) (s : ByteArray) (w : World) (r : Res) (e : Ending) (w' : World) : Prop:=Got rb s w r e w' /\ (r = none -> e = .returned (.tuple #[exV 0 E0 E0 E0 none 0 0 none none 0 0,.bool false]))
def Way (rb : Nat) (s : ByteArray) (w : World) (fv : Value) (f : Nat -> Res) : Prop :=
 ∃ N fst cap,fv = .func (.func N) fst cap /\ Enters N /\ ∀ (W : World) (i : Nat),Kp rb w W -> Rd rb s i W -> i <= s.size -> Calls Tryz.prog N (fst ++ cap) W (Got rb s W (f i))
set_option maxHeartbeats 4000000 in
set_option maxRecDepth 100000 in
theorem first_any {rb : Nat} {s : ByteArray} (hs : s.size <= 4000000000) (fvs : List Value) (fs : List (Nat -> Res)) (L cap i : Nat) (w : World) (hr : Rd rb s i w) (hi : i <= s.size) (hlen : fvs.length = fs.length) (hn : fvs.length <= 8)
  (hcells : ∀ (j : Nat) (fv : Value),fvs[j]? = some fv -> w.cell? ⟨L,j,none⟩ = some fv) (hL : L < w.heap.size) (hLr : L ≠ rb) (hw : ∀ (j : Nat) (fv : Value) (f : Nat -> Res),fvs[j]? = some fv -> fs[j]? = some f -> Way rb s w fv f) :
  Calls Tryz.prog 292 #[pt rb,.slice (some ⟨L,0,none⟩) fvs.length cap] w (Got0 rb s w (orAll fs i)):=by
 have c1:=(hr.alloc (.cells zE 48)).c1
 have hlt:=hr.lt
 have HR:=hid hr
 have HCe:=hid hcells
 have HW:=hid hw
 have Hlen:=hid hlen
 have hn0 : (fvs.length : Int) <= 8:=by omega
 have hi0 : (i : Int) <= 4000000000:=by omega
 obtain ⟨R,hRR⟩ : ∃ R,orAll fs i = R:=⟨_,rfl⟩
 rw [hRR]
 have HRR:=hid hRR
 clear hr hcells hw hRR hlen
 unfold pt
 go_enter Tryz.func292,Tryz.ntmps292
 go_wp2
 go_loopw [17] (fun t17 wr=>∃ j : Nat,t17 = .int .i64 j /\ j <= fvs.length /\ Hid (orAll (fs.drop j) i = R) /\ Hid (Rd rb s i wr) /\ Hid (Kp rb w wr) /\ Hid (BoxAt wr w.heap.size zE 48)) (fun t17 _=>fvs.length - (intOf t17).toNat)
 case atStart=>exact ⟨0,rfl,Nat.zero_le _,HRR.out,HR.out.alloc _,(Kp.refl _ _).alloc (Nat.le_of_lt hlt) _,BoxAt.new _ _ _⟩
 case round =>
  obtain ⟨j,rfl,hj,Hans,HRd,HK,HC⟩:=hrel
  have hj0 : (j : Int) <= 8:=by omega
  have hsz:=HK.out.size
  have hcl:=HC.out.lt
  by_cases hlt2 : j < fvs.length
  ·have hlt' : decide ((j : Int) < (fvs.length : Int)) = true:=decide_eq_true (by omega)
   have hlt3 : ((j : Nat) : Int) < (fvs.length : Int):=by omega
   obtain ⟨fv,hfv⟩ : ∃ fv,fvs[j]? = some fv:=⟨_,List.getElem?_eq_getElem hlt2⟩
   obtain ⟨f,hf⟩ : ∃ f,fs[j]? = some f:=⟨_,List.getElem?_eq_getElem (by have:=Hlen.out; omega)⟩
   have hcell:=HCe.out j fv hfv
   have hcell2 : wr.cell? ⟨L,j,none⟩ = some fv:=(cell_same (HK.out.others L hL hLr) j).trans hcell
   obtain ⟨N,fst,cp,rfl,hE,hC⟩:=HW.out j fv f hfv hf
   have hC2:=hC wr i HK.out HRd.out hi
   have HCC:=hid hC2
   have hLw : L < wr.heap.size:=by omega
   have hans:=Hans.out
   rw [List.drop_eq_getElem_cons (show j < fs.length by have:=Hlen.out; omega)] at hans
   have hfj : fs[j]'(by have:=Hlen.out; omega) = f:=by rw [List.getElem?_eq_getElem (by have:=Hlen.out; omega)] at hf; exact Option.some.inj hf
   rw [hfj,orAll] at hans
   obtain ⟨r,hr⟩ : ∃ r,f i = r:=⟨_,rfl⟩
   rw [hr] at hans HCC
   have Hans2:=hid hans
   clear hcell hC hC2 hfv hf hans hfj hr Hans
   unfold Enters at hE
   go_wp2_with fail
   refine HCC.out.mono ?_
   rintro e w1 ⟨h1,k,t,n,a,A1,n1,c1',p,A2,n2,c2,m,rfl,h2,hm,h3⟩
   have HK2:=hid (HK.out.trans h1)
   have hc:=BoxAt.kp HC.out h1 (by omega)
   have hl:=hc.lt
   have HC2:=hid hc
   have H2:=hid h2
   have H3:=hid h3
   have hlt1:=h2.lt
   have d1:=h2.c1
   have e1:=h2.f 1
   obtain ⟨q0,q1,q2,q3,q4,q5,q6,p0,p1,p2,p3,p4,p5,p6⟩:=cells7 hc
   unfold exV
   clear h1 h2 h3 hc HCC
   cases r with
   | some xm =>
    obtain ⟨x,m'⟩:=xm
    have hans:=Hans2.out
    rw [Option.some_or] at hans
    have Hans3:=hid hans
    clear hans Hans2
    go_wp2
    refine end7w Tryz.results292 ((box_set7 HC2.out _ _ _ _ _ _ _).alloc _) rfl rfl rfl (And.intro (got_end ((HK2.out.set7 (Nat.le_refl _) hlt _ _ _ _ _ _ _).alloc (by rw [set7_size]; omega) _) ((H2.out.set7 (by omega) _ _ _ _ _ _ _).alloc _) hm (by rw [<- Hans3.out]; rfl) (fun y q h=>?_)) (fun h=>by rw [<- Hans3.out] at h; cases h))
    rw [<- Hans3.out] at h
    cases h
    obtain ⟨h4,h5⟩:=H3.out x m' rfl
    refine ⟨h4,ExF.carry (fun q hq=>?_) _ _ h5⟩
    obtain ⟨hq1,hq2⟩:=hq
    have hq3 : q < (set7 w1 w.heap.size (.int .i64 k) (.string t) (.string n) (.string a) (.slice A1 n1 c1') (.pointer p) (.slice A2 n2 c2)).heap.size:=by rw [set7_size]; exact hq2
    exact ⟨⟨by omega,by rw [World.size_alloc]; exact Nat.lt_succ_of_lt hq3⟩,(Lib.alloc_old _ _ q hq3).trans (set7_heap _ _ _ _ _ _ _ _ _ q (by omega))⟩
   | none =>
    have hans:=Hans2.out
    rw [Option.none_or] at hans
    have Hans3:=hid hans
    clear hans Hans2
    go_wp2
    go_roundw
    case rel =>
     refine ⟨j + 1,by go_num,hlt2,Hans3.out,(H2.out.set i).alloc _,(HK2.out.setCell 1 _).alloc (by simp; omega) _,?_⟩
     exact (BoxAt.setOther HC2.out ⟨rb,1,none⟩ _ (by show w.heap.size ≠ rb; omega)).alloc _
    case measure=>simp [intOf]; omega
  ·obtain rfl : j = fvs.length:=by omega
   have hlt' : decide ((fvs.length : Int) < (fvs.length : Int)) = false:=decide_eq_false (by omega)
   have hans:=Hans.out
   rw [List.drop_eq_nil_of_le (by have:=Hlen.out; omega),orAll] at hans
   subst hans
   obtain ⟨q0,q1,q2,q3,q4,q5,q6,p0,p1,p2,p3,p4,p5,p6⟩:=cells7 HC.out
   go_wp2
   exact end7 Tryz.results292 HC.out rfl rfl rfl rfl (And.intro (got_fin (b:=w.heap.size) HK.out (Nat.le_refl _) hlt HRd.out hi rfl (fun x m h=>by cases h)) (fun _=>rfl))
theorem cells_box {w : World} {E : Nat} {x0 x1 x2 x3 x4 x5 x6 : Value} {t : TypeId} (h : BoxAt w E #[x0,x1,x2,x3,x4,x5,x6] t) : CellsAt w E 0 ⟨x0,x1,x2,x3,x4,x5,x6⟩:=⟨h.cell 0,h.cell 1,h.cell 2,h.cell 3,h.cell 4,h.cell 5,h.cell 6⟩
theorem exF_nest {W : World} {F : Nat -> Prop} {x : EX} {b : Nat} {c : C7} (hb : F b) (hc : CellsAt W b 0 c) (hx : ExF W F x c) :
  ExF W F (.mk 6 E0 E0 E0 [] (some x) []) ⟨.int .i64 6,.string E0,.string E0,.string E0,.slice none 0 0,.pointer (some ⟨b,0,none⟩),.slice none 0 0⟩:=by
 rw [ExF]
 refine ⟨rfl,rfl,rfl,rfl,LieN.nil _,?_,⟨none,0,rfl,Nat.le_refl _,Nat.zero_le _,fun h=>absurd h (by simp)⟩⟩
 simp only [OF]
 exact ⟨b,0,c,rfl,hb,hc,hx⟩
theorem nest_val (P : Nat -> Res) (i : Nat) : (nestS P i).isSome = (P i).isSome /\ ∀ x m,nestS P i = some (x,m) -> ∃ y,P i = some (y,m) /\ x = .mk 6 E0 E0 E0 [] (some y) []:=by
 unfold nestS
 cases h : P i with
 | none=>exact ⟨rfl,fun x m h=>by cases h⟩
 | some p=>obtain ⟨y,m⟩:=p; exact ⟨rfl,fun x m h=>by cases h; exact ⟨y,rfl,rfl⟩⟩
set_option maxHeartbeats 2000000 in
set_option maxRecDepth 100000 in
theorem nest_way {rb : Nat} {s : ByteArray} {d : Nat} {P : Nat -> Res} (hd : d <= 4000) (hP : WayTo rb s 208 #[pt rb,.int .i64 ((d + 1 : Nat) : Int)] P) (k1 k2 i : Nat) (w : World) (hr : Rd rb s i w) (hi : i <= s.size)
  (h1 : BoxAt w k1 #[pt rb] 277) (h2 : BoxAt w k2 #[.int .i64 d] 3) :
  Calls Tryz.prog 291 #[pt k1,pt k2] w (Got rb s w (nestS P i)):=by
 have hP2:=fun W h=>hP i W h hi
 rw [show ((d + 1 : Nat) : Int) = (d : Int) + 1 by omega] at hP2
 obtain ⟨hR2,hR3⟩:=nest_val P i
 obtain ⟨R,hR1⟩ : ∃ R,nestS P i = R:=⟨_,rfl⟩
 obtain ⟨r,hrr⟩ : ∃ r,P i = r:=⟨_,rfl⟩
 rw [hrr] at hP2 hR2 hR3
 rw [hR1] at hR2 hR3 ⊢
 have HP:=hid hP2
 have HR2:=hid hR2
 have HR3:=hid hR3
 have HR:=hid hr
 have hlt:=hr.lt
 have c1:=h1.cell 0
 have c2:=h2.cell 0
 have hl1:=h1.lt
 have hl2:=h2.lt
 simp at c1 c2
 have hd0 : (d : Int) <= 4000:=by omega
 clear hP hP2 hrr hR1 hR2 hR3 hr h1 h2
 unfold pt at *
 go_enter Tryz.func291,Tryz.ntmps291
 go_wp2_with fail
 go_at_call 208
 refine (HP.out _ (HR.out.alloc _)).mono ?_
 rintro e w1 ⟨h1,k,t,n,a,A1,n1,c1',p,A2,n2,c2',j,rfl,h2,hj,h3⟩
 have HK:=hid (((Kp.refl rb w).alloc (Nat.le_of_lt hlt) _).trans h1)
 have hc:=BoxAt.kp (BoxAt.new w zE 48) h1 (by omega)
 have hl:=hc.lt
 have HC:=hid hc
 have H2:=hid h2
 have H3:=hid h3
 have hlr:=h2.lt
 obtain ⟨q0,q1,q2,q3,q4,q5,q6,p0,p1,p2,p3,p4,p5,p6⟩:=cells7 hc
 unfold exV
 clear h1 h2 h3 hc HP
 go_wp2
 refine end7w Tryz.results291 ((box_set7 HC.out _ _ _ _ _ _ _).alloc _) rfl rfl rfl (got_end ((HK.out.set7 (Nat.le_refl _) hlt _ _ _ _ _ _ _).alloc (by rw [set7_size]; omega) _) ((H2.out.set7 (by omega) _ _ _ _ _ _ _).alloc _) hj HR2.out.symm (fun x m h=>?_))
 obtain ⟨y,hy,rfl⟩:=HR3.out x m h
 obtain ⟨h4,h5⟩:=H3.out y m hy
 refine ⟨h4,exF_nest (b:=w1.heap.size) ?_ (cells_box (t:=48) ?_) (ExF.carry (fun q hq=>?_) _ _ h5)⟩
 ·exact ⟨Nat.le_of_lt hl,by simp⟩
 ·have:=BoxAt.new (set7 w1 w.heap.size (.int .i64 6) (.string ⟨#[]⟩) (.string ⟨#[]⟩) (.string ⟨#[]⟩) (.slice none 0 0) (.pointer (some ⟨w1.heap.size,0,none⟩)) (.slice none 0 0)) #[.int .i64 k,.string t,.string n,.string a,.slice A1 n1 c1',.pointer p,.slice A2 n2 c2'] 48
  rw [set7_size] at this
  exact this
 ·obtain ⟨hq1,hq2⟩:=hq
  rw [World.size_alloc] at hq1
  have hq3 : q < (set7 w1 w.heap.size (.int .i64 6) (.string ⟨#[]⟩) (.string ⟨#[]⟩) (.string ⟨#[]⟩) (.slice none 0 0) (.pointer (some ⟨w1.heap.size,0,none⟩)) (.slice none 0 0)).heap.size:=by rw [set7_size]; exact hq2
  exact ⟨⟨by omega,by rw [World.size_alloc]; exact Nat.lt_succ_of_lt hq3⟩,(Lib.alloc_old _ _ q hq3).trans (set7_heap _ _ _ _ _ _ _ _ _ q (by omega))⟩
theorem head_or (P : Nat -> Res) (s : ByteArray) (i : Nat) : orAll [quoS s,varS s,nestS P,terS s,refS 3 s,nubS s] i = headS P s i:=by
 unfold orAll orAll orAll orAll orAll orAll orAll headS
 rw [Option.or_none]
def headV (rb k1 k2 : Nat) : List Value:=[.func (.func 293) #[pt rb] #[],.func (.func 294) #[pt rb] #[],.func (.func 291) #[] #[pt k1,pt k2],
 .func (.func 295) #[pt rb] #[],.func (.func 296) #[pt rb] #[],.func (.func 297) #[pt rb] #[]]
theorem head_first {rb : Nat} {s : ByteArray} {d : Nat} {P : Nat -> Res} (hs : s.size <= 1000000000) (hd : d <= 4000) (hP : WayTo rb s 208 #[pt rb,.int .i64 ((d + 1 : Nat) : Int)] P) (L k1 k2 i : Nat) (w : World) (hr : Rd rb s i w) (hi : i <= s.size)
  (h1 : BoxAt w k1 #[pt rb] 277) (h2 : BoxAt w k2 #[.int .i64 d] 3) (hL : BoxAt w L (headV rb k1 k2).toArray 396) (n1 : k1 ≠ rb) (n2 : k2 ≠ rb) (n3 : L ≠ rb) :
  Calls Tryz.prog 292 #[pt rb,.slice (some ⟨L,0,none⟩) 6 6] w (Got0 rb s w (orAll [quoS s,varS s,nestS P,terS s,refS 3 s,nubS s] i)):=by
 refine first_any (by omega) (headV rb k1 k2) _ L 6 i w hr hi rfl (by unfold headV; simp) (fun j fv h=>?_) (BoxAt.lt hL) n3 (fun j fv f h1' h2'=>?_)
 ·rw [BoxAt.cell hL j,List.getElem?_toArray]
  exact h
 ·match j with
  | 0=>cases h1'; cases h2'; exact ⟨_,_,_,rfl,fun args w=>by go_simp,fun W i _ hr hi=>quoted_way hs i W hr hi⟩
  | 1=>cases h1'; cases h2'; exact ⟨_,_,_,rfl,fun args w=>by go_simp,fun W i _ hr hi=>variable_way (by omega) i W hr hi⟩
  | 2=>cases h1'; cases h2'; exact ⟨_,_,_,rfl,fun args w=>by go_simp,fun W i hk hr hi=>nest_way hd hP k1 k2 i W hr hi (h1.kp hk n1) (h2.kp hk n2)⟩
  | 3=>cases h1'; cases h2'; exact ⟨_,_,_,rfl,fun args w=>by go_simp,fun W i _ hr hi=>term_way (by omega) i W hr hi⟩
  | 4=>cases h1'; cases h2'; exact ⟨_,_,_,rfl,fun args w=>by go_simp,fun W i _ hr hi=>message_way (by omega) i W hr hi⟩
  | 5=>cases h1'; cases h2'; exact ⟨_,_,_,rfl,fun args w=>by go_simp,fun W i _ hr hi=>number_way (by omega) i W hr hi⟩
  | j + 6=>cases h1'
set_option maxHeartbeats 4000000 in
set_option maxRecDepth 100000 in
theorem head_way {rb : Nat} {s : ByteArray} {d : Nat} {P : Nat -> Res} (hs : s.size <= 1000000000) (hd : d <= 4000) (hP : WayTo rb s 208 #[pt rb,.int .i64 ((d + 1 : Nat) : Int)] P) : ∀ (i : Nat) (w : World),Rd rb s i w -> i <= s.size -> Calls Tryz.prog 264 #[pt rb,.int .i64 d] w (Got0 rb s w (headS P s i)):=by
 intro i w hr hi
 have hlt:=hr.lt
 have hF:=head_first hs hd hP (w.heap.size + 1 + 1 + 1) w.heap.size (w.heap.size + 1) i ((((w.alloc (.cells #[pt rb] 277)).alloc (.cells #[.int .i64 d] 3)).alloc (.cells zE 48)).alloc (.cells (headV rb w.heap.size (w.heap.size + 1)).toArray 396))
  ((((hr.alloc _).alloc _).alloc _).alloc _) hi ((((BoxAt.new w _ _).alloc _).alloc _).alloc _) ((((BoxAt.new' (w.alloc (.cells #[pt rb] 277)) (w.heap.size + 1) _ _ (by simp)).alloc _).alloc _)) (BoxAt.new' _ _ _ _ (by simp)) (by omega) (by omega) (by omega)
 have HR:=hid hr
 rw [<- head_or]
 obtain ⟨R,hR⟩ : ∃ R,orAll [quoS s,varS s,nestS P,terS s,refS 3 s,nubS s] i = R:=⟨_,rfl⟩
 rw [hR] at hF ⊢
 have hd0 : (d : Int) <= 4000:=by omega
 unfold headV pt at hF
 have HF:=hid hF
 clear hP hr hR hF
 unfold pt
 go_enter Tryz.func264,Tryz.ntmps264
 go_wp2_with fail
 go_at_call 292
 refine HF.out.mono ?_
 rintro e w1 ⟨⟨h1,k,t,n,a,A1,n1,c1',p,A2,n2,c2',j,rfl,h2,hj,h3⟩,hz⟩
 have HZ:=hid hz
 have hs0 : rb <= w.heap.size:=Nat.le_of_lt hlt
 have HK:=hid ((((((Kp.refl rb w).alloc hs0 _).alloc (by simp; omega) _).alloc (by simp; omega) _).alloc (by simp; omega) _).trans h1)
 have hc:=BoxAt.kp ((BoxAt.new' ((w.alloc (.cells #[.pointer (some ⟨rb,0,none⟩)] 277)).alloc (.cells #[.int .i64 d] 3)) (w.heap.size + 1 + 1) zE 48 (by simp)).alloc _) h1 (by omega)
 have hl:=hc.lt
 have HC:=hid hc
 have H2:=hid h2
 have H3:=hid h3
 obtain ⟨q0,q1,q2,q3,q4,q5,q6,p0,p1,p2,p3,p4,p5,p6⟩:=cells7 hc
 unfold exV
 clear h1 h2 h3 hc hz
 go_wp2
 exact end7 Tryz.results264 HC.out rfl rfl rfl rfl (And.intro (got_fin (b:=w.heap.size + 1 + 1) HK.out (by omega) hlt H2.out hj rfl (fun x m h=>⟨(H3.out x m h).1,ExF.carry (fun q hq=>by
  obtain ⟨hq1,hq2⟩:=hq
  simp only [World.size_alloc] at hq1
  exact ⟨⟨⟨by omega,hq2⟩,by omega⟩,rfl⟩) _ _ (H3.out x m h).2⟩)) HZ.out)
def Opened (rb : Nat) (s : ByteArray) (w : World) (eb eo : Nat) (isF o : Bool) (j : Nat) (e : Ending) (w' : World) : Prop :=
 e = .returned (.bool o) /\ ∃ wm,Kp rb w wm /\ Rd rb s j wm /\ j <= s.size /\ w' = (if isF && o then wm.setCell ⟨eb,eo,none⟩ (.int .i64 5) else wm)
theorem bl_ok (s : ByteArray) (i : Nat) (hi : i <= s.size) : i <= bl s i /\ bl s i <= s.size:=⟨behN_ge _ _ _,by have:=behN_le blB s.data.toList i (by rw [size_data]; exact hi); rw [size_data] at this; exact this⟩
set_option maxHeartbeats 4000000 in
set_option maxRecDepth 100000 in
theorem opens_any {rb : Nat} {s : ByteArray} (hs : s.size <= 1000000000) (k : Int) (t n a : ByteArray) (al : List AR) (ie : Option EX) (vs : List VA) (eb eo i : Nat) (w : World) (hr : Rd rb s i w) (hi : i <= s.size) (hn : n.size <= 4000000000)
  (hb : eb < w.heap.size) (hne : eb ≠ rb) (h0 : w.cell? ⟨eb,eo,none⟩ = some (.int .i64 k)) (h2 : w.cell? ⟨eb,eo + 2,none⟩ = some (.string n)) (h3 : w.cell? ⟨eb,eo + 3,none⟩ = some (.string a)) (hf : w.frozen? ⟨eb,eo,none⟩ = false) :
  Calls Tryz.prog 265 #[pt rb,.pointer (some ⟨eb,eo,none⟩)] w (Opened rb s w eb eo (isFuncS (.mk k t n a al ie vs)) (opnS s (.mk k t n a al ie vs) i).1 (opnS s (.mk k t n a al ie vs) i).2):=by
 have HR:=hid hr
 have hlt:=hr.lt
 have hB:=bl_ok s i hi
 have hP:=fun W (h : Rd rb s i W)=>pass_any endBlank W h (by omega) hi
 have hT:=fun W (h : Rd rb s (bl s i) W)=>take_any 40 W h (by omega) hB.2
 have hBig:=fun W=>big_any n W (by omega)
 unfold opnS
 rw [show isTermS (.mk k t n a al ie vs) = (k == 4) from rfl,show isFuncS (.mk k t n a al ie vs) = ((k == 3) && emp a && bigV n) from rfl]
 obtain ⟨m,hm⟩ : ∃ m,bl s i = m:=⟨_,rfl⟩
 rw [hm] at hB hP hT ⊢
 obtain ⟨b,hbb⟩ : ∃ b,isAt s m 40 = b:=⟨_,rfl⟩
 have hm1 : b = true -> m + 1 <= s.size:=fun h=>isAt_lt (hbb.trans h)
 rw [hbb] at hT ⊢
 obtain ⟨q,hq⟩ : ∃ q,bigV n = q:=⟨_,rfl⟩
 rw [hq] at hBig ⊢
 obtain ⟨g,hg⟩ : ∃ g,emp a = g:=⟨_,rfl⟩
 have hg2 : a.toList.isEmpty = g:=hg
 rw [hg]
 obtain ⟨isF,hisF⟩ : ∃ x,((k == 3) && g && q) = x:=⟨_,rfl⟩
 rw [hisF]
 obtain ⟨oj,hoj⟩ : ∃ oj : Bool × Nat,(if isF || (k == 4) then (if b then (true,m + 1) else (false,m)) else (false,i)) = oj:=⟨_,rfl⟩
 rw [hoj]
 have HJ:=hid hoj
 have HF:=hid hisF
 have HM1:=hid hm1
 have HP:=hid hP
 have HT:=hid hT
 have HBig:=hid hBig
 clear hm hP hT hbb hq hBig hg hr hoj hisF hm1
 unfold pt at HP HT ⊢
 by_cases h34 : k = 3 ∨ k = 4
 case neg =>
  have z3 : (k == 3) = false:=beq_eq_false_iff_ne.2 (fun h=>h34 (.inl h))
  have z4 : (k == 4) = false:=beq_eq_false_iff_ne.2 (fun h=>h34 (.inr h))
  have y4 : (k != 4) = true:=by rw [bne,z4]; rfl
  have HZ:=hid (And.intro z3 z4)
  clear h34
  go_enter Tryz.func265,Tryz.ntmps265
  go_wp2
  go_ret
  obtain rfl:=HF.out
  obtain rfl:=HJ.out
  rw [HZ.out.1,HZ.out.2]
  exact ⟨rfl,w,Kp.refl _ _,HR.out,hi,rfl⟩
 rcases h34 with rfl | rfl
 ·cases g
  case false =>
   go_enter Tryz.func265,Tryz.ntmps265
   go_wp2
   go_ret
   obtain rfl:=HF.out
   obtain rfl:=HJ.out
   exact ⟨rfl,w,Kp.refl _ _,HR.out,hi,rfl⟩
  cases q
  case false =>
   go_enter Tryz.func265,Tryz.ntmps265
   go_wp2_with fail
   go_at_call 298
   refine (HBig.out _).mono ?_
   rintro e w' ⟨rfl,rfl⟩
   go_wp2
   go_ret
   obtain rfl:=HF.out
   obtain rfl:=HJ.out
   exact ⟨rfl,w,Kp.refl _ _,HR.out,hi,rfl⟩
  go_enter Tryz.func265,Tryz.ntmps265
  go_wp2_with fail
  go_at_call 298
  refine (HBig.out _).mono ?_
  rintro e w' ⟨rfl,rfl⟩
  go_wp2_with fail
  go_at_call 169
  refine (HP.out _ HR.out).mono ?_
  rintro e w1 ⟨rfl,g1,g2⟩
  have G1:=hid g1
  have G2:=hid g2
  clear g1 g2
  go_wp2_with fail
  go_at_call 236
  refine (HT.out _ G1.out).mono ?_
  rintro e w2 ⟨rfl,g3,g4⟩
  have hk:=G2.out.trans g4
  have k0 : w2.cell? ⟨eb,eo,none⟩ = some (.int .i64 3):=(cell_same (hk.others eb hb hne) eo).trans h0
  have f0 : w2.frozen? ⟨eb,eo,none⟩ = false:=by
   have:=hk.others eb hb hne
   unfold World.frozen? at hf ⊢
   rw [this]; exact hf
  have hb2 : eb < w2.heap.size:=Nat.lt_of_lt_of_le hb hk.size
  have HK:=hid hk
  have G3:=hid g3
  clear g3 g4 hk
  cases b
  case false =>
   go_wp2
   go_ret
   obtain rfl:=HF.out
   obtain rfl:=HJ.out
   exact ⟨rfl,w2,HK.out,by simpa using G3.out,hB.2,rfl⟩
  go_wp2
  go_ret
  obtain rfl:=HF.out
  obtain rfl:=HJ.out
  exact ⟨rfl,w2,HK.out,by simpa using G3.out,by simpa using HM1.out,rfl⟩
 ·go_enter Tryz.func265,Tryz.ntmps265
  go_wp2_with fail
  go_at_call 169
  refine (HP.out _ HR.out).mono ?_
  rintro e w1 ⟨rfl,g1,g2⟩
  have G1:=hid g1
  have G2:=hid g2
  clear g1 g2
  go_wp2_with fail
  go_at_call 236
  refine (HT.out _ G1.out).mono ?_
  rintro e w2 ⟨rfl,g3,g4⟩
  have HK:=hid (G2.out.trans g4)
  have G3:=hid g3
  clear g3 g4
  cases b
  case false =>
   go_wp2
   go_ret
   obtain rfl:=HF.out
   obtain rfl:=HJ.out
   exact ⟨rfl,w2,HK.out,by simpa using G3.out,hB.2,rfl⟩
  go_wp2
  go_ret
  obtain rfl:=HF.out
  obtain rfl:=HJ.out
  exact ⟨rfl,w2,HK.out,by simpa using G3.out,by simpa using HM1.out,rfl⟩
abbrev zA : Array Value:=#[.string ⟨#[]⟩,.int .i64 0,.string ⟨#[]⟩,.string ⟨#[]⟩,.string ⟨#[]⟩,.slice none 0 0,.pointer none,.slice none 0 0]
theorem cells8 {w : World} {k : Nat} {x0 x1 x2 x3 x4 x5 x6 x7 : Value} {t : TypeId} (h : BoxAt w k #[x0,x1,x2,x3,x4,x5,x6,x7] t) :
  w.cell? ⟨k,0,none⟩ = some x0 /\ w.cell? ⟨k,1,none⟩ = some x1 /\ w.cell? ⟨k,2,none⟩ = some x2 /\ w.cell? ⟨k,3,none⟩ = some x3 /\ w.cell? ⟨k,4,none⟩ = some x4 /\ w.cell? ⟨k,5,none⟩ = some x5 /\ w.cell? ⟨k,6,none⟩ = some x6 /\ w.cell? ⟨k,7,none⟩ = some x7 /\
  w.frozen? ⟨k,0,none⟩ = false /\ w.frozen? ⟨k,1,none⟩ = false /\ w.frozen? ⟨k,2,none⟩ = false /\ w.frozen? ⟨k,3,none⟩ = false /\ w.frozen? ⟨k,4,none⟩ = false /\ w.frozen? ⟨k,5,none⟩ = false /\ w.frozen? ⟨k,6,none⟩ = false /\ w.frozen? ⟨k,7,none⟩ = false :=
 ⟨h.cell 0,h.cell 1,h.cell 2,h.cell 3,h.cell 4,h.cell 5,h.cell 6,h.cell 7,Lib.frozen_of_heap h 0,Lib.frozen_of_heap h 1,Lib.frozen_of_heap h 2,Lib.frozen_of_heap h 3,Lib.frozen_of_heap h 4,Lib.frozen_of_heap h 5,Lib.frozen_of_heap h 6,Lib.frozen_of_heap h 7⟩
def set8 (w : World) (b : Nat) (x0 x1 x2 x3 x4 x5 x6 x7 : Value) : World:=(set7 w b x0 x1 x2 x3 x4 x5 x6).setCell ⟨b,7,none⟩ x7
theorem set8_heap (w : World) (b : Nat) (x0 x1 x2 x3 x4 x5 x6 x7 : Value) (k : Nat) (hk : k ≠ b) : (set8 w b x0 x1 x2 x3 x4 x5 x6 x7).heap[k]? = w.heap[k]?:=by
 unfold set8
 rw [Below.heap_setCell _ _ _ k hk,set7_heap _ _ _ _ _ _ _ _ _ k hk]
theorem set8_size (w : World) (b : Nat) (x0 x1 x2 x3 x4 x5 x6 x7 : Value) : (set8 w b x0 x1 x2 x3 x4 x5 x6 x7).heap.size = w.heap.size:=by
 unfold set8; simp [set7_size]
theorem Kp.set8 {rb : Nat} {a w : World} (h : Kp rb a w) {b : Nat} (hb : a.heap.size <= b) (hr : rb < a.heap.size) (x0 x1 x2 x3 x4 x5 x6 x7 : Value) : Kp rb a (set8 w b x0 x1 x2 x3 x4 x5 x6 x7):=(h.set7 hb hr x0 x1 x2 x3 x4 x5 x6).setNew hb hr 7 x7
theorem Rd.set8 {rb : Nat} {s : ByteArray} {i : Nat} {w : World} (h : Rd rb s i w) {b : Nat} (hb : rb ≠ b) (x0 x1 x2 x3 x4 x5 x6 x7 : Value) : Rd rb s i (set8 w b x0 x1 x2 x3 x4 x5 x6 x7):=(h.set7 hb x0 x1 x2 x3 x4 x5 x6).setOther hb 7 x7
theorem box_set8 {w : World} {E : Nat} {x0 x1 x2 x3 x4 x5 x6 x7 : Value} {t : TypeId} (h : BoxAt w E #[x0,x1,x2,x3,x4,x5,x6,x7] t) (y0 y1 y2 y3 y4 y5 y6 y7 : Value) :
  BoxAt (set8 w E y0 y1 y2 y3 y4 y5 y6 y7) E #[y0,y1,y2,y3,y4,y5,y6,y7] t:=by
 unfold set8 set7
 unfold BoxAt at h ⊢
 simp [World.setCell,Array.getElem?_modify,h]
set_option maxRecDepth 100000 in
theorem res8 {fn : Func} {A M : Nat} {tmps : Array Value} {w : World} {b : Nat} {x0 x1 x2 x3 x4 x5 x6 x7 v : Value} {t : TypeId} (hres : fn.results = #[.cell A 127,.tmp M]) (ha : tmps.getD A undef = .pointer (some ⟨b,0,none⟩)) (hm : tmps.getD M undef = v)
  (hb : BoxAt w b #[x0,x1,x2,x3,x4,x5,x6,x7] t) : (results fn tmps).run Tryz.prog w = .ok (.tuple #[.agg #[x0,x1,x2,x3,x4,x5,x6,x7],v]) w:=by
 obtain ⟨q0,q1,q2,q3,q4,q5,q6,q7,_⟩:=cells8 hb
 have ha' : tmps[A]?.getD undef = .pointer (some ⟨b,0,none⟩):=by rw [<- ha]; simp
 have hm' : tmps[M]?.getD undef = v:=by rw [<- hm]; simp
 simp [results,hres,ha',hm',go_sem,q0,q1,q2,q3,q4,q5,q6,q7]
theorem end8w {fn : Func} {R : Ending -> World -> Prop} {a : Act} {w2 : World} {A M b : Nat} {x0 x1 x2 x3 x4 x5 x6 x7 v : Value} {t : TypeId} (hres : fn.results = #[.cell A 127,.tmp M]) (hbox : BoxAt w2 b #[x0,x1,x2,x3,x4,x5,x6,x7] t)
  (ha : a.tmps.getD A undef = .pointer (some ⟨b,0,none⟩)) (hm : a.tmps.getD M undef = v) (hd : a.defers = []) (hR : R (.returned (.tuple #[.agg #[x0,x1,x2,x3,x4,x5,x6,x7],v])) w2) : bodyPost Tryz.prog fn R .ret a w2 :=
 bodyPost_ret (res8 hres ha hm hbox) hd hR
def arV (X : ByteArray) (k : Int) (t n a : ByteArray) (A1 : Option Addr) (n1 c1 : Nat) (p : Option Addr) (A2 : Option Addr) (n2 c2 : Nat) : Value:=.agg #[.string X,.int .i64 k,.string t,.string n,.string a,.slice A1 n1 c1,.pointer p,.slice A2 n2 c2]
def GotA (rb : Nat) (s : ByteArray) (w : World) (r : Option (ByteArray × EX × Nat)) (e : Ending) (w' : World) : Prop :=
 Kp rb w w' /\ ∃ (X : ByteArray) (k : Int) (t n a : ByteArray) (A1 : Option Addr) (n1 c1 : Nat) (p : Option Addr) (A2 : Option Addr) (n2 c2 : Nat) (j : Nat),
  e = .returned (.tuple #[arV X k t n a A1 n1 c1 p A2 n2 c2,.bool r.isSome]) /\ Rd rb s j w' /\ j <= s.size /\ (r = none -> k = 0) /\
  ∀ x y m,r = some (x,y,m) -> x = X /\ m = j /\ ExF w' (Since w.heap.size w') y ⟨.int .i64 k,.string t,.string n,.string a,.slice A1 n1 c1,.pointer p,.slice A2 n2 c2⟩
theorem named_first {rb : Nat} {s : ByteArray} (hs : s.size <= 1000000000) (L i : Nat) (w : World) (hr : Rd rb s i w) (hi : i <= s.size)
  (hL : BoxAt w L #[.func (.func 293) #[pt rb] #[],.func (.func 297) #[pt rb] #[]] 396) (n3 : L ≠ rb) :
  Calls Tryz.prog 292 #[pt rb,.slice (some ⟨L,0,none⟩) 2 2] w (Got0 rb s w ((quoS s i).or (nubS s i))):=by
 have h:=first_any (by omega) [.func (.func 293) #[pt rb] #[],.func (.func 297) #[pt rb] #[]] [quoS s,nubS s] L 2 i w hr hi rfl (by simp) (fun j fv h=>?_) (BoxAt.lt hL) n3 (fun j fv f h1' h2'=>?_)
 ·unfold orAll orAll orAll at h
  rw [Option.or_none] at h
  exact h
 ·rw [BoxAt.cell hL j,List.getElem?_toArray]
  exact h
 ·match j with
  | 0=>cases h1'; cases h2'; exact ⟨_,_,_,rfl,fun args w=>by go_simp,fun W i _ hr hi=>quoted_way hs i W hr hi⟩
  | 1=>cases h1'; cases h2'; exact ⟨_,_,_,rfl,fun args w=>by go_simp,fun W i _ hr hi=>number_way (by omega) i W hr hi⟩
  | j + 2=>cases h1'
theorem nam_val (s : ByteArray) (i j k m : Nat) (hj : nm s i = j) (hk : bl s j = k) (hm : bl s (k + 1) = m) (hne : j ≠ i) (hc : isAt s k 58 = true) (r : Res) (hr : (quoS s m).or (nubS s m) = r) :
  (namS s i).isSome = r.isSome /\ ∀ x y q,namS s i = some (x,y,q) -> x = s.extract i j /\ r = some (y,q):=by
 unfold namS
 rw [hj,if_neg hne,hk,hc,if_pos rfl,hm,hr]
 cases r with
 | none=>exact ⟨rfl,fun x y q h=>by cases h⟩
 | some p=>obtain ⟨e,q'⟩:=p; exact ⟨rfl,fun x y q h=>by cases h; exact ⟨rfl,rfl⟩⟩
set_option maxHeartbeats 4000000 in
set_option maxRecDepth 100000 in
theorem named_any {rb : Nat} {s : ByteArray} (hs : s.size <= 1000000000) (i : Nat) (w : World) (hr : Rd rb s i w) (hi : i <= s.size) : Calls Tryz.prog 299 #[pt rb] w (GotA rb s w (namS s i)):=by
 have hn:=nm_ok s i hi
 have he:=ext_empty s i (nm s i) hn.1 hn.2
 have hP:=fun W (h : Rd rb s i W)=>pass_any endName W h (by omega) hi
 obtain ⟨j,hj⟩ : ∃ j,nm s i = j:=⟨_,rfl⟩
 rw [hj] at hn he hP
 obtain ⟨X,hX⟩ : ∃ X,s.extract i j = X:=⟨_,rfl⟩
 rw [hX] at he hP
 have hB:=bl_ok s j hn.2
 have hP2:=fun W (h : Rd rb s j W)=>pass_any endBlank W h (by omega) hn.2
 obtain ⟨k,hk⟩ : ∃ k,bl s j = k:=⟨_,rfl⟩
 rw [hk] at hB hP2
 have hT:=fun W (h : Rd rb s k W)=>take_any 58 W h (by omega) hB.2
 obtain ⟨b,hb⟩ : ∃ b,isAt s k 58 = b:=⟨_,rfl⟩
 have hk1 : b = true -> k + 1 <= s.size:=fun h=>isAt_lt (hb.trans h)
 rw [hb] at hT
 have HP:=hid hP
 have HP2:=hid hP2
 have HT:=hid hT
 have HR:=hid hr
 have hlt:=hr.lt
 have HE:=hid he
 unfold pt at HP HP2 HT ⊢
 by_cases hbad : j = i ∨ b = false
 ·have hnone : namS s i = none:=by
   unfold namS
   rw [hj]
   rcases hbad with h | h
   ·rw [if_pos h]
   ·rw [hk,hb,h]; simp
  rw [hnone]
  have Hb:=hid hbad
  clear hP hP2 hT hr he hj hX hk hb hnone hbad hk1
  cases hx : X.toList.isEmpty
  case true =>
   go_enter Tryz.func299,Tryz.ntmps299
   go_wp2_with fail
   go_at_call 169
   refine (HP.out _ (HR.out.alloc _)).mono ?_
   rintro e w1 ⟨rfl,g1,g2⟩
   have G1:=hid g1
   have G2:=hid (((Kp.refl rb w).alloc (Nat.le_of_lt hlt) _).trans g2)
   have hc:=BoxAt.kp (BoxAt.new w zA 127) g2 (by omega)
   have hcl:=hc.lt
   have HC:=hid hc
   clear g1 g2 hc
   go_wp2_with fail
   go_at_call 169
   refine (HP2.out _ G1.out).mono ?_
   rintro e w2 ⟨rfl,g3,g4⟩
   have G3:=hid g3
   have HK:=hid (G2.out.trans g4)
   have hc2:=BoxAt.kp HC.out g4 (by omega)
   have hcl2:=hc2.lt
   have HC2:=hid hc2
   obtain ⟨q0,q1,q2,q3,q4,q5,q6,q7,p0,p1,p2,p3,p4,p5,p6,p7⟩:=cells8 hc2
   clear g3 g4 hc2
   go_wp2
   exact end8w Tryz.results299 (box_set8 HC2.out _ _ _ _ _ _ _ _) rfl rfl rfl ⟨HK.out.set8 (Nat.le_refl _) hlt _ _ _ _ _ _ _ _,_,_,_,_,_,_,_,_,_,_,_,_,k,rfl,G3.out.set8 (by omega) _ _ _ _ _ _ _ _,hB.2,fun _=>rfl,fun x y m h=>by cases h⟩
  have hb0 : b = false:=by
   rcases Hb.out with h | h
   ·have:=HE.out; rw [hx,decide_eq_true h] at this; cases this
   ·exact h
  subst hb0
  clear Hb
  go_enter Tryz.func299,Tryz.ntmps299
  go_wp2_with fail
  go_at_call 169
  refine (HP.out _ (HR.out.alloc _)).mono ?_
  rintro e w1 ⟨rfl,g1,g2⟩
  have G1:=hid g1
  have G2:=hid (((Kp.refl rb w).alloc (Nat.le_of_lt hlt) _).trans g2)
  have hc:=BoxAt.kp (BoxAt.new w zA 127) g2 (by omega)
  have hcl:=hc.lt
  have HC:=hid hc
  clear g1 g2 hc
  go_wp2_with fail
  go_at_call 169
  refine (HP2.out _ G1.out).mono ?_
  rintro e w2 ⟨rfl,g3,g4⟩
  have G3:=hid g3
  have HK:=hid (G2.out.trans g4)
  have hc2:=BoxAt.kp HC.out g4 (by omega)
  have hcl2:=hc2.lt
  have HC2:=hid hc2
  clear g3 g4 hc2
  go_wp2_with fail
  go_at_call 236
  refine (HT.out _ G3.out).mono ?_
  rintro e w3 ⟨rfl,g5,g6⟩
  have G5:=hid (show Rd rb s k w3 by simpa using g5)
  have HK3:=hid (HK.out.trans g6)
  have hc3:=BoxAt.kp HC2.out g6 (by omega)
  have hcl3:=hc3.lt
  have HC3:=hid hc3
  obtain ⟨q0,q1,q2,q3,q4,q5,q6,q7,p0,p1,p2,p3,p4,p5,p6,p7⟩:=cells8 hc3
  clear g5 g6 hc3
  go_wp2
  exact end8w Tryz.results299 (box_set8 HC3.out _ _ _ _ _ _ _ _) rfl rfl rfl ⟨HK3.out.set8 (Nat.le_refl _) hlt _ _ _ _ _ _ _ _,_,_,_,_,_,_,_,_,_,_,_,_,k,rfl,G5.out.set8 (by omega) _ _ _ _ _ _ _ _,hB.2,fun _=>rfl,fun x y m h=>by cases h⟩
 ·have hne : j ≠ i:=fun h=>hbad (.inl h)
  have hb1 : b = true:=by cases b; exact absurd (.inr rfl) hbad; rfl
  subst hb1
  have hx : X.toList.isEmpty = false:=by rw [HE.out,decide_eq_false hne]
  have hk2:=hk1 rfl
  have hB3:=bl_ok s (k + 1) hk2
  have hP3:=fun W (h : Rd rb s (k + 1) W)=>pass_any endBlank W h (by omega) hk2
  obtain ⟨m,hm⟩ : ∃ m,bl s (k + 1) = m:=⟨_,rfl⟩
  rw [hm] at hB3 hP3
  have hF:=fun L W h1 h2 h3=>named_first (rb:=rb) hs L m W h1 hB3.2 h2 h3
  obtain ⟨r,hrr⟩ : ∃ r,(quoS s m).or (nubS s m) = r:=⟨_,rfl⟩
  obtain ⟨hv1,hv2⟩:=nam_val s i j k m hj hk hm hne hb r hrr
  rw [hX] at hv2
  rw [hrr] at hF
  obtain ⟨R,hRR⟩ : ∃ R,namS s i = R:=⟨_,rfl⟩
  rw [hRR] at hv1 hv2 ⊢
  have HV1:=hid hv1
  have HV2:=hid hv2
  have HP3:=hid hP3
  have HF:=hid hF
  unfold pt at HP3 HF
  clear hP hP2 hT hr he hj hX hk hb hbad hk1 hP3 hm hF hrr hv1 hv2 hRR
  go_enter Tryz.func299,Tryz.ntmps299
  go_wp2_with fail
  go_at_call 169
  refine (HP.out _ (HR.out.alloc _)).mono ?_
  rintro e w1 ⟨rfl,g1,g2⟩
  have G1:=hid g1
  have G2:=hid (((Kp.refl rb w).alloc (Nat.le_of_lt hlt) _).trans g2)
  have hc:=BoxAt.kp (BoxAt.new w zA 127) g2 (by omega)
  have hcl:=hc.lt
  have HC:=hid hc
  clear g1 g2 hc
  go_wp2_with fail
  go_at_call 169
  refine (HP2.out _ G1.out).mono ?_
  rintro e w2 ⟨rfl,g3,g4⟩
  have G3:=hid g3
  have HK:=hid (G2.out.trans g4)
  have hc2:=BoxAt.kp HC.out g4 (by omega)
  have hcl2:=hc2.lt
  have HC2:=hid hc2
  clear g3 g4 hc2
  go_wp2_with fail
  go_at_call 236
  refine (HT.out _ G3.out).mono ?_
  rintro e w3 ⟨rfl,g5,g6⟩
  have G5:=hid (show Rd rb s (k + 1) w3 by simpa using g5)
  have HK3:=hid (HK.out.trans g6)
  have hc3:=BoxAt.kp HC2.out g6 (by omega)
  have hcl3:=hc3.lt
  have HC3:=hid hc3
  clear g5 g6 hc3
  go_wp2_with fail
  go_at_call 169
  refine (HP3.out _ G5.out).mono ?_
  rintro e w4 ⟨rfl,g7,g8⟩
  have HK4:=hid (HK3.out.trans g8)
  have hc4:=BoxAt.kp HC3.out g8 (by omega)
  have hcl4:=hc4.lt
  have HC4:=hid hc4
  have hl4:=g7.lt
  have HFF:=hid (HF.out w4.heap.size (w4.alloc (.cells #[.func (.func 293) #[pt rb] #[],.func (.func 297) #[pt rb] #[]] 396)) (g7.alloc _) (BoxAt.new _ _ _) (by omega))
  unfold pt at HFF
  clear g7 g8 hc4
  go_wp2_with fail
  go_at_call 292
  refine HFF.out.mono ?_
  rintro e w5 ⟨⟨h1,k',t,n,a,A1,n1,c1',p,A2,n2,c2',j',rfl,h2,hj',h3⟩,hz⟩
  have HK5:=hid ((HK4.out.alloc (Nat.le_of_lt hl4) _).trans h1)
  have hc5:=BoxAt.kp (HC4.out.alloc (.cells #[.func (.func 293) #[pt rb] #[],.func (.func 297) #[pt rb] #[]] 396)) h1 (by omega)
  have hcl5:=hc5.lt
  have HC5:=hid hc5
  have H2:=hid h2
  have H3:=hid h3
  have HZ:=hid hz
  have hs4:=h1.size
  rw [World.size_alloc] at hs4
  obtain ⟨q0,q1,q2,q3,q4,q5,q6,q7,p0,p1,p2,p3,p4,p5,p6,p7⟩:=cells8 hc5
  unfold exV
  clear h1 h2 h3 hz hc5
  go_wp2
  refine end8w Tryz.results299 ((box_set8 HC5.out _ _ _ _ _ _ _ _).alloc _) rfl rfl rfl ⟨(HK5.out.set8 (Nat.le_refl _) hlt _ _ _ _ _ _ _ _).alloc (by rw [set8_size]; omega) _,X,k',t,n,a,A1,n1,c1',p,A2,n2,c2',j',by rw [HV1.out]; rfl,(H2.out.set8 (by omega) _ _ _ _ _ _ _ _).alloc _,hj',fun h=>?_,fun x y q h=>?_⟩
  ·have hr0 : r = none:=by
    have:=HV1.out
    rw [h] at this
    cases r with
    | none=>rfl
    | some p=>cases this
   have h1:=HZ.out hr0
   simp [exV] at h1
   exact h1.1.1
  ·obtain ⟨rfl,hr0⟩:=HV2.out x y q h
   obtain ⟨h4,h5⟩:=H3.out y q hr0
   refine ⟨rfl,h4,ExF.carry (fun z hq=>?_) _ _ h5⟩
   obtain ⟨hq1,hq2⟩:=hq
   rw [World.size_alloc] at hq1
   have hq3 : z < (set8 w5 w.heap.size (.string x) (.int .i64 k') (.string t) (.string n) (.string a) (.slice A1 n1 c1') (.pointer p) (.slice A2 n2 c2')).heap.size:=by rw [set8_size]; exact hq2
   exact ⟨⟨by omega,by rw [World.size_alloc]; exact Nat.lt_succ_of_lt hq3⟩,(Lib.alloc_old _ _ z hq3).trans (set8_heap _ _ _ _ _ _ _ _ _ _ z (by omega))⟩
theorem arg_val (P : Nat -> Res) (s : ByteArray) (i : Nat) (h : namS s i = none) : (argS P s i).isSome = (headS P s i).isSome /\ ∀ x y q,argS P s i = some (x,y,q) -> x = E0 /\ headS P s i = some (y,q):=by
 unfold argS
 rw [h]
 cases headS P s i with
 | none=>exact ⟨rfl,fun x y q h=>by cases h⟩
 | some p=>obtain ⟨e,q'⟩:=p; exact ⟨rfl,fun x y q h=>by cases h; exact ⟨rfl,rfl⟩⟩
theorem arg_nam (P : Nat -> Res) (s : ByteArray) (i : Nat) (x : ByteArray × EX × Nat) (h : namS s i = some x) : argS P s i = some x:=by
 unfold argS; rw [h]
set_option maxHeartbeats 4000000 in
set_option maxRecDepth 100000 in
theorem argument_any {rb : Nat} {s : ByteArray} {d : Nat} {P : Nat -> Res} (hs : s.size <= 1000000000) (hd : d <= 4000) (hP : WayTo rb s 208 #[pt rb,.int .i64 ((d + 1 : Nat) : Int)] P) (i : Nat) (w : World) (hr : Rd rb s i w) (hi : i <= s.size) :
  Calls Tryz.prog 267 #[pt rb,.int .i64 d] w (GotA rb s w (argS P s i)):=by
 have hN:=fun W h=>named_any (rb:=rb) hs i W h hi
 have hH:=fun W h=>head_way (rb:=rb) hs hd hP i W h hi
 have hv:=arg_val P s i
 have hv2:=arg_nam P s i
 obtain ⟨R,hRR⟩ : ∃ R,argS P s i = R:=⟨_,rfl⟩
 obtain ⟨r,hrr⟩ : ∃ r,namS s i = r:=⟨_,rfl⟩
 obtain ⟨q,hq⟩ : ∃ q,headS P s i = q:=⟨_,rfl⟩
 rw [hrr] at hN hv hv2
 rw [hq] at hH hv
 rw [hRR] at hv hv2 ⊢
 have HN:=hid hN
 have HH:=hid hH
 have HR:=hid hr
 have HV:=hid hv
 have HV2:=hid hv2
 have hlt:=hr.lt
 have c1:=hr.c1
 have f1:=hr.f 1
 have hi0 : (i : Int) <= 1000000000:=by omega
 clear hP hN hH hv hv2 hRR hrr hq hr
 unfold pt at HN HH ⊢
 go_enter Tryz.func267,Tryz.ntmps267
 go_wp2_with fail
 go_at_call 299
 refine (HN.out _ (HR.out.alloc _)).mono ?_
 rintro e w1 ⟨h1,X,k,t,n,a,A1,n1,c1',p,A2,n2,c2',j,rfl,h2,hj,hz,h3⟩
 have HK:=hid (((Kp.refl rb w).alloc (Nat.le_of_lt hlt) _).trans h1)
 have hc:=BoxAt.kp (BoxAt.new w zA 127) h1 (by omega)
 have hl:=hc.lt
 have HC:=hid hc
 have H2:=hid h2
 have H3:=hid h3
 have hlr:=h2.lt
 have d1:=h2.c1
 have e1:=h2.f 1
 unfold arV
 cases r with
 | some x =>
  have hR : R = some x:=HV2.out x rfl
  subst hR
  obtain ⟨q0,q1,q2,q3,q4,q5,q6,q7,p0,p1,p2,p3,p4,p5,p6,p7⟩:=cells8 hc
  clear h1 h2 h3 hc hz
  go_wp2
  refine end8w Tryz.results267 ((box_set8 HC.out _ _ _ _ _ _ _ _).alloc _) rfl rfl rfl ⟨(HK.out.set8 (Nat.le_refl _) hlt _ _ _ _ _ _ _ _).alloc (by rw [set8_size]; omega) _,X,k,t,n,a,A1,n1,c1',p,A2,n2,c2',j,rfl,(H2.out.set8 (by omega) _ _ _ _ _ _ _ _).alloc _,hj,(fun h=>by cases h),fun x y q h=>?_⟩
  obtain ⟨h4,h5,h6⟩:=H3.out x y q h
  refine ⟨h4,h5,ExF.carry (fun z hq=>?_) _ _ h6⟩
  obtain ⟨hq1,hq2⟩:=hq
  rw [World.size_alloc] at hq1
  have hq3 : z < (set8 w1 w.heap.size (.string X) (.int .i64 k) (.string t) (.string n) (.string a) (.slice A1 n1 c1') (.pointer p) (.slice A2 n2 c2')).heap.size:=by rw [set8_size]; exact hq2
  exact ⟨⟨by omega,by rw [World.size_alloc]; exact Nat.lt_succ_of_lt hq3⟩,(Lib.alloc_old _ _ z hq3).trans (set8_heap _ _ _ _ _ _ _ _ _ _ z (by omega))⟩
 | none =>
  clear h1 h2 h3 hc hz
  have hv:=(HV.out rfl).1
  have hv3:=(HV.out rfl).2
  have Hv:=hid hv
  have Hv3:=hid hv3
  have hsz1 : (w1.setCell ⟨rb,1,none⟩ (.int .i64 (i : Nat))).heap.size = w1.heap.size:=by simp
  have HB:=hid (HH.out ((w1.setCell ⟨rb,1,none⟩ (.int .i64 (i : Nat))).alloc (.cells #[.string X,.int .i64 k,.string t,.string n,.string a,.slice A1 n1 c1',.pointer p,.slice A2 n2 c2'] 127)) ((H2.out.set i).alloc _))
  have HK2:=hid ((HK.out.setCell 1 (.int .i64 (i : Nat))).alloc (by rw [hsz1]; omega) (.cells #[.string X,.int .i64 k,.string t,.string n,.string a,.slice A1 n1 c1',.pointer p,.slice A2 n2 c2'] 127))
  have HC2:=hid ((BoxAt.setOther HC.out ⟨rb,1,none⟩ (.int .i64 (i : Nat)) (by show w.heap.size ≠ rb; omega)).alloc (.cells #[.string X,.int .i64 k,.string t,.string n,.string a,.slice A1 n1 c1',.pointer p,.slice A2 n2 c2'] 127))
  clear hv hv3 HV HV2
  go_wp2_with fail
  go_at_call 264
  refine HB.out.mono ?_
  rintro e w2 ⟨⟨h1,k',t',n',a',B1,m1,b1,p',B2,m2,b2,j',rfl,h2,hj',h3⟩,hz⟩
  have HK3:=hid (HK2.out.trans h1)
  have hc3:=BoxAt.kp HC2.out h1 (by omega)
  have hl3:=hc3.lt
  have HC3:=hid hc3
  have H22:=hid h2
  have H33:=hid h3
  have HZ:=hid hz
  have hs1:=h1.size
  rw [World.size_alloc,hsz1] at hs1
  obtain ⟨q0,q1,q2,q3,q4,q5,q6,q7,p0,p1,p2,p3,p4,p5,p6,p7⟩:=cells8 hc3
  unfold exV
  clear h1 h2 h3 hz hc3 HB
  go_wp2
  refine end8w Tryz.results267 ((box_set8 HC3.out _ _ _ _ _ _ _ _).alloc _) rfl rfl rfl ⟨(HK3.out.set8 (Nat.le_refl _) hlt _ _ _ _ _ _ _ _).alloc (by rw [set8_size]; omega) _,E0,k',t',n',a',B1,m1,b1,p',B2,m2,b2,j',by rw [Hv.out]; rfl,(H22.out.set8 (by omega) _ _ _ _ _ _ _ _).alloc _,hj',fun h=>?_,fun x y z h=>?_⟩
  ·have hr0 : q = none:=by
    have:=Hv.out
    rw [h] at this
    cases q with
    | none=>rfl
    | some p=>cases this
   have h1:=HZ.out hr0
   simp [exV] at h1
   exact h1.1.1
  ·obtain ⟨rfl,hr0⟩:=Hv3.out x y z h
   obtain ⟨h4,h5⟩:=H33.out y z hr0
   refine ⟨rfl,h4,ExF.carry (fun z hq=>?_) _ _ h5⟩
   obtain ⟨hq1,hq2⟩:=hq
   rw [World.size_alloc,hsz1] at hq1
   have hq3 : z < (set8 w2 w.heap.size (.string E0) (.int .i64 k') (.string t') (.string n') (.string a') (.slice B1 m1 b1) (.pointer p') (.slice B2 m2 b2)).heap.size:=by rw [set8_size]; exact hq2
   exact ⟨⟨by omega,by rw [World.size_alloc]; exact Nat.lt_succ_of_lt hq3⟩,(Lib.alloc_old _ _ z hq3).trans (set8_heap _ _ _ _ _ _ _ _ _ _ z (by omega))⟩
end Go.Proofs.YtgdkpamlkpncgaaGreatDoor
