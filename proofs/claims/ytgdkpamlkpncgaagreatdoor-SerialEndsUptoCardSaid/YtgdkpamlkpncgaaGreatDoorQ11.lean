/-
  Several texts put together (part 11): what the law and the program call, walked; their contracts.
-/
import Derived.Test.YtgdkpamlkpncgaaGreatDoorQ10
import Derived.Test.YtgdkpamlkpncgaaGreatDoorQ9
namespace Go.Proofs.YtgdkpamlkpncgaaGreatDoor
open Go.RowKit
open _root_.Go.Lib (hid)
set_option linter.unusedVariables false
set_option linter.unusedSimpArgs false
abbrev zA : Array Value := #[.string ⟨#[]⟩,.int .i64 0,.string ⟨#[]⟩,.string ⟨#[]⟩,.string ⟨#[]⟩,.slice none 0 0,.pointer none,.slice none 0 0]
theorem cells8 {w : World} {k : Nat} {x0 x1 x2 x3 x4 x5 x6 x7 : Value} {t : TypeId} (h : BoxAt w k #[x0,x1,x2,x3,x4,x5,x6,x7] t) :
  w.cell? ⟨k,0,none⟩ = some x0 /\ w.cell? ⟨k,1,none⟩ = some x1 /\ w.cell? ⟨k,2,none⟩ = some x2 /\ w.cell? ⟨k,3,none⟩ = some x3 /\ w.cell? ⟨k,4,none⟩ = some x4 /\ w.cell? ⟨k,5,none⟩ = some x5 /\ w.cell? ⟨k,6,none⟩ = some x6 /\ w.cell? ⟨k,7,none⟩ = some x7 /\
  w.frozen? ⟨k,0,none⟩ = false /\ w.frozen? ⟨k,1,none⟩ = false /\ w.frozen? ⟨k,2,none⟩ = false /\ w.frozen? ⟨k,3,none⟩ = false /\ w.frozen? ⟨k,4,none⟩ = false /\ w.frozen? ⟨k,5,none⟩ = false /\ w.frozen? ⟨k,6,none⟩ = false /\ w.frozen? ⟨k,7,none⟩ = false :=
 ⟨h.cell 0,h.cell 1,h.cell 2,h.cell 3,h.cell 4,h.cell 5,h.cell 6,h.cell 7,Lib.frozen_of_heap h 0,Lib.frozen_of_heap h 1,Lib.frozen_of_heap h 2,Lib.frozen_of_heap h 3,Lib.frozen_of_heap h 4,Lib.frozen_of_heap h 5,Lib.frozen_of_heap h 6,Lib.frozen_of_heap h 7⟩
def set8 (w : World) (b : Nat) (x0 x1 x2 x3 x4 x5 x6 x7 : Value) : World := (set7 w b x0 x1 x2 x3 x4 x5 x6).setCell ⟨b,7,none⟩ x7
theorem set8_heap (w : World) (b : Nat) (x0 x1 x2 x3 x4 x5 x6 x7 : Value) (k : Nat) (hk : k ≠ b) : (set8 w b x0 x1 x2 x3 x4 x5 x6 x7).heap[k]? = w.heap[k]? := by
 unfold set8
 rw [Below.heap_setCell _ _ _ k hk,set7_heap _ _ _ _ _ _ _ _ _ k hk]
theorem set8_size (w : World) (b : Nat) (x0 x1 x2 x3 x4 x5 x6 x7 : Value) : (set8 w b x0 x1 x2 x3 x4 x5 x6 x7).heap.size = w.heap.size := by
 unfold set8; simp [set7_size]
theorem Kp.set8 {rb : Nat} {a w : World} (h : Kp rb a w) {b : Nat} (hb : a.heap.size <= b) (hr : rb < a.heap.size) (x0 x1 x2 x3 x4 x5 x6 x7 : Value) : Kp rb a (set8 w b x0 x1 x2 x3 x4 x5 x6 x7) := (h.set7 hb hr x0 x1 x2 x3 x4 x5 x6).setNew hb hr 7 x7
theorem Rd.set8 {rb : Nat} {s : ByteArray} {i : Nat} {w : World} (h : Rd rb s i w) {b : Nat} (hb : rb ≠ b) (x0 x1 x2 x3 x4 x5 x6 x7 : Value) : Rd rb s i (set8 w b x0 x1 x2 x3 x4 x5 x6 x7) := (h.set7 hb x0 x1 x2 x3 x4 x5 x6).setOther hb 7 x7
theorem box_set8 {w : World} {E : Nat} {x0 x1 x2 x3 x4 x5 x6 x7 : Value} {t : TypeId} (h : BoxAt w E #[x0,x1,x2,x3,x4,x5,x6,x7] t) (y0 y1 y2 y3 y4 y5 y6 y7 : Value) :
  BoxAt (set8 w E y0 y1 y2 y3 y4 y5 y6 y7) E #[y0,y1,y2,y3,y4,y5,y6,y7] t := by
 unfold set8 set7
 unfold BoxAt at h ⊢
 simp [World.setCell,Array.getElem?_modify,h]
set_option maxRecDepth 100000 in
theorem res8 {fn : Func} {A M : Nat} {tmps : Array Value} {w : World} {b : Nat} {x0 x1 x2 x3 x4 x5 x6 x7 v : Value} {t : TypeId} (hres : fn.results = #[.cell A 127,.tmp M]) (ha : tmps.getD A undef = .pointer (some ⟨b,0,none⟩)) (hm : tmps.getD M undef = v)
  (hb : BoxAt w b #[x0,x1,x2,x3,x4,x5,x6,x7] t) : (results fn tmps).run Tryz.prog w = .ok (.tuple #[.agg #[x0,x1,x2,x3,x4,x5,x6,x7],v]) w := by
 obtain ⟨q0,q1,q2,q3,q4,q5,q6,q7,_⟩ := cells8 hb
 have ha' : tmps[A]?.getD undef = .pointer (some ⟨b,0,none⟩) := by rw [<- ha]; simp
 have hm' : tmps[M]?.getD undef = v := by rw [<- hm]; simp
 simp [results,hres,ha',hm',go_sem,q0,q1,q2,q3,q4,q5,q6,q7]
theorem end8w {fn : Func} {R : Ending -> World -> Prop} {a : Act} {w2 : World} {A M b : Nat} {x0 x1 x2 x3 x4 x5 x6 x7 v : Value} {t : TypeId} (hres : fn.results = #[.cell A 127,.tmp M]) (hbox : BoxAt w2 b #[x0,x1,x2,x3,x4,x5,x6,x7] t)
  (ha : a.tmps.getD A undef = .pointer (some ⟨b,0,none⟩)) (hm : a.tmps.getD M undef = v) (hd : a.defers = []) (hR : R (.returned (.tuple #[.agg #[x0,x1,x2,x3,x4,x5,x6,x7],v])) w2) : bodyPost Tryz.prog fn R .ret a w2 :=
 bodyPost_ret (res8 hres ha hm hbox) hd hR
def arV (X : ByteArray) (k : Int) (t n a : ByteArray) (A1 : Option Addr) (n1 c1 : Nat) (p : Option Addr) (A2 : Option Addr) (n2 c2 : Nat) : Value := .agg #[.string X,.int .i64 k,.string t,.string n,.string a,.slice A1 n1 c1,.pointer p,.slice A2 n2 c2]
def GotA (rb : Nat) (s : ByteArray) (w : World) (r : Option (ByteArray × EX × Nat)) (e : Ending) (w' : World) : Prop :=
 Kp rb w w' /\ ∃ (X : ByteArray) (k : Int) (t n a : ByteArray) (A1 : Option Addr) (n1 c1 : Nat) (p : Option Addr) (A2 : Option Addr) (n2 c2 : Nat) (j : Nat),
  e = .returned (.tuple #[arV X k t n a A1 n1 c1 p A2 n2 c2,.bool r.isSome]) /\ Rd rb s j w' /\ j <= s.size /\ (r = none -> k = 0) /\
  ∀ x y m,r = some (x,y,m) -> x = X /\ m = j /\ ExF w' (Since w.heap.size w') y ⟨.int .i64 k,.string t,.string n,.string a,.slice A1 n1 c1,.pointer p,.slice A2 n2 c2⟩
theorem named_first {rb : Nat} {s : ByteArray} (hs : s.size <= 1000000000) (L i : Nat) (w : World) (hr : Rd rb s i w) (hi : i <= s.size)
  (hL : BoxAt w L #[.func (.func 293) #[pt rb] #[],.func (.func 297) #[pt rb] #[]] 396) (n3 : L ≠ rb) :
  Calls Tryz.prog 292 #[pt rb,.slice (some ⟨L,0,none⟩) 2 2] w (Got0 rb s w ((quoS s i).or (nubS s i))) := by
 have h := first_any (by omega) [.func (.func 293) #[pt rb] #[],.func (.func 297) #[pt rb] #[]] [quoS s,nubS s] L 2 i w hr hi rfl (by simp) (fun j fv h => ?_) (BoxAt.lt hL) n3 (fun j fv f h1' h2' => ?_)
 ·unfold orAll orAll orAll at h
  rw [Option.or_none] at h
  exact h
 ·rw [BoxAt.cell hL j,List.getElem?_toArray]
  exact h
 ·match j with
  | 0 => cases h1'; cases h2'; exact ⟨_,_,_,rfl,fun args w => by go_simp,fun W i _ hr hi => quoted_way hs i W hr hi⟩
  | 1 => cases h1'; cases h2'; exact ⟨_,_,_,rfl,fun args w => by go_simp,fun W i _ hr hi => number_way (by omega) i W hr hi⟩
  | j + 2 => cases h1'
theorem nam_val (s : ByteArray) (i j k m : Nat) (hj : nm s i = j) (hk : bl s j = k) (hm : bl s (k + 1) = m) (hne : j ≠ i) (hc : isAt s k 58 = true) (r : Res) (hr : (quoS s m).or (nubS s m) = r) :
  (namS s i).isSome = r.isSome /\ ∀ x y q,namS s i = some (x,y,q) -> x = s.extract i j /\ r = some (y,q) := by
 unfold namS
 rw [hj,if_neg hne,hk,hc,if_pos rfl,hm,hr]
 cases r with
 | none => exact ⟨rfl,fun x y q h => by cases h⟩
 | some p => obtain ⟨e,q'⟩ := p; exact ⟨rfl,fun x y q h => by cases h; exact ⟨rfl,rfl⟩⟩
set_option maxHeartbeats 4000000 in
set_option maxRecDepth 100000 in
theorem named_any {rb : Nat} {s : ByteArray} (hs : s.size <= 1000000000) (i : Nat) (w : World) (hr : Rd rb s i w) (hi : i <= s.size) : Calls Tryz.prog 299 #[pt rb] w (GotA rb s w (namS s i)) := by
 have hn := nm_ok s i hi
 have he := ext_empty s i (nm s i) hn.1 hn.2
 have hP := fun W (h : Rd rb s i W) => pass_any endName W h (by omega) hi
 obtain ⟨j,hj⟩ : ∃ j,nm s i = j := ⟨_,rfl⟩
 rw [hj] at hn he hP
 obtain ⟨X,hX⟩ : ∃ X,s.extract i j = X := ⟨_,rfl⟩
 rw [hX] at he hP
 have hB := bl_ok s j hn.2
 have hP2 := fun W (h : Rd rb s j W) => pass_any endBlank W h (by omega) hn.2
 obtain ⟨k,hk⟩ : ∃ k,bl s j = k := ⟨_,rfl⟩
 rw [hk] at hB hP2
 have hT := fun W (h : Rd rb s k W) => take_any 58 W h (by omega) hB.2
 obtain ⟨b,hb⟩ : ∃ b,isAt s k 58 = b := ⟨_,rfl⟩
 have hk1 : b = true -> k + 1 <= s.size := fun h => isAt_lt (hb.trans h)
 rw [hb] at hT
 have HP := hid hP
 have HP2 := hid hP2
 have HT := hid hT
 have HR := hid hr
 have hlt := hr.lt
 have HE := hid he
 unfold pt at HP HP2 HT ⊢
 by_cases hbad : j = i ∨ b = false
 ·have hnone : namS s i = none := by
   unfold namS
   rw [hj]
   rcases hbad with h | h
   ·rw [if_pos h]
   ·rw [hk,hb,h]; simp
  rw [hnone]
  have Hb := hid hbad
  clear hP hP2 hT hr he hj hX hk hb hnone hbad hk1
  cases hx : X.toList.isEmpty
  case true =>
   go_enter Tryz.func299,Tryz.ntmps299
   go_wp2_with fail
   go_at_call 169
   refine (HP.out _ (HR.out.alloc _)).mono ?_
   rintro e w1 ⟨rfl,g1,g2⟩
   have G1 := hid g1
   have G2 := hid (((Kp.refl rb w).alloc (Nat.le_of_lt hlt) _).trans g2)
   have hc := BoxAt.kp (BoxAt.new w zA 127) g2 (by omega)
   have hcl := hc.lt
   have HC := hid hc
   clear g1 g2 hc
   go_wp2_with fail
   go_at_call 169
   refine (HP2.out _ G1.out).mono ?_
   rintro e w2 ⟨rfl,g3,g4⟩
   have G3 := hid g3
   have HK := hid (G2.out.trans g4)
   have hc2 := BoxAt.kp HC.out g4 (by omega)
   have hcl2 := hc2.lt
   have HC2 := hid hc2
   obtain ⟨q0,q1,q2,q3,q4,q5,q6,q7,p0,p1,p2,p3,p4,p5,p6,p7⟩ := cells8 hc2
   clear g3 g4 hc2
   go_wp2
   exact end8w Tryz.results299 (box_set8 HC2.out _ _ _ _ _ _ _ _) rfl rfl rfl ⟨HK.out.set8 (Nat.le_refl _) hlt _ _ _ _ _ _ _ _,_,_,_,_,_,_,_,_,_,_,_,_,k,rfl,G3.out.set8 (by omega) _ _ _ _ _ _ _ _,hB.2,fun _ => rfl,fun x y m h => by cases h⟩
  have hb0 : b = false := by
   rcases Hb.out with h | h
   ·have := HE.out; rw [hx,decide_eq_true h] at this; cases this
   ·exact h
  subst hb0
  clear Hb
  go_enter Tryz.func299,Tryz.ntmps299
  go_wp2_with fail
  go_at_call 169
  refine (HP.out _ (HR.out.alloc _)).mono ?_
  rintro e w1 ⟨rfl,g1,g2⟩
  have G1 := hid g1
  have G2 := hid (((Kp.refl rb w).alloc (Nat.le_of_lt hlt) _).trans g2)
  have hc := BoxAt.kp (BoxAt.new w zA 127) g2 (by omega)
  have hcl := hc.lt
  have HC := hid hc
  clear g1 g2 hc
  go_wp2_with fail
  go_at_call 169
  refine (HP2.out _ G1.out).mono ?_
  rintro e w2 ⟨rfl,g3,g4⟩
  have G3 := hid g3
  have HK := hid (G2.out.trans g4)
  have hc2 := BoxAt.kp HC.out g4 (by omega)
  have hcl2 := hc2.lt
  have HC2 := hid hc2
  clear g3 g4 hc2
  go_wp2_with fail
  go_at_call 236
  refine (HT.out _ G3.out).mono ?_
  rintro e w3 ⟨rfl,g5,g6⟩
  have G5 := hid (show Rd rb s k w3 by simpa using g5)
  have HK3 := hid (HK.out.trans g6)
  have hc3 := BoxAt.kp HC2.out g6 (by omega)
  have hcl3 := hc3.lt
  have HC3 := hid hc3
  obtain ⟨q0,q1,q2,q3,q4,q5,q6,q7,p0,p1,p2,p3,p4,p5,p6,p7⟩ := cells8 hc3
  clear g5 g6 hc3
  go_wp2
  exact end8w Tryz.results299 (box_set8 HC3.out _ _ _ _ _ _ _ _) rfl rfl rfl ⟨HK3.out.set8 (Nat.le_refl _) hlt _ _ _ _ _ _ _ _,_,_,_,_,_,_,_,_,_,_,_,_,k,rfl,G5.out.set8 (by omega) _ _ _ _ _ _ _ _,hB.2,fun _ => rfl,fun x y m h => by cases h⟩
 ·have hne : j ≠ i := fun h => hbad (.inl h)
  have hb1 : b = true := by cases b; exact absurd (.inr rfl) hbad; rfl
  subst hb1
  have hx : X.toList.isEmpty = false := by rw [HE.out,decide_eq_false hne]
  have hk2 := hk1 rfl
  have hB3 := bl_ok s (k + 1) hk2
  have hP3 := fun W (h : Rd rb s (k + 1) W) => pass_any endBlank W h (by omega) hk2
  obtain ⟨m,hm⟩ : ∃ m,bl s (k + 1) = m := ⟨_,rfl⟩
  rw [hm] at hB3 hP3
  have hF := fun L W h1 h2 h3 => named_first (rb := rb) hs L m W h1 hB3.2 h2 h3
  obtain ⟨r,hrr⟩ : ∃ r,(quoS s m).or (nubS s m) = r := ⟨_,rfl⟩
  obtain ⟨hv1,hv2⟩ := nam_val s i j k m hj hk hm hne hb r hrr
  rw [hX] at hv2
  rw [hrr] at hF
  obtain ⟨R,hRR⟩ : ∃ R,namS s i = R := ⟨_,rfl⟩
  rw [hRR] at hv1 hv2 ⊢
  have HV1 := hid hv1
  have HV2 := hid hv2
  have HP3 := hid hP3
  have HF := hid hF
  unfold pt at HP3 HF
  clear hP hP2 hT hr he hj hX hk hb hbad hk1 hP3 hm hF hrr hv1 hv2 hRR
  go_enter Tryz.func299,Tryz.ntmps299
  go_wp2_with fail
  go_at_call 169
  refine (HP.out _ (HR.out.alloc _)).mono ?_
  rintro e w1 ⟨rfl,g1,g2⟩
  have G1 := hid g1
  have G2 := hid (((Kp.refl rb w).alloc (Nat.le_of_lt hlt) _).trans g2)
  have hc := BoxAt.kp (BoxAt.new w zA 127) g2 (by omega)
  have hcl := hc.lt
  have HC := hid hc
  clear g1 g2 hc
  go_wp2_with fail
  go_at_call 169
  refine (HP2.out _ G1.out).mono ?_
  rintro e w2 ⟨rfl,g3,g4⟩
  have G3 := hid g3
  have HK := hid (G2.out.trans g4)
  have hc2 := BoxAt.kp HC.out g4 (by omega)
  have hcl2 := hc2.lt
  have HC2 := hid hc2
  clear g3 g4 hc2
  go_wp2_with fail
  go_at_call 236
  refine (HT.out _ G3.out).mono ?_
  rintro e w3 ⟨rfl,g5,g6⟩
  have G5 := hid (show Rd rb s (k + 1) w3 by simpa using g5)
  have HK3 := hid (HK.out.trans g6)
  have hc3 := BoxAt.kp HC2.out g6 (by omega)
  have hcl3 := hc3.lt
  have HC3 := hid hc3
  clear g5 g6 hc3
  go_wp2_with fail
  go_at_call 169
  refine (HP3.out _ G5.out).mono ?_
  rintro e w4 ⟨rfl,g7,g8⟩
  have HK4 := hid (HK3.out.trans g8)
  have hc4 := BoxAt.kp HC3.out g8 (by omega)
  have hcl4 := hc4.lt
  have HC4 := hid hc4
  have hl4 := g7.lt
  have HFF := hid (HF.out w4.heap.size (w4.alloc (.cells #[.func (.func 293) #[pt rb] #[],.func (.func 297) #[pt rb] #[]] 396)) (g7.alloc _) (BoxAt.new _ _ _) (by omega))
  unfold pt at HFF
  clear g7 g8 hc4
  go_wp2_with fail
  go_at_call 292
  refine HFF.out.mono ?_
  rintro e w5 ⟨⟨h1,k',t,n,a,A1,n1,c1',p,A2,n2,c2',j',rfl,h2,hj',h3⟩,hz⟩
  have HK5 := hid ((HK4.out.alloc (Nat.le_of_lt hl4) _).trans h1)
  have hc5 := BoxAt.kp (HC4.out.alloc (.cells #[.func (.func 293) #[pt rb] #[],.func (.func 297) #[pt rb] #[]] 396)) h1 (by omega)
  have hcl5 := hc5.lt
  have HC5 := hid hc5
  have H2 := hid h2
  have H3 := hid h3
  have HZ := hid hz
  have hs4 := h1.size
  rw [World.size_alloc] at hs4
  obtain ⟨q0,q1,q2,q3,q4,q5,q6,q7,p0,p1,p2,p3,p4,p5,p6,p7⟩ := cells8 hc5
  unfold exV
  clear h1 h2 h3 hz hc5
  go_wp2
  refine end8w Tryz.results299 ((box_set8 HC5.out _ _ _ _ _ _ _ _).alloc _) rfl rfl rfl ⟨(HK5.out.set8 (Nat.le_refl _) hlt _ _ _ _ _ _ _ _).alloc (by rw [set8_size]; omega) _,X,k',t,n,a,A1,n1,c1',p,A2,n2,c2',j',by rw [HV1.out]; rfl,(H2.out.set8 (by omega) _ _ _ _ _ _ _ _).alloc _,hj',fun h => ?_,fun x y q h => ?_⟩
  ·have hr0 : r = none := by
    have := HV1.out
    rw [h] at this
    cases r with
    | none => rfl
    | some p => cases this
   have h1 := HZ.out hr0
   simp [exV] at h1
   exact h1.1.1
  ·obtain ⟨rfl,hr0⟩ := HV2.out x y q h
   obtain ⟨h4,h5⟩ := H3.out y q hr0
   refine ⟨rfl,h4,ExF.carry (fun z hq => ?_) _ _ h5⟩
   obtain ⟨hq1,hq2⟩ := hq
   rw [World.size_alloc] at hq1
   have hq3 : z < (set8 w5 w.heap.size (.string x) (.int .i64 k') (.string t) (.string n) (.string a) (.slice A1 n1 c1') (.pointer p) (.slice A2 n2 c2')).heap.size := by rw [set8_size]; exact hq2
   exact ⟨⟨by omega,by rw [World.size_alloc]; exact Nat.lt_succ_of_lt hq3⟩,(Lib.alloc_old _ _ z hq3).trans (set8_heap _ _ _ _ _ _ _ _ _ _ z (by omega))⟩
theorem arg_val (P : Nat -> Res) (s : ByteArray) (i : Nat) (h : namS s i = none) : (argS P s i).isSome = (headS P s i).isSome /\ ∀ x y q,argS P s i = some (x,y,q) -> x = E0 /\ headS P s i = some (y,q) := by
 unfold argS
 rw [h]
 cases headS P s i with
 | none => exact ⟨rfl,fun x y q h => by cases h⟩
 | some p => obtain ⟨e,q'⟩ := p; exact ⟨rfl,fun x y q h => by cases h; exact ⟨rfl,rfl⟩⟩
theorem arg_nam (P : Nat -> Res) (s : ByteArray) (i : Nat) (x : ByteArray × EX × Nat) (h : namS s i = some x) : argS P s i = some x := by
 unfold argS; rw [h]
set_option maxHeartbeats 4000000 in
set_option maxRecDepth 100000 in
theorem argument_any {rb : Nat} {s : ByteArray} {d : Nat} {P : Nat -> Res} (hs : s.size <= 1000000000) (hd : d <= 4000) (hP : WayTo rb s 208 #[pt rb,.int .i64 ((d + 1 : Nat) : Int)] P) (i : Nat) (w : World) (hr : Rd rb s i w) (hi : i <= s.size) :
  Calls Tryz.prog 267 #[pt rb,.int .i64 d] w (GotA rb s w (argS P s i)) := by
 have hN := fun W h => named_any (rb := rb) hs i W h hi
 have hH := fun W h => head_way (rb := rb) hs hd hP i W h hi
 have hv := arg_val P s i
 have hv2 := arg_nam P s i
 obtain ⟨R,hRR⟩ : ∃ R,argS P s i = R := ⟨_,rfl⟩
 obtain ⟨r,hrr⟩ : ∃ r,namS s i = r := ⟨_,rfl⟩
 obtain ⟨q,hq⟩ : ∃ q,headS P s i = q := ⟨_,rfl⟩
 rw [hrr] at hN hv hv2
 rw [hq] at hH hv
 rw [hRR] at hv hv2 ⊢
 have HN := hid hN
 have HH := hid hH
 have HR := hid hr
 have HV := hid hv
 have HV2 := hid hv2
 have hlt := hr.lt
 have c1 := hr.c1
 have f1 := hr.f 1
 have hi0 : (i : Int) <= 1000000000 := by omega
 clear hP hN hH hv hv2 hRR hrr hq hr
 unfold pt at HN HH ⊢
 go_enter Tryz.func267,Tryz.ntmps267
 go_wp2_with fail
 go_at_call 299
 refine (HN.out _ (HR.out.alloc _)).mono ?_
 rintro e w1 ⟨h1,X,k,t,n,a,A1,n1,c1',p,A2,n2,c2',j,rfl,h2,hj,hz,h3⟩
 have HK := hid (((Kp.refl rb w).alloc (Nat.le_of_lt hlt) _).trans h1)
 have hc := BoxAt.kp (BoxAt.new w zA 127) h1 (by omega)
 have hl := hc.lt
 have HC := hid hc
 have H2 := hid h2
 have H3 := hid h3
 have hlr := h2.lt
 have d1 := h2.c1
 have e1 := h2.f 1
 unfold arV
 cases r with
 | some x =>
  have hR : R = some x := HV2.out x rfl
  subst hR
  obtain ⟨q0,q1,q2,q3,q4,q5,q6,q7,p0,p1,p2,p3,p4,p5,p6,p7⟩ := cells8 hc
  clear h1 h2 h3 hc hz
  go_wp2
  refine end8w Tryz.results267 ((box_set8 HC.out _ _ _ _ _ _ _ _).alloc _) rfl rfl rfl ⟨(HK.out.set8 (Nat.le_refl _) hlt _ _ _ _ _ _ _ _).alloc (by rw [set8_size]; omega) _,X,k,t,n,a,A1,n1,c1',p,A2,n2,c2',j,rfl,(H2.out.set8 (by omega) _ _ _ _ _ _ _ _).alloc _,hj,(fun h => by cases h),fun x y q h => ?_⟩
  obtain ⟨h4,h5,h6⟩ := H3.out x y q h
  refine ⟨h4,h5,ExF.carry (fun z hq => ?_) _ _ h6⟩
  obtain ⟨hq1,hq2⟩ := hq
  rw [World.size_alloc] at hq1
  have hq3 : z < (set8 w1 w.heap.size (.string X) (.int .i64 k) (.string t) (.string n) (.string a) (.slice A1 n1 c1') (.pointer p) (.slice A2 n2 c2')).heap.size := by rw [set8_size]; exact hq2
  exact ⟨⟨by omega,by rw [World.size_alloc]; exact Nat.lt_succ_of_lt hq3⟩,(Lib.alloc_old _ _ z hq3).trans (set8_heap _ _ _ _ _ _ _ _ _ _ z (by omega))⟩
 | none =>
  clear h1 h2 h3 hc hz
  have hv := (HV.out rfl).1
  have hv3 := (HV.out rfl).2
  have Hv := hid hv
  have Hv3 := hid hv3
  have hsz1 : (w1.setCell ⟨rb,1,none⟩ (.int .i64 (i : Nat))).heap.size = w1.heap.size := by simp
  have HB := hid (HH.out ((w1.setCell ⟨rb,1,none⟩ (.int .i64 (i : Nat))).alloc (.cells #[.string X,.int .i64 k,.string t,.string n,.string a,.slice A1 n1 c1',.pointer p,.slice A2 n2 c2'] 127)) ((H2.out.set i).alloc _))
  have HK2 := hid ((HK.out.setCell 1 (.int .i64 (i : Nat))).alloc (by rw [hsz1]; omega) (.cells #[.string X,.int .i64 k,.string t,.string n,.string a,.slice A1 n1 c1',.pointer p,.slice A2 n2 c2'] 127))
  have HC2 := hid ((BoxAt.setOther HC.out ⟨rb,1,none⟩ (.int .i64 (i : Nat)) (by show w.heap.size ≠ rb; omega)).alloc (.cells #[.string X,.int .i64 k,.string t,.string n,.string a,.slice A1 n1 c1',.pointer p,.slice A2 n2 c2'] 127))
  clear hv hv3 HV HV2
  go_wp2_with fail
  go_at_call 264
  refine HB.out.mono ?_
  rintro e w2 ⟨⟨h1,k',t',n',a',B1,m1,b1,p',B2,m2,b2,j',rfl,h2,hj',h3⟩,hz⟩
  have HK3 := hid (HK2.out.trans h1)
  have hc3 := BoxAt.kp HC2.out h1 (by omega)
  have hl3 := hc3.lt
  have HC3 := hid hc3
  have H22 := hid h2
  have H33 := hid h3
  have HZ := hid hz
  have hs1 := h1.size
  rw [World.size_alloc,hsz1] at hs1
  obtain ⟨q0,q1,q2,q3,q4,q5,q6,q7,p0,p1,p2,p3,p4,p5,p6,p7⟩ := cells8 hc3
  unfold exV
  clear h1 h2 h3 hz hc3 HB
  go_wp2
  refine end8w Tryz.results267 ((box_set8 HC3.out _ _ _ _ _ _ _ _).alloc _) rfl rfl rfl ⟨(HK3.out.set8 (Nat.le_refl _) hlt _ _ _ _ _ _ _ _).alloc (by rw [set8_size]; omega) _,E0,k',t',n',a',B1,m1,b1,p',B2,m2,b2,j',by rw [Hv.out]; rfl,(H22.out.set8 (by omega) _ _ _ _ _ _ _ _).alloc _,hj',fun h => ?_,fun x y z h => ?_⟩
  ·have hr0 : q = none := by
    have := Hv.out
    rw [h] at this
    cases q with
    | none => rfl
    | some p => cases this
   have h1 := HZ.out hr0
   simp [exV] at h1
   exact h1.1.1
  ·obtain ⟨rfl,hr0⟩ := Hv3.out x y z h
   obtain ⟨h4,h5⟩ := H33.out y z hr0
   refine ⟨rfl,h4,ExF.carry (fun z hq => ?_) _ _ h5⟩
   obtain ⟨hq1,hq2⟩ := hq
   rw [World.size_alloc,hsz1] at hq1
   have hq3 : z < (set8 w2 w.heap.size (.string E0) (.int .i64 k') (.string t') (.string n') (.string a') (.slice B1 m1 b1) (.pointer p') (.slice B2 m2 b2)).heap.size := by rw [set8_size]; exact hq2
   exact ⟨⟨by omega,by rw [World.size_alloc]; exact Nat.lt_succ_of_lt hq3⟩,(Lib.alloc_old _ _ z hq3).trans (set8_heap _ _ _ _ _ _ _ _ _ _ z (by omega))⟩
theorem AsAt.at2 {W : World} : ∀ {l : List AR} {b o : Nat} (j : Nat) {n : ByteArray} {e : EX},AsAt W l b o -> l[j]? = some (.mk n e) ->
  b < W.heap.size /\ W.cell? ⟨b,o + j * 8,none⟩ = some (.string n) /\ ∃ c,CellsAt W b (o + j * 8 + 1) c /\ ExAt W e c
 | [],b,o,j,n,e,h,hj => by simp at hj
 | .mk n' e' :: r,b,o,0,n,e,h,hj => by
  rw [AsAt] at h
  simp at hj
  obtain ⟨rfl,rfl⟩ := hj
  obtain ⟨h0,h1,h2,_⟩ := h
  exact ⟨h0,by simpa using h1,by simpa using h2⟩
 | .mk n' e' :: r,b,o,j + 1,n,e,h,hj => by
  rw [AsAt] at h
  have := AsAt.at2 j h.2.2.2 (by simpa using hj)
  rw [show o + (j + 1) * 8 = o + 8 + j * 8 by omega]
  exact this
theorem VsAt.at2 {W : World} : ∀ {l : List VA} {b o : Nat} (j : Nat) {n : ByteArray} {d : Bool} {v : List EL},VsAt W l b o -> l[j]? = some (.mk n d v) ->
  b < W.heap.size /\ W.cell? ⟨b,o + j * 3,none⟩ = some (.string n) /\ W.cell? ⟨b,o + j * 3 + 1,none⟩ = some (.bool d) /\ ∃ u,W.cell? ⟨b,o + j * 3 + 2,none⟩ = some u /\ PatAt W v u
 | [],b,o,j,n,d,v,h,hj => by simp at hj
 | .mk n' d' v' :: r,b,o,0,n,d,v,h,hj => by
  rw [VsAt] at h
  simp at hj
  obtain ⟨rfl,rfl,rfl⟩ := hj
  obtain ⟨h0,h1,h2,h3,_⟩ := h
  exact ⟨h0,by simpa using h1,by simpa using h2,by obtain ⟨u,h3,h4⟩ := h3; exact ⟨u,by simpa using h3,h4⟩⟩
 | .mk n' d' v' :: r,b,o,j + 1,n,d,v,h,hj => by
  rw [VsAt] at h
  have := VsAt.at2 j h.2.2.2.2 (by simpa using hj)
  rw [show o + (j + 1) * 3 = o + 3 + j * 3 by omega]
  exact this
theorem arg_at2 {W : World} {l : List AR} {A : Option Addr} {q : Nat} (h : LieAt (AsAt W l) (.slice A l.length q) l.length) {i : Nat} (hi : i < l.length) : ∃ b o,A = some ⟨b,o,none⟩ /\ b < W.heap.size /\
  ∀ j n e,l[j]? = some (.mk n e) -> W.cell? ⟨b,o + j * 8,none⟩ = some (.string n) /\ ∃ c,CellsAt W b (o + j * 8 + 1) c /\ ExAt W e c := by
 obtain ⟨A',c,e,_,_,h2⟩ := h
 simp only [Value.slice.injEq] at e
 obtain ⟨rfl,_,rfl⟩ := e
 obtain ⟨b,o,rfl,h3⟩ := h2 (by omega)
 have h0 : l[0]? = some l[0] := List.getElem?_eq_getElem (by omega)
 refine ⟨b,o,rfl,?_,fun j n e hj => ⟨(h3.at2 j hj).2.1,(h3.at2 j hj).2.2⟩⟩
 cases e : l[0]'(by omega) with
 | mk n e' => rw [e] at h0; exact (h3.at2 0 h0).1
theorem var_at2 {W : World} {l : List VA} {A : Option Addr} {q : Nat} (h : LieAt (VsAt W l) (.slice A l.length q) l.length) {i : Nat} (hi : i < l.length) : ∃ b o,A = some ⟨b,o,none⟩ /\ b < W.heap.size /\
  ∀ j n d v,l[j]? = some (.mk n d v) -> W.cell? ⟨b,o + j * 3,none⟩ = some (.string n) /\ W.cell? ⟨b,o + j * 3 + 1,none⟩ = some (.bool d) /\ ∃ u,W.cell? ⟨b,o + j * 3 + 2,none⟩ = some u /\ PatAt W v u := by
 obtain ⟨A',c,e,_,_,h2⟩ := h
 simp only [Value.slice.injEq] at e
 obtain ⟨rfl,_,rfl⟩ := e
 obtain ⟨b,o,rfl,h3⟩ := h2 (by omega)
 have h0 : l[0]? = some l[0] := List.getElem?_eq_getElem (by omega)
 refine ⟨b,o,rfl,?_,fun j n d v hj => ⟨(h3.at2 j hj).2.1,(h3.at2 j hj).2.2.1,(h3.at2 j hj).2.2.2⟩⟩
 cases e : l[0]'(by omega) with
 | mk n d v => rw [e] at h0; exact (h3.at2 0 h0).1
theorem ex_open {W : World} {k : Int} {t n a : ByteArray} {al : List AR} {i : Option EX} {vs : List VA} {c : C7} (h : ExAt W (.mk k t n a al i vs) c) : ∃ (A : Option Addr) (q : Nat) (p : Option Addr) (B : Option Addr) (r : Nat),
  c = ⟨.int .i64 k,.string t,.string n,.string a,.slice A al.length q,.pointer p,.slice B vs.length r⟩ /\ LieAt (AsAt W al) (.slice A al.length q) al.length /\ OAt W i (.pointer p) /\ LieAt (VsAt W vs) (.slice B vs.length r) vs.length := by
 obtain ⟨ck,ct,cn,ca,cal,ci,cvs⟩ := c
 rw [ExAt] at h
 obtain ⟨e1,e2,e3,e4,h5,h6,h7⟩ := h
 dsimp only at e1 e2 e3 e4 h5 h6 h7
 subst e1 e2 e3 e4
 obtain ⟨A,q,rfl,r5⟩ := h5
 obtain ⟨B,r,rfl,r7⟩ := h7
 obtain ⟨p,rfl⟩ : ∃ p,ci = .pointer p := by
  cases i with
  | none => simp only [OAt] at h6; exact ⟨_,h6⟩
  | some e => simp only [OAt] at h6; obtain ⟨b,o,c,h,_⟩ := h6; exact ⟨_,h⟩
 exact ⟨A,q,p,B,r,rfl,⟨A,q,rfl,r5⟩,h6,⟨B,r,rfl,r7⟩⟩
theorem len_As : ∀ l : List AR,l.length <= sizeAs l
 | [] => Nat.zero_le _
 | .mk n (.mk k t m a al i vs) :: r => by have := len_As r; rw [sizeAs,EX.size,List.length_cons]; omega
theorem len_Vs : ∀ l : List VA,l.length <= sizeVs l
 | [] => Nat.zero_le _
 | .mk n d v :: r => by have := len_Vs r; rw [sizeVs,List.length_cons]; omega
theorem len_Es : ∀ l : List EL,l.length <= sizeEs l
 | [] => Nat.zero_le _
 | .mk t p :: r => by have := len_Es r; rw [sizeEs,List.length_cons]; omega
theorem mem_As : ∀ {l : List AR} {n : ByteArray} {e : EX},AR.mk n e ∈ l -> e.size <= sizeAs l
 | .mk n' e' :: r,n,e,h => by
  rw [sizeAs]
  rcases List.mem_cons.1 h with h | h
  ·cases h; omega
  ·have := mem_As h; omega
theorem mem_Es : ∀ {l : List EL} {t : ByteArray} {e : EX},EL.mk t (some e) ∈ l -> e.size <= sizeEs l
 | .mk t' p' :: r,t,e,h => by
  rw [sizeEs]
  rcases List.mem_cons.1 h with h | h
  ·cases h; rw [sizeO]; omega
  ·have := mem_Es h; omega
theorem mem_Vs : ∀ {l : List VA} {n : ByteArray} {d : Bool} {v : List EL},VA.mk n d v ∈ l -> sizeEs v <= sizeVs l
 | .mk n' d' v' :: r,n,d,v,h => by
  rw [sizeVs]
  rcases List.mem_cons.1 h with h | h
  ·cases h; omega
  ·have := mem_Vs h; omega
set_option maxHeartbeats 16000000 in
set_option maxRecDepth 1000000 in
theorem same_no {W0 : World} (k : Int) (t n a : ByteArray) (al : List AR) (vs : List VA) (hal : al.length <= 8000000) (hvs : vs.length <= 8000000) (hS : ∀ n e,AR.mk n e ∈ al -> SameTo W0 e) (hP : ∀ n d v,VA.mk n d v ∈ vs -> v.length <= 8000000 /\ ∀ t e,EL.mk t (some e) ∈ v -> SameTo W0 e)
  (A1 : Option Addr) (q1 : Nat) (B1 : Option Addr) (r1 : Nat) (A2 : Option Addr) (q2 : Nat) (B2 : Option Addr) (r2 : Nat)
  (h1 : LieAt (AsAt W0 al) (.slice A1 al.length q1) al.length) (h2 : LieAt (AsAt W0 al) (.slice A2 al.length q2) al.length) (g1 : LieAt (VsAt W0 vs) (.slice B1 vs.length r1) vs.length) (g2 : LieAt (VsAt W0 vs) (.slice B2 vs.length r2) vs.length) (w : World) (hb : Below W0.heap.size W0 w) :
  Calls Tryz.prog 45 #[.agg #[.int .i64 k,.string t,.string n,.string a,.slice A1 al.length q1,.pointer none,.slice B1 vs.length r1],.agg #[.int .i64 k,.string t,.string n,.string a,.slice A2 al.length q2,.pointer none,.slice B2 vs.length r2]] w fun e w' => e = .returned (.bool true) /\ Below w.heap.size w w' := by
 have hA1 := fun i (hi : i < al.length) => arg_at2 h1 hi
 have hA2 := fun i (hi : i < al.length) => arg_at2 h2 hi
 have hV1 := fun i (hi : i < vs.length) => var_at2 g1 hi
 have hV2 := fun i (hi : i < vs.length) => var_at2 g2 hi
 have HA1 := hid hA1
 have HA2 := hid hA2
 have HV1 := hid hV1
 have HV2 := hid hV2
 have HS := hid hS
 have HP := hid hP
 have HB := hid hb
 have hal0 : (al.length : Int) <= 8000000 := by omega
 have hvs0 : (vs.length : Int) <= 8000000 := by omega
 have z1 : (t.toList != t.toList) = false := bne_self_eq_false _
 have z2 : (n.toList != n.toList) = false := bne_self_eq_false _
 have z3 : (a.toList != a.toList) = false := bne_self_eq_false _
 have z4 : (k != k) = false := bne_self_eq_false _
 have hbox1 : BoxAt ((w.alloc (.cells #[.int .i64 k,.string t,.string n,.string a,.slice A1 al.length q1,.pointer none,.slice B1 vs.length r1] 48)).alloc (.cells #[.int .i64 k,.string t,.string n,.string a,.slice A2 al.length q2,.pointer none,.slice B2 vs.length r2] 48)) w.heap.size #[.int .i64 k,.string t,.string n,.string a,.slice A1 al.length q1,.pointer none,.slice B1 vs.length r1] 48 := (BoxAt.new _ _ _).alloc _
 have hbox2 : BoxAt ((w.alloc (.cells #[.int .i64 k,.string t,.string n,.string a,.slice A1 al.length q1,.pointer none,.slice B1 vs.length r1] 48)).alloc (.cells #[.int .i64 k,.string t,.string n,.string a,.slice A2 al.length q2,.pointer none,.slice B2 vs.length r2] 48)) (w.heap.size + 1) #[.int .i64 k,.string t,.string n,.string a,.slice A2 al.length q2,.pointer none,.slice B2 vs.length r2] 48 := BoxAt.new' _ _ _ _ (by simp)
 have Hbox1 := hid hbox1
 have Hbox2 := hid hbox2
 clear hA1 hA2 hV1 hV2 hS hP hb h1 h2 g1 g2 hbox1 hbox2
 go_enter Tryz.func45,Tryz.ntmps45
 go_wp2
 go_loopw [65] (fun t65 wr => ∃ i : Nat,t65 = .int .i64 i /\ i <= al.length /\ Hid (Below w.heap.size w wr) /\ Hid (BoxAt wr w.heap.size #[.int .i64 k,.string t,.string n,.string a,.slice A1 al.length q1,.pointer none,.slice B1 vs.length r1] 48) /\ Hid (BoxAt wr (w.heap.size + 1) #[.int .i64 k,.string t,.string n,.string a,.slice A2 al.length q2,.pointer none,.slice B2 vs.length r2] 48)) (fun t65 _ => al.length - (intOf t65).toNat)
 case atStart => exact ⟨0,rfl,Nat.zero_le _,((Below.refl _ _).alloc (Nat.le_refl _) _).alloc (by simp) _,Hbox1,Hbox2⟩
 case round =>
  obtain ⟨i,rfl,hi,HBel,HX1,HX2⟩ := hrel
  have hi0 : (i : Int) <= 8000000 := by omega
  have hxl1 := HX1.out.lt
  have hxl2 := HX2.out.lt
  have b14 := HX1.out.cell 4
  have b24 := HX2.out.cell 4
  simp at b14 b24
  by_cases hlt : i < al.length
  ·have d1 : decide ((i : Int) < (al.length : Int)) = true := decide_eq_true (by omega)
   have d2 : (i : Int) < (al.length : Int) := by omega
   obtain ⟨b1,o1,rfl,hb1,g1⟩ := HA1.out i hlt
   obtain ⟨b2,o2,rfl,hb2,g2⟩ := HA2.out i hlt
   have hli : al[i]? = some al[i] := List.getElem?_eq_getElem hlt
   have hmem : al[i] ∈ al := List.getElem_mem hlt
   obtain ⟨m,e,hx⟩ : ∃ m e,al[i] = AR.mk m e := by cases h : al[i]; exact ⟨_,_,rfl⟩
   rw [hx] at hli hmem
   obtain ⟨s1,k1,hk1,hE1⟩ := g1 i m e hli
   obtain ⟨s2,k2,hk2,hE2⟩ := g2 i m e hli
   have hSm := HS.out m e hmem
   have hcell : ∀ (b o : Nat) v,b < W0.heap.size -> W0.cell? ⟨b,o,none⟩ = some v -> wr.cell? ⟨b,o,none⟩ = some v := fun b o v hb h =>
    (HBel.out.cell (p := ⟨b,o,none⟩) (Nat.lt_of_lt_of_le hb HB.out.size)).trans ((HB.out.cell (p := ⟨b,o,none⟩) hb).trans h)
   have e1 := hcell _ _ _ hb1 s1
   have e2 := hcell _ _ _ hb2 s2
   have hbw1 : b1 < wr.heap.size := Nat.lt_of_lt_of_le hb1 (Nat.le_trans HB.out.size HBel.out.size)
   have hbw2 : b2 < wr.heap.size := Nat.lt_of_lt_of_le hb2 (Nat.le_trans HB.out.size HBel.out.size)
   have zm : (m.toList != m.toList) = false := bne_self_eq_false _
   obtain ⟨k1k,k1t,k1n,k1a,k1A,k1m,k1q,k1p,k1B,k1r,k1s,rfl⟩ := ex_shape hE1
   obtain ⟨k2k,k2t,k2n,k2a,k2A,k2m,k2q,k2p,k2B,k2r,k2s,rfl⟩ := ex_shape hE2
   obtain ⟨f0,f1,f2,f3,f4,f5,f6⟩ := hk1
   obtain ⟨g0,g1,g2,g3,g4,g5,g6⟩ := hk2
   dsimp only at f0 f1 f2 f3 f4 f5 f6 g0 g1 g2 g3 g4 g5 g6
   have F0 : wr.cell? ⟨b1,o1 + i * 8 + 1,none⟩ = some (.int .i64 k1k) := hcell _ _ _ hb1 f0
   have F1 : wr.cell? ⟨b1,o1 + i * 8 + 2,none⟩ = some (.string k1t) := hcell _ _ _ hb1 f1
   have F2 : wr.cell? ⟨b1,o1 + i * 8 + 3,none⟩ = some (.string k1n) := hcell _ _ _ hb1 f2
   have F3 : wr.cell? ⟨b1,o1 + i * 8 + 4,none⟩ = some (.string k1a) := hcell _ _ _ hb1 f3
   have F4 : wr.cell? ⟨b1,o1 + i * 8 + 5,none⟩ = some (.slice k1A k1m k1q) := hcell _ _ _ hb1 f4
   have F5 : wr.cell? ⟨b1,o1 + i * 8 + 6,none⟩ = some (.pointer k1p) := hcell _ _ _ hb1 f5
   have F6 : wr.cell? ⟨b1,o1 + i * 8 + 7,none⟩ = some (.slice k1B k1r k1s) := hcell _ _ _ hb1 f6
   have G0 : wr.cell? ⟨b2,o2 + i * 8 + 1,none⟩ = some (.int .i64 k2k) := hcell _ _ _ hb2 g0
   have G1 : wr.cell? ⟨b2,o2 + i * 8 + 2,none⟩ = some (.string k2t) := hcell _ _ _ hb2 g1
   have G2 : wr.cell? ⟨b2,o2 + i * 8 + 3,none⟩ = some (.string k2n) := hcell _ _ _ hb2 g2
   have G3 : wr.cell? ⟨b2,o2 + i * 8 + 4,none⟩ = some (.string k2a) := hcell _ _ _ hb2 g3
   have G4 : wr.cell? ⟨b2,o2 + i * 8 + 5,none⟩ = some (.slice k2A k2m k2q) := hcell _ _ _ hb2 g4
   have G5 : wr.cell? ⟨b2,o2 + i * 8 + 6,none⟩ = some (.pointer k2p) := hcell _ _ _ hb2 g5
   have G6 : wr.cell? ⟨b2,o2 + i * 8 + 7,none⟩ = some (.slice k2B k2r k2s) := hcell _ _ _ hb2 g6
   have hC0 := fun W hB => hSm W _ _ hB hE1 hE2
   dsimp only [C7.arr] at hC0
   have hC : ∀ W : World,W.cell? ⟨w.heap.size,4,none⟩ = some (.slice (some ⟨b1,o1,none⟩) al.length q1) /\ W.cell? ⟨w.heap.size + 1,4,none⟩ = some (.slice (some ⟨b2,o2,none⟩) al.length q2) /\ W.cell? ⟨b1,o1 + i * 8,none⟩ = some (.string m) /\ W.cell? ⟨b2,o2 + i * 8,none⟩ = some (.string m) /\ W.cell? ⟨b1,o1 + i * 8 + 1,none⟩ = some (.int .i64 k1k) /\ W.cell? ⟨b1,o1 + i * 8 + 2,none⟩ = some (.string k1t) /\ W.cell? ⟨b1,o1 + i * 8 + 3,none⟩ = some (.string k1n) /\ W.cell? ⟨b1,o1 + i * 8 + 4,none⟩ = some (.string k1a) /\ W.cell? ⟨b1,o1 + i * 8 + 5,none⟩ = some (.slice k1A k1m k1q) /\ W.cell? ⟨b1,o1 + i * 8 + 6,none⟩ = some (.pointer k1p) /\ W.cell? ⟨b1,o1 + i * 8 + 7,none⟩ = some (.slice k1B k1r k1s) /\ W.cell? ⟨b2,o2 + i * 8 + 1,none⟩ = some (.int .i64 k2k) /\ W.cell? ⟨b2,o2 + i * 8 + 2,none⟩ = some (.string k2t) /\ W.cell? ⟨b2,o2 + i * 8 + 3,none⟩ = some (.string k2n) /\ W.cell? ⟨b2,o2 + i * 8 + 4,none⟩ = some (.string k2a) /\ W.cell? ⟨b2,o2 + i * 8 + 5,none⟩ = some (.slice k2A k2m k2q) /\ W.cell? ⟨b2,o2 + i * 8 + 6,none⟩ = some (.pointer k2p) /\ W.cell? ⟨b2,o2 + i * 8 + 7,none⟩ = some (.slice k2B k2r k2s) /\ Below wr.heap.size wr W -> Calls Tryz.prog 45 #[.agg #[.int .i64 k1k,.string k1t,.string k1n,.string k1a,.slice k1A k1m k1q,.pointer k1p,.slice k1B k1r k1s],.agg #[.int .i64 k2k,.string k2t,.string k2n,.string k2a,.slice k2A k2m k2q,.pointer k2p,.slice k2B k2r k2s]] W fun e w' => e = .returned (.bool true) /\ Below W.heap.size W w' := fun W h => hC0 W ((HB.out.trans (HBel.out.mono HB.out.size)).trans (h.2.2.2.2.2.2.2.2.2.2.2.2.2.2.2.2.2.2.mono (Nat.le_trans HB.out.size HBel.out.size)))
   have hK : ∀ W W' : World,(W.cell? ⟨w.heap.size,4,none⟩ = some (.slice (some ⟨b1,o1,none⟩) al.length q1) /\ W.cell? ⟨w.heap.size + 1,4,none⟩ = some (.slice (some ⟨b2,o2,none⟩) al.length q2) /\ W.cell? ⟨b1,o1 + i * 8,none⟩ = some (.string m) /\ W.cell? ⟨b2,o2 + i * 8,none⟩ = some (.string m) /\ W.cell? ⟨b1,o1 + i * 8 + 1,none⟩ = some (.int .i64 k1k) /\ W.cell? ⟨b1,o1 + i * 8 + 2,none⟩ = some (.string k1t) /\ W.cell? ⟨b1,o1 + i * 8 + 3,none⟩ = some (.string k1n) /\ W.cell? ⟨b1,o1 + i * 8 + 4,none⟩ = some (.string k1a) /\ W.cell? ⟨b1,o1 + i * 8 + 5,none⟩ = some (.slice k1A k1m k1q) /\ W.cell? ⟨b1,o1 + i * 8 + 6,none⟩ = some (.pointer k1p) /\ W.cell? ⟨b1,o1 + i * 8 + 7,none⟩ = some (.slice k1B k1r k1s) /\ W.cell? ⟨b2,o2 + i * 8 + 1,none⟩ = some (.int .i64 k2k) /\ W.cell? ⟨b2,o2 + i * 8 + 2,none⟩ = some (.string k2t) /\ W.cell? ⟨b2,o2 + i * 8 + 3,none⟩ = some (.string k2n) /\ W.cell? ⟨b2,o2 + i * 8 + 4,none⟩ = some (.string k2a) /\ W.cell? ⟨b2,o2 + i * 8 + 5,none⟩ = some (.slice k2A k2m k2q) /\ W.cell? ⟨b2,o2 + i * 8 + 6,none⟩ = some (.pointer k2p) /\ W.cell? ⟨b2,o2 + i * 8 + 7,none⟩ = some (.slice k2B k2r k2s) /\ Below wr.heap.size wr W) -> Below W.heap.size W W' -> W'.cell? ⟨w.heap.size,4,none⟩ = some (.slice (some ⟨b1,o1,none⟩) al.length q1) /\ W'.cell? ⟨w.heap.size + 1,4,none⟩ = some (.slice (some ⟨b2,o2,none⟩) al.length q2) /\ W'.cell? ⟨b1,o1 + i * 8,none⟩ = some (.string m) /\ W'.cell? ⟨b2,o2 + i * 8,none⟩ = some (.string m) /\ W'.cell? ⟨b1,o1 + i * 8 + 1,none⟩ = some (.int .i64 k1k) /\ W'.cell? ⟨b1,o1 + i * 8 + 2,none⟩ = some (.string k1t) /\ W'.cell? ⟨b1,o1 + i * 8 + 3,none⟩ = some (.string k1n) /\ W'.cell? ⟨b1,o1 + i * 8 + 4,none⟩ = some (.string k1a) /\ W'.cell? ⟨b1,o1 + i * 8 + 5,none⟩ = some (.slice k1A k1m k1q) /\ W'.cell? ⟨b1,o1 + i * 8 + 6,none⟩ = some (.pointer k1p) /\ W'.cell? ⟨b1,o1 + i * 8 + 7,none⟩ = some (.slice k1B k1r k1s) /\ W'.cell? ⟨b2,o2 + i * 8 + 1,none⟩ = some (.int .i64 k2k) /\ W'.cell? ⟨b2,o2 + i * 8 + 2,none⟩ = some (.string k2t) /\ W'.cell? ⟨b2,o2 + i * 8 + 3,none⟩ = some (.string k2n) /\ W'.cell? ⟨b2,o2 + i * 8 + 4,none⟩ = some (.string k2a) /\ W'.cell? ⟨b2,o2 + i * 8 + 5,none⟩ = some (.slice k2A k2m k2q) /\ W'.cell? ⟨b2,o2 + i * 8 + 6,none⟩ = some (.pointer k2p) /\ W'.cell? ⟨b2,o2 + i * 8 + 7,none⟩ = some (.slice k2B k2r k2s) /\ Below wr.heap.size wr W' := fun W W' ⟨a0,a1,a2,a3,a4,a5,a6,a7,a8,a9,a10,a11,a12,a13,a14,a15,a16,a17,hB⟩ hb =>
    ⟨cell_under hb a0,cell_under hb a1,cell_under hb a2,cell_under hb a3,cell_under hb a4,cell_under hb a5,cell_under hb a6,cell_under hb a7,cell_under hb a8,cell_under hb a9,cell_under hb a10,cell_under hb a11,cell_under hb a12,cell_under hb a13,cell_under hb a14,cell_under hb a15,cell_under hb a16,cell_under hb a17,hB.trans (hb.mono hB.size)⟩
   have hS0 : wr.drew.cell? ⟨w.heap.size,4,none⟩ = some (.slice (some ⟨b1,o1,none⟩) al.length q1) /\ wr.drew.cell? ⟨w.heap.size + 1,4,none⟩ = some (.slice (some ⟨b2,o2,none⟩) al.length q2) /\ wr.drew.cell? ⟨b1,o1 + i * 8,none⟩ = some (.string m) /\ wr.drew.cell? ⟨b2,o2 + i * 8,none⟩ = some (.string m) /\ wr.drew.cell? ⟨b1,o1 + i * 8 + 1,none⟩ = some (.int .i64 k1k) /\ wr.drew.cell? ⟨b1,o1 + i * 8 + 2,none⟩ = some (.string k1t) /\ wr.drew.cell? ⟨b1,o1 + i * 8 + 3,none⟩ = some (.string k1n) /\ wr.drew.cell? ⟨b1,o1 + i * 8 + 4,none⟩ = some (.string k1a) /\ wr.drew.cell? ⟨b1,o1 + i * 8 + 5,none⟩ = some (.slice k1A k1m k1q) /\ wr.drew.cell? ⟨b1,o1 + i * 8 + 6,none⟩ = some (.pointer k1p) /\ wr.drew.cell? ⟨b1,o1 + i * 8 + 7,none⟩ = some (.slice k1B k1r k1s) /\ wr.drew.cell? ⟨b2,o2 + i * 8 + 1,none⟩ = some (.int .i64 k2k) /\ wr.drew.cell? ⟨b2,o2 + i * 8 + 2,none⟩ = some (.string k2t) /\ wr.drew.cell? ⟨b2,o2 + i * 8 + 3,none⟩ = some (.string k2n) /\ wr.drew.cell? ⟨b2,o2 + i * 8 + 4,none⟩ = some (.string k2a) /\ wr.drew.cell? ⟨b2,o2 + i * 8 + 5,none⟩ = some (.slice k2A k2m k2q) /\ wr.drew.cell? ⟨b2,o2 + i * 8 + 6,none⟩ = some (.pointer k2p) /\ wr.drew.cell? ⟨b2,o2 + i * 8 + 7,none⟩ = some (.slice k2B k2r k2s) /\ Below wr.heap.size wr wr.drew := ⟨b14,b24,e1,e2,F0,F1,F2,F3,F4,F5,F6,G0,G1,G2,G3,G4,G5,G6,(Below.refl _ _).drew⟩
   have HC := hid hC
   have HK := hid hK
   have HS0 := hid hS0
   clear hC hC0 hK hS0 f0 f1 f2 f3 f4 f5 f6 g0 g1 g2 g3 g4 g5 g6 hE1 hE2 hSm hcell hmem hli hx s1 s2 hb1 hb2
   go_wp2_with fail
   go_region_held3 (fun w' => w'.cell? ⟨w.heap.size,4,none⟩ = some (.slice (some ⟨b1,o1,none⟩) al.length q1) /\ w'.cell? ⟨w.heap.size + 1,4,none⟩ = some (.slice (some ⟨b2,o2,none⟩) al.length q2) /\ w'.cell? ⟨b1,o1 + i * 8,none⟩ = some (.string m) /\ w'.cell? ⟨b2,o2 + i * 8,none⟩ = some (.string m) /\ w'.cell? ⟨b1,o1 + i * 8 + 1,none⟩ = some (.int .i64 k1k) /\ w'.cell? ⟨b1,o1 + i * 8 + 2,none⟩ = some (.string k1t) /\ w'.cell? ⟨b1,o1 + i * 8 + 3,none⟩ = some (.string k1n) /\ w'.cell? ⟨b1,o1 + i * 8 + 4,none⟩ = some (.string k1a) /\ w'.cell? ⟨b1,o1 + i * 8 + 5,none⟩ = some (.slice k1A k1m k1q) /\ w'.cell? ⟨b1,o1 + i * 8 + 6,none⟩ = some (.pointer k1p) /\ w'.cell? ⟨b1,o1 + i * 8 + 7,none⟩ = some (.slice k1B k1r k1s) /\ w'.cell? ⟨b2,o2 + i * 8 + 1,none⟩ = some (.int .i64 k2k) /\ w'.cell? ⟨b2,o2 + i * 8 + 2,none⟩ = some (.string k2t) /\ w'.cell? ⟨b2,o2 + i * 8 + 3,none⟩ = some (.string k2n) /\ w'.cell? ⟨b2,o2 + i * 8 + 4,none⟩ = some (.string k2a) /\ w'.cell? ⟨b2,o2 + i * 8 + 5,none⟩ = some (.slice k2A k2m k2q) /\ w'.cell? ⟨b2,o2 + i * 8 + 6,none⟩ = some (.pointer k2p) /\ w'.cell? ⟨b2,o2 + i * 8 + 7,none⟩ = some (.slice k2B k2r k2s) /\ Below wr.heap.size wr w')
    (first | (exact HK.out _ _ (by assumption) (by assumption)) | (exact HS0.out) | go_keep)
    (first | (go_at_call 45; refine (HC.out _ (by assumption)).mono ?_; rintro e w' ⟨rfl,hb5⟩))
   rename_i hmE
   obtain ⟨_,_,_,_,_,_,_,_,_,_,_,_,_,_,_,_,_,_,hBE⟩ := hmE
   go_wp2_with fail
   refine ⟨⟨i + 1,by go_num,hlt,?_,?_,?_⟩,by simp [intOf]; omega⟩
   ·exact hid (HBel.out.trans (hBE.mono HBel.out.size))
   ·exact hid (HX1.out.later hBE)
   ·exact hid (HX2.out.later hBE)
  have d1 : decide ((i : Int) < (al.length : Int)) = false := decide_eq_false (by omega)
  have d2 : ¬ (i : Int) < (al.length : Int) := by omega
  have b16 := HX1.out.cell 6
  have b26 := HX2.out.cell 6
  simp at b16 b26
  go_wp2
  go_loopw [101] (fun t101 wr => ∃ i : Nat,t101 = .int .i64 i /\ i <= vs.length /\ Hid (Below w.heap.size w wr) /\ Hid (BoxAt wr w.heap.size #[.int .i64 k,.string t,.string n,.string a,.slice A1 al.length q1,.pointer none,.slice B1 vs.length r1] 48) /\ Hid (BoxAt wr (w.heap.size + 1) #[.int .i64 k,.string t,.string n,.string a,.slice A2 al.length q2,.pointer none,.slice B2 vs.length r2] 48)) (fun t101 _ => vs.length - (intOf t101).toNat)
  case atStart => exact ⟨0,rfl,Nat.zero_le _,HBel,HX1,HX2⟩
  case round =>
   clear b14 b24 b16 b26 hxl1 hxl2 HX1 HX2 HBel
   obtain ⟨v,rfl,hv,HBel,HX1,HX2⟩ := hrel
   have hv0 : (v : Int) <= 8000000 := by omega
   have hxl1 := HX1.out.lt
   have hxl2 := HX2.out.lt
   have b16 := HX1.out.cell 6
   have b26 := HX2.out.cell 6
   simp at b16 b26
   by_cases hlv : v < vs.length
   ·have d3 : decide ((v : Int) < (vs.length : Int)) = true := decide_eq_true (by omega)
    have d4 : (v : Int) < (vs.length : Int) := by omega
    obtain ⟨b1,o1,rfl,hb1,g1⟩ := HV1.out v hlv
    obtain ⟨b2,o2,rfl,hb2,g2⟩ := HV2.out v hlv
    have hli : vs[v]? = some vs[v] := List.getElem?_eq_getElem hlv
    have hmem : vs[v] ∈ vs := List.getElem_mem hlv
    obtain ⟨m,dd,pv,hx⟩ : ∃ m dd pv,vs[v] = VA.mk m dd pv := by cases h : vs[v]; exact ⟨_,_,_,rfl⟩
    rw [hx] at hli hmem
    obtain ⟨s1,s2,u1,s3,hp1⟩ := g1 v m dd pv hli
    obtain ⟨s4,s5,u2,s6,hp2⟩ := g2 v m dd pv hli
    obtain ⟨hpl,hps⟩ := HP.out m dd pv hmem
    have hcell : ∀ (b o : Nat) z,b < W0.heap.size -> W0.cell? ⟨b,o,none⟩ = some z -> wr.cell? ⟨b,o,none⟩ = some z := fun b o z hb h =>
     (HBel.out.cell (p := ⟨b,o,none⟩) (Nat.lt_of_lt_of_le hb HB.out.size)).trans ((HB.out.cell (p := ⟨b,o,none⟩) hb).trans h)
    have hPc := fun W (h : Below W0.heap.size W0 W) => pats_any pv hp1 hp2 hpl hps W h
    obtain ⟨U1,w1,rfl,_⟩ := hp1
    obtain ⟨U2,w2,rfl,_⟩ := hp2
    have e1 := hcell _ _ _ hb1 s1
    have e2 := hcell _ _ _ hb1 s2
    have e3 := hcell _ _ _ hb1 s3
    have e4 := hcell _ _ _ hb2 s4
    have e5 := hcell _ _ _ hb2 s5
    have e6 := hcell _ _ _ hb2 s6
    have hbq := Nat.le_trans HB.out.size HBel.out.size
    have hbw1 : b1 < wr.heap.size := Nat.lt_of_lt_of_le hb1 hbq
    have hbw2 : b2 < wr.heap.size := Nat.lt_of_lt_of_le hb2 hbq
    have zm : (m.toList != m.toList) = false := bne_self_eq_false _
    have zd : (dd != dd) = false := bne_self_eq_false _
    have HPc := hid hPc
    have hs0 := HBel.out.size
    clear hPc hcell hmem hli hx s1 s2 s3 s4 s5 s6 hb1 hb2 g1 g2 hps
    go_wp2_with fail
    go_at_call 26
    refine (HPc.out _ (((HB.out.trans (HBel.out.mono HB.out.size)).alloc hbq _).alloc (by simp; omega) _)).mono ?_
    rintro e w3 ⟨rfl,hb3⟩
    have hb4 := (((Below.refl wr.heap.size wr).alloc (Nat.le_refl _) _).alloc (by simp) _).trans (hb3.mono (by simp; omega))
    have HB4 := hid (HBel.out.trans (hb4.mono hs0))
    have HX14 := hid (HX1.out.later hb4)
    have HX24 := hid (HX2.out.later hb4)
    clear hb3 hb4
    go_wp2
    go_roundw
    case rel => exact ⟨v + 1,by go_num,hlv,HB4,HX14,HX24⟩
    case measure => simp [intOf]; omega
   have d3 : decide ((v : Int) < (vs.length : Int)) = false := decide_eq_false (by omega)
   have d4 : ¬ (v : Int) < (vs.length : Int) := by omega
   have b15 := HX1.out.cell 5
   have b25 := HX2.out.cell 5
   simp at b15 b25
   go_wp2_with fail
   go_region
   all_goals (go_wp2_with fail)
   go_ret
   exact ⟨rfl,HBel.out.drew⟩
end Go.Proofs.YtgdkpamlkpncgaaGreatDoor
