/-
  Several texts put together (part 22): what the law and the program call, walked; their contracts.
-/
import Derived.Test.YtgdkpamlkpncgaaGreatDoorR19
import Derived.Test.YtgdkpamlkpncgaaGreatDoorR18
namespace Go.Proofs.YtgdkpamlkpncgaaGreatDoor
open Go.RowKit
open _root_.Go.Lib (hid)
set_option linter.unusedVariables false
set_option linter.unusedSimpArgs false
def EnF (W : World) (F : Nat -> Prop) (x : EN) (v : Value) : Prop:=∃ (A : Option Addr) (c : Nat) (B : Option Addr) (d : Nat),v = entV x.ty x.lv x.tx x.nm (.slice A x.val.length c) (.slice B x.ats.length d) x.fr x.tu /\
 PatF W F x.val (.slice A x.val.length c) /\ AtsF W F x.ats (.slice B x.ats.length d)
theorem EnF.carry {W W' : World} {F F' : Nat -> Prop} (g : ∀ b,F b -> F' b /\ W'.heap[b]? = W.heap[b]?) {x : EN} {v : Value} (h : EnF W F x v) : EnF W' F' x v:=by
 obtain ⟨A,c,B,d,h1,h2,h3⟩:=h
 exact ⟨A,c,B,d,h1,h2.carry g,h3.carry g⟩
def GotE (s : ByteArray) (w : World) (r : Option EN) (e : Ending) (w' : World) : Prop :=
 Below w.heap.size w w' /\ ∃ (ty lv : Int) (tx nm : ByteArray) (A : Option Addr) (n c : Nat) (B : Option Addr) (m d : Nat) (fr tu : Int),e = .returned (.tuple #[entV ty lv tx nm (.slice A n c) (.slice B m d) fr tu,.bool r.isSome]) /\
  ∀ x,r = some x -> EnF w' (Since w.heap.size w') x (entV ty lv tx nm (.slice A n c) (.slice B m d) fr tu)
set_option maxRecDepth 100000 in
theorem res8e {fn : Func} {A M : Nat} {tmps : Array Value} {w : World} {b : Nat} {x0 x1 x2 x3 x4 x5 x6 x7 v : Value} {t : TypeId} (hres : fn.results = #[.cell A 34,.tmp M]) (ha : tmps.getD A undef = .pointer (some ⟨b,0,none⟩)) (hm : tmps.getD M undef = v)
  (hb : BoxAt w b #[x0,x1,x2,x3,x4,x5,x6,x7] t) : (results fn tmps).run Tryz.prog w = .ok (.tuple #[.agg #[x0,x1,x2,x3,x4,x5,x6,x7],v]) w:=by
 obtain ⟨q0,q1,q2,q3,q4,q5,q6,q7,_⟩:=cellsE hb
 have ha' : tmps[A]?.getD undef = .pointer (some ⟨b,0,none⟩):=by rw [<- ha]; simp
 have hm' : tmps[M]?.getD undef = v:=by rw [<- hm]; simp
 simp [results,hres,ha',hm',go_sem,q0,q1,q2,q3,q4,q5,q6,q7]
theorem end8e {fn : Func} {R : Ending -> World -> Prop} {a : Act} {w2 : World} {A M b : Nat} {x0 x1 x2 x3 x4 x5 x6 x7 v : Value} {t : TypeId} (hres : fn.results = #[.cell A 34,.tmp M]) (hbox : BoxAt w2 b #[x0,x1,x2,x3,x4,x5,x6,x7] t)
  (ha : a.tmps.getD A undef = .pointer (some ⟨b,0,none⟩)) (hm : a.tmps.getD M undef = v) (hd : a.defers = []) (hR : R (.returned (.tuple #[.agg #[x0,x1,x2,x3,x4,x5,x6,x7],v])) w2) : bodyPost Tryz.prog fn R .ret a w2 :=
 bodyPost_ret (res8e hres ha hm hbox) hd hR
theorem box_e34 {w : World} {E : Nat} {x0 x1 x2 x3 x4 x5 x6 x7 : Value} {t : TypeId} (h : BoxAt w E #[x0,x1,x2,x3,x4,x5,x6,x7] t) (y3 y4 : Value) :
  BoxAt ((w.setCell ⟨E,3,none⟩ y3).setCell ⟨E,4,none⟩ y4) E #[x0,x1,x2,y3,y4,x5,x6,x7] t:=by
 unfold BoxAt at h ⊢
 simp [World.setCell,Array.getElem?_modify,h]
theorem msg_car {w w2 : World} (a b x0 x1 x2 x3 x4 x5 x6 x7 : Value) : ∀ z,Since (w.heap.size + 2) w2 z -> Since w.heap.size (set8 ((w2.setCell ⟨w.heap.size + 1,5,none⟩ a).setCell ⟨w.heap.size + 1,7,none⟩ b) w.heap.size x0 x1 x2 x3 x4 x5 x6 x7) z /\
  (set8 ((w2.setCell ⟨w.heap.size + 1,5,none⟩ a).setCell ⟨w.heap.size + 1,7,none⟩ b) w.heap.size x0 x1 x2 x3 x4 x5 x6 x7).heap[z]? = w2.heap[z]?:=fun z hz=>by
 obtain ⟨z1,z2⟩:=hz
 refine ⟨⟨by omega,by rw [set8_size]; simpa using z2⟩,?_⟩
 rw [set8_heap _ _ _ _ _ _ _ _ _ _ z (by omega),Below.heap_setCell _ _ _ z (by show z ≠ w.heap.size + 1; omega),Below.heap_setCell _ _ _ z (by show z ≠ w.heap.size + 1; omega)]
set_option maxHeartbeats 4000000 in
set_option maxRecDepth 100000 in
theorem message_call {s : ByteArray} (hPC : PatCall s) (hs : s.size <= 1000000000) (i : Nat) (hi : i <= s.size) (w : World) : Calls Tryz.prog 42 #[.string s,.int .i64 i] w (GotE s w (msgS s i)):=by
 obtain ⟨R,hR⟩ : ∃ R,msgS s i = R:=⟨_,rfl⟩
 rw [hR]
 unfold msgS at hR
 have hx:=isAt_prefix s i 45 hi
 have hp:=fun W=>Tryz.strings_HasPrefix (s.extract i s.size) ⟨#[45]⟩ W
 rw [hx] at hp
 obtain ⟨b,hb⟩ : ∃ b,isAt s i 45 = b:=⟨_,rfl⟩
 have hq1 : b = true -> i + 1 <= s.size:=fun h=>isAt_lt (hb.trans h)
 rw [hb] at hp hR
 have HP:=hid hp
 have hi0 : (i : Int) <= 1000000000:=by omega
 have hss : (s.size : Int) <= 1000000000:=by omega
 obtain ⟨q,hq⟩ : ∃ q,(if b = true then i + 1 else i) = q:=⟨_,rfl⟩
 rw [hq] at hR
 have hqs : q <= s.size:=by
  cases b
  ·simp at hq; omega
  ·simp at hq; have:=hq1 rfl; omega
 have hN:=fun W=>named_call hPC hs q hqs W
 have hpos:=fun x l e h=>named_pos hqs (x:=x) (l:=l) (e:=e) h
 obtain ⟨r,hr⟩ : ∃ r,namedS s q = r:=⟨_,rfl⟩
 rw [hr] at hN hR hpos
 obtain ⟨ty,hty⟩ : ∃ ty : Int,(if b = true then 2 else 1) = ty:=⟨_,rfl⟩
 have hc0 : BoxAt ((w.alloc (.cells zEn 34)).alloc (.cells #[.int .i64 1,.int .i64 0,.string ⟨#[]⟩,.string ⟨#[]⟩,.slice none 0 0,.slice none 0 0,.int .i64 i,.int .i64 0] 34)) w.heap.size zEn 34:=(BoxAt.new w zEn 34).alloc _
 have hd0 : BoxAt ((w.alloc (.cells zEn 34)).alloc (.cells #[.int .i64 1,.int .i64 0,.string ⟨#[]⟩,.string ⟨#[]⟩,.slice none 0 0,.slice none 0 0,.int .i64 i,.int .i64 0] 34)) (w.heap.size + 1) #[.int .i64 1,.int .i64 0,.string ⟨#[]⟩,.string ⟨#[]⟩,.slice none 0 0,.slice none 0 0,.int .i64 i,.int .i64 0] 34:=BoxAt.new' _ _ _ _ (by simp)
 have HC0:=hid hc0
 have HD0:=hid hd0
 have HN:=hid hN
 have HR:=hid hR
 have Hpos:=hid hpos
 have HA:=hid (fun j W (h1 : 1 <= j) (hj : j <= s.size)=>attrs_call hPC hs j h1 hj W)
 have HBe:=hid (fun j W (hj : j <= s.size)=>behind_any s j (by omega) hj W)
 clear hp hx hb hc0 hd0 hN hR hpos hr hPC
 cases b
 case false =>
  obtain rfl : i = q:=by simpa using hq
  have hTy : ty = 1:=by rw [<- hty]; rfl
  subst hTy
  clear hq hty
  go_enter Tryz.func42,Tryz.ntmps42
  go_wp2_with fail
  go_at_call 65
  refine (HP.out _).mono ?_
  rintro e w1 ⟨rfl,rfl⟩
  go_wp2_with fail
  go_at_call 66
  refine (HN.out _).mono ?_
  rintro e w1 ⟨hb1,X,A,n,c,j,rfl,hj,hn4,h3⟩
  have HB1:=hid ((((Below.refl w.heap.size w).alloc (Nat.le_refl _) (.cells zEn 34)).alloc (by simp) (.cells #[.int .i64 1,.int .i64 0,.string ⟨#[]⟩,.string ⟨#[]⟩,.slice none 0 0,.slice none 0 0,.int .i64 i,.int .i64 0] 34)).trans (hb1.mono (by simp; omega)))
  have hc1:=BoxAt.later HC0.out hb1
  have hd1:=BoxAt.later HD0.out hb1
  have hs1:=hb1.size
  rw [World.size_alloc,World.size_alloc] at hs1
  have HC1:=hid hc1
  have HD1:=hid hd1
  obtain ⟨q0,q1,q2,q3,q4,q5,q6,q7,p0,p1,p2,p3,p4,p5,p6,p7⟩:=cellsE hd1
  obtain ⟨u0,u1,u2,u3,u4,u5,u6,u7,v0,v1,v2,v3,v4,v5,v6,v7⟩:=cellsE hc1
  have hl1:=hd1.lt
  have hlc:=hc1.lt
  have H3:=hid h3
  have hj0 : (j : Int) <= 1000000000:=by omega
  have hn0 : (n : Int) <= 4000000000:=by omega
  clear hb1 hc1 hd1 h3 HC0 HD0
  cases r with
  | none =>
   have hR:=HR.out
   dsimp only at hR
   subst hR
   go_wp2
   exact end8e Tryz.results42 ((box_set8 HC1.out _ _ _ _ _ _ _ _).alloc _) rfl rfl rfl ⟨(below_set8 HB1.out (Nat.le_refl _) _ _ _ _ _ _ _ _).alloc (by rw [set8_size]; omega) _,0,0,⟨#[]⟩,⟨#[]⟩,none,0,0,none,0,0,0,0,rfl,fun x h=>by cases h⟩
  | some v =>
   obtain ⟨x,l,e⟩:=v
   obtain ⟨rfl,rfl,rfl,hpat⟩:=H3.out x l e rfl
   obtain ⟨he1,he2⟩:=Hpos.out _ _ _ rfl
   have hAt:=fun W=>HA.out e W (by omega) he2
   have hR:=HR.out
   dsimp only at hR
   obtain ⟨RL,hRL⟩ : ∃ R,atsS s [] e = R:=⟨_,rfl⟩
   rw [hRL] at hAt hR
   obtain ⟨Lt,k⟩:=RL
   dsimp only at hAt hR
   have HAt:=hid hAt
   have HRl:=hid hR
   have HPat:=hid hpat
   clear hAt hR hRL hpat
   go_wp2_with fail
   go_region
   all_goals (go_wp2_with fail)
   go_at_call 67
   generalize hWA : World.drew (((w1.setCell ⟨w.heap.size + 1,3,none⟩ (.string x)).setCell ⟨w.heap.size + 1,4,none⟩ (.slice A l.length c)).alloc (.cells #[.string x,.slice A l.length c] 64)) = WA
   have hsz : WA.heap.size = w1.heap.size + 1:=by
    rw [<- hWA]
    show (World.alloc _ _).heap.size = _
    simp
   have hdA : BoxAt WA (w.heap.size + 1) #[.int .i64 1,.int .i64 0,.string ⟨#[]⟩,.string x,.slice A l.length c,.slice none 0 0,.int .i64 i,.int .i64 0] 34:=by
    rw [<- hWA]
    exact (box_e34 HD1.out (.string x) (.slice A l.length c)).alloc (.cells #[.string x,.slice A l.length c] 64)
   have hcA : BoxAt WA w.heap.size zEn 34:=by
    rw [<- hWA]
    exact ((HC1.out.setOther ⟨w.heap.size + 1,3,none⟩ (.string x) (by simp)).setOther ⟨w.heap.size + 1,4,none⟩ (.slice A l.length c) (by simp)).alloc (.cells #[.string x,.slice A l.length c] 64)
   have hbA : Below w.heap.size w WA:=by
    rw [<- hWA]
    exact (((HB1.out.setCell (p:=⟨w.heap.size + 1,3,none⟩) (by simp) (.string x)).setCell (p:=⟨w.heap.size + 1,4,none⟩) (by simp) (.slice A l.length c)).alloc (by simp; omega) (.cells #[.string x,.slice A l.length c] 64)).drew
   have hpA : PatF WA (Since (w.heap.size + 2) WA) l (.slice A l.length c):=PatF.carry (fun z hz=>by
    obtain ⟨z1,z2⟩:=hz
    rw [World.size_alloc,World.size_alloc] at z1
    refine ⟨⟨by omega,by omega⟩,?_⟩
    rw [<- hWA]
    refine (Lib.alloc_old _ _ z (by simpa using z2)).trans ?_
    rw [Below.heap_setCell _ _ _ z (by show z ≠ w.heap.size + 1; omega),Below.heap_setCell _ _ _ z (by show z ≠ w.heap.size + 1; omega)]) HPat.out
   clear hWA
   refine (HAt.out _).mono ?_
   rintro e2 w2 ⟨hb2,A2,n2,c2,rfl,hk,hek,hlen,hn2,hats⟩
   subst hlen
   have hd2:=BoxAt.later hdA hb2
   have hc2:=BoxAt.later hcA hb2
   have hs2:=hb2.size
   have HB2:=hid (hbA.trans (hb2.mono hbA.size))
   have HC2:=hid hc2
   have HD2:=hid hd2
   have HP2:=hid (PatF.carry (F':=Since (w.heap.size + 2) w2) (fun z hz=>⟨⟨hz.1,Nat.lt_of_lt_of_le hz.2 hs2⟩,hb2.block z hz.2⟩) hpA)
   have HA2:=hid (AtsF.carry (F':=Since (w.heap.size + 2) w2) (fun z hz=>⟨⟨by have:=hz.1; omega,hz.2⟩,rfl⟩) hats)
   have hBk:=fun W=>HBe.out k W hk
   obtain ⟨tu,htu⟩ : ∃ tu,beh s k = tu:=⟨_,rfl⟩
   have hR:=HRl.out
   rw [htu] at hBk hR
   have HBk:=hid hBk
   have HR3:=hid hR
   obtain ⟨r0,r1,r2,r3,r4,r5,r6,r7,f0,f1,f2,f3,f4,f5,f6,f7⟩:=cellsE hd2
   obtain ⟨m0,m1,m2,m3,m4,m5,m6,m7,g0,g1,g2,g3,g4,g5,g6,g7⟩:=cellsE hc2
   have hl2:=hd2.lt
   have hlc2:=hc2.lt
   have hk0 : (k : Int) <= 1000000000:=by omega
   have hn20 : (Lt.length : Int) <= 1000000000:=by omega
   clear hb2 hats hdA hcA hbA hpA hc2 hd2 hBk hR htu HRl HC1 HD1 HB1 HPat q0 q1 q2 q3 q4 q5 q6 q7 p0 p1 p2 p3 p4 p5 p6 p7 u0 u1 u2 u3 u4 u5 u6 u7 v0 v1 v2 v3 v4 v5 v6 v7
   go_wp2_with fail
   go_at_call 40
   refine (HBk.out _).mono ?_
   rintro e3 w3 ⟨rfl,rfl⟩
   have hfin : ∀ (W : World),(∀ z,Since (w.heap.size + 2) w2 z -> Since w.heap.size W z /\ W.heap[z]? = w2.heap[z]?) -> ∀ x',R = some x' -> EnF W (Since w.heap.size W) x' (entV 1 0 ⟨#[]⟩ x (.slice A l.length c) (.slice A2 Lt.length c2) i tu):=fun W g x' h=>by
    rw [<- HR3.out] at h
    split at h
    ·cases h
     exact ⟨A,c,A2,c2,rfl,HP2.out.carry g,HA2.out.carry g⟩
    ·cases h
   have Hfin:=hid hfin
   have hsome : R.isSome = (decide (0 < l.length) || decide (0 < Lt.length)):=by
    rw [<- HR3.out]
    cases l <;> cases Lt <;> simp
   have Hsome:=hid hsome
   clear hfin hsome HR3 HP2 HA2
   have hend : ∀ y5 y7 z0 z1 z2 z3 z4 z5 z6 z7,BoxAt (set8 ((w2.setCell ⟨w.heap.size + 1,5,none⟩ y5).setCell ⟨w.heap.size + 1,7,none⟩ y7) w.heap.size z0 z1 z2 z3 z4 z5 z6 z7) w.heap.size #[z0,z1,z2,z3,z4,z5,z6,z7] 34:=fun _ _ _ _ _ _ _ _ _ _=>box_set8 ((HC2.out.setOther ⟨w.heap.size + 1,5,none⟩ _ (by simp)).setOther ⟨w.heap.size + 1,7,none⟩ _ (by simp)) _ _ _ _ _ _ _ _
   have hbel : ∀ y5 y7 z0 z1 z2 z3 z4 z5 z6 z7,Below w.heap.size w (set8 ((w2.setCell ⟨w.heap.size + 1,5,none⟩ y5).setCell ⟨w.heap.size + 1,7,none⟩ y7) w.heap.size z0 z1 z2 z3 z4 z5 z6 z7):=fun _ _ _ _ _ _ _ _ _ _=>below_set8 ((HB2.out.setCell (p:=⟨w.heap.size + 1,5,none⟩) (by simp) _).setCell (p:=⟨w.heap.size + 1,7,none⟩) (by simp) _) (Nat.le_refl _) _ _ _ _ _ _ _ _
   have Hend:=hid hend
   have Hbel:=hid hbel
   clear hend hbel HC2 HD2 HB2
   by_cases hl0 : 0 < l.length
   ·have d1 : decide ((0 : Int) < (l.length : Int)) = true:=decide_eq_true (by omega)
    have d2 : (0 : Int) < (l.length : Int):=by omega
    by_cases hL0 : 0 < Lt.length
    ·have d3 : decide ((0 : Int) < (Lt.length : Int)) = true:=decide_eq_true (by omega)
     have d4 : (0 : Int) < (Lt.length : Int):=by omega
     go_wp2
     exact end8e Tryz.results42 (Hend.out _ _ _ _ _ _ _ _ _ _) rfl rfl rfl ⟨Hbel.out _ _ _ _ _ _ _ _ _ _,_,_,_,_,_,_,_,_,_,_,_,_,by rw [Hsome.out,decide_eq_true hl0]; rfl,Hfin.out _ (msg_car _ _ _ _ _ _ _ _ _ _)⟩
    ·have d3 : decide ((0 : Int) < (Lt.length : Int)) = false:=decide_eq_false (by omega)
     have d4 : ¬ (0 : Int) < (Lt.length : Int):=by omega
     go_wp2
     exact end8e Tryz.results42 (Hend.out _ _ _ _ _ _ _ _ _ _) rfl rfl rfl ⟨Hbel.out _ _ _ _ _ _ _ _ _ _,_,_,_,_,_,_,_,_,_,_,_,_,by rw [Hsome.out,decide_eq_true hl0]; rfl,Hfin.out _ (msg_car _ _ _ _ _ _ _ _ _ _)⟩
   ·have d1 : decide ((0 : Int) < (l.length : Int)) = false:=decide_eq_false (by omega)
    have d2 : ¬ (0 : Int) < (l.length : Int):=by omega
    by_cases hL0 : 0 < Lt.length
    ·have d3 : decide ((0 : Int) < (Lt.length : Int)) = true:=decide_eq_true (by omega)
     have d4 : (0 : Int) < (Lt.length : Int):=by omega
     go_wp2
     exact end8e Tryz.results42 (Hend.out _ _ _ _ _ _ _ _ _ _) rfl rfl rfl ⟨Hbel.out _ _ _ _ _ _ _ _ _ _,_,_,_,_,_,_,_,_,_,_,_,_,by rw [Hsome.out,decide_eq_false hl0,decide_eq_true hL0]; rfl,Hfin.out _ (msg_car _ _ _ _ _ _ _ _ _ _)⟩
    ·have d3 : decide ((0 : Int) < (Lt.length : Int)) = false:=decide_eq_false (by omega)
     have d4 : ¬ (0 : Int) < (Lt.length : Int):=by omega
     go_wp2
     exact end8e Tryz.results42 (Hend.out _ _ _ _ _ _ _ _ _ _) rfl rfl rfl ⟨Hbel.out _ _ _ _ _ _ _ _ _ _,_,_,_,_,_,_,_,_,_,_,_,_,by rw [Hsome.out,decide_eq_false hl0,decide_eq_false hL0]; rfl,Hfin.out _ (msg_car _ _ _ _ _ _ _ _ _ _)⟩
 case true =>
  obtain rfl : i + 1 = q:=by simpa using hq
  have hTy : ty = 2:=by rw [<- hty]; rfl
  subst hTy
  clear hq hty
  have hsi:=hq1 rfl
  have hN2:=HN.out
  rw [show ((i + 1 : Nat) : Int) = (i : Int) + 1 by omega] at hN2
  have HN2:=hid hN2
  have hc0b : BoxAt ((w.alloc (.cells zEn 34)).alloc (.cells #[.int .i64 2,.int .i64 0,.string ⟨#[]⟩,.string ⟨#[]⟩,.slice none 0 0,.slice none 0 0,.int .i64 i,.int .i64 0] 34)) w.heap.size zEn 34:=(BoxAt.new w zEn 34).alloc _
  have hd0b : BoxAt ((w.alloc (.cells zEn 34)).alloc (.cells #[.int .i64 2,.int .i64 0,.string ⟨#[]⟩,.string ⟨#[]⟩,.slice none 0 0,.slice none 0 0,.int .i64 i,.int .i64 0] 34)) (w.heap.size + 1) #[.int .i64 2,.int .i64 0,.string ⟨#[]⟩,.string ⟨#[]⟩,.slice none 0 0,.slice none 0 0,.int .i64 i,.int .i64 0] 34:=BoxAt.new' _ _ _ _ (by simp)
  have HC0b:=hid hc0b
  have HD0b:=hid hd0b
  clear hN2 hc0b hd0b HN HC0 HD0
  go_enter Tryz.func42,Tryz.ntmps42
  go_wp2_with fail
  go_at_call 65
  refine (HP.out _).mono ?_
  rintro e w1 ⟨rfl,rfl⟩
  go_wp2_with fail
  go_at_call 66
  refine (HN2.out _).mono ?_
  rintro e w1 ⟨hb1,X,A,n,c,j,rfl,hj,hn4,h3⟩
  have HB1:=hid ((((Below.refl w.heap.size w).alloc (Nat.le_refl _) (.cells zEn 34)).alloc (by simp) (.cells #[.int .i64 2,.int .i64 0,.string ⟨#[]⟩,.string ⟨#[]⟩,.slice none 0 0,.slice none 0 0,.int .i64 i,.int .i64 0] 34)).trans (hb1.mono (by simp; omega)))
  have hc1:=BoxAt.later HC0b.out hb1
  have hd1:=BoxAt.later HD0b.out hb1
  have hs1:=hb1.size
  rw [World.size_alloc,World.size_alloc] at hs1
  have HC1:=hid hc1
  have HD1:=hid hd1
  obtain ⟨q0,q1,q2,q3,q4,q5,q6,q7,p0,p1,p2,p3,p4,p5,p6,p7⟩:=cellsE hd1
  obtain ⟨u0,u1,u2,u3,u4,u5,u6,u7,v0,v1,v2,v3,v4,v5,v6,v7⟩:=cellsE hc1
  have hl1:=hd1.lt
  have hlc:=hc1.lt
  have H3:=hid h3
  have hj0 : (j : Int) <= 1000000000:=by omega
  have hn0 : (n : Int) <= 4000000000:=by omega
  clear hb1 hc1 hd1 h3 HC0b HD0b
  cases r with
  | none =>
   have hR:=HR.out
   dsimp only at hR
   subst hR
   go_wp2
   exact end8e Tryz.results42 ((box_set8 HC1.out _ _ _ _ _ _ _ _).alloc _) rfl rfl rfl ⟨(below_set8 HB1.out (Nat.le_refl _) _ _ _ _ _ _ _ _).alloc (by rw [set8_size]; omega) _,0,0,⟨#[]⟩,⟨#[]⟩,none,0,0,none,0,0,0,0,rfl,fun x h=>by cases h⟩
  | some v =>
   obtain ⟨x,l,e⟩:=v
   obtain ⟨rfl,rfl,rfl,hpat⟩:=H3.out x l e rfl
   obtain ⟨he1,he2⟩:=Hpos.out _ _ _ rfl
   have hAt:=fun W=>HA.out e W (by omega) he2
   have hR:=HR.out
   dsimp only at hR
   obtain ⟨RL,hRL⟩ : ∃ R,atsS s [] e = R:=⟨_,rfl⟩
   rw [hRL] at hAt hR
   obtain ⟨Lt,k⟩:=RL
   dsimp only at hAt hR
   have HAt:=hid hAt
   have HRl:=hid hR
   have HPat:=hid hpat
   clear hAt hR hRL hpat
   go_wp2_with fail
   go_region
   all_goals (go_wp2_with fail)
   go_at_call 67
   generalize hWA : World.drew (((w1.setCell ⟨w.heap.size + 1,3,none⟩ (.string x)).setCell ⟨w.heap.size + 1,4,none⟩ (.slice A l.length c)).alloc (.cells #[.string x,.slice A l.length c] 64)) = WA
   have hsz : WA.heap.size = w1.heap.size + 1:=by
    rw [<- hWA]
    show (World.alloc _ _).heap.size = _
    simp
   have hdA : BoxAt WA (w.heap.size + 1) #[.int .i64 2,.int .i64 0,.string ⟨#[]⟩,.string x,.slice A l.length c,.slice none 0 0,.int .i64 i,.int .i64 0] 34:=by
    rw [<- hWA]
    exact (box_e34 HD1.out (.string x) (.slice A l.length c)).alloc (.cells #[.string x,.slice A l.length c] 64)
   have hcA : BoxAt WA w.heap.size zEn 34:=by
    rw [<- hWA]
    exact ((HC1.out.setOther ⟨w.heap.size + 1,3,none⟩ (.string x) (by simp)).setOther ⟨w.heap.size + 1,4,none⟩ (.slice A l.length c) (by simp)).alloc (.cells #[.string x,.slice A l.length c] 64)
   have hbA : Below w.heap.size w WA:=by
    rw [<- hWA]
    exact (((HB1.out.setCell (p:=⟨w.heap.size + 1,3,none⟩) (by simp) (.string x)).setCell (p:=⟨w.heap.size + 1,4,none⟩) (by simp) (.slice A l.length c)).alloc (by simp; omega) (.cells #[.string x,.slice A l.length c] 64)).drew
   have hpA : PatF WA (Since (w.heap.size + 2) WA) l (.slice A l.length c):=PatF.carry (fun z hz=>by
    obtain ⟨z1,z2⟩:=hz
    rw [World.size_alloc,World.size_alloc] at z1
    refine ⟨⟨by omega,by omega⟩,?_⟩
    rw [<- hWA]
    refine (Lib.alloc_old _ _ z (by simpa using z2)).trans ?_
    rw [Below.heap_setCell _ _ _ z (by show z ≠ w.heap.size + 1; omega),Below.heap_setCell _ _ _ z (by show z ≠ w.heap.size + 1; omega)]) HPat.out
   clear hWA
   refine (HAt.out _).mono ?_
   rintro e2 w2 ⟨hb2,A2,n2,c2,rfl,hk,hek,hlen,hn2,hats⟩
   subst hlen
   have hd2:=BoxAt.later hdA hb2
   have hc2:=BoxAt.later hcA hb2
   have hs2:=hb2.size
   have HB2:=hid (hbA.trans (hb2.mono hbA.size))
   have HC2:=hid hc2
   have HD2:=hid hd2
   have HP2:=hid (PatF.carry (F':=Since (w.heap.size + 2) w2) (fun z hz=>⟨⟨hz.1,Nat.lt_of_lt_of_le hz.2 hs2⟩,hb2.block z hz.2⟩) hpA)
   have HA2:=hid (AtsF.carry (F':=Since (w.heap.size + 2) w2) (fun z hz=>⟨⟨by have:=hz.1; omega,hz.2⟩,rfl⟩) hats)
   have hBk:=fun W=>HBe.out k W hk
   obtain ⟨tu,htu⟩ : ∃ tu,beh s k = tu:=⟨_,rfl⟩
   have hR:=HRl.out
   rw [htu] at hBk hR
   have HBk:=hid hBk
   have HR3:=hid hR
   obtain ⟨r0,r1,r2,r3,r4,r5,r6,r7,f0,f1,f2,f3,f4,f5,f6,f7⟩:=cellsE hd2
   obtain ⟨m0,m1,m2,m3,m4,m5,m6,m7,g0,g1,g2,g3,g4,g5,g6,g7⟩:=cellsE hc2
   have hl2:=hd2.lt
   have hlc2:=hc2.lt
   have hk0 : (k : Int) <= 1000000000:=by omega
   have hn20 : (Lt.length : Int) <= 1000000000:=by omega
   clear hb2 hats hdA hcA hbA hpA hc2 hd2 hBk hR htu HRl HC1 HD1 HB1 HPat q0 q1 q2 q3 q4 q5 q6 q7 p0 p1 p2 p3 p4 p5 p6 p7 u0 u1 u2 u3 u4 u5 u6 u7 v0 v1 v2 v3 v4 v5 v6 v7
   go_wp2_with fail
   go_at_call 40
   refine (HBk.out _).mono ?_
   rintro e3 w3 ⟨rfl,rfl⟩
   have hfin : ∀ (W : World),(∀ z,Since (w.heap.size + 2) w2 z -> Since w.heap.size W z /\ W.heap[z]? = w2.heap[z]?) -> ∀ x',R = some x' -> EnF W (Since w.heap.size W) x' (entV 2 0 ⟨#[]⟩ x (.slice A l.length c) (.slice A2 Lt.length c2) i tu):=fun W g x' h=>by
    rw [<- HR3.out] at h
    split at h
    ·cases h
     exact ⟨A,c,A2,c2,rfl,HP2.out.carry g,HA2.out.carry g⟩
    ·cases h
   have Hfin:=hid hfin
   have hsome : R.isSome = decide (0 < l.length):=by
    rw [<- HR3.out]
    cases l <;> simp
   have Hsome:=hid hsome
   clear hfin hsome HR3 HP2 HA2
   have hend : ∀ y5 y7 z0 z1 z2 z3 z4 z5 z6 z7,BoxAt (set8 ((w2.setCell ⟨w.heap.size + 1,5,none⟩ y5).setCell ⟨w.heap.size + 1,7,none⟩ y7) w.heap.size z0 z1 z2 z3 z4 z5 z6 z7) w.heap.size #[z0,z1,z2,z3,z4,z5,z6,z7] 34:=fun _ _ _ _ _ _ _ _ _ _=>box_set8 ((HC2.out.setOther ⟨w.heap.size + 1,5,none⟩ _ (by simp)).setOther ⟨w.heap.size + 1,7,none⟩ _ (by simp)) _ _ _ _ _ _ _ _
   have hbel : ∀ y5 y7 z0 z1 z2 z3 z4 z5 z6 z7,Below w.heap.size w (set8 ((w2.setCell ⟨w.heap.size + 1,5,none⟩ y5).setCell ⟨w.heap.size + 1,7,none⟩ y7) w.heap.size z0 z1 z2 z3 z4 z5 z6 z7):=fun _ _ _ _ _ _ _ _ _ _=>below_set8 ((HB2.out.setCell (p:=⟨w.heap.size + 1,5,none⟩) (by simp) _).setCell (p:=⟨w.heap.size + 1,7,none⟩) (by simp) _) (Nat.le_refl _) _ _ _ _ _ _ _ _
   have Hend:=hid hend
   have Hbel:=hid hbel
   clear hend hbel HC2 HD2 HB2
   by_cases hl0 : 0 < l.length
   ·have d1 : decide ((0 : Int) < (l.length : Int)) = true:=decide_eq_true (by omega)
    have d2 : (0 : Int) < (l.length : Int):=by omega
    by_cases hL0 : 0 < Lt.length
    ·have d3 : decide ((0 : Int) < (Lt.length : Int)) = true:=decide_eq_true (by omega)
     have d4 : (0 : Int) < (Lt.length : Int):=by omega
     go_wp2
     exact end8e Tryz.results42 (Hend.out _ _ _ _ _ _ _ _ _ _) rfl rfl rfl ⟨Hbel.out _ _ _ _ _ _ _ _ _ _,_,_,_,_,_,_,_,_,_,_,_,_,by rw [Hsome.out,decide_eq_true hl0]; rfl,Hfin.out _ (msg_car _ _ _ _ _ _ _ _ _ _)⟩
    ·have d3 : decide ((0 : Int) < (Lt.length : Int)) = false:=decide_eq_false (by omega)
     have d4 : ¬ (0 : Int) < (Lt.length : Int):=by omega
     go_wp2
     exact end8e Tryz.results42 (Hend.out _ _ _ _ _ _ _ _ _ _) rfl rfl rfl ⟨Hbel.out _ _ _ _ _ _ _ _ _ _,_,_,_,_,_,_,_,_,_,_,_,_,by rw [Hsome.out,decide_eq_true hl0]; rfl,Hfin.out _ (msg_car _ _ _ _ _ _ _ _ _ _)⟩
   ·have d1 : decide ((0 : Int) < (l.length : Int)) = false:=decide_eq_false (by omega)
    have d2 : ¬ (0 : Int) < (l.length : Int):=by omega
    by_cases hL0 : 0 < Lt.length
    ·have d3 : decide ((0 : Int) < (Lt.length : Int)) = true:=decide_eq_true (by omega)
     have d4 : (0 : Int) < (Lt.length : Int):=by omega
     go_wp2
     exact end8e Tryz.results42 (Hend.out _ _ _ _ _ _ _ _ _ _) rfl rfl rfl ⟨Hbel.out _ _ _ _ _ _ _ _ _ _,_,_,_,_,_,_,_,_,_,_,_,_,by rw [Hsome.out,decide_eq_false hl0]; rfl,Hfin.out _ (msg_car _ _ _ _ _ _ _ _ _ _)⟩
    ·have d3 : decide ((0 : Int) < (Lt.length : Int)) = false:=decide_eq_false (by omega)
     have d4 : ¬ (0 : Int) < (Lt.length : Int):=by omega
     go_wp2
     exact end8e Tryz.results42 (Hend.out _ _ _ _ _ _ _ _ _ _) rfl rfl rfl ⟨Hbel.out _ _ _ _ _ _ _ _ _ _,_,_,_,_,_,_,_,_,_,_,_,_,by rw [Hsome.out,decide_eq_false hl0]; rfl,Hfin.out _ (msg_car _ _ _ _ _ _ _ _ _ _)⟩
theorem infoS : (Tryz.prog.info? 9).map (fun i=>(i.zero,i.size,i.bytes)) = some (some (.string ⟨#[]⟩),1,16):=by kernel_rfl
theorem com_lt (s : ByteArray) (i : Nat) (hi : i <= s.size) (h : (comL s i).1 ≠ 0) : i < s.size:=by
 have h1:=hs_ok s i hi
 have h2:=li_ok s i hi
 unfold comL at h
 split at h
 ·exact absurd rfl h
 ·dsimp only at h; omega
theorem com_le (s : ByteArray) (i : Nat) (hi : i <= s.size) : (comL s i).1 <= 3 /\ (comL s i).2.size <= s.size:=by
 have h2:=li_ok s i hi
 unfold comL
 split
 ·exact ⟨by omega,by show E0.size <= _; exact Nat.zero_le _⟩
 ·next hc =>
  refine ⟨by dsimp only; omega,?_⟩
  dsimp only
  split
  ·rw [ByteArray.size_extract]; omega
  ·exact Nat.zero_le _
theorem comGo_step (s : ByteArray) (lv : Nat) (acc : List ByteArray) (k : Nat) (x : ByteArray) (hk : k < s.size) :
  comGo s lv acc k x = if (comL s (beh s k)).1 = lv then comGo s lv (acc ++ [x]) (beh s k) (comL s (beh s k)).2 else (acc ++ [x],beh s k):=by
 have h:=beh_ok s k (Nat.le_of_lt hk)
 rw [comGo]
 by_cases h1 : (comL s (beh s k)).1 = lv
 ·rw [dif_pos ⟨h1,h.2.2 hk,h.2.1⟩,if_pos h1]
 ·rw [dif_neg (fun e=>h1 e.1),if_neg h1]
theorem join_sum : ∀ l : List ByteArray,(Lib.join (l.map (·.data.toList)) [10]).length <= (l.map (fun x=>x.size + 1)).sum
 | []=>by simp [Lib.join]
 | [a]=>by simp [Lib.join,size_data]
 | a :: b :: l=>by
  have h2:=join_sum (b :: l)
  simp [Lib.join,size_data] at h2 ⊢
  omega
theorem com_in (s : ByteArray) (k : Nat) (hk : k < s.size) : (comL s k).2.size + 1 + k <= beh s k:=by
 have h1:=hs_ok s k (Nat.le_of_lt hk)
 have h2:=li_ok s k (Nat.le_of_lt hk)
 have h3:=(beh_ok s k (Nat.le_of_lt hk)).2.2 hk
 have h4 : li s k <= beh s k:=by unfold beh; split <;> omega
 have hE : E0.size = 0:=rfl
 unfold comL
 split
 ·dsimp only; omega
 ·dsimp only
  split
  ·rw [ByteArray.size_extract]; omega
  ·omega
abbrev bV (x : ByteArray) : Value:=.string x
set_option maxHeartbeats 4000000 in
set_option maxRecDepth 100000 in
theorem comment_call {s : ByteArray} (hs : s.size <= 1000000000) (i : Nat) (hi : i <= s.size) (w : World) : Calls Tryz.prog 41 #[.string s,.int .i64 i] w (GotE s w (comS s i)):=by
 obtain ⟨i0,hi0,hz0,hz1,hz2⟩:=info_parts infoS
 obtain ⟨R,hR⟩ : ∃ R,comS s i = R:=⟨_,rfl⟩
 rw [hR]
 unfold comS at hR
 have hL:=fun W=>commentLine_any s i (by omega) hi W
 have hle:=com_le s i hi
 have hin:=com_in s i
 have hlt:=com_lt s i hi
 obtain ⟨lw,hlw⟩ : ∃ lw,comL s i = lw:=⟨_,rfl⟩
 rw [hlw] at hL hle hlt hR hin
 obtain ⟨lv,x0⟩:=lw
 dsimp only at hL hle hlt hR hin
 have HL:=hid hL
 have HR:=hid hR
 have HLc:=hid (fun j W (hj : j <= s.size)=>commentLine_any s j (by omega) hj W)
 have HBe:=hid (fun j W (hj : j <= s.size)=>behind_any s j (by omega) hj W)
 have hii : (i : Int) <= 1000000000:=by omega
 have hc0:=BoxAt.new w zEn 34
 have HC0:=hid hc0
 obtain ⟨u0,u1,u2,u3,u4,u5,u6,u7,v0,v1,v2,v3,v4,v5,v6,v7⟩:=cellsE hc0
 clear hL hR hlw hc0
 have hlv : (lv : Int) <= 3:=by omega
 by_cases h0 : lv = 0
 ·have d1 : ((lv : Int) == 0) = true:=beq_iff_eq.2 (by omega)
  have hR:=HR.out
  rw [if_pos h0] at hR
  subst hR
  clear h0
  go_enter Tryz.func41,Tryz.ntmps41
  go_wp2_with fail
  go_at_call 63
  refine (HL.out _).mono ?_
  rintro e w1 ⟨rfl,rfl⟩
  go_wp2
  exact end8e Tryz.results41 HC0.out rfl rfl rfl ⟨(Below.refl _ _).alloc (Nat.le_refl _) _,0,0,⟨#[]⟩,⟨#[]⟩,none,0,0,none,0,0,0,0,rfl,fun x h=>by cases h⟩
 have d1 : ((lv : Int) == 0) = false:=beq_eq_false_iff_ne.2 (by omega)
 have hR:=HR.out
 rw [if_neg h0] at hR
 obtain ⟨RG,hRG⟩ : ∃ R,comGo s lv [] i x0 = R:=⟨_,rfl⟩
 rw [hRG] at hR
 have HG:=hid hRG
 have HR2:=hid hR
 clear hR hRG HR
 go_enter Tryz.func41,Tryz.ntmps41
 go_wp2_with fail
 go_at_call 63
 refine (HL.out _).mono ?_
 rintro e w1 ⟨rfl,rfl⟩
 go_wp2
 go_loopw [7,8,9,10] (fun t7 t8 t9 t10 wr=>∃ (acc : List ByteArray) (x : ByteArray) (k nx : Nat) (A : Option Addr) (c : Nat),t7 = .string x /\ t8 = .slice A acc.length c /\ t9 = .int .i64 k /\ t10 = .int .i64 nx /\ i <= k /\ k <= s.size /\ nx <= 3 /\ acc.length <= k /\ (nx = lv -> k < s.size) /\ Hid ((acc.map (fun x=>x.size + 1)).sum <= k /\ (nx = lv -> x.size + 1 + k <= beh s k)) /\ (nx ≠ lv -> 0 < acc.length) /\ Hid ((if nx = lv then comGo s lv acc k x else (acc,k)) = RG) /\ Hid (BoxAt wr w.heap.size zEn 34) /\ Hid (Below w.heap.size w wr) /\ Hid (wr.ownsRow (w.heap.size + 1) 9 1 (.slice A acc.length c) acc.length (acc.map bV))) (fun _ _ t9 _ _=>s.size - (intOf t9).toNat)
 case atStart=>exact ⟨[],x0,i,lv,none,0,rfl,rfl,rfl,rfl,Nat.le_refl _,hi,hle.1,Nat.zero_le _,fun _=>hlt h0,⟨by simp,fun _=>hin (hlt h0)⟩,fun h=>absurd rfl h,by rw [if_pos rfl]; exact HG.out,HC0.out,(Below.refl _ _).alloc (Nat.le_refl _) _,World.ownsRow_nil _ _ _ _⟩
 case round =>
  obtain ⟨acc,x,k,nx,A,c,rfl,rfl,rfl,rfl,hik,hk,hnx,hacc,hkl,Hsz,hpos,HRG,HC,HBel,HO⟩:=hrel
  have hk0 : (k : Int) <= 1000000000:=by omega
  have hnx0 : (nx : Int) <= 3:=by omega
  have haccI : (acc.length : Int) <= 1000000000:=by omega
  obtain ⟨q0,q1,q2,q3,q4,q5,q6,q7,p0,p1,p2,p3,p4,p5,p6,p7⟩:=cellsE HC.out
  have hl:=HC.out.lt
  by_cases hn : nx = lv
  ·have d2 : ((nx : Int) == (lv : Int)) = true:=beq_iff_eq.2 (by omega)
   have hkl':=hkl hn
   have hRG:=HRG.out
   rw [if_pos hn,comGo_step s lv acc k x hkl'] at hRG
   have hb:=beh_ok s k hk
   have hbl:=hb.2.2 hkl'
   have hBk:=fun W=>HBe.out k W hk
   have hLk:=fun W=>HLc.out (beh s k) W hb.2.1
   have hsz2:=com_le s (beh s k) hb.2.1
   have hltk:=com_lt s (beh s k) hb.2.1
   have hxk:=Hsz.out.2 hn
   have hin2:=com_in s (beh s k)
   obtain ⟨kb,hkb⟩ : ∃ kb,beh s k = kb:=⟨_,rfl⟩
   rw [hkb] at hRG hb hbl hBk hLk hsz2 hltk hxk hin2
   obtain ⟨cx,hcx⟩ : ∃ cx,comL s kb = cx:=⟨_,rfl⟩
   rw [hcx] at hRG hLk hsz2 hltk hin2
   obtain ⟨nx',x'⟩:=cx
   dsimp only at hRG hLk hsz2 hltk hin2
   have Hin2:=hid hin2
   clear hin2
   have HBk:=hid hBk
   have HLk:=hid hLk
   have HRG2:=hid hRG
   have Hltk:=hid hltk
   have hbs:=HBel.out.size
   have hnew : BoxAt (wr.alloc (.cells #[.string x] 9)) wr.heap.size #[.string x] 9:=BoxAt.new' _ _ _ _ rfl
   have hown1:=HO.out.alloc (.cells #[.string x] 9)
   have Hv5:=hid (fun g e=>HO.out.lt g e)
   have hkb0 : (kb : Int) <= 1000000000:=by omega
   have hcb:=HC.out.alloc (.cells #[.string x] 9)
   have HCb:=hid hcb
   clear hBk hLk hRG hltk hkb hcx HRG hcb
   go_wp2_with (at_builtin; refine wpList_append_where _ rfl _ _ 27 rfl (w.heap.size + 1) 9 i0 (.string ⟨#[]⟩) 1 16 Tryz.underlying27 hi0 hz0 hz1 hz2 rfl (by decide) _ _ _ rfl hown1 ⟨wr.heap.size,0,none⟩ 1 1 [.string x] rfl rfl ?c1 ?c2 ?c3 ?c4 ?c5 ?c6 ?_)
   case c1 =>
    intro j u hj
    match j,hj with
    | 0,hj=>simp at hj; subst hj; exact hnew.cell 0
   case c2=>intro u hu; simp at hu; subst hu; rfl
   case c3=>unfold maxLen; omega
   case c4=>omega
   case c5=>simp; omega
   case c6=>decide
   intro v' w8 hown' hgrow hwh
   have HC8:=hid (show BoxAt w8 w.heap.size zEn 34 from (hgrow.block w.heap.size HCb.out.lt (fun e=>by have:=(Hv5.out _ e.symm).1; omega)).trans HCb.out)
   have HB8:=hid ((HBel.out.alloc (by omega) (.cells #[.string x] 9)).grown hgrow (by simp; omega) (fun g e=>by have:=(Hv5.out g e).1; omega))
   obtain ⟨A3,c3,rfl⟩:=own_slice hown' (by omega)
   have HO8:=hid hown'
   clear hown' hgrow hwh hnew hown1 q0 q1 q2 q3 q4 q5 q6 q7 p0 p1 p2 p3 p4 p5 p6 p7
   go_wp2_with fail
   go_at_call 40
   refine (HBk.out _).mono ?_
   rintro e w9 ⟨rfl,rfl⟩
   go_wp2_with fail
   go_at_call 63
   refine (HLk.out _).mono ?_
   rintro e w9 ⟨rfl,rfl⟩
   go_wp2
   go_roundw
   case rel =>
    refine ⟨acc ++ [x],x',kb,nx',A3,c3,rfl,?_,rfl,rfl,by omega,hb.2.1,hsz2.1,?_,fun h=>Hltk.out (by omega),⟨?_,fun h=>Hin2.out (Hltk.out (by omega))⟩,fun _=>by simp,HRG2.out,HC8,HB8,?_⟩
    ·show Value.slice A3 _ c3 = _
     simp
    ·rw [List.length_append,List.length_singleton]; omega
    ·have hz1:=Hsz.out.1
     rw [List.map_append,List.sum_append]
     simp
     omega
    ·rw [List.length_append,List.length_singleton,List.map_append]
     exact hid HO8.out
   case measure=>simp [intOf]; omega
  ·have d2 : ((nx : Int) == (lv : Int)) = false:=beq_eq_false_iff_ne.2 (by omega)
   have hRG:=HRG.out
   rw [if_neg hn] at hRG
   subst hRG
   have h00:=hpos hn
   rcases HO.out.2 with ⟨_,hz⟩ | ⟨g,cap,cur,hv,hb,hg,hc1,hc2,hcs,htk⟩
   ·omega
   cases hv
   have hjl:=join_sum acc
   have hz1:=Hsz.out.1
   have hJ:=Tryz.strings_Join g 0 c acc ⟨#[10]⟩ wr (fun j y hy=>by
    have:=HO.out.cells (g:=g) rfl j (bV y) (by rw [List.getElem?_map,hy]; rfl)
    rw [Addr.add_mid] at this
    exact this) (Array.getElem?_eq_some_iff.1 hg).1 (by omega) hc1 (by
     rw [show (⟨#[10]⟩ : ByteArray).data.toList = [10] from rfl]
     omega)
   rw [show (⟨#[10]⟩ : ByteArray).data.toList = [10] from rfl] at hJ
   have HJ:=hid hJ
   have hR:=HR2.out
   dsimp only at hR
   obtain ⟨T,hT⟩ : ∃ T : ByteArray,⟨(Lib.join (acc.map (·.data.toList)) [10]).toArray⟩ = T:=⟨_,rfl⟩
   have hT2 : mkB (Lib.join (acc.map (·.data.toList)) [10]) = T:=hT
   rw [hT2] at hR
   subst hR
   have hJ:=HJ.out
   rw [hT] at hJ
   have HJ2:=hid hJ
   clear hJ HJ hT hT2 hjl hcs htk hg
   go_wp2_with fail
   go_at_call 64
   refine (HJ2.out).mono ?_
   rintro e w2 ⟨rfl,hb2⟩
   have hc2:=BoxAt.later HC.out hb2
   have HC2:=hid hc2
   have HB2:=hid (HBel.out.trans (hb2.mono HBel.out.size))
   obtain ⟨m0,m1,m2,m3,m4,m5,m6,m7,g0,g1,g2,g3,g4,g5,g6,g7⟩:=cellsE hc2
   have hl2:=hc2.lt
   clear hb2 hc2 q0 q1 q2 q3 q4 q5 q6 q7 p0 p1 p2 p3 p4 p5 p6 p7
   go_wp2
   exact end8e Tryz.results41 (box_set8 HC2.out _ _ _ _ _ _ _ _) rfl rfl rfl ⟨below_set8 HB2.out (Nat.le_refl _) _ _ _ _ _ _ _ _,_,_,_,_,_,_,_,_,_,_,_,_,rfl,fun x h=>by
    cases h
    exact ⟨none,0,none,0,rfl,⟨none,0,rfl,Nat.le_refl _,Nat.zero_le _,fun h=>absurd h (by simp)⟩,AtsF.nil _ _⟩⟩
theorem endE8 {fn : Func} {R : Ending -> World -> Prop} {a : Act} {w2 : World} {A b : Nat} {ty lv : Int} {tx nm : ByteArray} {v u : Value} {fr tu : Int} {t : TypeId} (hres : fn.results = #[.cell A 34])
  (hbox : BoxAt w2 b #[.int .i64 ty,.int .i64 lv,.string tx,.string nm,v,u,.int .i64 fr,.int .i64 tu] t)
  (ha : a.tmps.getD A undef = .pointer (some ⟨b,0,none⟩)) (hd : a.defers = []) (hR : R (.returned (entV ty lv tx nm v u fr tu)) w2) : bodyPost Tryz.prog fn R .ret a w2 :=
 endE hres hbox ha hd hR
def GotR (w : World) (x : EN) (e : Ending) (w' : World) : Prop :=
 Below w.heap.size w w' /\ ∃ v,e = .returned v /\ EnF w' (Since w.heap.size w') x v
theorem carry_set8a {w w2 : World} {B : Nat} (hB : w.heap.size + 1 <= B) (o : Obj) (x0 x1 x2 x3 x4 x5 x6 x7 : Value) : ∀ z,Since B w2 z -> Since w.heap.size ((set8 w2 w.heap.size x0 x1 x2 x3 x4 x5 x6 x7).alloc o) z /\ ((set8 w2 w.heap.size x0 x1 x2 x3 x4 x5 x6 x7).alloc o).heap[z]? = w2.heap[z]?:=fun z hz=>by
 obtain ⟨z1,z2⟩:=hz
 exact ⟨⟨by omega,by rw [World.size_alloc,set8_size]; omega⟩,(Lib.alloc_old _ _ z (by rw [set8_size]; exact z2)).trans (set8_heap _ _ _ _ _ _ _ _ _ _ z (by omega))⟩
set_option maxHeartbeats 4000000 in
set_option maxRecDepth 100000 in
theorem read_call {s : ByteArray} (hPC : PatCall s) (hs : s.size <= 1000000000) (i : Nat) (hi : i < s.size) (w : World) : Calls Tryz.prog 24 #[.string s,.int .i64 i] w (GotR w (readS s i)):=by
 obtain ⟨R,hR⟩ : ∃ R,readS s i = R:=⟨_,rfl⟩
 rw [hR]
 unfold readS at hR
 have hC:=fun W=>comment_call hs i (Nat.le_of_lt hi) W
 have hM:=fun W=>message_call hPC hs i (Nat.le_of_lt hi) W
 have hJ:=fun W=>junk_any s i (by omega) hi W
 have hJs : junkS s i = ⟨3,0,s.extract i (junkTo s (beh s i)),E0,[],[],i,junkTo s (beh s i)⟩:=rfl
 rw [hJs] at hR
 obtain ⟨jt,hjt⟩ : ∃ j,junkTo s (beh s i) = j:=⟨_,rfl⟩
 obtain ⟨jx,hjx⟩ : ∃ x,s.extract i jt = x:=⟨_,rfl⟩
 rw [hjt,hjx] at hJ hR
 obtain ⟨rc,hrc⟩ : ∃ r,comS s i = r:=⟨_,rfl⟩
 obtain ⟨rm,hrm⟩ : ∃ r,msgS s i = r:=⟨_,rfl⟩
 rw [hrc] at hC hR
 rw [hrm] at hM hR
 have HC:=hid hC
 have HM:=hid hM
 have HJ:=hid hJ
 have HR:=hid hR
 have hi0 : (i : Int) <= 1000000000:=by omega
 have HX0:=hid (BoxAt.new w zEn 34)
 clear hC hM hJ hR hJs hrc hrm hjt hjx hPC
 unfold GotE at HC HM
 unfold entV at HC HM HJ
 go_enter Tryz.func24,Tryz.ntmps24
 go_wp2_with fail
 go_at_call 41
 refine (HC.out _).mono ?_
 rintro e w1 ⟨hb1,ty,lv,tx,nm,A,n,c,B,m,d,fr,tu,rfl,h1⟩
 have hx1:=BoxAt.later HX0.out hb1
 have HX1:=hid hx1
 have HB1:=hid (((Below.refl w.heap.size w).alloc (Nat.le_refl _) (.cells zEn 34)).trans (hb1.mono (by simp)))
 have H1:=hid h1
 obtain ⟨q0,q1,q2,q3,q4,q5,q6,q7,p0,p1,p2,p3,p4,p5,p6,p7⟩:=cellsE hx1
 have hl1:=hx1.lt
 have hs1:=hb1.size
 rw [World.size_alloc] at hs1
 clear hb1 h1 hx1
 cases rc with
 | some x =>
  have hR:=HR.out
  dsimp only at hR
  subst hR
  go_wp2
  exact endE8 Tryz.results24 ((box_set8 HX1.out _ _ _ _ _ _ _ _).alloc _) rfl rfl ⟨(below_set8 HB1.out (Nat.le_refl _) _ _ _ _ _ _ _ _).alloc (by rw [set8_size]; omega) _,_,rfl,EnF.carry (carry_set8a (by simp; try omega) _ _ _ _ _ _ _ _ _) (H1.out x rfl)⟩
 | none =>
  have hR:=HR.out
  dsimp only at hR
  have HR2:=hid hR
  clear hR HR H1
  go_wp2_with fail
  go_at_call 42
  refine (HM.out _).mono ?_
  rintro e w2 ⟨hb2,ty',lv',tx',nm',A',n',c',B',m',d',fr',tu',rfl,h2⟩
  have hx2:=BoxAt.later (HX1.out.alloc (.cells #[.int .i64 ty,.int .i64 lv,.string tx,.string nm,.slice A n c,.slice B m d,.int .i64 fr,.int .i64 tu] 34)) hb2
  have HX2:=hid hx2
  have HB2:=hid ((HB1.out.alloc (by omega) (.cells #[.int .i64 ty,.int .i64 lv,.string tx,.string nm,.slice A n c,.slice B m d,.int .i64 fr,.int .i64 tu] 34)).trans (hb2.mono (by simp; omega)))
  have H2:=hid h2
  obtain ⟨r0,r1,r2,r3,r4,r5,r6,r7,f0,f1,f2,f3,f4,f5,f6,f7⟩:=cellsE hx2
  have hl2:=hx2.lt
  have hs2:=hb2.size
  rw [World.size_alloc] at hs2
  clear hb2 h2 hx2 q0 q1 q2 q3 q4 q5 q6 q7 p0 p1 p2 p3 p4 p5 p6 p7
  cases rm with
  | some x =>
   have hR:=HR2.out
   dsimp only at hR
   subst hR
   go_wp2
   exact endE8 Tryz.results24 ((box_set8 HX2.out _ _ _ _ _ _ _ _).alloc _) rfl rfl ⟨(below_set8 HB2.out (Nat.le_refl _) _ _ _ _ _ _ _ _).alloc (by rw [set8_size]; omega) _,_,rfl,EnF.carry (carry_set8a (by simp; try omega) _ _ _ _ _ _ _ _ _) (H2.out x rfl)⟩
  | none =>
   have hR:=HR2.out
   dsimp only at hR
   subst hR
   clear H2 HR2
   go_wp2_with fail
   go_at_call 43
   refine (HJ.out _).mono ?_
   rintro e w3 ⟨rfl,hb3⟩
   have hx3:=BoxAt.later (HX2.out.alloc (.cells #[.int .i64 ty',.int .i64 lv',.string tx',.string nm',.slice A' n' c',.slice B' m' d',.int .i64 fr',.int .i64 tu'] 34)) hb3
   have HX3:=hid hx3
   have HB3:=hid ((HB2.out.alloc (by omega) (.cells #[.int .i64 ty',.int .i64 lv',.string tx',.string nm',.slice A' n' c',.slice B' m' d',.int .i64 fr',.int .i64 tu'] 34)).trans (hb3.mono (by simp; omega)))
   obtain ⟨q0,q1,q2,q3,q4,q5,q6,q7,p0,p1,p2,p3,p4,p5,p6,p7⟩:=cellsE hx3
   have hl3:=hx3.lt
   clear hb3 hx3 r0 r1 r2 r3 r4 r5 r6 r7 f0 f1 f2 f3 f4 f5 f6 f7
   go_wp2
   exact endE8 Tryz.results24 (box_set8 HX3.out _ _ _ _ _ _ _ _) rfl rfl ⟨below_set8 HB3.out (Nat.le_refl _) _ _ _ _ _ _ _ _,_,rfl,none,0,none,0,rfl,⟨none,0,rfl,Nat.le_refl _,Nat.zero_le _,fun h=>absurd h (by simp)⟩,AtsF.nil _ _⟩
theorem infoEn : (Tryz.prog.info? 34).map (fun i=>(i.zero,i.size,i.bytes)) = some (some (.agg #[.int .i64 0,.int .i64 0,.string ⟨#[]⟩,.string ⟨#[]⟩,.slice none 0 0,.slice none 0 0,.int .i64 0,.int .i64 0]),8,112):=by kernel_rfl
def NsF (W : World) (F : Nat -> Prop) : List EN -> Nat -> Nat -> Prop
 | [],_,_=>True
 | x :: r,b,o=>F b /\ (∃ (A : Option Addr) (c : Nat) (B : Option Addr) (d : Nat),W.cell? ⟨b,o,none⟩ = some (.int .i64 x.ty) /\ W.cell? ⟨b,o + 1,none⟩ = some (.int .i64 x.lv) /\ W.cell? ⟨b,o + 2,none⟩ = some (.string x.tx) /\ W.cell? ⟨b,o + 3,none⟩ = some (.string x.nm) /\
   W.cell? ⟨b,o + 4,none⟩ = some (.slice A x.val.length c) /\ W.cell? ⟨b,o + 5,none⟩ = some (.slice B x.ats.length d) /\ W.cell? ⟨b,o + 6,none⟩ = some (.int .i64 x.fr) /\ W.cell? ⟨b,o + 7,none⟩ = some (.int .i64 x.tu) /\
   PatF W F x.val (.slice A x.val.length c) /\ AtsF W F x.ats (.slice B x.ats.length d)) /\ NsF W F r b (o + 8)
theorem NsF.carry {W W' : World} {F F' : Nat -> Prop} (g : ∀ b,F b -> F' b /\ W'.heap[b]? = W.heap[b]?) : ∀ (l : List EN) (b o : Nat),NsF W F l b o -> NsF W' F' l b o
 | [],b,o,_=>by rw [NsF]; trivial
 | x :: r,b,o,h=>by
  rw [NsF] at h ⊢
  obtain ⟨hb,⟨A,c,B,d,h0,h1,h2,h3,h4,h5,h6,h7,h8,h9⟩,hr⟩:=h
  have e:=(g b hb).2
  exact ⟨(g b hb).1,⟨A,c,B,d,(cell_same e _).trans h0,(cell_same e _).trans h1,(cell_same e _).trans h2,(cell_same e _).trans h3,(cell_same e _).trans h4,(cell_same e _).trans h5,(cell_same e _).trans h6,(cell_same e _).trans h7,h8.carry g,h9.carry g⟩,NsF.carry g r b _ hr⟩
def NZip (W : World) (F : Nat -> Prop) : List EN -> List Value -> Prop
 | [],xs=>xs = []
 | x :: r,xs=>∃ (A : Option Addr) (c : Nat) (B : Option Addr) (d : Nat) (ys : List Value),xs = .int .i64 x.ty :: .int .i64 x.lv :: .string x.tx :: .string x.nm :: .slice A x.val.length c :: .slice B x.ats.length d :: .int .i64 x.fr :: .int .i64 x.tu :: ys /\
   PatF W F x.val (.slice A x.val.length c) /\ AtsF W F x.ats (.slice B x.ats.length d) /\ NZip W F r ys
theorem NZip.snoc {W : World} {F : Nat -> Prop} {x : EN} {A : Option Addr} {c : Nat} {B : Option Addr} {d : Nat} (hp : PatF W F x.val (.slice A x.val.length c)) (hq : AtsF W F x.ats (.slice B x.ats.length d)) : ∀ (acc : List EN) (xs : List Value),NZip W F acc xs ->
  NZip W F (acc ++ [x]) (xs ++ [.int .i64 x.ty,.int .i64 x.lv,.string x.tx,.string x.nm,.slice A x.val.length c,.slice B x.ats.length d,.int .i64 x.fr,.int .i64 x.tu])
 | [],xs,h=>by
  rw [NZip] at h
  subst h
  exact ⟨A,c,B,d,[],rfl,hp,hq,rfl⟩
 | y :: r,xs,h=>by
  rw [NZip] at h
  obtain ⟨A',c',B',d',ys,rfl,h2,h3,h4⟩:=h
  exact ⟨A',c',B',d',_,rfl,h2,h3,NZip.snoc hp hq r ys h4⟩
theorem NZip.carry {W W' : World} {F F' : Nat -> Prop} (g : ∀ b,F b -> F' b /\ W'.heap[b]? = W.heap[b]?) : ∀ (acc : List EN) (xs : List Value),NZip W F acc xs -> NZip W' F' acc xs
 | [],xs,h=>by rw [NZip] at h ⊢; exact h
 | y :: r,xs,h=>by
  rw [NZip] at h
  obtain ⟨A',c',B',d',ys,rfl,h2,h3,h4⟩:=h
  exact ⟨A',c',B',d',ys,rfl,h2.carry g,h3.carry g,NZip.carry g r ys h4⟩
theorem NZip.ns {W : World} {F : Nat -> Prop} {g : Nat} (hg : F g) : ∀ (acc : List EN) (xs : List Value) (o : Nat),(∀ j x,xs[j]? = some x -> W.cell? ⟨g,o + j,none⟩ = some x) -> NZip W F acc xs -> NsF W F acc g o
 | [],xs,o,hc,h=>by rw [NsF]; trivial
 | y :: r,xs,o,hc,h=>by
  rw [NZip] at h
  obtain ⟨A',c',B',d',ys,rfl,h2,h3,h4⟩:=h
  rw [NsF]
  refine ⟨hg,⟨A',c',B',d',hc 0 _ rfl,hc 1 _ rfl,hc 2 _ rfl,hc 3 _ rfl,hc 4 _ rfl,hc 5 _ rfl,hc 6 _ rfl,hc 7 _ rfl,h2,h3⟩,NZip.ns hg r ys (o + 8) (fun j x hx=>?_) h4⟩
  have:=hc (j + 8) x (by simpa using hx)
  rw [show o + 8 + j = o + (j + 8) by omega]
  exact this
def OwnN (B : Nat) (W : World) (v : Value) (acc : List EN) : Prop:=∃ xs,W.ownsRow B 34 8 v acc.length xs /\ NZip W (OwnSet B W v) acc xs
theorem OwnN.nil (B : Nat) (W : World) : OwnN B W (.slice none 0 0) []:=⟨[],World.ownsRow_nil _ _ _ _,rfl⟩
theorem OwnN.below {B : Nat} {W W' : World} {v : Value} {acc : List EN} (h : OwnN B W v acc) (g : Below W.heap.size W W') : OwnN B W' v acc:=by
 obtain ⟨xs,h1,h2⟩:=h
 refine ⟨xs,h1.kept (⟨g.os,g.tape,g.output,g.size,fun k hk _=>g.block k hk⟩ : W.grownBy W' none) (by by_cases h : v.ownBlock = none; exact .inl h; exact .inr h),NZip.carry (fun b hb=>?_) _ _ h2⟩
 obtain ⟨⟨hb1,hb2⟩,hb3⟩:=hb
 exact ⟨⟨⟨hb1,Nat.lt_of_lt_of_le hb2 g.size⟩,hb3⟩,g.block b hb2⟩
theorem OwnN.push {B : Nat} {w1 W2 W3 : World} {v v' : Value} {acc : List EN} {xs : List Value} {x : EN} {A' : Option Addr} {c' : Nat} {B' : Option Addr} {d' : Nat} (K : Below w1.heap.size w1 W2) (hz : NZip w1 (OwnSet B w1 v) acc xs)
  (hp : PatF W2 (OwnSet B W2 v) x.val (.slice A' x.val.length c')) (hq : AtsF W2 (OwnSet B W2 v) x.ats (.slice B' x.ats.length d'))
  (ho : W3.ownsRow B 34 8 v' (acc.length + 1) (xs ++ [.int .i64 x.ty,.int .i64 x.lv,.string x.tx,.string x.nm,.slice A' x.val.length c',.slice B' x.ats.length d',.int .i64 x.fr,.int .i64 x.tu])) (hg : W2.grownBy W3 v.ownBlock) (hw : v'.ownBlock = v.ownBlock ∨ v'.ownBlock = some W2.heap.size) : OwnN B W3 v' (acc ++ [x]):=by
 refine ⟨_,by rw [List.length_append]; exact ho,?_⟩
 have hz2 : NZip W2 (OwnSet B W2 v) acc xs:=NZip.carry (fun b hb=>by
  obtain ⟨⟨hb1,hb2⟩,hb3⟩:=hb
  exact ⟨⟨⟨hb1,Nat.lt_of_lt_of_le hb2 K.size⟩,hb3⟩,K.block b hb2⟩) _ _ hz
 have g : ∀ b,OwnSet B W2 v b -> OwnSet B W3 v' b /\ W3.heap[b]? = W2.heap[b]?:=fun b hb=>by
  obtain ⟨⟨hb1,hb2⟩,hb3⟩:=hb
  refine ⟨⟨⟨hb1,Nat.lt_of_lt_of_le hb2 hg.size⟩,?_⟩,hg.block b hb2 hb3⟩
  rcases hw with e | e
  ·rw [e]; exact hb3
  ·rw [e]; intro e2; have:=Option.some.inj e2; omega
 exact NZip.carry g _ _ (NZip.snoc hp hq acc xs hz2)
def ListF (W : World) (F : Nat -> Prop) (l : List EN) (v : Value) : Prop:=LieAt (NsF W F l) v l.length
theorem OwnN.list {B : Nat} {W : World} {v : Value} {acc : List EN} (h : OwnN B W v acc) : ∃ A c,v = .slice A acc.length c /\ ListF W (Since B W) acc v:=by
 obtain ⟨xs,h1,h2⟩:=h
 rcases h1.2 with ⟨rfl,h0⟩ | ⟨g,cap,cur,rfl,hb,hg,hc1,hc2,hcs,htk⟩
 ·have : acc = []:=List.eq_nil_of_length_eq_zero h0
  subst this
  exact ⟨none,0,rfl,none,0,rfl,Nat.le_refl _,Nat.zero_le _,fun h=>absurd h (by simp)⟩
 ·refine ⟨_,_,rfl,_,_,rfl,hc1,hc2,fun _=>⟨g,0,rfl,NZip.ns ⟨hb,(Array.getElem?_eq_some_iff.1 hg).1⟩ acc xs 0 (fun j x hx=>?_) (NZip.carry (fun b hb=>⟨hb.1,rfl⟩) _ _ h2)⟩⟩
  have:=h1.cells (g:=g) rfl j x hx
  rw [Addr.add_mid] at this
  exact this
theorem comGo_pos (s : ByteArray) (lv : Nat) : ∀ (n : Nat) (acc : List ByteArray) (k : Nat) (x : ByteArray),s.size - k <= n -> k < s.size -> k < (comGo s lv acc k x).2 /\ (comGo s lv acc k x).2 <= s.size
 | 0,acc,k,x,hn,hk=>by omega
 | n + 1,acc,k,x,hn,hk=>by
  have hb:=beh_ok s k (Nat.le_of_lt hk)
  have hb2:=hb.2.2 hk
  rw [comGo]
  split
  ·next h =>
   by_cases h2 : beh s k < s.size
   ·have:=comGo_pos s lv n (acc ++ [x]) (beh s k) (comL s (beh s k)).2 (by omega) h2
    omega
   ·have he : beh s k = s.size:=by omega
    have hl : (comL s (beh s k)).1 = 0:=by
     by_cases h3 : (comL s (beh s k)).1 = 0
     ·exact h3
     ·have:=com_lt s (beh s k) hb.2.1 h3; omega
    rw [comGo]
    have hbb:=beh_ok s (beh s k) hb.2.1
    rw [dif_neg (by omega)]
    dsimp only
    omega
  ·dsimp only; omega
theorem atsS_pos (s : ByteArray) : ∀ (n : Nat) (acc : List AT) (k : Nat),s.size - k <= n -> k <= s.size -> k <= (atsS s acc k).2 /\ (atsS s acc k).2 <= s.size
 | n,acc,k,hn,hk=>by
  rw [atsS]
  split
  ·exact ⟨Nat.le_refl _,hk⟩
  ·next x l e h =>
   split
   ·next h2 =>
    cases n with
    | zero=>omega
    | succ n =>
     have:=atsS_pos s n (acc ++ [.mk x l]) e (by omega) h2.2
     omega
   ·exact ⟨Nat.le_refl _,hk⟩
theorem junkTo_pos (s : ByteArray) : ∀ (n k : Nat),s.size - k <= n -> k <= s.size -> k <= junkTo s k /\ junkTo s k <= s.size
 | n,k,hn,hk=>by
  rw [junkTo]
  split
  ·split
   ·next h2 =>
    have hb:=beh_ok s k hk
    cases n with
    | zero=>omega
    | succ n =>
     have:=junkTo_pos s n (beh s k) (by omega) hb.2.1
     omega
   ·exact ⟨Nat.le_refl _,hk⟩
  ·exact ⟨Nat.le_refl _,hk⟩
theorem passE_pos (s : ByteArray) : ∀ (n k : Nat),s.size - k <= n -> k <= s.size -> k <= passE s k /\ passE s k <= s.size
 | n,k,hn,hk=>by
  by_cases hlt : k < s.size
  ·by_cases h : sp s k < s.size /\ isAt s (sp s k) 10 = false
   ·rw [passE,dif_pos hlt,if_pos h]; exact ⟨Nat.le_refl _,hk⟩
   ·obtain ⟨h1,h2,h3⟩:=passE_go s k hlt h
    rw [h1]
    cases n with
    | zero=>omega
    | succ n =>
     have:=passE_pos s n (beh s (sp s k)) (by omega) h3
     omega
  ·rw [passE,dif_neg hlt]; exact ⟨Nat.le_refl _,hk⟩
theorem msg_pos {s : ByteArray} {i : Nat} (hi : i < s.size) {x : EN} (h : msgS s i = some x) : i < x.tu /\ x.tu <= s.size /\ x.fr = i:=by
 unfold msgS at h
 obtain ⟨q,hq⟩ : ∃ q,(if isAt s i 45 = true then i + 1 else i) = q:=⟨_,rfl⟩
 rw [hq] at h
 have hq1 : i <= q /\ q <= s.size:=by split at hq <;> omega
 split at h
 ·cases h
 ·next y l e hn =>
  have h1:=named_pos hq1.2 hn
  split at h
  ·cases h
   have h2:=atsS_pos s s.size [] e (by omega) h1.2
   have h3:=beh_ok s (atsS s [] e).2 h2.2
   dsimp only
   exact ⟨by omega,h3.2.1,rfl⟩
  ·cases h
theorem read_pos {s : ByteArray} {i : Nat} (hi : i < s.size) : i < (readS s i).tu /\ (readS s i).tu <= s.size /\ (readS s i).fr = i:=by
 unfold readS
 split
 ·next x h =>
  unfold comS at h
  split at h
  ·cases h
  ·cases h
   have:=comGo_pos s (comL s i).1 s.size [] i (comL s i).2 (by omega) hi
   exact ⟨this.1,this.2,rfl⟩
 ·split
  ·next x h=>exact msg_pos hi h
  ·have h1:=beh_ok s i (Nat.le_of_lt hi)
   have h2:=junkTo_pos s s.size (beh s i) (by omega) h1.2.1
   exact ⟨by show i < junkTo s (beh s i); have:=h1.2.2 hi; omega,h2.2,rfl⟩
theorem parseGo_step (s : ByteArray) (acc : List EN) (i : Nat) (hi : i < s.size) : parseGo s acc i = parseGo s (acc ++ [readS s i]) (passE s (readS s i).tu) /\ i < passE s (readS s i).tu /\ passE s (readS s i).tu <= s.size:=by
 have h1:=read_pos hi
 have h2:=passE_pos s s.size (readS s i).tu (by omega) h1.2.1
 refine ⟨?_,by omega,h2.2⟩
 rw [parseGo,dif_pos ⟨hi,by omega⟩]
theorem parseGo_end (s : ByteArray) (acc : List EN) (i : Nat) (hi : ¬ i < s.size) : parseGo s acc i = acc:=by
 rw [parseGo,dif_neg (fun h=>hi h.1)]
def GotEs (w : World) (l : List EN) (e : Ending) (w' : World) : Prop :=
 Below w.heap.size w w' /\ ∃ (A : Option Addr) (c : Nat),e = .returned (.slice A l.length c) /\ ListF w' (Since w.heap.size w') l (.slice A l.length c)
set_option maxHeartbeats 4000000 in
set_option maxRecDepth 100000 in
theorem parse_call {s : ByteArray} (hPC : PatCall s) (hs : s.size <= 1000000000) (w : World) : Calls Tryz.prog 10 #[.string s] w (GotEs w (parseS s)):=by
 obtain ⟨i0,hi0,hz0,hz1,hz2⟩:=info_parts infoEn
 obtain ⟨RL,hRL⟩ : ∃ R,parseS s = R:=⟨_,rfl⟩
 rw [hRL]
 unfold parseS at hRL
 have hp0:=passE_pos s s.size 0 (by omega) (Nat.zero_le _)
 have hPE:=fun W=>passEmpty_any s 0 (by omega) (Nat.zero_le _) W
 obtain ⟨k0,hk0⟩ : ∃ k,passE s 0 = k:=⟨_,rfl⟩
 rw [hk0] at hRL hp0 hPE
 have HR:=hid hRL
 have HPE0:=hid (show ∀ W,_ from hPE)
 have HPE:=hid (fun j W (hj : j <= s.size)=>passEmpty_any s j (by omega) hj W)
 have HRd:=hid (fun j W (hj : j < s.size)=>read_call hPC hs j hj W)
 have hss : (s.size : Int) <= 1000000000:=by omega
 clear hRL hk0 hPE hPC
 go_enter Tryz.func10,Tryz.ntmps10
 go_wp2_with fail
 go_at_call 23
 refine (HPE0.out _).mono ?_
 rintro e w1 ⟨rfl,hb1⟩
 have HB1:=hid hb1
 clear hb1
 go_wp2
 go_loopw [3,4] (fun t3 t4 wr=>∃ (acc : List EN) (k : Nat) (A : Option Addr) (c : Nat),t3 = .slice A acc.length c /\ t4 = .int .i64 k /\ k <= s.size /\ acc.length <= k /\ Hid (parseGo s acc k = RL) /\ Hid (Below w.heap.size w wr) /\ Hid (OwnN w.heap.size wr (.slice A acc.length c) acc)) (fun _ t4 _=>s.size - (intOf t4).toNat)
 case atStart=>exact ⟨[],k0,none,0,rfl,rfl,hp0.2,Nat.zero_le _,HR,HB1,OwnN.nil _ _⟩
 case round =>
  obtain ⟨acc,k,A,c,rfl,rfl,hk,hac,HG,HBel,HO⟩:=hrel
  have hk1 : (k : Int) <= 1000000000:=by omega
  have hacI : (acc.length : Int) <= 1000000000:=by omega
  by_cases hlt : k < s.size
  ·have d1 : decide ((k : Int) < (s.size : Int)) = true:=decide_eq_true (by omega)
   have d2 : (k : Int) < (s.size : Int):=by omega
   have hr:=fun W=>HRd.out k W hlt
   obtain ⟨g1,g2,g3⟩:=parseGo_step s acc k hlt
   have hpos:=read_pos hlt
   have hpe:=fun W=>HPE.out (readS s k).tu W hpos.2.1
   obtain ⟨x,hx⟩ : ∃ x,readS s k = x:=⟨_,rfl⟩
   rw [hx] at hr g1 g2 g3 hpe hpos
   obtain ⟨nx,hnx⟩ : ∃ n,passE s x.tu = n:=⟨_,rfl⟩
   rw [hnx] at g1 g2 g3 hpe
   have HRk:=hid hr
   have HPk:=hid hpe
   have HG1:=hid (g1.symm.trans HG.out)
   obtain ⟨hp1,hp2,hp3⟩:=hpos
   clear hp3
   clear hr g1 hpe hx hnx
   go_wp2_with fail
   go_at_call 24
   refine (HRk.out _).mono ?_
   rintro e w2 ⟨hb2,v,rfl,A',c',B',d',rfl,hp,hq⟩
   have HB2:=hid (HBel.out.trans (hb2.mono HBel.out.size))
   have HO2:=hid (HO.out.below hb2)
   have HPt:=hid hp
   have HQt:=hid hq
   have hs2:=hb2.size
   have hs0:=HBel.out.size
   clear hb2 hp hq
   obtain ⟨xs6,ho6,hz6⟩:=HO2.out
   obtain ⟨xs5,ho5,_⟩:=HO.out
   have Hv5:=hid (fun k e=>ho5.lt k e)
   have HZ6:=hid hz6
   have hto : ((x.tu : Nat) : Int) <= 1000000000:=by omega
   have hown1:=(ho6.alloc (.cells #[.int .i64 x.ty,.int .i64 x.lv,.string x.tx,.string x.nm,.slice A' x.val.length c',.slice B' x.ats.length d',.int .i64 x.fr,.int .i64 x.tu] 34)).alloc (.cells #[.int .i64 x.ty,.int .i64 x.lv,.string x.tx,.string x.nm,.slice A' x.val.length c',.slice B' x.ats.length d',.int .i64 x.fr,.int .i64 x.tu] 34)
   have hbox : BoxAt ((w2.alloc (.cells #[.int .i64 x.ty,.int .i64 x.lv,.string x.tx,.string x.nm,.slice A' x.val.length c',.slice B' x.ats.length d',.int .i64 x.fr,.int .i64 x.tu] 34)).alloc (.cells #[.int .i64 x.ty,.int .i64 x.lv,.string x.tx,.string x.nm,.slice A' x.val.length c',.slice B' x.ats.length d',.int .i64 x.fr,.int .i64 x.tu] 34)) w2.heap.size #[.int .i64 x.ty,.int .i64 x.lv,.string x.tx,.string x.nm,.slice A' x.val.length c',.slice B' x.ats.length d',.int .i64 x.fr,.int .i64 x.tu] 34:=(BoxAt.new _ _ _).alloc _
   have hnew : BoxAt ((w2.alloc (.cells #[.int .i64 x.ty,.int .i64 x.lv,.string x.tx,.string x.nm,.slice A' x.val.length c',.slice B' x.ats.length d',.int .i64 x.fr,.int .i64 x.tu] 34)).alloc (.cells #[.int .i64 x.ty,.int .i64 x.lv,.string x.tx,.string x.nm,.slice A' x.val.length c',.slice B' x.ats.length d',.int .i64 x.fr,.int .i64 x.tu] 34)) (w2.heap.size + 1) #[.int .i64 x.ty,.int .i64 x.lv,.string x.tx,.string x.nm,.slice A' x.val.length c',.slice B' x.ats.length d',.int .i64 x.fr,.int .i64 x.tu] 34:=BoxAt.new' _ _ _ _ (by simp)
   obtain ⟨r0,r1,r2,r3,r4,r5,r6,r7,f0,f1,f2,f3,f4,f5,f6,f7⟩:=cellsE (BoxAt.new w2 #[.int .i64 x.ty,.int .i64 x.lv,.string x.tx,.string x.nm,.slice A' x.val.length c',.slice B' x.ats.length d',.int .i64 x.fr,.int .i64 x.tu] 34)
   have Hbox:=hid hbox
   have Hnew:=hid hnew
   clear ho6 ho5 hz6 hbox hnew
   unfold entV
   go_wp2_with (at_builtin; refine wpList_append_where _ rfl _ _ 22 rfl w.heap.size 34 i0 (.agg #[.int .i64 0,.int .i64 0,.string ⟨#[]⟩,.string ⟨#[]⟩,.slice none 0 0,.slice none 0 0,.int .i64 0,.int .i64 0]) 8 112 Tryz.underlying22 hi0 hz0 hz1 hz2 rfl (by decide) _ _ _ rfl hown1 ⟨w2.heap.size + 1,0,none⟩ 1 1 [.int .i64 x.ty,.int .i64 x.lv,.string x.tx,.string x.nm,.slice A' x.val.length c',.slice B' x.ats.length d',.int .i64 x.fr,.int .i64 x.tu] rfl rfl ?c1 ?c2 ?c3 ?c4 ?c5 ?c6 ?_)
   case c1 =>
    intro j u hj
    match j,hj with
    | 0,hj=>simp at hj; subst hj; exact Hnew.out.cell 0
    | 1,hj=>simp at hj; subst hj; exact Hnew.out.cell 1
    | 2,hj=>simp at hj; subst hj; exact Hnew.out.cell 2
    | 3,hj=>simp at hj; subst hj; exact Hnew.out.cell 3
    | 4,hj=>simp at hj; subst hj; exact Hnew.out.cell 4
    | 5,hj=>simp at hj; subst hj; exact Hnew.out.cell 5
    | 6,hj=>simp at hj; subst hj; exact Hnew.out.cell 6
    | 7,hj=>simp at hj; subst hj; exact Hnew.out.cell 7
   case c2=>intro u hu; simp at hu; rcases hu with rfl | rfl | rfl | rfl | rfl | rfl | rfl | rfl <;> rfl
   case c3=>unfold maxLen; omega
   case c4=>omega
   case c5=>simp; omega
   case c6=>decide
   intro v' w8 hown' hgrow hwh
   have K1 : Below w2.heap.size w2 ((w2.alloc (.cells #[.int .i64 x.ty,.int .i64 x.lv,.string x.tx,.string x.nm,.slice A' x.val.length c',.slice B' x.ats.length d',.int .i64 x.fr,.int .i64 x.tu] 34)).alloc (.cells #[.int .i64 x.ty,.int .i64 x.lv,.string x.tx,.string x.nm,.slice A' x.val.length c',.slice B' x.ats.length d',.int .i64 x.fr,.int .i64 x.tu] 34)):=((Below.refl _ _).alloc (Nat.le_refl _) _).alloc (by simp) _
   generalize hW2 : ((w2.alloc (.cells #[.int .i64 x.ty,.int .i64 x.lv,.string x.tx,.string x.nm,.slice A' x.val.length c',.slice B' x.ats.length d',.int .i64 x.fr,.int .i64 x.tu] 34)).alloc (.cells #[.int .i64 x.ty,.int .i64 x.lv,.string x.tx,.string x.nm,.slice A' x.val.length c',.slice B' x.ats.length d',.int .i64 x.fr,.int .i64 x.tu] 34)) = W2 at *
   have hW2s : W2.heap.size = w2.heap.size + 2:=by rw [<- hW2]; simp
   have hcar : ∀ b,Since wr.heap.size w2 b -> OwnSet w.heap.size W2 (.slice A acc.length c) b /\ W2.heap[b]? = w2.heap[b]?:=fun b hb=>⟨⟨⟨by have:=hb.1; omega,by have:=hb.2; omega⟩,fun e=>by have:=Hv5.out b e.symm; have:=hb.1; omega⟩,K1.block b hb.2⟩
   have HO8:=hid (OwnN.push K1 HZ6.out (HPt.out.carry hcar) (HQt.out.carry hcar) hown' hgrow (by simpa [hW2s] using hwh))
   have HB8:=hid ((HB2.out.trans (K1.mono (by omega))).grown hgrow (by omega) (fun k e=>(Hv5.out k e).1))
   have hb8 : BoxAt w8 w2.heap.size #[.int .i64 x.ty,.int .i64 x.lv,.string x.tx,.string x.nm,.slice A' x.val.length c',.slice B' x.ats.length d',.int .i64 x.fr,.int .i64 x.tu] 34:=(hgrow.block w2.heap.size (by omega) (fun e=>by have:=(Hv5.out _ e.symm).2; omega)).trans Hbox.out
   obtain ⟨A3,c3,rfl⟩:=own_slice hown' (by omega)
   obtain ⟨q0,q1,q2,q3,q4,q5,q6,q7,p0,p1,p2,p3,p4,p5,p6,p7⟩:=cellsE hb8
   have hl8:=hb8.lt
   clear hown' hgrow hwh K1 hcar hb8 hW2 hW2s hown1 r0 r1 r2 r3 r4 r5 r6 r7 f0 f1 f2 f3 f4 f5 f6 f7
   go_wp2_with fail
   go_at_call 23
   refine (HPk.out _).mono ?_
   rintro e w9 ⟨rfl,hb9⟩
   have HB9:=hid (HB8.out.trans (hb9.mono HB8.out.size))
   have HO9:=hid (HO8.out.below hb9)
   clear hb9
   go_wp2
   go_roundw
   case rel =>
    refine ⟨acc ++ [x],nx,A3,c3,?_,rfl,g3,?_,HG1,HB9,?_⟩
    ·show Value.slice A3 _ c3 = _
     simp
    ·rw [List.length_append,List.length_singleton]; omega
    ·rw [List.length_append,List.length_singleton]
     exact HO9
   case measure=>simp [intOf]; omega
  ·have d1 : decide ((k : Int) < (s.size : Int)) = false:=decide_eq_false (by omega)
   have d2 : ¬ (k : Int) < (s.size : Int):=by omega
   have hR:=HG.out
   rw [parseGo_end s acc k hlt] at hR
   subst hR
   go_wp2
   go_ret
   obtain ⟨A2,c2,e2,hl⟩:=HO.out.list
   cases e2
   exact ⟨HBel.out,A,c,rfl,hl⟩
theorem mkB_dl (l : List UInt8) : (mkB l).data.toList = l:=List.toList_toArray
theorem NsF.get {W : World} {F : Nat -> Prop} : ∀ {l : List EN} {b o : Nat} (j : Nat) {x : EN},NsF W F l b o -> l[j]? = some x ->
  F b /\ (∃ (A : Option Addr) (c : Nat) (B : Option Addr) (d : Nat),W.cell? ⟨b,o + j * 8,none⟩ = some (.int .i64 x.ty) /\ W.cell? ⟨b,o + j * 8 + 1,none⟩ = some (.int .i64 x.lv) /\ W.cell? ⟨b,o + j * 8 + 2,none⟩ = some (.string x.tx) /\ W.cell? ⟨b,o + j * 8 + 3,none⟩ = some (.string x.nm) /\
   W.cell? ⟨b,o + j * 8 + 4,none⟩ = some (.slice A x.val.length c) /\ W.cell? ⟨b,o + j * 8 + 5,none⟩ = some (.slice B x.ats.length d) /\ W.cell? ⟨b,o + j * 8 + 6,none⟩ = some (.int .i64 x.fr) /\ W.cell? ⟨b,o + j * 8 + 7,none⟩ = some (.int .i64 x.tu) /\
   PatF W F x.val (.slice A x.val.length c) /\ AtsF W F x.ats (.slice B x.ats.length d))
 | [],b,o,j,x,h,hj=>by simp at hj
 | y :: r,b,o,0,x,h,hj=>by
  rw [NsF] at h
  simp at hj
  subst hj
  rw [Nat.zero_mul]
  exact ⟨h.1,h.2.1⟩
 | y :: r,b,o,j + 1,x,h,hj=>by
  rw [NsF] at h
  have:=NsF.get j h.2.2 (by simpa using hj)
  rw [show o + (j + 1) * 8 = o + 8 + j * 8 by omega]
  exact this
theorem list_at {W : World} {F : Nat -> Prop} {l : List EN} {A : Option Addr} {c : Nat} (h : ListF W F l (.slice A l.length c)) (h0 : 0 < l.length) : ∃ b o,A = some ⟨b,o,none⟩ /\ NsF W F l b o:=by
 obtain ⟨A',c',e,_,_,h2⟩:=h
 simp only [Value.slice.injEq] at e
 obtain ⟨rfl,_,rfl⟩:=e
 exact h2 h0
end Go.Proofs.YtgdkpamlkpncgaaGreatDoor
