/-
  Several texts put together (part 30): what the law and the program call, walked; their contracts.
-/
import Derived.Test.YtgdkpamlkpncgaaGreatDoorR29
import Derived.Test.YtgdkpamlkpncgaaGreatDoorR19
import Derived.Test.YtgdkpamlkpncgaaGreatDoorR22
import Derived.Test.YtgdkpamlkpncgaaGreatDoorR17
namespace Go.Proofs.YtgdkpamlkpncgaaGreatDoor
open Go.RowKit Go.Maps
open _root_.Go.Lib (hid)
set_option linter.unusedVariables false
set_option linter.unusedSimpArgs false
def exName : EX -> ByteArray | .mk _ _ n _ _ _ _=>n
section
variable {s : ByteArray} {P : Nat -> Res} {i j : Nat} {e : EX}
theorem ext_le (s : ByteArray) (i j : Nat) : (s.extract i j).size <= s.size:=by rw [ByteArray.size_extract]; omega
theorem quo_flat (h : quoS s i = some (e,j)) : exArgs e = [] /\ (exName e).size <= s.size:=by
 unfold quoS at h
 split at h
 ·cases h; exact ⟨rfl,Nat.zero_le _⟩
 ·cases h
theorem nub_flat (h : nubS s i = some (e,j)) : exArgs e = [] /\ (exName e).size <= s.size:=by
 unfold nubS at h
 split at h
 ·cases h
 ·cases h; exact ⟨rfl,Nat.zero_le _⟩
theorem ref_flat {k : Int} (h : refS k s i = some (e,j)) : exArgs e = [] /\ (exName e).size <= s.size:=by
 unfold refS at h
 split at h
 ·cases h
 ·split at h
  ·split at h
   ·cases h
   ·cases h; exact ⟨rfl,ext_le _ _ _⟩
  ·cases h; exact ⟨rfl,ext_le _ _ _⟩
theorem head_flat (h : headS P s i = some (e,j)) : exArgs e = [] /\ (exName e).size <= s.size:=by
 unfold headS at h
 rcases or_some h with h | h
 ·exact quo_flat h
 rcases or_some h with h | h
 ·unfold varS at h
  split at h
  ·cases h; exact ⟨rfl,ext_le _ _ _⟩
  ·cases h
 rcases or_some h with h | h
 ·unfold nestS at h
  split at h
  ·cases h; exact ⟨rfl,Nat.zero_le _⟩
  ·cases h
 rcases or_some h with h | h
 ·unfold terS at h
  split at h
  ·exact ref_flat h
  ·cases h
 rcases or_some h with h | h
 ·exact ref_flat h
 ·exact nub_flat h
theorem arg_flat {n : ByteArray} (h : argS P s i = some (n,e,j)) : exArgs e = [] /\ (exName e).size <= s.size /\ n.size <= s.size:=by
 unfold argS at h
 split at h
 ·next hn =>
  cases h
  unfold namS at hn
  split at hn
  ·cases hn
  ·split at hn
   ·split at hn
    ·next ho =>
     cases hn
     have : exArgs e = [] /\ (exName e).size <= s.size:=by
      rcases or_some ho with ho | ho
      ·exact quo_flat ho
      ·exact nub_flat ho
     exact ⟨this.1,this.2,ext_le _ _ _⟩
    ·cases hn
   ·cases hn
 ·split at h
  ·next hh=>cases h; exact ⟨(head_flat hh).1,(head_flat hh).2,Nat.zero_le _⟩
  ·cases h
end
theorem exF_open {W : World} {F : Nat -> Prop} {k : Int} {t n a : ByteArray} {al i vs : Value} {x : EX} (h : ExF W F x ⟨.int .i64 k,.string t,.string n,.string a,al,i,vs⟩) (isF : Bool) (hF : isFuncS x = isF) (hT : isF = false -> isTermS x = true) :
  ExF W F (opnE x) ⟨.int .i64 (if isF then 5 else k),.string t,.string n,.string a,al,i,vs⟩:=by
 cases x with
 | mk k' t' n' a' al' i' vs' =>
  rw [ExF] at h
  obtain ⟨h1,h2,h3,h4,h5,h6,h7⟩:=h
  have hk : k = k':=by injection h1
  subst hk
  rw [opnE,ExF]
  refine ⟨?_,h2,h3,h4,h5,h6,h7⟩
  cases isF with
  | true =>
   have : k = 3:=by
    have h8 : ((k == 3) && emp a' && bigV n') = true:=hF
    simp at h8
    exact h8.1.1
   rw [if_pos this]
   rfl
  | false =>
   have : k = 4:=by have:=hT rfl; simpa [isTermS] using this
   rw [if_neg (show ¬ k = 3 by omega)]
   rfl
theorem exF_mk {W : World} {F : Nat -> Prop} {k : Int} {t n a : ByteArray} {al i vs : Value} {x : EX} (h : ExF W F x ⟨.int .i64 k,.string t,.string n,.string a,al,i,vs⟩) : ∃ al' i' vs',x = .mk k t n a al' i' vs':=by
 cases x with
 | mk k' t' n' a' al' i' vs' =>
  rw [ExF] at h
  obtain ⟨h1,h2,h3,h4,_⟩:=h
  cases h1
  cases h2
  cases h3
  cases h4
  exact ⟨_,_,_,rfl⟩
theorem opn_fst {s : ByteArray} {e : EX} {i : Nat} (h : (opnS s e i).1 = true) : isFuncS e = true ∨ isTermS e = true:=by
 unfold opnS at h
 split at h
 ·next hc=>simpa using hc
 ·cases h
theorem exArgs_opn (e : EX) : exArgs (opnE e) = exArgs e:=by cases e; rfl
theorem exF_nil {W : World} {F : Nat -> Prop} {k : Int} {t n a : ByteArray} {al : List AR} {i : Option EX} {vs : List VA} {ck ct cn ca cal ci cvs : Value} (h : ExF W F (.mk k t n a al i vs) ⟨ck,ct,cn,ca,cal,ci,cvs⟩) (ha : al = []) : cal = .slice none 0 0:=by
 rw [ExF] at h
 exact h.2.2.2.2.1.2 (by rw [ha]; rfl)
theorem opened_world {rb : Nat} {s : ByteArray} {q : Nat} {w wm w3 : World} {eb : Nat} {isF : Bool} {k : Int} {t n a : ByteArray} {A1 : Option Addr} {n1 c1 : Nat} {p : Option Addr} {A2 : Option Addr} {n2 c2 : Nat} {T : TypeId} (h : (if (isF && true) = true then wm.setCell ⟨eb,0,none⟩ (.int .i64 5) else wm) = w3)
  (hb : BoxAt wm eb #[.int .i64 k,.string t,.string n,.string a,.slice A1 n1 c1,.pointer p,.slice A2 n2 c2] T) (hne : rb ≠ eb) (hrb : rb < w.heap.size) (hwb : w.heap.size <= eb) (hr : Rd rb s q wm) (hk : Kp rb w wm) :
  BoxAt w3 eb #[.int .i64 (if isF then 5 else k),.string t,.string n,.string a,.slice A1 n1 c1,.pointer p,.slice A2 n2 c2] T /\ Rd rb s q w3 /\ Kp rb w w3 /\ w3.heap.size = wm.heap.size /\ ∀ b,b ≠ eb -> w3.heap[b]? = wm.heap[b]?:=by
 cases isF with
 | false =>
  simp at h
  subst h
  exact ⟨hb,hr,hk,rfl,fun _ _=>rfl⟩
 | true =>
  simp at h
  subst h
  refine ⟨?_,hr.setOther hne 0 _,hk.setNew hwb hrb 0 _,World.size_setCell _ _ _,fun b hb=>Below.heap_setCell _ _ _ b hb⟩
  unfold BoxAt at hb ⊢
  simp [World.setCell,Array.getElem?_modify,hb]
theorem exF_shape {W : World} {F : Nat -> Prop} {x : EX} {c : C7} (h : ExF W F x c) : ∃ k t n a A1 n1 c1 p A2 n2 c2,c = ⟨.int .i64 k,.string t,.string n,.string a,.slice A1 n1 c1,.pointer p,.slice A2 n2 c2⟩ /\ termAttr x = ((k == 4) && !emp a):=by
 obtain ⟨ck,ct,cn,ca,cal,ci,cvs⟩:=c
 cases x with
 | mk k t n a al i vs =>
  rw [ExF] at h
  obtain ⟨h1,h2,h3,h4,⟨⟨A1,c1,h5,_⟩,_⟩,h6,⟨A2,c2,h7,_⟩⟩:=h
  dsimp only at h1 h2 h3 h4 h5 h6 h7
  subst h1 h2 h3 h4 h5 h7
  cases i with
  | none=>simp only [OF] at h6; subst h6; exact ⟨_,_,_,_,_,_,_,_,_,_,_,rfl,rfl⟩
  | some e=>simp only [OF] at h6; obtain ⟨b,o,c,rfl,_⟩:=h6; exact ⟨_,_,_,_,_,_,_,_,_,_,_,rfl,rfl⟩
theorem addOk_eq (xs : List AR) (n : ByteArray) (e : EX) : addOk xs n e = (if emp n = true then decide ((seenOf xs).length = 0) && !termAttr e else !memB n (seenOf xs)):=by
 unfold addOk
 by_cases h : emp n = true
 ·rw [if_pos h,if_pos h,seenOf_empty]
 ·rw [if_neg h,if_neg h,seenOf_mem xs n (by simpa using h)]
theorem Kp.more {rb : Nat} {w a b : World} (h : Kp rb w a) (g : Below (w.heap.size + 1) a b) (hr : rb < w.heap.size) : Kp rb w b :=
 ⟨h.below.trans (g.mono (by omega)),fun k hk hn=>(g.block k (by omega)).trans (h.others k hk hn)⟩
theorem Rd.more {rb B : Nat} {s : ByteArray} {i : Nat} {a b : World} (h : Rd rb s i a) (g : Below B a b) (hr : rb < B) : Rd rb s i b:=(g.block rb hr).trans h
theorem BoxAt.more {B k : Nat} {cs : Array Value} {t : TypeId} {a b : World} (h : BoxAt a k cs t) (g : Below B a b) (hk : k < B) : BoxAt b k cs t:=(g.block k hk).trans h
theorem StP.addWith {B g cap : Nat} {W : World} {cs : Array Value} {x1 ys : List Value} {c : C7} {nv : Value} {b1 b2 : List Nat} {fs : List Fr} {top : Fr} (h : StP B W g cap cs x1 ys c nv b1 b2 fs top) (X : ByteArray) (y : EX) (k : Int) (t nn a : ByteArray) (A1 : Option Addr) (n1 d1 : Nat) (p : Option Addr) (A2 : Option Addr) (n2 d2 : Nat)
  (hy : ExF W (FS B W g b1 b2) y ⟨.int .i64 k,.string t,.string nn,.string a,.slice A1 n1 d1,.pointer p,.slice A2 n2 d2⟩) (hn : top.xs.length <= 1000000000) (hX : X.size <= 1000000000) (hf : fs.length <= 1000000000) :
  Calls Tryz.prog 266 #[.pointer (some ⟨g,fs.length * 9,none⟩),.agg #[.string X,.int .i64 k,.string t,.string nn,.string a,.slice A1 n1 d1,.pointer p,.slice A2 n2 d2]] W fun e W' =>
   e = .returned (.bool (addOk top.xs X y)) /\ Below B W W' /\ (addOk top.xs X y = true -> StAt B W' (.slice (some ⟨g,0,none⟩) (fs.length + 1) cap) fs ⟨top.e,top.xs ++ [.mk X y],true⟩):=by
 obtain ⟨_,_,_,_,_,_,_,_,_,_,_,hce,hta⟩:=exF_shape hy
 cases hce
 have hnd:=List.nodup_cons.1 h.nodup
 have hA:=add_any cs c.al nv top.xs.length ys (seenOf top.xs) X k t nn a A1 n1 d1 p A2 n2 d2 W h.hg h.hB (by rw [h.hcs]; have:=h.hc1; omega) (h.cell 4 _ rfl) (h.cell 7 _ rfl) (h.cell 8 _ rfl) h.hal (fun e=>hnd.1 (List.mem_append_right _ (h.al_mem e))) h.hnm hn hX (by omega)
 rw [<- hta,<- addOk_eq] at hA
 refine hA.mono ?_
 rintro e W' ⟨h1,h2,h3⟩
 refine ⟨h1,h2,fun hq=>h.added hy ?_⟩
 rw [seenOf_snoc]
 exact h3 hq
theorem opened_world8 {rb : Nat} {s : ByteArray} {q : Nat} {w wm w3 : World} {eb : Nat} {isF : Bool} {X : ByteArray} {k : Int} {t n a : ByteArray} {A1 : Option Addr} {n1 c1 : Nat} {p : Option Addr} {A2 : Option Addr} {n2 c2 : Nat} {T : TypeId} (h : (if (isF && true) = true then wm.setCell ⟨eb,1,none⟩ (.int .i64 5) else wm) = w3)
  (hb : BoxAt wm eb #[.string X,.int .i64 k,.string t,.string n,.string a,.slice A1 n1 c1,.pointer p,.slice A2 n2 c2] T) (hne : rb ≠ eb) (hrb : rb < w.heap.size) (hwb : w.heap.size <= eb) (hr : Rd rb s q wm) (hk : Kp rb w wm) :
  BoxAt w3 eb #[.string X,.int .i64 (if isF then 5 else k),.string t,.string n,.string a,.slice A1 n1 c1,.pointer p,.slice A2 n2 c2] T /\ Rd rb s q w3 /\ Kp rb w w3 /\ w3.heap.size = wm.heap.size /\ ∀ b,b ≠ eb -> w3.heap[b]? = wm.heap[b]?:=by
 cases isF with
 | false =>
  simp at h
  subst h
  exact ⟨hb,hr,hk,rfl,fun _ _=>rfl⟩
 | true =>
  simp at h
  subst h
  refine ⟨?_,hr.setOther hne 1 _,hk.setNew hwb hrb 1 _,World.size_setCell _ _ _,fun b hb=>Below.heap_setCell _ _ _ b hb⟩
  unfold BoxAt at hb ⊢
  simp [World.setCell,Array.getElem?_modify,hb]
theorem new9 (w : World) (t : TypeId) {x0 x1 x2 x3 x4 x5 x6 x7 x8 : Value} : ∀ j u,([x0,x1,x2,x3,x4,x5,x6,x7,x8] : List Value)[j]? = some u -> (w.alloc (.cells #[x0,x1,x2,x3,x4,x5,x6,x7,x8] t)).cell? ((⟨w.heap.size,0,none⟩ : Addr).add j) = some u:=by
 intro j u hj
 rw [Addr.add_mid,Nat.zero_add]
 have:=BoxAt.cell (BoxAt.new w #[x0,x1,x2,x3,x4,x5,x6,x7,x8] t) j
 rw [this]
 simpa using hj
set_option maxHeartbeats 2000000 in
set_option maxRecDepth 100000 in
theorem opens_flat (rb : Nat) (k : Int) (h3 : k ≠ 3) (h4 : k ≠ 4) (eb eo : Nat) (w : World) (h0 : w.cell? ⟨eb,eo,none⟩ = some (.int .i64 k)) :
  Calls Tryz.prog 265 #[pt rb,.pointer (some ⟨eb,eo,none⟩)] w fun e w'=>e = .returned (.bool false) /\ w' = w:=by
 have z3 : (k == 3) = false:=beq_eq_false_iff_ne.2 h3
 have z4 : (k == 4) = false:=beq_eq_false_iff_ne.2 h4
 have y4 : (k != 4) = true:=by rw [bne,z4]; rfl
 unfold pt
 go_enter Tryz.func265,Tryz.ntmps265
 go_wp2
 go_ret
 exact ⟨rfl,rfl⟩
theorem StP.push2 {B g cap : Nat} {W W' : World} {cs : Array Value} {x1 ys : List Value} {c : C7} {nv v : Value} {b1 b2 : List Nat} {fs : List Fr} {top : Fr} {o : Obj} (h : StP B W g cap cs x1 ys c nv b1 b2 fs top) {e : EX} {ce : C7} (he : ExF W (FS B W g b1 b2) e ce) (hea : exArgs e = []) (hn : ce.al = .slice none 0 0)
  (ho : W'.ownsRow B 369 9 v (fs.length + 1 + 1) (x1 ++ [c.k,c.t,c.n,c.a,c.al,c.i,c.vs,nv,.bool top.want] ++ [ce.k,ce.t,ce.n,ce.a,ce.al,ce.i,ce.vs,.map none,.bool false]))
  (hgr : (W.alloc o).grownBy W' (some g)) (hw : v.ownBlock = some g ∨ v.ownBlock = some (W.heap.size + 1)) : StAt B W' v (fs ++ [top]) ⟨e,[],false⟩:=by
 have h2:=h.kept (W':=W.alloc o) (by rw [World.size_alloc]; omega) (fun b _ hb=>Lib.alloc_old _ _ b hb)
 exact h2.push (ExF.carry (fun b hb=>⟨⟨hb.1,by rw [World.size_alloc]; have:=hb.2.1; omega,hb.2.2⟩,Lib.alloc_old _ _ b hb.2.1⟩) _ _ he) hea hn ho hgr (by rw [World.size_alloc]; exact hw)
structure InAt (rb : Nat) (s : ByteArray) (P : Nat -> Res) (R : Res) (w : World) (v : Value) (fs : List Fr) (top : Fr) (j : Nat) (wr : World) : Prop where
 hj : j <= s.size
 hf : fs.length <= j
 hn : ∀ f ∈ fs,f.xs.length <= j
 ht : top.xs.length <= j
 ans : runS P s top fs.reverse j = R
 rd : Rd rb s j wr
 kp : Kp rb w wr
 st : StAt (w.heap.size + 1) wr v fs top
 box : BoxAt wr w.heap.size zE 48
set_option maxHeartbeats 4000000 in
set_option maxRecDepth 100000 in
theorem inline_any {rb : Nat} {s : ByteArray} {d : Nat} {P : Nat -> Res} (hs : s.size <= 1000000000) (hd : d <= 4000) (hP : WayTo rb s 208 #[pt rb,.int .i64 ((d + 1 : Nat) : Int)] P) (hPos : PosOk s P) :
  WayTo rb s 237 #[pt rb,.int .i64 d] (inlS P s):=by
 intro i w hr hi
 have HR:=hid hr
 have hlt:=hr.lt
 obtain ⟨R,hRR⟩ : ∃ R,inlS P s i = R:=⟨_,rfl⟩
 rw [hRR]
 have hH:=fun W h=>head_way (rb:=rb) hs hd hP i W h hi
 obtain ⟨r0,hr0⟩ : ∃ r,headS P s i = r:=⟨_,rfl⟩
 rw [hr0] at hH
 have HH:=hid hH
 have hd0 : (d : Int) <= 4000:=by omega
 clear hH hr
 unfold pt at HH ⊢
 cases r0 with
 | none =>
  rw [inl_none hr0] at hRR
  subst hRR
  clear hr0
  go_enter Tryz.func237,Tryz.ntmps237
  go_wp2_with fail
  go_at_call 264
  refine (HH.out _ (HR.out.alloc _)).mono ?_
  rintro e w1 ⟨⟨h1,k,t,n,a,A1,n1,c1',p,A2,n2,c2',j,rfl,h2,hj,h3⟩,hz⟩
  have hc:=BoxAt.kp (BoxAt.new w zE 48) h1 (by omega)
  have HK:=hid (((Kp.refl rb w).alloc (Nat.le_of_lt hlt) (.cells zE 48)).trans h1)
  have HC:=hid hc
  have H2:=hid h2
  have hl:=hc.lt
  have hl2:=h2.lt
  obtain ⟨q0,q1,q2,q3,q4,q5,q6,p0,p1,p2,p3,p4,p5,p6⟩:=cells7 hc
  clear h1 h2 h3 hz hc
  unfold exV
  go_wp2
  exact end7w Tryz.results237 ((box_set7 HC.out _ _ _ _ _ _ _).alloc _) rfl rfl rfl ⟨(HK.out.set7 (Nat.le_refl _) hlt _ _ _ _ _ _ _).alloc (by rw [set7_size]; omega) _,k,t,n,a,A1,n1,c1',p,A2,n2,c2',j,rfl,(H2.out.set7 (by omega) _ _ _ _ _ _ _).alloc _,hj,fun x m h=>by cases h⟩
 | some ej =>
  obtain ⟨x,j0⟩:=ej
  have hfl:=head_flat hr0
  have hpos0:=head_pos hPos hi hr0
  rw [inl_run hr0] at hRR
  have hoB:=opn_pos (s:=s) x hpos0.2
  obtain ⟨b,hb⟩ : ∃ b,(opnS s x j0).1 = b:=⟨_,rfl⟩
  obtain ⟨q,hq⟩ : ∃ q,(opnS s x j0).2 = q:=⟨_,rfl⟩
  have hob:=opn_fst (s:=s) (e:=x) (i:=j0)
  rw [hb] at hRR hob
  rw [hq] at hRR hoB
  have HOb:=hid hob
  obtain ⟨isF,hisF⟩ : ∃ f,isFuncS x = f:=⟨_,rfl⟩
  rw [hisF] at HOb
  have HRR:=hid hRR
  have Hfl:=hid hfl
  have Hb:=hid hb
  have Hq:=hid hq
  have HisF:=hid hisF
  have HA:=hid (fun m W (h : Rd rb s m W) hm=>argument_any (rb:=rb) hs hd hP m W h hm)
  clear hr0 hRR hfl hb hq hisF hob
  go_enter Tryz.func237,Tryz.ntmps237
  go_wp2_with fail
  go_at_call 264
  refine (HH.out _ (HR.out.alloc _)).mono ?_
  rintro e w1 ⟨⟨h1,k,t,n,a,A1,n1,c1',p,A2,n2,c2',j,rfl,h2,hj,h3⟩,hz⟩
  have hc:=BoxAt.kp (BoxAt.new w zE 48) h1 (by omega)
  have HK:=hid (((Kp.refl rb w).alloc (Nat.le_of_lt hlt) (.cells zE 48)).trans h1)
  obtain ⟨rfl,hx⟩:=h3 x j0 rfl
  have HX:=hid hx
  have HC:=hid hc
  have H2:=hid h2
  have hl:=hc.lt
  have hl2:=h2.lt
  have hs1:=h1.size
  rw [World.size_alloc] at hs1
  obtain ⟨al',i',vs',rfl⟩:=exF_mk hx
  have hO:=fun W h1 h2 h3 h4 h5 h6 h7 h8=>opens_any (rb:=rb) hs k t n a al' i' vs' w1.heap.size 0 j0 W h1 hpos0.2 h2 h3 h4 h5 h6 h7 h8
  rw [HisF.out,Hb.out,Hq.out] at hO
  have HO:=hid hO
  have hn4 : n.size <= 4000000000:=by have:=Hfl.out.2; have : n.size <= s.size:=this; omega
  clear h1 h2 h3 hz hc hx hO
  unfold exV pt at *
  go_wp2_with fail
  go_at_call 265
  have hbx:=BoxAt.new w1 #[.int .i64 k,.string t,.string n,.string a,.slice A1 n1 c1',.pointer p,.slice A2 n2 c2'] 48
  have HBx:=hid hbx
  refine (HO.out _ (H2.out.alloc _) hn4 (by simp) (by omega) (hbx.cell 0) (hbx.cell 2) (hbx.cell 3) (Lib.frozen_of_heap hbx 0)).mono ?_
  rintro e w3 ⟨rfl,wm,g1,g2,g3,rfl⟩
  have hbm : BoxAt wm w1.heap.size #[.int .i64 k,.string t,.string n,.string a,.slice A1 n1 c1',.pointer p,.slice A2 n2 c2'] 48:=BoxAt.kp hbx g1 (by omega)
  have G1:=hid g1
  have G2:=hid g2
  have HBm:=hid hbm
  have hcm : BoxAt wm w.heap.size zE 48:=BoxAt.kp (BoxAt.alloc HC.out (.cells #[.int .i64 k,.string t,.string n,.string a,.slice A1 n1 c1',.pointer p,.slice A2 n2 c2'] 48)) g1 (by omega)
  have hKm:=((HK.out.alloc (Nat.le_of_lt (show rb < w1.heap.size by omega)) (.cells #[.int .i64 k,.string t,.string n,.string a,.slice A1 n1 c1',.pointer p,.slice A2 n2 c2'] 48)).trans g1)
  have hxm : ExF wm (fun q=>Since (w.heap.size + 1) wm q /\ q < w1.heap.size) (.mk k t n a al' i' vs') ⟨.int .i64 k,.string t,.string n,.string a,.slice A1 n1 c1',.pointer p,.slice A2 n2 c2'⟩:=ExF.carry (fun z hz=>by
   obtain ⟨hz1,hz2⟩:=hz
   rw [World.size_alloc] at hz1
   have hg:=g1.size
   rw [World.size_alloc] at hg
   exact ⟨⟨⟨hz1,by omega⟩,hz2⟩,(g1.others z (by rw [World.size_alloc]; omega) (by omega)).trans (Lib.alloc_old _ _ z hz2)⟩) _ _ HX.out
  have HCm:=hid hcm
  have HKm:=hid hKm
  have HXm:=hid hxm
  have hlm:=hcm.lt
  have hlm2:=HBm.out.lt
  clear g1 g2 hbx hbm hcm hKm hxm HX HBx HH HO
  cases b
  case false =>
   have hR:=HRR.out
   rw [if_neg (by simp)] at hR
   subst hR
   simp only [Bool.and_false,Bool.false_eq_true,if_false]
   obtain ⟨q0,q1,q2,q3,q4,q5,q6,p0,p1,p2,p3,p4,p5,p6⟩:=cells7 HCm.out
   obtain ⟨r0,r1,r2,r3,r4,r5,r6,f0,f1,f2,f3,f4,f5,f6⟩:=cells7 HBm.out
   go_wp2
   exact end7 Tryz.results237 HCm.out rfl rfl rfl rfl (got_fin (b:=w.heap.size) HKm.out (Nat.le_refl _) hlt G2.out g3 rfl (fun y m h=>by
    cases h
    exact ⟨rfl,ExF.carry (fun z hz=>⟨⟨⟨by have:=hz.1.1; omega,hz.1.2⟩,by have:=hz.1.1; omega⟩,rfl⟩) _ _ HXm.out⟩))
  have hR:=HRR.out
  rw [if_pos rfl] at hR
  have HRun:=hid hR
  clear hR HRR
  obtain ⟨w3,hw3⟩ : ∃ w3,(if (isF && true) = true then wm.setCell ⟨w1.heap.size,0,none⟩ (.int .i64 5) else wm) = w3:=⟨_,rfl⟩
  rw [hw3]
  obtain ⟨hb3,hr3,hk3,hs3,hh3⟩:=opened_world hw3 HBm.out (show rb ≠ w1.heap.size by omega) hlt (by omega) G2.out HKm.out
  have hcm3 : BoxAt w3 w.heap.size zE 48:=(hh3 _ (by omega)).trans HCm.out
  have hx3 : ExF w3 (fun q=>Since (w.heap.size + 1) w3 q /\ q < w1.heap.size) (opnE (.mk k t n a al' i' vs')) ⟨.int .i64 (if isF then 5 else k),.string t,.string n,.string a,.slice A1 n1 c1',.pointer p,.slice A2 n2 c2'⟩ :=
   exF_open (ExF.carry (fun z hz=>⟨⟨⟨hz.1.1,by rw [hs3]; exact hz.1.2⟩,hz.2⟩,hh3 z (by have:=hz.2; omega)⟩) _ _ HXm.out) isF HisF.out (fun h=>by
    rcases HOb.out rfl with h1 | h1
    ·rw [h] at h1; cases h1
    ·exact h1)
  have hnil:=exF_nil HXm.out Hfl.out.1
  simp only [Value.slice.injEq] at hnil
  obtain ⟨rfl,rfl,rfl⟩:=hnil
  obtain ⟨k2,hk2⟩ : ∃ k2,(if isF = true then 5 else k) = k2:=⟨_,rfl⟩
  rw [hk2] at hb3 hx3
  have hea : exArgs (opnE (.mk k t n a al' i' vs')) = []:=by rw [exArgs_opn]; exact Hfl.out.1
  have hst:=st_first (B:=w.heap.size + 1) hx3 (fun z hz=>⟨hz.1.1,hz.1.2⟩) (by omega) hea rfl
  have hIn : InAt rb s P R w (.slice (some ⟨w3.heap.size,0,none⟩) 1 1) [] ⟨opnE (.mk k t n a al' i' vs'),[],false⟩ q (w3.alloc (.cells #[.int .i64 k2,.string t,.string n,.string a,.slice none 0 0,.pointer p,.slice A2 n2 c2',.map none,.bool false] 369)) :=
   ⟨hoB.2,Nat.zero_le _,(fun f hf=>by cases hf),Nat.zero_le _,HRun.out,hr3.alloc _,hk3.alloc (by omega) _,hst,hcm3.alloc _⟩
  have HIn:=hid hIn
  obtain ⟨r0,r1,r2,r3,r4,r5,r6,f0,f1,f2,f3,f4,f5,f6⟩:=cells7 hb3
  clear hw3 hb3 hr3 hk3 hs3 hh3 hcm3 hx3 hk2 hea hst hIn HRun HXm HCm HKm HBm G1 G2 H2 HK HC hlm hlm2
  go_wp2
  go_loopw [7,8] (fun t7 t8 wr=>∃ ok,t7 = .bool ok /\ (ok = true -> ∃ fs top j,Hid (InAt rb s P R w t8 fs top j wr)) /\ (ok = false -> ∃ j,Hid (Rd rb s j wr) /\ j <= s.size /\ Hid (Kp rb w wr) /\ Hid (BoxAt wr w.heap.size zE 48) /\ Hid (none = R)))
   (fun t7 _ wr=>match t7 with | .bool true=>s.size - posOf rb wr + 1 | _=>0)
  case atStart=>exact ⟨true,rfl,fun _=>⟨_,_,_,HIn⟩,fun h=>by cases h⟩
  case round =>
   obtain ⟨ok,rfl,hok1,hok2⟩:=hrel
   cases ok
   case false =>
    obtain ⟨j,HR,hj,HK,HC,HN⟩:=hok2 rfl
    obtain ⟨q0,q1,q2,q3,q4,q5,q6,p0,p1,p2,p3,p4,p5,p6⟩:=cells7 HC.out
    clear hok1 hok2
    go_wp2
    exact end7 Tryz.results237 HC.out rfl rfl rfl rfl (got_fin (b:=w.heap.size) HK.out (Nat.le_refl _) hlt HR.out hj (by rw [<- HN.out]; rfl) (fun y m h=>by rw [<- HN.out] at h; cases h))
   obtain ⟨fs,top,j,HI⟩:=hok1 rfl
   clear hok1 hok2
   obtain ⟨hj,hf,hn,ht,hans,hrd,hkp,⟨g,cap,cs,x1,ys,c,nv,b1,b2,rfl,hS⟩,hbox⟩:=HI.out
   have hB:=bl_ok s j hj
   have hP1:=fun W (h : Rd rb s j W)=>pass_any endBlank W h (by omega) hj
   obtain ⟨p,hp⟩ : ∃ p,bl s j = p:=⟨_,rfl⟩
   have Hp:=hid hp
   rw [hp] at hB hP1
   have hT1:=fun W (h : Rd rb s p W)=>take_any 41 W h (by omega) hB.2
   obtain ⟨b,hb⟩ : ∃ b,isAt s p 41 = b:=⟨_,rfl⟩
   have Hb:=hid hb
   rw [hb] at hT1
   have HP1:=hid hP1
   have HT1:=hid hT1
   obtain ⟨m,hm⟩ : ∃ m,fs.length = m:=⟨_,rfl⟩
   have Hm:=hid hm
   rw [hm] at hf ⊢
   have Hans:=hid hans
   have Hn:=hid hn
   have Hpos:=hid hrd.pos
   have Hrd:=hid hrd
   have HS:=hid hS
   have Hkp:=hid hkp
   have Hbox:=hid hbox
   have hm0 : (m : Int) <= 1000000000:=by omega
   have x1' : (m : Int) < (m : Int) + 1:=by omega
   have x2' : (0 : Int) <= (m : Int):=by omega
   unfold pt at HP1 HT1
   clear hp hP1 hb hT1 hm hans hn hrd hS hkp hbox HI
   go_wp2_with fail
   go_at_call 169
   refine (HP1.out _ Hrd.out).mono ?_
   rintro e w5 ⟨rfl,g1,g2⟩
   have G1:=hid g1
   have HK5:=hid (Hkp.out.trans g2)
   have HS5:=hid (HS.out.kept g2.size (fun b h1 h2=>g2.others b h2 (by omega)))
   have HB5:=hid (Hbox.out.kp g2 (by omega))
   clear g1 g2
   go_wp2_with fail
   go_at_call 236
   refine (HT1.out _ G1.out).mono ?_
   rintro e w6 ⟨rfl,g1,g2⟩
   have HK6:=hid (HK5.out.trans g2)
   have HS6:=hid (HS5.out.kept g2.size (fun b h1 h2=>g2.others b h2 (by omega)))
   have HB6:=hid (HB5.out.kp g2 (by omega))
   cases b
   case true =>
    have G6:=hid (show Rd rb s (p + 1) w6 by simpa using g1)
    have hp1 : p + 1 <= s.size:=isAt_lt Hb.out
    have hans:=Hans.out
    rw [runS_close (by rw [Hp.out]; exact Hb.out),Hp.out] at hans
    clear g1 g2 HS5 HB5 HK5 G1 Hkp Hbox HS Hrd
    rcases List.eq_nil_or_concat fs with rfl | ⟨fs',f2,rfl⟩
    ·have hm0' : m = 0:=Hm.out.symm
     subst hm0'
     have hw:=HS6.out.whole (F:=fun z=>Since w.heap.size w6 z /\ z ≠ w.heap.size) (fun z hz=>⟨⟨by have:=hz.1; omega,hz.2.1⟩,by have:=hz.1; omega⟩) (fun z hz=>by
      have:=HS6.out.own z (List.mem_append_right _ (HS6.out.al_mem hz))
      exact ⟨⟨by omega,this.2⟩,by omega⟩)
     rw [List.reverse_nil,upS] at hans
     obtain ⟨k',t',n',a',B1,m1,d1,p',B2,m2,d2,rfl,_⟩:=exF_shape hw
     have hcell:=fun j u hu=>(cell_of_row w6 g j _ _ (0,0) HS6.out.hg).trans ((by simpa using HS6.out.cell j u hu) : cs[j]? = some u)
     have q0:=hcell 0 _ rfl
     have q1:=hcell 1 _ rfl
     have q2:=hcell 2 _ rfl
     have q3:=hcell 3 _ rfl
     have q4:=hcell 4 _ rfl
     have q5:=hcell 5 _ rfl
     have q6:=hcell 6 _ rfl
     obtain ⟨r0,r1,r2,r3,r4,r5,r6,f0,f1,f2,f3,f4,f5,f6⟩:=cells7 HB6.out
     have Hw:=hid hw
     have HAns:=hid hans
     clear hw hans hcell
     go_wp2
     exact end7 Tryz.results237 HB6.out rfl rfl rfl rfl (got_fin (b:=w.heap.size) HK6.out (Nat.le_refl _) hlt G6.out hp1 (by rw [<- HAns.out]; rfl) (fun y mm h=>by rw [<- HAns.out] at h; cases h; exact ⟨rfl,Hw.out⟩))
    ·obtain ⟨m',hm'⟩ : ∃ m',fs'.length = m':=⟨_,rfl⟩
     have hmm : m = m' + 1:=by rw [<- Hm.out,<- hm']; simp
     subst hmm
     rw [List.concat_eq_append] at HS6 Hn hans
     rw [List.reverse_append,List.reverse_singleton,List.singleton_append,upS_cons] at hans
     obtain ⟨x1',ys',c',nv',b1',b2',hS',hw⟩:=HS6.out.pop
     have hc1:=HS6.out.hc1
     rw [List.length_append,List.length_singleton,hm'] at hc1
     obtain ⟨k',t',n',a',B1,m1,d1,p',B2,m2,d2,rfl,hta⟩:=exF_shape hw
     have hlen : (fs' ++ [f2]).length = m' + 1:=by rw [List.length_append,List.length_singleton,hm']
     have hcell0:=HS6.out.cell
     rw [hlen] at hcell0
     have hcell:=fun jj u hu=>(cell_of_row w6 g ((m' + 1) * 9 + jj) _ _ (0,0) HS6.out.hg).trans (hcell0 jj u hu)
     have q0:=hcell 0 _ rfl
     have q1:=hcell 1 _ rfl
     have q2:=hcell 2 _ rfl
     have q3:=hcell 3 _ rfl
     have q4:=hcell 4 _ rfl
     have q5:=hcell 5 _ rfl
     have q6:=hcell 6 _ rfl
     rw [Nat.add_zero] at q0
     have Hta:=hid hta
     have Hw:=hid hw
     have HS':=hid hS'
     have HAns:=hid hans
     have Hm':=hid hm'
     have z1 : (((m' + 1 : Nat) : Int) == 0) = false:=beq_eq_false_iff_ne.2 (by omega)
     have z2 : ((m' : Int) + 1 == 0) = false:=beq_eq_false_iff_ne.2 (by omega)
     have z3 : ((m' + 1 : Nat) : Int) <= (cap : Int):=by omega
     have z4 : (m' : Int) + 1 <= (cap : Int):=by omega
     have z5 : (m' : Int) < (m' : Int) + 1:=by omega
     have z6 : (0 : Int) <= (m' : Int):=by omega
     have z7 : IntKind.i64.wrap (m' : Int) = (m' : Int):=IntWalk.i64_in _ (by omega)
     have z8 : IntKind.i64.wrap ((m' : Int) + 1 - 1) = (m' : Int):=by rw [Int.add_sub_cancel]; exact z7
     clear hw hans hcell hcell0 hlen hta hS' hm'
     go_wp2_with fail
     go_still_tail 9,(by kernel_rfl)
     change wpList _ _ _ _ _ w6.drew
     have hfl2 : f2.xs.length <= j:=Hn.out f2 (by simp)
     have hSD:=HS'.out.kept (W':=w6.drew) (Nat.le_refl _) (fun _ _ _=>rfl)
     have hWD : ExF w6.drew (FS (w.heap.size + 1) w6.drew g b1' b2') (withArgs top.e top.xs) ⟨.int .i64 k',.string t',.string n',.string a',.slice B1 m1 d1,.pointer p',.slice B2 m2 d2⟩:=ExF.carry (W:=w6) (W':=w6.drew) (F:=FS (w.heap.size + 1) w6 g b1' b2') (F':=FS (w.heap.size + 1) w6.drew g b1' b2') (fun b hb=>⟨hb,rfl⟩) _ _ Hw.out
     have hAdd:=hSD.addWith E0 (withArgs top.e top.xs) k' t' n' a' B1 m1 d1 p' B2 m2 d2 hWD (by omega) (Nat.zero_le _) (by have:=Hm'.out; omega)
     rw [Hm'.out] at hAdd
     obtain ⟨ok,hok⟩ : ∃ ok,addOk f2.xs E0 (withArgs top.e top.xs) = ok:=⟨_,rfl⟩
     rw [hok] at hAdd
     have HAdd:=hid hAdd
     have Hok:=hid hok
     clear hAdd hok hSD hWD
     go_wp2_with fail
     go_at_call 266
     refine HAdd.out.mono ?_
     rintro e w8 ⟨rfl,h8,h8s⟩
     have HK8:=hid (HK6.out.drew.more h8 hlt)
     have G8:=hid (Rd.more (a:=w6.drew) G6.out h8 (by omega))
     have HB8:=hid (BoxAt.more (a:=w6.drew) HB6.out h8 (by omega))
     have H8s:=hid h8s
     clear h8 h8s
     cases ok
     case false =>
      have hR:=HAns.out
      rw [Hok.out,if_neg (by simp)] at hR
      have HR':=hid hR
      clear hR
      go_wp2
      go_roundw
      case rel=>exact ⟨false,rfl,(fun h=>by cases h),fun _=>⟨p + 1,G8,hp1,HK8,HB8,HR'⟩⟩
      case measure=>simp
     have hR:=HAns.out
     rw [Hok.out,if_pos rfl] at hR
     have HR':=hid hR
     clear hR
     go_wp2
     go_roundw
     case rel =>
      refine ⟨true,rfl,fun _=>⟨fs',⟨f2.e,f2.xs ++ [.mk E0 (withArgs top.e top.xs)],true⟩,p + 1,⟨hp1,?_,?_,?_,HR'.out,G8.out,HK8.out,?_,HB8.out⟩⟩,(fun h=>by cases h)⟩
      ·have:=Hm'.out; omega
      ·intro f hfm
       have:=Hn.out f (List.mem_append_left _ hfm)
       omega
      ·show (f2.xs ++ _).length <= p + 1
       rw [List.length_append,List.length_singleton]; omega
      ·first | exact H8s.out rfl | exact H8s.out trivial
     case measure =>
      show s.size - posOf rb _ + 1 < s.size - posOf rb wr + 1
      rw [G8.out.pos,Hpos.out]
      omega
   case false =>
    have G6:=hid (show Rd rb s p w6 by simpa using g1)
    clear g1 g2 HS5 HB5 HK5 G1 Hkp Hbox HS Hrd
    have hc8 : w6.cell? ⟨g,m * 9 + 8,none⟩ = some (.bool top.want):=(cell_of_row w6 g (m * 9 + 8) _ _ (0,0) HS6.out.hg).trans (by have:=HS6.out.cell 8 _ rfl; rw [Hm.out] at this; exact this)
    have hans:=Hans.out
    have hcb : isAt s (bl s j) 41 = false:=by rw [Hp.out]; exact Hb.out
    have hgl:=HS6.out.lt
    have hnd:=List.nodup_cons.1 HS6.out.nodup
    have Hnd:=hid hnd
    clear hnd
    cases hwt : top.want
    case true =>
     rw [runS_comma hcb hwt,Hp.out] at hans
     rw [hwt] at hc8
     have hT2:=fun W (h : Rd rb s p W)=>take_any 44 W h (by omega) hB.2
     obtain ⟨b3,hb3⟩ : ∃ b,isAt s p 44 = b:=⟨_,rfl⟩
     have hp2 : b3 = true -> p + 1 <= s.size:=fun h=>isAt_lt (hb3.trans h)
     rw [hb3] at hT2 hans
     have HT2:=hid hT2
     have Hp2:=hid hp2
     have HAns:=hid hans
     have Hwt:=hid hwt
     have HAnsO:=Hans
     unfold pt at HT2
     clear hT2 hb3 hans hwt hcb hp2
     go_wp2_with fail
     go_at_call 236
     refine (HT2.out _ G6.out).mono ?_
     rintro e w7 ⟨rfl,g1,g2⟩
     have HK7:=hid (HK6.out.trans g2)
     have hs7:=HS6.out.kept g2.size (fun b h1 h2=>g2.others b h2 (by omega))
     have hw7:=hs7.wantSet false
     rw [Hm.out] at hw7
     have HS7:=hid hw7
     have HB7:=hid (HB6.out.kp g2 (by omega))
     have k8 : w7.cell? ⟨g,m * 9 + 8,none⟩ = some (.bool true):=(cell_same (g2.others g hgl (by have:=HS6.out.hB; omega)) _).trans hc8
     have f8 : w7.frozen? ⟨g,m * 9 + 8,none⟩ = false:=Lib.frozen_of_heap hs7.hg _
     have hgB:=HS6.out.hB
     have hgl7:=hs7.lt
     have G7:=hid g1
     clear g1 g2 hs7 hw7
     cases b3
     case false =>
      have hR:=HAns.out
      rw [if_neg (by simp)] at hR
      have HR':=hid hR
      have G7':=hid (show Rd rb s p w7 by simpa using G7.out)
      clear hR HAns
      go_wp2
      go_roundw
      case rel=>exact ⟨false,rfl,(fun h=>by cases h),fun _=>⟨p,G7'.out.setOther (by omega) _ _,hB.2,HK7.out.setNew (by omega) hlt _ _,HB7.out.kept_cell (by omega) _ _,HR'⟩⟩
      case measure=>simp
     have hR:=HAns.out
     rw [if_pos rfl] at hR
     have HR':=hid hR
     have G7':=hid (show Rd rb s (p + 1) w7 by simpa using G7.out)
     have hp2' : p + 1 <= s.size:=Hp2.out rfl
     clear hR HAns
     go_wp2
     go_roundw
     case rel =>
      refine ⟨true,rfl,fun _=>⟨fs,⟨top.e,top.xs,false⟩,p + 1,⟨hp2',?_,?_,?_,HR'.out,G7'.out.setOther (by omega) _ _,HK7.out.setNew (by omega) hlt _ _,?_,HB7.out.kept_cell (by omega) _ _⟩⟩,(fun h=>by cases h)⟩
      ·have:=Hm.out; omega
      ·intro f hfm
       have:=Hn.out f hfm
       omega
      ·show top.xs.length <= p + 1
       omega
      ·exact ⟨_,_,_,_,_,_,_,_,_,by rw [Hm.out],HS7.out⟩
     case measure =>
      show s.size - posOf rb _ + 1 < s.size - posOf rb wr + 1
      rw [(G7'.out.setOther (by omega) _ _).pos,Hpos.out]
      omega
    case false =>
     rw [hwt] at hc8
     have hl6:=HB6.out.lt
     have hlr6:=G6.out.lt
     have hA0:=fun W h=>HA.out p W h hB.2
     obtain ⟨r,hr⟩ : ∃ r,argS P s p = r:=⟨_,rfl⟩
     rw [hr] at hA0
     have HA0:=hid hA0
     have Hr:=hid hr
     have Hwt:=hid hwt
     have Hcb:=hid hcb
     have Hans2:=hid hans
     clear hA0 hr hwt hcb hans
     go_wp2_with fail
     go_at_call 267
     refine (HA0.out _ (G6.out.alloc _)).mono ?_
     rintro e w7 ⟨h1,X,k',t',n',a',B1,m1,d1,p',B2,m2,d2,j1,rfl,h2,hj1,h0,h3⟩
     have hab:=BoxAt.kp (BoxAt.new w6 zA 127) h1 (by omega)
     have hcb7:=BoxAt.kp (BoxAt.alloc HB6.out (.cells zA 127)) h1 (by omega)
     have hK7:=(HK6.out.alloc (by omega) (.cells zA 127)).trans h1
     have hs7:=h1.size
     rw [World.size_alloc] at hs7
     have hold : ∀ z,z < w6.heap.size -> z ≠ rb -> w7.heap[z]? = w6.heap[z]?:=fun z hz hn=>(h1.others z (by rw [World.size_alloc]; omega) hn).trans (Lib.alloc_old _ _ z hz)
     have Hold:=hid hold
     have HK7:=hid hK7
     have HAb:=hid hab
     have HCb:=hid hcb7
     have H2:=hid h2
     have H3:=hid h3
     have H0:=hid h0
     obtain ⟨q0,q1,q2,q3,q4,q5,q6,q7,p0,p1,p2,p3,p4,p5,p6,p7⟩:=cells8 hab
     clear h1 h2 h3 h0 hab hcb7 hK7 hold
     unfold arV
     go_upto_region 11 with fail
     generalize hw8 : World.setCell (World.setCell (World.setCell (World.setCell (World.setCell (World.setCell (World.setCell (World.setCell w7 _ _) _ _) _ _) _ _) _ _) _ _) _ _) _ _ = w8
     have hw8' : set8 w7 w6.heap.size (.string X) (.int .i64 k') (.string t') (.string n') (.string a') (.slice B1 m1 d1) (.pointer p') (.slice B2 m2 d2) = w8:=hw8
     clear hw8
     have hs8 : w8.heap.size = w7.heap.size:=by rw [<- hw8',set8_size]
     have h8 : ∀ z,z ≠ w6.heap.size -> w8.heap[z]? = w7.heap[z]?:=fun z hz=>by rw [<- hw8',set8_heap _ _ _ _ _ _ _ _ _ _ z hz]
     have hbx8 : BoxAt w8 w6.heap.size #[.string X,.int .i64 k',.string t',.string n',.string a',.slice B1 m1 d1,.pointer p',.slice B2 m2 d2] 127:=by
      rw [<- hw8']
      exact box_set8 HAb.out _ _ _ _ _ _ _ _
     have hr8 : Rd rb s j1 w8:=by
      rw [<- hw8']
      exact H2.out.set8 (by omega) _ _ _ _ _ _ _ _
     have hk8 : Kp rb w w8:=by
      rw [<- hw8']
      exact HK7.out.set8 (by omega) hlt _ _ _ _ _ _ _ _
     have hc8' : BoxAt w8 w.heap.size zE 48:=(h8 _ (by omega)).trans HCb.out
     have HOld8:=hid (fun z (hz : z < w6.heap.size) (hn : z ≠ rb)=>(h8 z (by omega)).trans (Hold.out z hz hn))
     have hst8:=HS6.out.kept (W':=w8) (by omega) (fun z hz1 hz2=>(h8 z (by omega)).trans (Hold.out z hz2 (by omega)))
     have hx8 : ∀ x y mm,r = some (x,y,mm) -> x = X /\ mm = j1 /\ ExF w8 (fun z=>FS (w.heap.size + 1) w8 g b1 b2 z /\ w6.heap.size < z) y ⟨.int .i64 k',.string t',.string n',.string a',.slice B1 m1 d1,.pointer p',.slice B2 m2 d2⟩:=fun x y mm h=>by
      obtain ⟨e1,e2,e3⟩:=H3.out x y mm h
      refine ⟨e1,e2,ExF.carry (fun z hz=>?_) _ _ e3⟩
      obtain ⟨hz1,hz2⟩:=hz
      rw [World.size_alloc] at hz1
      refine ⟨⟨⟨by omega,by omega,fun hm=>?_⟩,by omega⟩,h8 z (by omega)⟩
      rcases List.mem_cons.1 hm with e | hm
      ·omega
      ·have:=(HS6.out.own z hm).2; omega
     have HS8:=hid hst8
     have HX8:=hid hx8
     have HB8:=hid hbx8
     have HR8:=hid hr8
     have HK8:=hid hk8
     have HC8:=hid hc8'
     have hlb8:=hbx8.lt
     have hX : r ≠ none -> X.size <= 1000000000:=fun h=>by
      obtain ⟨⟨x,y,mm⟩,he⟩ : ∃ v,r = some v:=Option.ne_none_iff_exists'.1 h
      obtain ⟨e1,_,_⟩:=H3.out x y mm he
      have:=(arg_flat (Hr.out.trans he)).2.2
      rw [e1] at this
      omega
     have HXs:=hid hX
     clear hw8' hs8 h8 hbx8 hr8 hk8 hc8' hst8 hx8 hX HAb H2 H3 HK7 HCb Hold q0 q1 q2 q3 q4 q5 q6 q7 p0 p1 p2 p3 p4 p5 p6 p7 hs7 hc8
     obtain ⟨q0,q1,q2,q3,q4,q5,q6,q7,p0,p1,p2,p3,p4,p5,p6,p7⟩:=cells8 HB8.out
     cases hXe : X.toList.isEmpty
     case false =>
      have hemp : emp X = false:=hXe
      cases r with
      | none =>
       have hR:=Hans2.out
       rw [runS_none Hcb.out Hwt.out (by rw [Hp.out]; exact Hr.out)] at hR
       have HR':=hid hR
       clear hR hemp Hans2
       go_wp2
       go_roundw
       case rel=>exact ⟨false,rfl,(fun h=>by cases h),fun _=>⟨j1,HR8,hj1,HK8,HC8,HR'⟩⟩
       case measure=>simp
      | some xy =>
       obtain ⟨x,y,mm⟩:=xy
       obtain ⟨rfl,rfl,hy⟩:=HX8.out x y mm rfl
       have hpos:=arg_pos hPos hB.2 Hr.out
       have hR:=Hans2.out
       rw [runS_add hPos hj Hcb.out Hwt.out (by rw [Hp.out]; exact Hr.out) (by rw [hemp]; rfl),if_neg (show ¬ emp x = true by rw [hemp]; simp)] at hR
       have HAns:=hid hR
       have HX1:=hid (HXs.out (by simp))
       have Hy:=hid (ExF.carry (F':=FS (w.heap.size + 1) w8 g b1 b2) (fun b hb=>⟨hb.1,rfl⟩) _ _ hy)
       clear hR hemp Hans2 hy
       have hAdd:=HS8.out.addWith x y k' t' n' a' B1 m1 d1 p' B2 m2 d2 Hy.out (by omega) HX1.out (by have:=Hm.out; omega)
       rw [Hm.out] at hAdd
       obtain ⟨ok,hok⟩ : ∃ ok,addOk top.xs x y = ok:=⟨_,rfl⟩
       rw [hok] at hAdd
       have HAdd:=hid hAdd
       have Hok:=hid hok
       clear hAdd hok
       go_wp2_with fail
       go_at_call 266
       refine HAdd.out.mono ?_
       rintro e wz ⟨rfl,hz1,hz2⟩
       have HKz:=hid (HK8.out.more hz1 hlt)
       have Gz:=hid (Rd.more HR8.out hz1 (by omega))
       have HBz:=hid (BoxAt.more HC8.out hz1 (by omega))
       have Hz2:=hid hz2
       clear hz1 hz2
       cases ok
       case false =>
        have hR:=HAns.out
        rw [Hok.out,if_neg (by simp)] at hR
        have HR':=hid hR
        clear hR
        go_wp2
        go_roundw
        case rel=>exact ⟨false,rfl,(fun h=>by cases h),fun _=>⟨mm,Gz,hpos.2,HKz,HBz,HR'⟩⟩
        case measure=>simp
       have hR:=HAns.out
       rw [Hok.out,if_pos rfl] at hR
       have HR':=hid hR
       have Hzs:=hid (Hz2.out rfl)
       clear hR
       go_wp2
       go_roundw
       case rel =>
        refine ⟨true,rfl,fun _=>⟨fs,⟨top.e,top.xs ++ [.mk x y],true⟩,mm,⟨hpos.2,?_,?_,?_,HR'.out,Gz.out,HKz.out,?_,HBz.out⟩⟩,(fun h=>by cases h)⟩
        ·have:=Hm.out; omega
        ·intro f hfm
         have:=Hn.out f hfm
         omega
        ·show (top.xs ++ _).length <= mm
         rw [List.length_append,List.length_singleton]; omega
        ·exact Hzs.out
       case measure =>
        show s.size - posOf rb _ + 1 < s.size - posOf rb wr + 1
        rw [Gz.out.pos,Hpos.out]
        omega
     case true =>
      have hemp : emp X = true:=hXe
      cases r with
      | none =>
       obtain rfl:=H0.out rfl
       have hR:=Hans2.out
       rw [runS_none Hcb.out Hwt.out (by rw [Hp.out]; exact Hr.out)] at hR
       have HR':=hid hR
       have hO:=opens_flat rb 0 (by decide) (by decide) w6.heap.size 1 w8 q1
       have HO:=hid hO
       clear hR hemp Hans2 hO
       unfold pt at HO
       go_wp2_with fail
       go_at_call 265
       refine HO.out.mono ?_
       rintro e w9 ⟨rfl,rfl⟩
       go_wp2
       go_roundw
       case rel=>exact ⟨false,rfl,(fun h=>by cases h),fun _=>⟨j1,HR8,hj1,HK8,HC8,HR'⟩⟩
       case measure=>simp
      | some xy =>
       obtain ⟨x,y,mm⟩:=xy
       obtain ⟨rfl,rfl,hy⟩:=HX8.out x y mm rfl
       have hpos:=arg_pos hPos hB.2 Hr.out
       have hfl:=arg_flat Hr.out
       have hop:=opn_pos (s:=s) y hpos.2
       obtain ⟨al',i',vs',rfl⟩:=exF_mk hy
       obtain ⟨o,ho⟩ : ∃ o,(opnS s (.mk k' t' n' a' al' i' vs') mm).1 = o:=⟨_,rfl⟩
       obtain ⟨jq,hjq⟩ : ∃ jq,(opnS s (.mk k' t' n' a' al' i' vs') mm).2 = jq:=⟨_,rfl⟩
       have hob:=opn_fst (s:=s) (e:=.mk k' t' n' a' al' i' vs') (i:=mm)
       rw [ho] at hob
       rw [hjq] at hop
       obtain ⟨isF,hisF⟩ : ∃ f,isFuncS (.mk k' t' n' a' al' i' vs') = f:=⟨_,rfl⟩
       rw [hisF] at hob
       have hO:=opens_any (rb:=rb) hs k' t' n' a' al' i' vs' w6.heap.size 1 mm w8 HR8.out hpos.2 (by have : n'.size <= s.size:=hfl.2.1; omega) hlb8 (by omega) q1 q3 q4 p1
       rw [ho,hjq,hisF] at hO
       have HO:=hid hO
       have Hy:=hid hy
       have Hfl:=hid hfl
       have HisF:=hid hisF
       have Hob:=hid hob
       have Ho:=hid ho
       have Hjq:=hid hjq
       have Hemp:=hid hemp
       unfold pt at HO
       clear hO hy hfl hisF hob ho hjq hemp
       go_wp2_with fail
       go_at_call 265
       refine HO.out.mono ?_
       rintro e w9 ⟨rfl,wm,g1,g2,g3,rfl⟩
       have hbm:=BoxAt.kp HB8.out g1 (by omega)
       have hcm:=BoxAt.kp HC8.out g1 (by omega)
       have hsm:=g1.size
       have HOldm:=hid (fun z (hz : z < w6.heap.size) (hn : z ≠ rb)=>(g1.others z (by omega) hn).trans (HOld8.out z hz hn))
       have HSm:=hid (HS8.out.kept g1.size (fun b h1 h2=>g1.others b h2 (by omega)))
       have hym : ExF wm (fun z=>FS (w.heap.size + 1) wm g b1 b2 z /\ w6.heap.size < z) (.mk k' t' n' a' al' i' vs') ⟨.int .i64 k',.string t',.string n',.string a',.slice B1 m1 d1,.pointer p',.slice B2 m2 d2⟩ :=
        ExF.carry (fun z hz=>⟨⟨⟨hz.1.1,Nat.lt_of_lt_of_le hz.1.2.1 hsm,hz.1.2.2⟩,hz.2⟩,g1.others z hz.1.2.1 (by have:=hz.1.1; omega)⟩) _ _ Hy.out
       have HKm:=hid (HK8.out.trans g1)
       have HRm:=hid g2
       have HCm:=hid hcm
       have HBm:=hid hbm
       have Hym:=hid hym
       have hlm:=hbm.lt
       clear g1 g2 hbm hcm hym HB8 HS8 HR8 HK8 HC8 HX8 q0 q1 q2 q3 q4 q5 q6 q7 p0 p1 p2 p3 p4 p5 p6 p7
       cases o
       case false =>
        simp only [Bool.and_false,Bool.false_eq_true,if_false]
        have hR:=Hans2.out
        rw [runS_add hPos hj Hcb.out Hwt.out (by rw [Hp.out]; exact Hr.out) (by rw [Ho.out,Bool.and_false]),if_pos Hemp.out,Hjq.out] at hR
        have HAns:=hid hR
        have HX1:=hid (HXs.out (by simp))
        have Hy2:=hid (ExF.carry (F':=FS (w.heap.size + 1) wm g b1 b2) (fun b hb=>⟨hb.1,rfl⟩) _ _ Hym.out)
        obtain ⟨q0,q1,q2,q3,q4,q5,q6,q7,p0,p1,p2,p3,p4,p5,p6,p7⟩:=cells8 HBm.out
        clear hR Hans2
        have hAdd:=HSm.out.addWith x (.mk k' t' n' a' al' i' vs') k' t' n' a' B1 m1 d1 p' B2 m2 d2 Hy2.out (by omega) HX1.out (by have:=Hm.out; omega)
        rw [Hm.out] at hAdd
        obtain ⟨ok,hok⟩ : ∃ ok,addOk top.xs x (.mk k' t' n' a' al' i' vs') = ok:=⟨_,rfl⟩
        rw [hok] at hAdd
        have HAdd:=hid hAdd
        have Hok:=hid hok
        clear hAdd hok
        go_wp2_with fail
        go_at_call 266
        refine HAdd.out.mono ?_
        rintro e wz ⟨rfl,hz1,hz2⟩
        have HKz:=hid (HKm.out.more hz1 hlt)
        have Gz:=hid (Rd.more HRm.out hz1 (by omega))
        have HBz:=hid (BoxAt.more HCm.out hz1 (by omega))
        have Hz2:=hid hz2
        clear hz1 hz2
        cases ok
        case false =>
         have hR:=HAns.out
         rw [Hok.out,if_neg (by simp)] at hR
         have HR':=hid hR
         clear hR
         go_wp2
         go_roundw
         case rel=>exact ⟨false,rfl,(fun h=>by cases h),fun _=>⟨jq,Gz,g3,HKz,HBz,HR'⟩⟩
         case measure=>simp
        have hR:=HAns.out
        rw [Hok.out,if_pos rfl] at hR
        have HR':=hid hR
        have Hzs:=hid (Hz2.out rfl)
        clear hR
        go_wp2
        go_roundw
        case rel =>
         refine ⟨true,rfl,fun _=>⟨fs,⟨top.e,top.xs ++ [.mk x (.mk k' t' n' a' al' i' vs')],true⟩,jq,⟨g3,?_,?_,?_,HR'.out,Gz.out,HKz.out,?_,HBz.out⟩⟩,(fun h=>by cases h)⟩
         ·have:=Hm.out; omega
         ·intro f hfm
          have:=Hn.out f hfm
          omega
         ·show (top.xs ++ _).length <= jq
          rw [List.length_append,List.length_singleton]; omega
         ·exact Hzs.out
        case measure =>
         show s.size - posOf rb _ + 1 < s.size - posOf rb wr + 1
         rw [Gz.out.pos,Hpos.out]
         omega
       have hR:=Hans2.out
       rw [runS_open hPos hj Hcb.out Hwt.out (by rw [Hp.out]; exact Hr.out) (by rw [Ho.out,Hemp.out]; rfl),Hjq.out] at hR
       have HAns:=hid hR
       clear hR Hans2
       obtain ⟨w9,hw9⟩ : ∃ w9,(if (isF && true) = true then wm.setCell ⟨w6.heap.size,1,none⟩ (.int .i64 5) else wm) = w9:=⟨_,rfl⟩
       rw [hw9]
       obtain ⟨hb9,hr9,hk9,hs9,hh9⟩:=opened_world8 hw9 HBm.out (show rb ≠ w6.heap.size by omega) hlt (by omega) HRm.out HKm.out
       have hc9 : BoxAt w9 w.heap.size zE 48:=(hh9 _ (by omega)).trans HCm.out
       have hS9:=HS6.out.kept (W':=w9) (by omega) (fun z hz1 hz2=>(hh9 z (by omega)).trans (HOldm.out z hz2 (by omega)))
       obtain ⟨k2',hk2'⟩ : ∃ k2,(if isF = true then 5 else k') = k2:=⟨_,rfl⟩
       have hy9:=exF_open (ExF.carry (W':=w9) (F':=FS (w.heap.size + 1) w9 g b1 b2) (fun z hz=>⟨⟨hz.1.1,by rw [hs9]; exact hz.1.2.1,hz.1.2.2⟩,hh9 z (by have:=hz.2; omega)⟩) _ _ Hym.out) isF HisF.out (fun h=>by
        rcases Hob.out rfl with h1 | h1
        ·rw [h] at h1; cases h1
        ·exact h1)
       have hnil:=exF_nil Hym.out Hfl.out.1
       simp only [Value.slice.injEq] at hnil
       obtain ⟨rfl,rfl,rfl⟩:=hnil
       rw [hk2'] at hb9 hy9
       have hea : exArgs (opnE (.mk k' t' n' a' al' i' vs')) = []:=by rw [exArgs_opn]; exact Hfl.out.1
       have hrow:=(hS9.row).alloc (.cells #[.int .i64 k2',.string t',.string n',.string a',.slice none 0 0,.pointer p',.slice B2 m2 d2,.map none,.bool false] 369)
       rw [Hm.out] at hrow
       obtain ⟨ic,hi0,hz0,hz1,hz2⟩:=info_parts infoC
       have HS9:=hid hS9
       have Hy9:=hid hy9
       have Hea:=hid hea
       have HK9:=hid hk9
       have HR9:=hid hr9
       have HC9:=hid hc9
       have hgB9:=hS9.hB
       have hl9 : w6.heap.size < w9.heap.size:=by omega
       obtain ⟨r0,r1,r2,r3,r4,r5,r6,r7,f0,f1,f2,f3,f4,f5,f6,f7⟩:=cells8 hb9
       clear hs9 hw9 hb9 hr9 hk9 hc9 hh9 hS9 hy9 hea hk2' HBm HSm HRm HKm HCm Hym
       go_wp2_with (at_builtin; refine wpList_append_where _ rfl _ _ 370 rfl (w.heap.size + 1) 369 ic (.agg #[.int .i64 0,.string ⟨#[]⟩,.string ⟨#[]⟩,.string ⟨#[]⟩,.slice none 0 0,.pointer none,.slice none 0 0,.map none,.bool false]) 9 128 Tryz.underlying370 hi0 hz0 hz1 hz2 rfl (by decide) _ _ _ rfl hrow ⟨w9.heap.size,0,none⟩ 1 1 [.int .i64 k2',.string t',.string n',.string a',.slice none 0 0,.pointer p',.slice B2 m2 d2,.map none,.bool false] rfl rfl ?c1 ?c2 ?c3 ?c4 ?c5 ?c6 ?_)
       case c1=>exact new9 _ _
       case c2=>intro u hu; simp at hu; rcases hu with rfl | rfl | rfl | rfl | rfl | rfl | rfl | rfl | rfl <;> rfl
       case c3=>unfold maxLen; omega
       case c4=>omega
       case c5=>simp; omega
       case c6=>decide
       intro v' wA hown' hgrow hwh
       have hst:=HS9.out.push2 Hy9.out Hea.out rfl (by rw [Hm.out,List.append_assoc]; exact hown') hgrow (by simpa [Value.ownBlock] using hwh)
       obtain ⟨A3,c3,rfl⟩:=own_form hown'
       have HSt:=hid hst
       have HKA:=hid (Kp.grown (HK9.out.alloc (by omega) (.cells #[.int .i64 k2',.string t',.string n',.string a',.slice none 0 0,.pointer p',.slice B2 m2 d2,.map none,.bool false] 369)) hgrow (fun kk e=>by have:=Option.some.inj e; simp at this; omega) hlt)
       have HRA:=hid ((HR9.out.alloc (.cells #[.int .i64 k2',.string t',.string n',.string a',.slice none 0 0,.pointer p',.slice B2 m2 d2,.map none,.bool false] 369)).grown hgrow (fun kk e=>by have:=Option.some.inj e; simp at this; omega))
       have HCA : Hid (BoxAt wA w.heap.size zE 48):=hid ((hgrow.block w.heap.size (by simp; omega) (fun e=>by have:=Option.some.inj e; simp at this; omega)).trans (BoxAt.alloc HC9.out (.cells #[.int .i64 k2',.string t',.string n',.string a',.slice none 0 0,.pointer p',.slice B2 m2 d2,.map none,.bool false] 369)))
       clear hown' hgrow hwh hst
       go_wp2
       go_roundw
       case rel =>
        refine ⟨true,rfl,fun _=>⟨fs ++ [top],⟨opnE (.mk k' t' n' a' al' i' vs'),[],false⟩,jq,⟨g3,?_,?_,Nat.zero_le _,?_,HRA.out,HKA.out,HSt.out,HCA.out⟩⟩,(fun h=>by cases h)⟩
        ·rw [List.length_append,List.length_singleton,Hm.out]; omega
        ·intro f hfm
         rcases List.mem_append.1 hfm with h | h
         ·have:=Hn.out f h; omega
         ·rw [List.mem_singleton.1 h]; omega
        ·rw [List.reverse_append,List.reverse_singleton,List.singleton_append]
         exact HAns.out
       case measure =>
        show s.size - posOf rb _ + 1 < s.size - posOf rb wr + 1
        rw [HRA.out.pos,Hpos.out]
        omega
end Go.Proofs.YtgdkpamlkpncgaaGreatDoor
namespace Go.Proofs.YtgdkpamlkpncgaaGreatDoor
open Go.RowKit
open _root_.Go.Lib (hid)
set_option linter.unusedVariables false
set_option linter.unusedSimpArgs false
theorem in_knot {s : ByteArray} (hs : s.size <= 1000000000) (rb : Nat) : InKnot rb s:=fun d P hd hP hPos=>inline_any hs (by omega) hP hPos
abbrev s1 : ByteArray:=⟨#[32,97,32,123,36,120,125,10,32,32,98,10,46,99]⟩
abbrev s2 : ByteArray:=⟨#[123,32,70,40,49,44,32,111,58,32,34,115,34,41,32,125,33]⟩
set_option maxHeartbeats 2000000 in
set_option maxRecDepth 100000 in
theorem pat_calls {s : ByteArray} (hs : s.size <= 1000000000) : PatCall s:=by
 intro i w hi
 have hK : ∀ (rb : Nat) (W : World),Rd rb s i W -> Calls Tryz.prog 130 #[pt rb,.int .i64 0] W (GotP rb s W (patS (placeS s 20) s i)):=fun rb W hr =>
  pattern_any (rb:=rb) hs (d:=0) (by omega) (place_knot hs (in_knot hs rb) 20 1 rfl) (place_pos s 20) i W hr hi
 obtain ⟨r,hr⟩ : ∃ r,patS (placeS s 20) s i = r:=⟨_,rfl⟩
 rw [hr] at hK ⊢
 have HK:=hid hK
 have z1 : decide ((i : Int) < 0) = false:=decide_eq_false (by omega)
 have z2 : decide ((s.size : Int) < (i : Int)) = false:=decide_eq_false (by omega)
 have z3 : ¬ (i : Int) < 0:=by omega
 have z4 : ¬ (s.size : Int) < (i : Int):=by omega
 have hi0 : (i : Int) <= 1000000000:=by omega
 clear hK hr
 unfold pt at HK
 go_enter Tryz.func96,Tryz.ntmps96
 go_wp2_with fail
 go_at_call 130
 refine (HK.out _ _ (BoxAt.new' _ _ _ _ (by simp))).mono ?_
 rintro e w2 ⟨h1,A,n,c,j',rfl,h2,hj,hn4,h3⟩
 have HB:=hid (((Below.refl w.heap.size w).alloc (Nat.le_refl _) (.cells #[.string s,.int .i64 i] 240)).trans (h1.below.mono (by omega)))
 have H3:=hid h3
 have d1:=h2.c1
 have hl2:=h2.lt
 have hj0 : (j' : Int) <= 1000000000:=by omega
 clear h1 h2 h3 HK
 cases r with
 | none =>
  go_wp2
  refine bodyPost_ret (v:=.tuple #[.slice none 0 0,.int .i64 0,.bool false]) (by simp [results,Tryz.results96,go_sem]) rfl ?_
  exact ⟨HB.out,none,0,0,0,rfl,Nat.zero_le _,Nat.zero_le _,fun l m h=>by cases h⟩
 | some v =>
  obtain ⟨l,m⟩:=v
  obtain ⟨rfl,rfl,hp⟩:=H3.out l m rfl
  have HP:=hid hp
  clear hp H3
  go_wp2
  go_region
  go_wp2
  refine bodyPost_ret (v:=.tuple #[.slice A l.length c,.int .i64 m,.bool true]) (by simp [results,Tryz.results96,go_sem]) rfl ?_
  refine ⟨HB.out.drew,A,l.length,c,m,rfl,hj,hn4,fun l' m' h=>?_⟩
  cases h
  refine ⟨rfl,rfl,PatF.carry (fun b hb=>?_) HP.out⟩
  obtain ⟨hb1,hb2⟩:=hb
  rw [World.size_alloc] at hb1
  exact ⟨⟨by omega,hb2⟩,rfl⟩
end Go.Proofs.YtgdkpamlkpncgaaGreatDoor
