/-
  Several texts put together (part 26): what the law and the program call, walked; their contracts.
-/
import Derived.Test.YtgdkpamlkpncgaaGreatDoorR23
import Derived.Test.YtgdkpamlkpncgaaGreatDoorR19
import Derived.Test.YtgdkpamlkpncgaaGreatDoorR25
namespace Go.Proofs.YtgdkpamlkpncgaaGreatDoor
open Go.RowKit
set_option linter.unusedVariables false
set_option linter.unusedSimpArgs false
theorem le_no {c : UInt8} (h : leB c = true) : blB c = false /\ c ≠ 41 /\ c ≠ 34 /\ c ≠ 36 /\ c ≠ 123 /\ c ≠ 45:=by
 unfold leB at h
 rw [decide_eq_true_eq] at h
 refine ⟨?_,?_,?_,?_,?_,?_⟩
 ·unfold blB
  rw [decide_eq_false_iff_not]
  omega
 all_goals (rintro rfl; revert h; decide)
theorem dg_no {c : UInt8} (h : c = 45 ∨ dgB c = true) : blB c = false /\ c ≠ 41 /\ c ≠ 34 /\ c ≠ 36 /\ c ≠ 123 /\ leB c = false:=by
 rcases h with rfl | h
 ·decide
 ·unfold dgB at h
  rw [decide_eq_true_eq] at h
  refine ⟨?_,?_,?_,?_,?_,?_⟩
  ·unfold blB
   rw [decide_eq_false_iff_not]
   omega
  ·rintro rfl; revert h; decide
  ·rintro rfl; revert h; decide
  ·rintro rfl; revert h; decide
  ·rintro rfl; revert h; decide
  ·unfold leB
   rw [decide_eq_false_iff_not]
   omega
theorem num_head {t : ByteArray} (h : isNum t = true) : ∃ c T,t.data.toList = c :: T /\ (c = 45 ∨ dgB c = true) /\ (c = 45 -> ∃ d T',T = d :: T' /\ dgB d = true):=by
 obtain ⟨g,D,F,hf⟩:=num_form h
 obtain ⟨d,D',hD⟩:=List.exists_cons_of_ne_nil hf.d0
 have hd : dgB d = true:=hf.dg d (by rw [hD]; exact List.mem_cons_self ..)
 rcases hf.sg with rfl | rfl
 ·refine ⟨d,D' ++ F,by rw [hf.eq,hD]; rfl,.inr hd,?_⟩
  rintro rfl
  exact absurd hd (by decide)
 ·exact ⟨45,D ++ F,by rw [hf.eq]; rfl,.inl rfl,fun _=>⟨d,D' ++ F,by rw [hD]; rfl,hd⟩⟩
theorem nub_yes {s : ByteArray} {i : Nat} {t : ByteArray} {R : List UInt8} (h : Sx s i (t.data.toList ++ R)) (hn : isNum t = true) (hR : NoH dgB R) (hR2 : NoH (· == 46) R) : nubS s i = some (.mk 1 t E0 E0 [] none [],i + t.data.toList.length):=by
 obtain ⟨h1,h2,h3⟩:=h.num hn hR hR2
 unfold nubS
 rw [h1,if_neg (by omega),h2]
theorem inl_fl {P : Nat -> Res} {s : ByteArray} {i : Nat} {k : Int} {t n a : ByteArray} {al : List AR} {ie : Option EX} {vs : List VA} {j : Nat} (h : headS P s i = some (.mk k t n a al ie vs,j)) (h3 : k ≠ 3) (h4 : k ≠ 4) : inlS P s i = some (.mk k t n a al ie vs,j):=by
 have ho : opnS s (.mk k t n a al ie vs) j = (false,j):=by
  unfold opnS
  rw [if_neg]
  simp [isFuncS,isTermS,h3,h4]
 unfold inlS
 rw [h]
 dsimp only
 rw [ho]
 rfl
theorem inl_call {P : Nat -> Res} {s : ByteArray} {i j M : Nat} {e0 : EX} {R : List UInt8} {al : List AR} (hh : headS P s i = some (e0,j)) (ho : (isFuncS e0 || isTermS e0) = true) (h : Sx s j (40 :: R)) (ha : argsS P s [] false (j + 1) = some (al,M)) : inlS P s i = some (withArgs (opnE e0) al,M):=by
 have hop : opnS s e0 j = (true,j + 1):=by
  unfold opnS
  rw [if_pos ho,h.bl0 (NoH.cons (by decide) _),h.isAt,if_pos (by rfl)]
 unfold inlS
 rw [hh]
 dsimp only
 rw [hop]
 dsimp only
 rw [if_pos rfl,ha]
theorem inl_shut {P : Nat -> Res} {s : ByteArray} {i j : Nat} {e0 : EX} {R : List UInt8} (hh : headS P s i = some (e0,j)) (hF : Fol R) (h : Sx s j R) : ∃ j',inlS P s i = some (e0,j') /\ (j' = j ∨ j' = bl s j):=by
 have hn:=hF.not h 40 (by decide) (by decide) (by decide) (by decide)
 unfold inlS
 rw [hh]
 dsimp only
 unfold opnS
 by_cases ho : (isFuncS e0 || isTermS e0) = true
 ·rw [if_pos ho,hn]
  exact ⟨bl s j,rfl,.inr rfl⟩
 ·rw [if_neg ho]
  exact ⟨j,rfl,.inl rfl⟩
structure InR (P : Nat -> Res) (s : ByteArray) (i : Nat) (e : EX) (T : List UInt8) : Prop where
 nam : namS s i = none
 rd : ∃ j,inlS P s i = some (e,j) /\ (j = i + T.length ∨ j = bl s (i + T.length))
structure InTo' (P : Nat -> Res) (s : ByteArray) (m : Nat) (e : EX) : Prop where
 hd : ∃ c T,exT m e = c :: T /\ blB c = false /\ c ≠ 41
 go : ∀ i R,Fol R -> Sx s i (exT m e ++ R) -> InR P s i e (exT m e)
section
variable {P : Nat -> Res} {s : ByteArray} {m : Nat}
theorem step_plain (hP : PosOk s P) {xs : List AR} {e : EX} {i j : Nat} (hi : i <= s.size) (hb : bl s i <= s.size) (h41 : isAt s (bl s i) 41 = false) (hn : namS s (bl s i) = none) (h : inlS P s (bl s i) = some (e,j)) (hok : addOk xs E0 e = true) :
  argsS P s xs false i = argsS P s (xs ++ [.mk E0 e]) true j:=by
 have hE:=emE0
 have hge:=bl_ge s i
 unfold inlS at h
 rw [argsS,if_neg (by rw [h41]; simp),if_neg (by simp)]
 cases hh : headS P s (bl s i) with
 | none=>rw [hh] at h; cases h
 | some x =>
  obtain ⟨e0,j0⟩:=x
  rw [hh] at h
  dsimp only at h
  have hA : argS P s (bl s i) = some (E0,e0,j0):=by unfold argS; rw [hn,hh]
  have hpos:=head_pos hP hb hh
  have hop:=opn_pos e0 hpos.2
  rw [hA]
  dsimp only
  by_cases ho : (opnS s e0 j0).1 = true
  ·rw [if_pos ho] at h
   rw [if_pos (by rw [hE,ho]; rfl),dif_pos ⟨by omega,hop.2⟩]
   cases hg : argsS P s [] false (opnS s e0 j0).2 with
   | none=>rw [hg] at h; cases h
   | some y =>
    obtain ⟨xs',M⟩:=y
    rw [hg] at h
    dsimp only at h
    cases h
    dsimp only
    have:=args_pos hP _ [] false _ (Nat.le_refl _) hop.2 _ _ hg
    rw [dif_pos ⟨by omega,this.2⟩,if_pos hok]
  ·rw [if_neg ho] at h
   cases h
   rw [if_neg (by rw [eq_false_of_ne_true ho]; simp)]
   simp only [hE,if_true]
   rw [dif_pos ⟨by omega,hop.2⟩,if_pos hok]
theorem step_named (hP : PosOk s P) {xs : List AR} {n : ByteArray} {e : EX} {i j : Nat} (hb : bl s i <= s.size) (h41 : isAt s (bl s i) 41 = false) (hn : emp n = false) (h : namS s (bl s i) = some (n,e,j)) (hok : addOk xs n e = true) :
  argsS P s xs false i = argsS P s (xs ++ [.mk n e]) true j:=by
 have hge:=bl_ge s i
 have hA : argS P s (bl s i) = some (n,e,j):=by unfold argS; rw [h]
 have hpos:=nam_pos hb h
 rw [argsS,if_neg (by rw [h41]; simp),if_neg (by simp),hA]
 dsimp only
 rw [if_neg (by rw [hn]; simp)]
 simp only [hn,Bool.false_eq_true,if_false]
 rw [dif_pos ⟨by omega,hpos.2⟩,if_pos hok]
def nameT (n : ByteArray) : List UInt8:=if emp n then [] else n.data.toList ++ [58,32]
theorem nameG_t (n : ByteArray) : nameG true n = nameT n /\ nameG false n = 44 :: 32 :: nameT n:=by
 unfold nameG nameT
 constructor <;> rfl
def LitE (e : EX) : Prop:=(∃ t,e = .mk 0 t E0 E0 [] none [] /\ validB t = true) ∨ ∃ t,e = .mk 1 t E0 E0 [] none [] /\ isNum t = true
theorem exT_quo (m : Nat) (t : ByteArray) : exT m (.mk 0 t E0 E0 [] none []) = quoteAll t:=by rw [exT]; rfl
theorem exT_num (m : Nat) (t : ByteArray) : exT m (.mk 1 t E0 E0 [] none []) = t.data.toList:=by rw [exT]; rfl
theorem exT_var (m : Nat) (n : ByteArray) : exT m (.mk 2 E0 n E0 [] none []) = 36 :: n.data.toList:=by rw [exT]; rfl
theorem exT_ref (m : Nat) (n a : ByteArray) : exT m (.mk 3 E0 n a [] none []) = refT n a:=by
 rw [exT]
 show (([] : List UInt8) ++ (n.data.toList ++ (if emp a = true then [] else 46 :: a.data.toList))) ++ [] = _
 rw [List.append_nil,List.nil_append]
 rfl
theorem exT_ter (m : Nat) (n a : ByteArray) (al : List AR) : exT m (.mk 4 E0 n a al none []) = 45 :: (refT n a ++ (if al = [] then [] else 40 :: (asT m true al ++ [41]))):=by
 rw [exT]
 show (([45] : List UInt8) ++ (n.data.toList ++ (if emp a = true then [] else 46 :: a.data.toList))) ++ (if (4 : Int) ≠ 5 /\ al.isEmpty = true then [] else 40 :: (asT m true al ++ [41])) = _
 by_cases h : al = []
 ·subst h; rfl
 ·have hc : ¬ ((4 : Int) ≠ 5 /\ al.isEmpty = true):=by simp [h]
  rw [if_neg hc,if_neg h]; rfl
theorem exT_fn (m : Nat) (n : ByteArray) (al : List AR) : exT m (.mk 5 E0 n E0 al none []) = n.data.toList ++ (40 :: (asT m true al ++ [41])):=by
 rw [exT]
 show (([] : List UInt8) ++ (n.data.toList ++ (if emp E0 = true then [] else 46 :: E0.data.toList))) ++ (if (5 : Int) ≠ 5 /\ al.isEmpty = true then [] else 40 :: (asT m true al ++ [41])) = _
 rw [emE0,if_pos rfl,if_neg (by simp),List.append_nil,List.nil_append]
theorem exT_nest (m : Nat) (e : EX) : exT m (.mk 6 E0 E0 E0 [] (some e) []) = plT m e:=by rw [exT]; rfl
theorem arg_any (hP : PosOk s P) {n : ByteArray} {e : EX} {xs : List AR} (hin : InTo' P s m e) (hn : emp n = true ∨ (isNameV n = true /\ LitE e)) (hok : addOk xs n e = true) {i : Nat} {pre R : List UInt8} (hpre : pre = [] ∨ pre = [32]) (hR : ∃ c R',R = c :: R' /\ (c = 44 ∨ c = 41))
  (h : Sx s i (pre ++ (nameT n ++ (exT m e ++ R)))) : argsS P s xs false i = argsS P s (xs ++ [.mk n e]) true (i + (pre ++ (nameT n ++ exT m e)).length):=by
 have hpb : ∀ x ∈ pre,blB x = true:=fun x hx=>by
  rcases hpre with rfl | rfl
  ·cases hx
  ·rw [List.mem_singleton.1 hx]; decide
 obtain ⟨c,T,hT,hc1,hc2⟩:=hin.hd
 have hF : Fol R:=by
  obtain ⟨d,R',rfl,hd⟩:=hR
  rcases hd with rfl | rfl
  ·exact Fol.comma R'
  ·exact Fol.close R'
 have hRb : NoH blB R:=by
  obtain ⟨d,R',rfl,hd⟩:=hR
  rcases hd with rfl | rfl <;> exact NoH.cons (by decide) _
 have hi:=h.1
 rcases hn with hn | ⟨hnv,hlit⟩
 ·have hE:=emp_E hn
  subst hE
  have hnt : nameT E0 = []:=by unfold nameT; rw [hn]; rfl
  rw [hnt,List.nil_append] at h ⊢
  have hb : bl s i = i + pre.length:=h.bl hpb (by rw [hT]; exact NoH.cons hc1 _)
  have h1:=h.app
  obtain ⟨hna,j,hj,hjj⟩:=hin.go _ R hF h1
  have h2:=h1.app
  have hj2 : j = i + pre.length + (exT m e).length:=by
   rcases hjj with hjj | hjj
   ·exact hjj
   ·rw [hjj,h2.bl0 hRb]
  have h1':=h1
  rw [hT,List.cons_append] at h1'
  rw [step_plain hP hi (by rw [hb]; exact h1.1) (by rw [hb,h1'.isAt]; exact beq_eq_false_iff_ne.2 hc2) (by rw [hb]; exact hna) (by rw [hb]; exact hj) hok,hj2,List.length_append]
  congr 1
  omega
 ·have hem:=name_emp hnv
  have hnt : nameT n = n.data.toList ++ [58,32]:=by unfold nameT; rw [hem]; rfl
  obtain ⟨c0,r0,hn0,hle0, -⟩:=name_form hnv
  rw [hnt] at h ⊢
  have hb : bl s i = i + pre.length:=h.bl hpb (by rw [hn0]; exact NoH.cons (le_no hle0).1 _)
  have h1:=h.app
  have h1a : Sx s (i + pre.length) (n.data.toList ++ (58 :: 32 :: (exT m e ++ R))):=h1.cast (by simp)
  obtain ⟨g1,g2,g3⟩:=h1a.name hnv (NoH.cons (by decide) _)
  have h2:=h1a.app
  have h3:=h2.tail
  have hb2 : bl s (i + pre.length + n.data.toList.length) = i + pre.length + n.data.toList.length:=h2.bl0 (NoH.cons (by decide) _)
  have hb3 : bl s (i + pre.length + n.data.toList.length + 1) = i + pre.length + n.data.toList.length + 1 + 1:=h3.bl1 (by rw [hT]; exact NoH.cons hc1 _)
  have h4:=h3.tail
  have hval : (quoS s (i + pre.length + n.data.toList.length + 1 + 1)).or (nubS s (i + pre.length + n.data.toList.length + 1 + 1)) = some (e,i + pre.length + n.data.toList.length + 1 + 1 + (exT m e).length):=by
   rcases hlit with ⟨t,rfl,hv⟩ | ⟨t,rfl,hv⟩
   ·rw [exT_quo] at h4 ⊢
    rw [quo_yes h4 hv]
    rfl
   ·rw [exT_num] at h4 ⊢
    obtain ⟨d,T2,ht,hd, -⟩:=num_head hv
    have h4':=h4
    rw [ht,List.cons_append] at h4'
    rw [quo_no h4' (dg_no hd).2.2.1,nub_yes h4 hv (hF.noh (by decide) (by decide) (by decide)) (hF.noh (by decide) (by decide) (by decide))]
    rfl
  have hna : namS s (i + pre.length) = some (n,e,i + pre.length + n.data.toList.length + 1 + 1 + (exT m e).length):=by
   unfold namS
   rw [g1,if_neg (by omega),hb2,h2.isAt,if_pos (by rfl),hb3,hval]
   dsimp only
   rw [g2]
  have h1':=h1
  rw [hn0,List.cons_append,List.cons_append] at h1'
  rw [step_named hP (by rw [hb]; exact h1.1) (by rw [hb,h1'.isAt]; exact beq_eq_false_iff_ne.2 (le_no hle0).2.1) hem (by rw [hb]; exact hna) hok]
  congr 1
  simp
  omega
theorem asT_cons (m : Nat) (f : Bool) (n : ByteArray) (e : EX) (r : List AR) : asT m f (.mk n e :: r) = nameG f n ++ (exT m e ++ asT m false r):=by rw [asT]
theorem rest_head (m : Nat) (r : List AR) (R : List UInt8) : ∃ c R',asT m false r ++ 41 :: R = c :: R' /\ (c = 44 ∨ c = 41):=by
 cases r with
 | nil=>exact ⟨41,R,by rw [asT]; rfl,.inr rfl⟩
 | cons x r =>
  obtain ⟨n,e⟩:=x
  rw [asT_cons,(nameG_t n).2]
  exact ⟨44,_,rfl,.inl rfl⟩
structure ArOk (P : Nat -> Res) (s : ByteArray) (m d : Nat) (e : EX) : Prop where
 go : InTo' P s m e
 ok : okE .inl e d = true
theorem lit_of {d : Nat} {k : Int} {t n a : ByteArray} {al : List AR} {i : Option EX} {vs : List VA} (h : okE .inl (.mk k t n a al i vs) d = true) (hk : (k == 0 || k == 1) = true) : LitE (.mk k t n a al i vs):=by
 have hs:=(shp_inl h).1
 rw [Bool.or_eq_true,beq_iff_eq,beq_iff_eq] at hk
 cases hs with
 | quo t hv=>exact .inl ⟨t,rfl,hv⟩
 | num t hv=>exact .inr ⟨t,rfl,hv⟩
 | var=>exact absurd hk (by decide)
 | ref=>exact absurd hk (by decide)
 | ter=>exact absurd hk (by decide)
 | fn=>exact absurd hk (by decide)
 | nest=>exact absurd hk (by decide)
theorem arg_cond {d : Nat} {n : ByteArray} {e : EX} {r : List AR} {seen : List ByteArray} {xs : List AR} (hs : ∀ x ∈ xs,emp (arName x) = true ∨ arName x ∈ seen) (ha : argNames seen (.mk n e :: r) = true) (hok : okE .inl e d = true) :
  addOk xs n e = true /\ (emp n = true ∨ (isNameV n = true /\ LitE e)) /\ ∃ seen',(∀ x ∈ xs ++ [.mk n e],emp (arName x) = true ∨ arName x ∈ seen') /\ argNames seen' r = true:=by
 obtain ⟨k,t,n',a,al,i,vs⟩:=e
 rw [argNames] at ha
 by_cases hn : emp n = true
 ·rw [if_pos hn,Bool.and_eq_true,List.isEmpty_iff] at ha
  refine ⟨?_,.inl hn,seen,?_,ha.2⟩
  ·unfold addOk
   rw [if_pos hn,(shp_inl hok).2,Bool.and_eq_true,List.all_eq_true]
   refine ⟨fun x hx=>?_,rfl⟩
   rcases hs x hx with h | h
   ·exact h
   ·rw [ha.1] at h; cases h
  ·intro x hx
   rcases List.mem_append.1 hx with hx | hx
   ·exact hs x hx
   ·rw [List.mem_singleton.1 hx]; exact .inl hn
 ·rw [if_neg hn] at ha
  simp only [Bool.and_eq_true,Bool.not_eq_true'] at ha
  obtain ⟨⟨⟨h1,h2⟩,h3⟩,h4⟩:=ha
  have hmem : ∀ z ∈ seen,n ≠ z:=by
   unfold memB at h1
   rw [List.any_eq_false] at h1
   intro z hz e
   exact h1 z hz (by rw [e]; simp)
  refine ⟨?_,.inr ⟨h2,lit_of hok h3⟩,n :: seen,?_,h4⟩
  ·unfold addOk
   rw [if_neg hn,Bool.not_eq_true',List.any_eq_false]
   intro x hx e
   rw [decide_eq_true_eq] at e
   rcases hs x hx with h | h
   ·rw [e] at h; exact hn h
   ·rw [e] at h; exact hmem n h rfl
  ·intro x hx
   rcases List.mem_append.1 hx with hx | hx
   ·rcases hs x hx with h | h
    ·exact .inl h
    ·exact .inr (List.mem_cons_of_mem _ h)
   ·rw [List.mem_singleton.1 hx]; exact .inr (List.mem_cons_self ..)
theorem args_rest (hP : PosOk s P) {d : Nat} : ∀ (al xs : List AR) (seen : List ByteArray) (i : Nat) (R : List UInt8),(∀ x ∈ xs,emp (arName x) = true ∨ arName x ∈ seen) -> argNames seen al = true -> (∀ n e,AR.mk n e ∈ al -> ArOk P s m d e) ->
  Sx s i (asT m false al ++ 41 :: R) -> argsS P s xs true i = some (xs ++ al,i + (asT m false al).length + 1)
 | [],xs,seen,i,R,_,_,_,h=>by
  rw [asT] at h ⊢
  have h0 : Sx s i (41 :: R):=h
  rw [argsS,h0.bl0 (NoH.cons (by decide) _),h0.isAt,if_pos (by rfl),List.append_nil]
  rfl
 | .mk n e :: r,xs,seen,i,R,hs,ha,hal,h=>by
  have hok:=hal n e (List.mem_cons_self ..)
  obtain ⟨c1,c2,seen',c3,c4⟩:=arg_cond hs ha hok.ok
  rw [asT_cons,(nameG_t n).2] at h ⊢
  have h0 : Sx s i (44 :: ([32] ++ (nameT n ++ (exT m e ++ (asT m false r ++ 41 :: R))))):=h.cast (by simp)
  have hb : bl s i = i:=h0.bl0 (NoH.cons (by decide) _)
  have h1:=h0.tail
  rw [argsS,hb,if_neg (by rw [h0.isAt]; decide),if_pos rfl,dif_pos (by rw [h0.isAt]; rfl)]
  rw [arg_any hP hok.go c2 c1 (.inr rfl) (rest_head m r R) h1]
  have h2 : Sx s (i + 1 + ([32] ++ (nameT n ++ exT m e)).length) (asT m false r ++ 41 :: R):=Sx.app (h1.cast (by simp))
  rw [args_rest hP r _ seen' _ R c3 c4 (fun n e he=>hal n e (List.mem_cons_of_mem _ he)) h2]
  simp
  omega
theorem args_all (hP : PosOk s P) {d : Nat} (al : List AR) (i : Nat) (R : List UInt8) (ha : argNames [] al = true) (hal : ∀ n e,AR.mk n e ∈ al -> ArOk P s m d e) (h : Sx s i (asT m true al ++ 41 :: R)) : argsS P s [] false i = some (al,i + (asT m true al).length + 1):=by
 cases al with
 | nil =>
  rw [asT] at h ⊢
  have h0 : Sx s i (41 :: R):=h
  rw [argsS,h0.bl0 (NoH.cons (by decide) _),h0.isAt,if_pos (by rfl)]
  rfl
 | cons x r =>
  obtain ⟨n,e⟩:=x
  have hok:=hal n e (List.mem_cons_self ..)
  obtain ⟨c1,c2,seen',c3,c4⟩:=arg_cond (xs:=[]) (fun x hx=>by cases hx) ha hok.ok
  rw [asT_cons,(nameG_t n).1] at h ⊢
  have h0 : Sx s i ([] ++ (nameT n ++ (exT m e ++ (asT m false r ++ 41 :: R)))):=h.cast (by simp)
  rw [arg_any hP hok.go c2 c1 (.inl rfl) (rest_head m r R) h0]
  have h2 : Sx s (i + ([] ++ (nameT n ++ exT m e)).length) (asT m false r ++ 41 :: R):=Sx.app (h0.cast (by simp))
  rw [args_rest hP r _ seen' _ R c3 c4 (fun n e he=>hal n e (List.mem_cons_of_mem _ he)) h2]
  simp
  omega
end
section
variable {P : Nat -> Res} {s : ByteArray} {m : Nat}
theorem nam_ref {i : Nat} {n : ByteArray} {R : List UInt8} (h : Sx s i (n.data.toList ++ R)) (hn : isNameV n = true) (hR : NoH naB R) (h58 : isAt s (bl s (i + n.data.toList.length)) 58 = false) : namS s i = none:=by
 obtain ⟨g1,g2,g3⟩:=h.name hn hR
 unfold namS
 rw [g1,if_neg (by omega),h58]
 rfl
theorem ref_behind {i : Nat} {n a : ByteArray} {R : List UInt8} (h : Sx s i (refT n a ++ R)) (hn : isNameV n = true) (hR : (∃ R',R = 40 :: R') ∨ Fol R) : namS s i = none:=by
 have hRn : NoH naB R:=by
  rcases hR with ⟨R',rfl⟩ | hF
  ·exact NoH.cons (by decide) _
  ·exact hF.noh (by decide) (by decide) (by decide)
 unfold refT at h
 by_cases ha : emp a = true
 ·rw [if_pos ha,List.append_nil] at h
  refine nam_ref h hn hRn ?_
  rcases hR with ⟨R',rfl⟩ | hF
  ·have h2:=h.app
   rw [h2.bl0 (NoH.cons (by decide) _),h2.isAt]
   rfl
  ·exact hF.not h.app 58 (by decide) (by decide) (by decide) (by decide)
 ·rw [if_neg ha,List.append_assoc,List.cons_append] at h
  refine nam_ref h hn (NoH.cons (by decide) _) ?_
  have h2:=h.app
  rw [h2.bl0 (NoH.cons (by decide) _),h2.isAt]
  rfl
theorem ref_noh {R : List UInt8} (hR : (∃ R',R = 40 :: R') ∨ Fol R) {p : UInt8 -> Bool} (h0 : p 40 = false) (h1 : p 44 = false) (h2 : p 41 = false) (h3 : p 32 = false) : NoH p R:=by
 rcases hR with ⟨R',rfl⟩ | hF
 ·exact NoH.cons h0 _
 ·exact hF.noh h1 h2 h3
theorem head_ref (hP0 : ∀ i,isAt s i 123 = false -> P i = none) {i : Nat} {n a : ByteArray} {R : List UInt8} (h : Sx s i (refT n a ++ R)) (hn : isNameV n = true) (ha : a = E0 ∨ isNameV a = true) (hR : (∃ R',R = 40 :: R') ∨ Fol R) :
  headS P s i = some (.mk 3 E0 n a [] none [],i + (refT n a).length):=by
 obtain ⟨c,r,hc,hl, -⟩:=name_form hn
 have h1 : Sx s i (c :: (r ++ ((if emp a then [] else 46 :: a.data.toList) ++ R))):=h.cast (by unfold refT; rw [hc]; simp)
 obtain ⟨-, -,g3,g4,g5,g6⟩:=le_no hl
 unfold headS
 rw [quo_no h1 g3,var_no h1 g4,nest_no hP0 h1 g5,ter_no h1 g6,ref_yes 3 h hn ha (ref_noh hR (by decide) (by decide) (by decide) (by decide)) (ref_noh hR (by decide) (by decide) (by decide) (by decide))]
 rfl
theorem head_ter (hP0 : ∀ i,isAt s i 123 = false -> P i = none) {i : Nat} {n a : ByteArray} {R : List UInt8} (h : Sx s i (45 :: (refT n a ++ R))) (hn : isNameV n = true) (ha : a = E0 ∨ isNameV a = true) (hR : (∃ R',R = 40 :: R') ∨ Fol R) :
  headS P s i = some (.mk 4 E0 n a [] none [],i + 1 + (refT n a).length):=by
 have ht : terS s i = some (.mk 4 E0 n a [] none [],i + 1 + (refT n a).length):=by
  unfold terS
  rw [h.isAt,if_pos (by rfl)]
  exact ref_yes 4 h.tail hn ha (ref_noh hR (by decide) (by decide) (by decide) (by decide)) (ref_noh hR (by decide) (by decide) (by decide) (by decide))
 unfold headS
 rw [quo_no h (by decide),var_no h (by decide),nest_no hP0 h (by decide),ht]
 rfl
theorem head_numS (hP0 : ∀ i,isAt s i 123 = false -> P i = none) {i : Nat} {t : ByteArray} {R : List UInt8} (h : Sx s i (t.data.toList ++ R)) (hn : isNum t = true) (hF : Fol R) : headS P s i = some (.mk 1 t E0 E0 [] none [],i + t.data.toList.length):=by
 obtain ⟨c,T,ht,hc,hc2⟩:=num_head hn
 have h1 : Sx s i (c :: (T ++ R)):=h.cast (by rw [ht]; rfl)
 obtain ⟨-, -,g3,g4,g5,g6⟩:=dg_no hc
 have hter : terS s i = none:=by
  by_cases e : c = 45
  ·obtain ⟨d,T',hT,hd⟩:=hc2 e
   subst e
   have h2 : Sx s (i + 1) (d :: (T' ++ R)):=h1.tail.cast (by rw [hT]; rfl)
   unfold terS
   rw [h1.isAt,if_pos (by rfl)]
   exact ref_no h2 (NoH.cons (dg_no (.inr hd)).2.2.2.2.2 _)
  ·exact ter_no h1 e
 unfold headS
 rw [quo_no h1 g3,var_no h1 g4,nest_no hP0 h1 g5,hter,ref_no h1 (NoH.cons g6 _),nub_yes h hn (hF.noh (by decide) (by decide) (by decide)) (hF.noh (by decide) (by decide) (by decide))]
 rfl
theorem head_varS {i : Nat} {n : ByteArray} {R : List UInt8} (h : Sx s i (36 :: (n.data.toList ++ R))) (hn : isNameV n = true) (hF : Fol R) : headS P s i = some (.mk 2 E0 n E0 [] none [],i + 1 + n.data.toList.length):=by
 unfold headS
 rw [quo_no h (by decide),var_yes h hn (hF.noh (by decide) (by decide) (by decide))]
 rfl
theorem head_quoS {i : Nat} {t : ByteArray} {R : List UInt8} (h : Sx s i (quoteAll t ++ R)) (hv : validB t = true) : headS P s i = some (.mk 0 t E0 E0 [] none [],i + (quoteAll t).length):=by
 unfold headS
 rw [quo_yes h hv]
 rfl
theorem head_plS {i : Nat} {e : EX} {R : List UInt8} (hp : PlR P s m e) (h : Sx s i (plT m e ++ R)) : headS P s i = some (.mk 6 E0 E0 E0 [] (some e) [],i + (plT m e).length):=by
 obtain ⟨T,hT⟩:=pl_head m e
 have h1 : Sx s i (123 :: (T ++ R)):=h.cast (by rw [hT]; rfl)
 unfold headS
 rw [quo_no h1 (by decide),var_no h1 (by decide)]
 unfold nestS
 rw [hp i R h]
 rfl
theorem quoteAll_head (t : ByteArray) : ∃ T,quoteAll t = 34 :: T:=⟨_,rfl⟩
theorem in_any (hP : PosOk s P) (hP0 : ∀ i,isAt s i 123 = false -> P i = none) {d : Nat} {e : EX} (hs : Shp d e) (hal : ∀ k t n a al i vs,e = .mk k t n a al i vs -> ∀ x y,AR.mk x y ∈ al -> ArOk P s m d y) (hpl : ∀ y,e = .mk 6 E0 E0 E0 [] (some y) [] -> PlR P s m y) : InTo' P s m e:=by
 cases hs with
 | quo t hv =>
  obtain ⟨T,hT⟩:=quoteAll_head t
  refine ⟨⟨34,T,by rw [exT_quo,hT],by decide,by decide⟩,fun i R hF h=>?_⟩
  rw [exT_quo] at h ⊢
  have h1 : Sx s i (34 :: (T ++ R)):=h.cast (by rw [hT]; rfl)
  exact ⟨nam_no h1 (NoH.cons (by decide) _),_,inl_fl (head_quoS h hv) (by decide) (by decide),.inl rfl⟩
 | num t hv =>
  obtain ⟨c,T,ht,hc, -⟩:=num_head hv
  obtain ⟨g1,g2, -, -, -,g6⟩:=dg_no hc
  refine ⟨⟨c,T,by rw [exT_num,ht],g1,g2⟩,fun i R hF h=>?_⟩
  rw [exT_num] at h ⊢
  have h1 : Sx s i (c :: (T ++ R)):=h.cast (by rw [ht]; rfl)
  exact ⟨nam_no h1 (NoH.cons g6 _),_,inl_fl (head_numS hP0 h hv hF) (by decide) (by decide),.inl rfl⟩
 | var n hn =>
  refine ⟨⟨36,n.data.toList,by rw [exT_var],by decide,by decide⟩,fun i R hF h=>?_⟩
  rw [exT_var] at h ⊢
  have h1 : Sx s i (36 :: (n.data.toList ++ R)):=h
  exact ⟨nam_no h1 (NoH.cons (by decide) _),_,inl_fl (head_varS h1 hn hF) (by decide) (by decide),.inl (by rw [List.length_cons]; omega)⟩
 | ref n a hn ha =>
  obtain ⟨c,r,hc,hl, -⟩:=name_form hn
  obtain ⟨g1,g2, -⟩:=le_no hl
  refine ⟨⟨c,_,by rw [exT_ref]; unfold refT; rw [hc]; rfl,g1,g2⟩,fun i R hF h=>?_⟩
  rw [exT_ref] at h ⊢
  obtain ⟨j,hj,hjj⟩:=inl_shut (head_ref hP0 h hn ha (.inr hF)) hF h.app
  exact ⟨ref_behind h hn (.inr hF),j,hj,hjj⟩
 | ter n a al hn ha h1 h2 =>
  refine ⟨⟨45,_,exT_ter m n a al,by decide,by decide⟩,fun i R hF h=>?_⟩
  rw [exT_ter] at h ⊢
  by_cases hne : al = []
  ·subst hne
   rw [if_pos rfl,List.append_nil] at h ⊢
   have h3 : Sx s i (45 :: (refT n a ++ R)):=h
   obtain ⟨j,hj,hjj⟩:=inl_shut (head_ter hP0 h3 hn ha (.inr hF)) hF h3.tail.app
   refine ⟨nam_no h3 (NoH.cons (by decide) _),j,hj,?_⟩
   rw [List.length_cons]
   rw [show i + ((refT n a).length + 1) = i + 1 + (refT n a).length by omega]
   exact hjj
  ·rw [if_neg hne] at h ⊢
   have h3 : Sx s i (45 :: (refT n a ++ (40 :: (asT m true al ++ 41 :: R)))):=h.cast (by simp)
   have h4:=h3.tail.app
   have hh:=head_ter hP0 h3 hn ha (.inl ⟨_,rfl⟩)
   have hg:=args_all hP al _ R h1 (fun x y hxy=>hal _ _ _ _ _ _ _ rfl x y hxy) h4.tail
   refine ⟨nam_no h3 (NoH.cons (by decide) _),_,inl_call hh (by simp [isFuncS,isTermS]) h4 hg,.inl ?_⟩
   simp
   omega
 | fn n al hn hb h1 h2 =>
  obtain ⟨c,r,hc,hl, -⟩:=name_form hn
  obtain ⟨g1,g2, -⟩:=le_no hl
  refine ⟨⟨c,_,by rw [exT_fn,hc]; rfl,g1,g2⟩,fun i R hF h=>?_⟩
  rw [exT_fn] at h ⊢
  have hr : refT n E0 = n.data.toList:=by unfold refT; rw [emE0,if_pos rfl,List.append_nil]
  have h3 : Sx s i (refT n E0 ++ (40 :: (asT m true al ++ 41 :: R))):=h.cast (by rw [hr]; simp)
  have h4:=h3.app
  have hh:=head_ref hP0 h3 hn (.inl rfl) (.inl ⟨_,rfl⟩)
  have hg:=args_all hP al _ R h1 (fun x y hxy=>hal _ _ _ _ _ _ _ rfl x y hxy) h4.tail
  refine ⟨ref_behind h3 hn (.inl ⟨_,rfl⟩),_,inl_call hh (by simp [isFuncS,isTermS,hb,emE0]) h4 hg,.inl ?_⟩
  rw [hr]
  simp
  omega
 | nest y hy =>
  obtain ⟨T,hT⟩:=pl_head m y
  refine ⟨⟨123,T,by rw [exT_nest,hT],by decide,by decide⟩,fun i R hF h=>?_⟩
  rw [exT_nest] at h ⊢
  have h1 : Sx s i (123 :: (T ++ R)):=h.cast (by rw [hT]; rfl)
  exact ⟨nam_no h1 (NoH.cons (by decide) _),_,inl_fl (head_plS (hpl y rfl) h) (by decide) (by decide),.inl rfl⟩
end
theorem stp_of {q : Nat} {c : UInt8} {T : List UInt8} (h1 : c ≠ 10) (h2 : c ≠ 32) (h3 : stopB c = true ∨ q = 0) : Stp (10 :: (List.replicate q 32 ++ c :: T)):=by
 refine ⟨NoH.cons (by decide) _,NoH.cons (by decide) _,fun s i h=>?_⟩
 have h0 : Sx s i (List.replicate (0 + 1) 10 ++ (List.replicate q 32 ++ c :: T)):=h
 have h4:=h0.app.app
 rw [List.length_replicate,List.length_replicate] at h4
 have h5 : Sx s (i + 0 + 1 + q) (c :: T):=by rw [show i + 0 + 1 + q = i + (0 + 1) + q by omega]; exact h4
 unfold nextS
 rw [nl_feeds h1 h2 0 0 i i q h0]
 dsimp only
 rw [if_pos]
 rcases h3 with h3 | h3
 ·right; right
  rw [h5.at0]; exact h3
 ·left; omega
theorem bl_ten {s : ByteArray} {i : Nat} {R : List UInt8} (h : Sx s i (10 :: R)) : bl s i = bl s (i + 1):=by
 have hl : i < s.data.toList.length:=by rw [size_data]; exact h.lt
 have h0:=h.at0
 rw [at0_get _ _ hl] at h0
 exact (behN_yes blB s.data.toList i hl (by rw [h0]; decide)).symm
theorem sps_bl (n : Nat) : ∀ x ∈ sps n,blB x = true:=fun x hx=>by unfold sps at hx; rw [List.eq_of_mem_replicate hx]; decide
theorem sps_len (n : Nat) : (sps n).length = n:=List.length_replicate
structure VaOk (P : Nat -> Res) (s : ByteArray) (m : Nat) (k : ByteArray) (v : List EL) : Prop where
 key : isNameV k = true ∨ isNum k = true
 ne : v ≠ []
 pat : patL v = true
 pl : ∀ t e,EL.mk t (some e) ∈ v -> PlR P s (m + 8) e
section
variable {P : Nat -> Res} {s : ByteArray} {m : Nat}
theorem key_read {k : ByteArray} (hk : isNameV k = true ∨ isNum k = true) {a : Nat} {R : List UInt8} (h : Sx s a (k.data.toList ++ 93 :: R)) : keyE s a = a + k.data.toList.length /\ s.extract a (a + k.data.toList.length) = k /\ 0 < k.data.toList.length /\ bl s a = a:=by
 rcases hk with hk | hk
 ·obtain ⟨g1,g2,g3⟩:=h.name hk (NoH.cons (by decide) _)
  obtain ⟨c,r,hc,hl, -⟩:=name_form hk
  refine ⟨?_,g2,g3,h.bl0 (by rw [hc]; exact NoH.cons (le_no hl).1 _)⟩
  unfold keyE
  rw [g1,if_neg (by omega)]
 ·obtain ⟨g1,g2,g3⟩:=h.num hk (NoH.cons (by decide) _) (NoH.cons (by decide) _)
  obtain ⟨c,T,ht,hc, -⟩:=num_head hk
  obtain ⟨b1, -, -, -, -,b6⟩:=dg_no hc
  have hn : nm s a = a:=h.nm0 (by rw [ht]; exact NoH.cons b6 _)
  refine ⟨?_,g2,g3,h.bl0 (by rw [ht]; exact NoH.cons b1 _)⟩
  unfold keyE
  rw [hn,if_pos rfl,g1]
theorem vari_read (hm : 0 < m) {k : ByteArray} {d : Bool} {v : List EL} (hv : VaOk P s m k v) {b b1 : Nat} {R : List UInt8} (hb : (if isAt s b 42 then b + 1 else b) = b1) (hd : isAt s b 42 = d) (hR : Stp R) (hR2 : ∃ R',R = 10 :: R') (h : Sx s b1 (91 :: (k.data.toList ++ (93 :: (paT (m + 8) v ++ R))))) :
  variS P s b = some (.mk k d v,b1 + 1 + k.data.toList.length + 1 + (paT (m + 8) v).length):=by
 have h1:=h.tail
 obtain ⟨g1,g2,g3,g4⟩:=key_read hv.key h1
 have h2:=h1.app
 have h3:=h2.tail
 have hp:=pat_read (m:=m + 8) (by omega) hv.ne hv.pat hv.pl hR h3
 have h4:=h3.app
 have hb93 : bl s (b1 + 1 + k.data.toList.length) = b1 + 1 + k.data.toList.length:=h2.bl0 (NoH.cons (by decide) _)
 obtain ⟨R',rfl⟩:=hR2
 unfold variS
 rw [hb,h.isAt,if_pos (by rfl),g4,g1,if_neg (by omega),hb93,h2.isAt,if_pos (by rfl),hp]
 dsimp only
 have hve : v.isEmpty = false:=by cases v with | nil=>exact absurd rfl hv.ne | cons x r=>rfl
 rw [h4.isAt,hve,if_pos (by rfl),g2,hd]
theorem vs_cons (m : Nat) (k : ByteArray) (d : Bool) (v : List EL) (r : List VA) : vsT m (.mk k d v :: r) = 10 :: (sps (m + 3) ++ ((if d then 42 else 32) :: 91 :: (k.data.toList ++ (93 :: paT (m + 8) v)))) ++ vsT m r:=by
 rw [vsT]
 rfl
theorem vs_stop (m : Nat) (vs : List VA) (R : List UInt8) : Stp (vsT m vs ++ (10 :: (sps m ++ 125 :: R))) /\ ∃ R',vsT m vs ++ (10 :: (sps m ++ 125 :: R)) = 10 :: R':=by
 cases vs with
 | nil =>
  rw [vsT]
  exact ⟨stp_of (q:=m) (by decide) (by decide) (.inl (by decide)),_,rfl⟩
 | cons x r =>
  obtain ⟨k,d,v⟩:=x
  rw [vs_cons]
  refine ⟨?_,_,rfl⟩
  cases d with
  | true =>
   have e : 10 :: (sps (m + 3) ++ ((if true = true then 42 else 32) :: 91 :: (k.data.toList ++ (93 :: paT (m + 8) v)))) ++ vsT m r ++ (10 :: (sps m ++ 125 :: R)) = 10 :: (List.replicate (m + 3) 32 ++ 42 :: (91 :: (k.data.toList ++ (93 :: paT (m + 8) v)) ++ vsT m r ++ (10 :: (sps m ++ 125 :: R)))):=by simp [sps]
   rw [e]
   exact stp_of (by decide) (by decide) (.inl (by decide))
  | false =>
   have e : 10 :: (sps (m + 3) ++ ((if false = true then 42 else 32) :: 91 :: (k.data.toList ++ (93 :: paT (m + 8) v)))) ++ vsT m r ++ (10 :: (sps m ++ 125 :: R)) = 10 :: (List.replicate (m + 3 + 1) 32 ++ 91 :: (k.data.toList ++ (93 :: paT (m + 8) v) ++ vsT m r ++ (10 :: (sps m ++ 125 :: R)))):=by
    rw [List.replicate_succ']
    simp [sps]
   rw [e]
   exact stp_of (by decide) (by decide) (.inl (by decide))
theorem vars_read (hm : 0 < m) : ∀ (vs acc : List VA) (p : Nat) (R : List UInt8),(∀ k d v,VA.mk k d v ∈ vs -> VaOk P s m k v) -> Sx s p (vsT m vs ++ (10 :: (sps m ++ 125 :: R))) ->
  varsS P s acc (bl s (p + 1)) = if (acc ++ vs).countP vaDflt = 1 then some (acc ++ vs,p + (vsT m vs).length + 1 + m + 1) else none
 | [],acc,p,R,_,h=>by
  rw [vsT] at h ⊢
  have h0 : Sx s p (10 :: (sps m ++ 125 :: R)):=h
  have h1:=h0.tail
  have hb : bl s (p + 1) = p + 1 + m:=by rw [h1.bl (sps_bl m) (NoH.cons (by decide) _),sps_len]
  have h2:=h1.app
  rw [sps_len] at h2
  rw [varsS,hb,h2.isAt,if_pos (by rfl),List.append_nil]
  rfl
 | .mk k d v :: r,acc,p,R,hall,h=>by
  have hv:=hall k d v (List.mem_cons_self ..)
  obtain ⟨hS,hS2⟩:=vs_stop m r R
  rw [vs_cons] at h ⊢
  have h0 : Sx s p (10 :: (sps (m + 3) ++ ((if d then 42 else 32) :: (91 :: (k.data.toList ++ (93 :: (paT (m + 8) v ++ (vsT m r ++ (10 :: (sps m ++ 125 :: R)))))))))):=h.cast (by simp)
  have h1:=h0.tail
  have h2:=h1.app
  rw [sps_len] at h2
  have h3:=h2.tail
  have hbd : (if isAt s (bl s (p + 1)) 42 then bl s (p + 1) + 1 else bl s (p + 1)) = p + 1 + (m + 3) + 1 /\ isAt s (bl s (p + 1)) 42 = d /\ isAt s (bl s (p + 1)) 125 = false /\ p + 1 <= bl s (p + 1) /\ bl s (p + 1) <= p + 1 + (m + 3) + 1:=by
   cases d with
   | true =>
    have hb : bl s (p + 1) = p + 1 + (m + 3):=by rw [h1.bl (sps_bl _) (NoH.cons (by decide) _),sps_len]
    have h2' : Sx s (p + 1 + (m + 3)) (42 :: (91 :: (k.data.toList ++ (93 :: (paT (m + 8) v ++ (vsT m r ++ (10 :: (sps m ++ 125 :: R)))))))):=h2
    rw [hb,h2'.isAt,h2'.isAt]
    exact ⟨rfl,rfl,rfl,by omega,by omega⟩
   | false =>
    have h1' : Sx s (p + 1) (sps (m + 3 + 1) ++ (91 :: (k.data.toList ++ (93 :: (paT (m + 8) v ++ (vsT m r ++ (10 :: (sps m ++ 125 :: R)))))))):=h1.cast (by
     have e : sps (m + 3 + 1) = sps (m + 3) ++ [32]:=List.replicate_succ'
     rw [e]; simp)
    have hb : bl s (p + 1) = p + 1 + (m + 3 + 1):=by rw [h1'.bl (sps_bl _) (NoH.cons (by decide) _),sps_len]
    have h2' : Sx s (p + 1 + (m + 3 + 1)) (91 :: (k.data.toList ++ (93 :: (paT (m + 8) v ++ (vsT m r ++ (10 :: (sps m ++ 125 :: R))))))):=h3
    rw [hb,h2'.isAt,h2'.isAt]
    exact ⟨rfl,rfl,rfl,by omega,by omega⟩
  obtain ⟨hb1,hb2,hb3,hb4,hb5⟩:=hbd
  have hvr:=vari_read hm hv hb1 hb2 hS hS2 h3
  have h4 : Sx s (p + 1 + (m + 3) + 1 + 1 + k.data.toList.length + 1 + (paT (m + 8) v).length) (vsT m r ++ (10 :: (sps m ++ 125 :: R))):=h3.tail.app.tail.app
  obtain ⟨R',hR'⟩:=hS2
  have h4':=h4
  rw [hR'] at h4'
  have hbt:=bl_ten h4'
  have hge:=bl_ge s (p + 1 + (m + 3) + 1 + 1 + k.data.toList.length + 1 + (paT (m + 8) v).length + 1)
  have hle : bl s (p + 1 + (m + 3) + 1 + 1 + k.data.toList.length + 1 + (paT (m + 8) v).length) <= s.size:=by
   have:=behN_le blB s.data.toList _ (by rw [size_data]; exact h4.1)
   rw [size_data] at this
   exact this
  rw [varsS,if_neg (by rw [hb3]; simp),hvr]
  dsimp only
  rw [dif_pos ⟨by rw [hbt]; omega,hle⟩,hbt,vars_read hm r _ _ R (fun k d v hx=>hall k d v (List.mem_cons_of_mem _ hx)) h4]
  have e1 : acc ++ [VA.mk k d v] ++ r = acc ++ VA.mk k d v :: r:=by simp
  rw [e1]
  by_cases hc : (acc ++ VA.mk k d v :: r).countP vaDflt = 1
  ·rw [if_pos hc,if_pos hc]
   congr 2
   simp [sps_len]
   omega
  ·rw [if_neg hc,if_neg hc]
theorem sel_read (hm : 0 < m) {vs : List VA} (hne : vs ≠ []) (hc : vs.countP vaDflt = 1) {p : Nat} {R : List UInt8} (hall : ∀ k d v,VA.mk k d v ∈ vs -> VaOk P s m k v) (h : Sx s p (vsT m vs ++ (10 :: (sps m ++ 125 :: R)))) :
  selS P s p = some (vs,p + (vsT m vs).length + 1 + m + 1):=by
 obtain ⟨-,R',hR'⟩:=vs_stop m vs R
 have h':=h
 rw [hR'] at h'
 have hsp : sp s p = p:=h'.sp0 (NoH.cons (by decide) _)
 unfold selS
 rw [hsp,h'.isAt,if_pos (by rfl),vars_read hm vs [] p R hall h,List.nil_append,if_pos hc]
end
theorem mem_as {n : ByteArray} {e : EX} : ∀ {al : List AR},AR.mk n e ∈ al -> e.size <= sizeAs al
 | [],h=>by cases h
 | .mk n' e' :: r,h=>by
  rw [sizeAs]
  rcases List.mem_cons.1 h with h | h
  ·cases h; omega
  ·have:=mem_as h; omega
theorem mem_es {t : ByteArray} {e : EX} : ∀ {l : List EL},EL.mk t (some e) ∈ l -> e.size <= sizeEs l
 | [],h=>by cases h
 | .mk t' p :: r,h=>by
  rw [sizeEs]
  rcases List.mem_cons.1 h with h | h
  ·cases h; rw [sizeO]; omega
  ·have:=mem_es h; omega
theorem mem_vs {k : ByteArray} {d : Bool} {v : List EL} : ∀ {vs : List VA},VA.mk k d v ∈ vs -> sizeEs v <= sizeVs vs
 | [],h=>by cases h
 | .mk k' d' v' :: r,h=>by
  rw [sizeVs]
  rcases List.mem_cons.1 h with h | h
  ·cases h; omega
  ·have:=mem_vs h; omega
theorem okAs_mem {n : ByteArray} {e : EX} {d : Nat} : ∀ {al : List AR},okAs al d = true -> AR.mk n e ∈ al -> okE .inl e d = true
 | [],_,h=>by cases h
 | .mk n' e' :: r,h,hx=>by
  rw [okAs,Bool.and_eq_true] at h
  rcases List.mem_cons.1 hx with hx | hx
  ·cases hx; exact h.1
  ·exact okAs_mem h.2 hx
theorem okEs_mem {t : ByteArray} {e : EX} {d : Nat} : ∀ {l : List EL},okEs l d = true -> EL.mk t (some e) ∈ l -> okE .brc e d = true
 | [],_,h=>by cases h
 | .mk t' none :: r,h,hx=>by
  rw [okEs] at h
  rcases List.mem_cons.1 hx with hx | hx
  ·cases hx
  ·exact okEs_mem h hx
 | .mk t' (some e') :: r,h,hx=>by
  rw [okEs,Bool.and_eq_true] at h
  rcases List.mem_cons.1 hx with hx | hx
  ·cases hx; exact h.1
  ·exact okEs_mem h.2 hx
theorem okVs_mem {k : ByteArray} {f : Bool} {v : List EL} {d : Nat} : ∀ {vs : List VA},okVs vs d = true -> VA.mk k f v ∈ vs -> okEs v (d + 1) = true
 | [],_,h=>by cases h
 | .mk k' f' v' :: r,h,hx=>by
  rw [okVs,Bool.and_eq_true] at h
  rcases List.mem_cons.1 hx with hx | hx
  ·cases hx; exact h.1
  ·exact okVs_mem h.2 hx
theorem place0 (s : ByteArray) (r : Nat) : ∀ i,isAt s i 123 = false -> placeS s r i = none:=by
 intro i h
 cases r with
 | zero=>rfl
 | succ r=>rw [placeS,h]; rfl
theorem shp_al {d : Nat} {k : Int} {t n a : ByteArray} {al : List AR} {i : Option EX} {vs : List VA} (h : Shp d (.mk k t n a al i vs)) : okAs al d = true:=by
 cases h with
 | ter n a al h ha h1 h2=>exact h2
 | fn n al h hb h1 h2=>exact h2
 | _=>rfl
theorem knot_read (s : ByteArray) : ∀ (N : Nat) (e : EX),e.size <= N -> ∀ (d m : Nat),0 < m -> (d <= 20 -> Shp d e -> InTo' (placeS s (20 - d)) s m e) /\ (okE .brc e d = true -> PlR (placeS s (21 - d)) s m e):=by
 intro N
 induction N with
 | zero =>
  intro e he
  obtain ⟨k,t,n,a,al,i,vs⟩:=e
  rw [EX.size] at he
  omega
 | succ N ih =>
  intro e he d m hm
  have hin : d <= 20 -> Shp d e -> InTo' (placeS s (20 - d)) s m e:=fun hd hs=>by
   refine in_any (place_pos s _) (place0 s _) hs ?_ ?_
   ·rintro k t n a al i vs rfl x y hxy
    have ho:=okAs_mem (shp_al hs) hxy
    have hy:=mem_as hxy
    rw [EX.size] at he
    exact ⟨(ih y (by omega) d m hm).1 hd (shp_inl ho).1,ho⟩
   ·rintro y rfl
    rw [EX.size,sizeO] at he
    cases hs with
    | nest _ hy =>
     have h2:=(ih y (by omega) (d + 1) m hm).2 hy
     rw [show 21 - (d + 1) = 20 - d by omega] at h2
     exact h2
  refine ⟨hin,fun hb=>?_⟩
  obtain ⟨k,t,n,a,al,ie,vs⟩:=e
  by_cases hk : k = 7
  ·subst hk
   rw [okE] at hb
   simp only [if_true,Bool.and_eq_true,decide_eq_true_eq,List.isEmpty_iff] at hb
   obtain ⟨hd,⟨⟨⟨⟨⟨e1,e2⟩,e3⟩,e4⟩,e5⟩,e6⟩,e7⟩:=hb
   cases ie with
   | none=>rw [okO] at e7; cases e7
   | some y =>
    rw [okO] at e7
    obtain ⟨hs,hask⟩:=shp_ask e7
    rw [emp_E e1,emp_E e2,emp_E e3,e4]
    rw [EX.size,sizeO] at he
    have hI:=(ih y (by omega) d m hm).1 hd hs
    unfold varsL at e5
    rw [Bool.and_eq_true,List.all_eq_true,beq_iff_eq] at e5
    obtain ⟨v1,v2⟩:=e5
    have hne : vs ≠ []:=by rintro rfl; exact absurd v2 (by decide)
    have hall : ∀ k d' v,VA.mk k d' v ∈ vs -> VaOk (placeS s (20 - d)) s m k v:=fun k d' v hv=>by
     have h1:=v1 _ hv
     simp only [Bool.and_eq_true,Bool.or_eq_true,Bool.not_eq_true',vaKey,vaVal] at h1
     refine ⟨h1.1.1,by rintro rfl; exact absurd h1.1.2 (by decide),h1.2,fun t e hte=>?_⟩
     have hsz:=mem_es hte
     have hsv:=mem_vs hv
     have h2:=(ih e (by omega) (d + 1) (m + 8) (by omega)).2 (okEs_mem (okVs_mem e6 hv) hte)
     rw [show 21 - (d + 1) = 20 - d by omega] at h2
     exact h2
    intro i R h
    have hpl : plT m (.mk 7 E0 E0 E0 [] (some y) vs) = 123 :: 32 :: (exT m y ++ (32 :: 45 :: 62 :: (vsT m vs ++ (10 :: (sps m ++ [125]))))):=by
     rw [plT,if_pos rfl]; rfl
    rw [hpl] at h ⊢
    have h0 : Sx s i (123 :: (32 :: (exT m y ++ (32 :: 45 :: 62 :: (vsT m vs ++ (10 :: (sps m ++ 125 :: R))))))):=h.cast (by simp)
    obtain ⟨c,T,hT,hc1,hc2⟩:=hI.hd
    have h1:=h0.tail
    have hb1 : bl s (i + 1) = i + 1 + 1:=h1.bl1 (by rw [hT]; exact NoH.cons hc1 _)
    have h2:=h1.tail
    obtain ⟨-,j,hj,hjj⟩:=hI.go _ _ (Fol.arrow _) h2
    have h3:=h2.app
    have hbj : bl s j = i + 1 + 1 + (exT m y).length + 1:=by
     have hx : bl s (i + 1 + 1 + (exT m y).length) = i + 1 + 1 + (exT m y).length + 1:=h3.bl1 (NoH.cons (by decide) _)
     rcases hjj with hjj | hjj
     ·rw [hjj,hx]
     ·rw [hjj,bl_bl,hx]
    have h4:=h3.tail
    have h5:=h4.tail
    have h6:=h5.tail
    have hsel:=sel_read hm hne v2 hall h6
    rw [show 21 - d = (20 - d) + 1 by omega,placeS,h0.isAt,if_pos (by rfl),hb1,hj]
    dsimp only
    rw [hbj,h4.isAt,if_neg (by decide),h4.isAt,h5.isAt,hask,if_pos (by rfl),hsel]
    dsimp only
    congr 2
    simp [sps_len]
    omega
  ·obtain ⟨hd,hs,ht⟩:=shp_brc hk hb
   have hI:=hin hd hs
   intro i R h
   rw [plT_plain m k t n a al ie vs hk] at h ⊢
   generalize hE : EX.mk k t n a al ie vs = E at *
   have h0 : Sx s i (123 :: (32 :: (exT m E ++ (32 :: 125 :: R)))):=h.cast (by simp)
   obtain ⟨c,T,hT,hc1,hc2⟩:=hI.hd
   have h1:=h0.tail
   have hb1 : bl s (i + 1) = i + 1 + 1:=h1.bl1 (by rw [hT]; exact NoH.cons hc1 _)
   have h2:=h1.tail
   obtain ⟨-,j,hj,hjj⟩:=hI.go _ _ (Fol.brace _) h2
   have h3:=h2.app
   have hbj : bl s j = i + 1 + 1 + (exT m E).length + 1:=by
    have hx : bl s (i + 1 + 1 + (exT m E).length) = i + 1 + 1 + (exT m E).length + 1:=h3.bl1 (NoH.cons (by decide) _)
    rcases hjj with hjj | hjj
    ·rw [hjj,hx]
    ·rw [hjj,bl_bl,hx]
   have h4:=h3.tail
   rw [show 21 - d = (20 - d) + 1 by omega,placeS,h0.isAt,if_pos (by rfl),hb1,hj]
   dsimp only
   rw [hbj,h4.isAt,if_pos (by rfl),if_neg (by rw [ht]; simp)]
   congr 2
   simp
   omega
theorem patB_read {s : ByteArray} {m : Nat} (hm : 0 < m) {l : List EL} (hl : l ≠ []) (hp : patB l 0 = true) {i : Nat} {R : List UInt8} (hR : Stp R) (h : Sx s i (paT m l ++ R)) : patS (placeS s 20) s i = some (l,i + (paT m l).length):=by
 unfold patB at hp
 rw [Bool.and_eq_true] at hp
 exact pat_read hm hl hp.1 (fun t e hte=>(knot_read s _ e (Nat.le_refl _) 1 m hm).2 (okEs_mem hp.2 hte)) hR h
def cutL (line : List UInt8) : List UInt8 -> List (List UInt8)
 | []=>[line]
 | c :: r=>if c = 10 then line :: cutL [] r else cutL (line ++ [c]) r
theorem comT_lines (mk : List UInt8) : ∀ (l line : List UInt8),comT mk line l = (cutL line l).flatMap (cmlT mk)
 | [],line=>by rw [comT,cutL]; simp
 | c :: r,line=>by
  rw [comT,cutL]
  by_cases h : c = 10
  ·rw [if_pos h,if_pos h,List.flatMap_cons,comT_lines mk r]
  ·rw [if_neg h,if_neg h,comT_lines mk r]
theorem cutL_some : ∀ (l line : List UInt8),∃ x r,cutL line l = x :: r
 | [],line=>⟨line,[],rfl⟩
 | c :: r,line=>by
  rw [cutL]
  by_cases h : c = 10
  ·rw [if_pos h]; exact ⟨_,_,rfl⟩
  ·rw [if_neg h]; exact cutL_some r _
theorem cutL_no : ∀ (l line : List UInt8),(∀ c ∈ line,c ≠ 10) -> ∀ x ∈ cutL line l,∀ c ∈ x,c ≠ 10
 | [],line,h,x,hx=>by rw [cutL,List.mem_singleton] at hx; rw [hx]; exact h
 | c :: r,line,h,x,hx=>by
  rw [cutL] at hx
  by_cases e : c = 10
  ·rw [if_pos e] at hx
   rcases List.mem_cons.1 hx with hx | hx
   ·rw [hx]; exact h
   ·exact cutL_no r [] (fun c hc=>by cases hc) x hx
  ·rw [if_neg e] at hx
   exact cutL_no r _ (fun d hd=>by
    rcases List.mem_append.1 hd with hd | hd
    ·exact h d hd
    ·rw [List.mem_singleton.1 hd]; exact e) x hx
theorem cutL_join : ∀ (l line : List UInt8),Lib.join (cutL line l) [10] = line ++ l
 | [],line=>by rw [cutL,Lib.join_one,List.append_nil]
 | c :: r,line=>by
  rw [cutL]
  by_cases e : c = 10
  ·subst e
   rw [if_pos rfl,Lib.join_cons]
   have ih:=cutL_join r []
   obtain ⟨x,t,hx⟩:=cutL_some r []
   rw [hx,Lib.join_cons,List.nil_append] at ih
   rw [hx]
   show line ++ Lib.joinTail [10] (x :: t) = _
   have : Lib.joinTail [10] (x :: t) = 10 :: (x ++ Lib.joinTail [10] t):=by unfold Lib.joinTail; simp
   rw [this,ih]
  ·rw [if_neg e,cutL_join r]; simp
theorem nl_ok {l : List UInt8} (h : ∀ c ∈ l,c ≠ 10) : ∀ c ∈ l,nlB c = true:=fun c hc=>by unfold nlB; rw [beq_eq_false_iff_ne.2 (h c hc)]; rfl
def Beg (R : List UInt8) : Prop:=R = [] ∨ ∃ c T,R = c :: T /\ (c = 35 ∨ c = 45 ∨ leB c = true)
theorem beg_ne {c : UInt8} (h : c = 35 ∨ c = 45 ∨ leB c = true) : c ≠ 10 /\ c ≠ 32 /\ c ≠ 46:=by
 rcases h with rfl | rfl | h
 ·decide
 ·decide
 ·refine ⟨?_,?_,?_⟩ <;> (rintro rfl; revert h; decide)
section
variable {s : ByteArray}
theorem line_com {lv : Nat} (h1 : 1 <= lv) (h3 : lv <= 3) {line : List UInt8} (hl : ∀ c ∈ line,c ≠ 10) {i : Nat} {R : List UInt8} (h : Sx s i (cmlT (List.replicate lv 35) line ++ R)) :
  comL s i = (lv,mkB line) /\ beh s i = i + (cmlT (List.replicate lv 35) line).length:=by
 unfold cmlT at h ⊢
 have h0 : Sx s i (List.replicate lv 35 ++ ((if line.isEmpty then [] else 32 :: line) ++ (10 :: R))):=h.cast (by simp)
 have hhs : hs s i = i + lv:=by
  have:=h0.beh (p:=hsB) (fun x hx=>by rw [List.eq_of_mem_replicate hx]; decide) (by
   cases line with
   | nil=>exact NoH.cons (by decide) _
   | cons c r=>exact NoH.cons (by decide) _)
  rw [List.length_replicate] at this
  exact this
 have hR35 : ∀ c ∈ List.replicate lv (35 : UInt8),c ≠ 10:=fun c hc=>by rw [List.eq_of_mem_replicate hc]; decide
 have h2:=h0.app
 rw [List.length_replicate] at h2
 cases line with
 | nil =>
  have h2' : Sx s (i + lv) (10 :: R):=h2
  have hli : li s i = i + lv:=by
   have:=h0.beh (p:=nlB) (T:=List.replicate lv 35) (R:=10 :: R) (nl_ok hR35) (NoH.cons (by decide) _)
   rw [List.length_replicate] at this
   exact this
  have hlt:=h2'.lt
  constructor
  ·unfold comL
   rw [hhs,hli,if_neg (by omega),if_neg (by omega)]
   congr 1
   omega
  ·unfold beh
   rw [hli,if_pos hlt]
   simp
   omega
 | cons c r =>
  have h2' : Sx s (i + lv) (32 :: ((c :: r) ++ 10 :: R)):=h2
  have hli : li s i = i + lv + 1 + (c :: r).length:=by
   have h0' : Sx s i ((List.replicate lv 35 ++ 32 :: (c :: r)) ++ 10 :: R):=h0.cast (by simp)
   have:=h0'.beh (p:=nlB) (nl_ok (fun d hd=>by
    rcases List.mem_append.1 hd with hd | hd
    ·exact hR35 d hd
    ·rcases List.mem_cons.1 hd with hd | hd
     ·rw [hd]; decide
     ·exact hl d hd)) (NoH.cons (by decide) _)
   rw [List.length_append,List.length_replicate,List.length_cons] at this
   have e : li s i = _:=this
   rw [e]
   omega
  have h4:=h2'.tail
  have h5:=h4.app
  have hlt:=h5.lt
  constructor
  ·unfold comL
   rw [hhs,hli,h2'.isAt,if_neg,if_pos (by rw [List.length_cons]; omega),h4.ext]
   ·congr 1
    omega
   ·rintro (e | ⟨_,e⟩)
    ·omega
    ·exact absurd e (by decide)
  ·unfold beh
   rw [hli,if_pos hlt]
   simp
   omega
theorem com_go {lv : Nat} (h1 : 1 <= lv) (h3 : lv <= 3) {R : List UInt8} (hR : ∀ j,Sx s j R -> (comL s j).1 ≠ lv) : ∀ (lines : List (List UInt8)) (line : List UInt8) (acc : List ByteArray) (k : Nat),(∀ c ∈ line,c ≠ 10) -> (∀ x ∈ lines,∀ c ∈ x,c ≠ 10) ->
  Sx s k (cmlT (List.replicate lv 35) line ++ (lines.flatMap (cmlT (List.replicate lv 35)) ++ R)) ->
  comGo s lv acc k (mkB line) = (acc ++ mkB line :: lines.map mkB,k + (cmlT (List.replicate lv 35) line).length + (lines.flatMap (cmlT (List.replicate lv 35))).length)
 | [],line,acc,k,hl,hls,h=>by
  obtain ⟨g1,g2⟩:=line_com h1 h3 hl h
  have h2:=h.app
  rw [comGo,g2,dif_neg (fun x=>hR _ h2 x.1)]
  simp
 | x :: lines,line,acc,k,hl,hls,h=>by
  obtain ⟨g1,g2⟩:=line_com h1 h3 hl h
  have h2 : Sx s (k + (cmlT (List.replicate lv 35) line).length) (cmlT (List.replicate lv 35) x ++ (lines.flatMap (cmlT (List.replicate lv 35)) ++ R)):=h.app.cast (by simp)
  obtain ⟨f1,f2⟩:=line_com h1 h3 (hls x (List.mem_cons_self ..)) h2
  have hpos : 0 < (cmlT (List.replicate lv 35) line).length:=by unfold cmlT; simp; omega
  rw [comGo,g2,dif_pos ⟨by rw [f1],by omega,h2.1⟩,f1]
  dsimp only
  rw [com_go h1 h3 hR lines x _ _ (hls x (List.mem_cons_self ..)) (fun y hy=>hls y (List.mem_cons_of_mem _ hy)) h2]
  simp
  omega
theorem com_read {lv : Nat} (h1 : 1 <= lv) (h3 : lv <= 3) {t : ByteArray} {i : Nat} {R : List UInt8} (hR : ∀ j,Sx s j R -> (comL s j).1 ≠ lv) (h : Sx s i (comT (List.replicate lv 35) [] t.data.toList ++ R)) :
  comS s i = some ⟨0,lv,t,E0,[],[],i,i + (comT (List.replicate lv 35) [] t.data.toList).length⟩:=by
 have hj:=cutL_join t.data.toList []
 have hno:=cutL_no t.data.toList [] (fun c hc=>by cases hc)
 obtain ⟨x,r,hx⟩:=cutL_some t.data.toList []
 rw [comT_lines] at h ⊢
 rw [hx] at h hj hno ⊢
 rw [List.flatMap_cons] at h ⊢
 have h' : Sx s i (cmlT (List.replicate lv 35) x ++ (r.flatMap (cmlT (List.replicate lv 35)) ++ R)):=h.cast (by simp)
 have hx0:=hno x (List.mem_cons_self ..)
 have hr0 : ∀ y ∈ r,∀ c ∈ y,c ≠ 10:=fun y hy=>hno y (List.mem_cons_of_mem _ hy)
 obtain ⟨g1,g2⟩:=line_com h1 h3 hx0 h'
 have hg:=com_go h1 h3 hR r x [] i hx0 hr0 h'
 unfold comS
 rw [g1]
 dsimp only
 rw [if_neg (by omega),hg]
 dsimp only
 have e : (([] : List ByteArray) ++ mkB x :: r.map mkB).map (·.data.toList) = x :: r:=by
  rw [List.nil_append,List.map_cons,List.map_map]
  have e1 : (mkB x).data.toList = x:=by simp [mkB]
  have e2 : (fun b : ByteArray=>b.data.toList) ∘ mkB = id:=by funext z; simp [mkB]
  rw [e1,e2,List.map_id]
 rw [e,hj,List.nil_append,mkB_of,List.length_append,Nat.add_assoc]
theorem com_no {i : Nat} {c : UInt8} {T : List UInt8} (h : Sx s i (c :: T)) (hc : c ≠ 35) : (comL s i).1 = 0:=by
 have hhs : hs s i = i:=Sx.beh (T:=[]) h (fun x hx=>by cases hx) (NoH.cons (show hsB c = false from beq_eq_false_iff_ne.2 hc) _)
 unfold comL
 split
 ·rfl
 ·show hs s i - i = 0
  omega
theorem com_end {i : Nat} (h : Sx s i []) : (comL s i).1 = 0:=by
 have hhs : hs s i = i:=Sx.beh (T:=[]) h (fun x hx=>by cases hx) (NoH.nil _)
 unfold comL
 split
 ·rfl
 ·show hs s i - i = 0
  omega
theorem nl_over : ∀ (k f fr i : Nat),Sx s i (List.replicate (k + 1) 10) -> nlS s f fr i = (f + k + 1,i + k + 1,i + k + 1)
 | 0,f,fr,i,h=>by
  have h0 : Sx s i (10 :: []):=h
  have h1:=h0.tail
  have e1 : sp s (i + 1) = i + 1:=h1.sp0 (NoH.nil _)
  rw [nlS,dif_pos (by rw [h0.isAt]; rfl),e1,nlS,dif_neg (by rw [h1.isEnd]; simp)]
 | k + 1,f,fr,i,h=>by
  have h0 : Sx s i (10 :: List.replicate (k + 1) 10):=h.cast (by rw [List.replicate_succ])
  have h1:=h0.tail
  have e1 : sp s (i + 1) = i + 1:=h1.sp0 (by rw [List.replicate_succ]; exact NoH.cons (by decide) _)
  rw [nlS,dif_pos (by rw [h0.isAt]; rfl),e1,nl_over k _ _ _ h1]
  simp only [Prod.mk.injEq]
  omega
theorem stp_end {f : Nat} {R : List UInt8} (hB : Beg R) : Stp (10 :: (List.replicate f 10 ++ R)):=by
 refine ⟨NoH.cons (by decide) _,NoH.cons (by decide) _,fun s i h=>?_⟩
 rcases hB with rfl | ⟨c,T,rfl,hc⟩
 ·have h0 : Sx s i (List.replicate (f + 1) 10):=h.cast (by rw [List.append_nil,List.replicate_succ])
  unfold nextS
  rw [nl_over f 0 i i h0,if_pos (.inl rfl)]
 ·obtain ⟨c1,c2, -⟩:=beg_ne hc
  have h0 : Sx s i (List.replicate (f + 1) 10 ++ (List.replicate 0 32 ++ c :: T)):=h.cast (by rw [List.replicate_succ]; rfl)
  unfold nextS
  rw [nl_feeds c1 c2 f 0 i i 0 h0,if_pos (.inl rfl)]
theorem stp_at (T : List UInt8) : Stp (10 :: 32 :: 32 :: 32 :: 32 :: 46 :: T):=stp_of (q:=4) (c:=46) (T:=T) (by decide) (by decide) (.inl (by decide))
def valT (m : Nat) (v : List EL) : List UInt8:=if v.isEmpty then [] else paT m v
theorem named_read {m : Nat} (hm : 0 < m) {n : ByteArray} (hn : isNameV n = true) {v : List EL} (hv : patB v 0 = true) {i : Nat} {R : List UInt8} (hR : Stp R) (hR2 : ∃ R',R = 10 :: R') (h : Sx s i (n.data.toList ++ (32 :: 61 :: (valT m v ++ R)))) :
  namedS s i = some (n,v,i + n.data.toList.length + 2 + (valT m v).length):=by
 obtain ⟨g1,g2,g3⟩:=h.name hn (NoH.cons (by decide) _)
 have h1:=h.app
 have hsp : sp s (i + n.data.toList.length) = i + n.data.toList.length + 1:=Sx.sp (T:=[32]) h1 (fun x hx=>by rw [List.mem_singleton.1 hx]; decide) (NoH.cons (by decide) _)
 have h2:=h1.tail
 have h3:=h2.tail
 have h4:=h3.app
 obtain ⟨R',rfl⟩:=hR2
 have hp : patS (placeS s 20) s (i + n.data.toList.length + 1 + 1) = some (v,i + n.data.toList.length + 1 + 1 + (valT m v).length):=by
  unfold valT at h3 ⊢
  cases v with
  | nil=>exact pat_none hR (NoH.cons (by decide) _) h3
  | cons x r=>exact patB_read hm (by simp) hv hR h3
 unfold namedS
 rw [g1,if_neg (by omega),hsp,h2.isAt,if_pos (by rfl),hp]
 dsimp only
 rw [if_pos (.inr (by rw [h4.isAt]; rfl)),g2]
theorem atsT_cons (n : ByteArray) (v : List EL) (r : List AT) : atsT (.mk n v :: r) = 10 :: 32 :: 32 :: 32 :: 32 :: 46 :: (n.data.toList ++ (32 :: 61 :: paT 8 v)) ++ atsT r:=by rw [atsT]
theorem ats_stop (r : List AT) {f : Nat} {R : List UInt8} (hB : Beg R) : Stp (atsT r ++ 10 :: (List.replicate f 10 ++ R)) /\ ∃ R',atsT r ++ 10 :: (List.replicate f 10 ++ R) = 10 :: R':=by
 cases r with
 | nil=>rw [atsT]; exact ⟨stp_end hB,_,rfl⟩
 | cons x r =>
  obtain ⟨n,v⟩:=x
  rw [atsT_cons]
  exact ⟨stp_at _,_,rfl⟩
theorem bl_feeds {f : Nat} {R : List UInt8} (hB : Beg R) {e : Nat} (h : Sx s e (10 :: (List.replicate f 10 ++ R))) : isAt s (bl s e) 46 = false:=by
 have h0 : Sx s e (List.replicate (f + 1) 10 ++ R):=h.cast (by rw [List.replicate_succ]; rfl)
 have hbf : ∀ x ∈ List.replicate (f + 1) (10 : UInt8),blB x = true:=fun x hx=>by rw [List.eq_of_mem_replicate hx]; decide
 rcases hB with rfl | ⟨c,T,rfl,hc⟩
 ·rw [h0.bl hbf (NoH.nil _)]
  exact h0.app.isEnd 46
 ·obtain ⟨c1,c2,c3⟩:=beg_ne hc
  have hcb : blB c = false:=by
   unfold blB
   rw [decide_eq_false_iff_not]
   rintro (e | e)
   ·exact ne32 c2 e
   ·exact ne10 c1 e
  rw [h0.bl hbf (NoH.cons hcb _),h0.app.isAt]
  exact beq_eq_false_iff_ne.2 c3
theorem ats_read {f : Nat} {R : List UInt8} (hB : Beg R) : ∀ (r : List AT) (acc : List AT) (e : Nat),(∀ x ∈ r,attrOk x = true) -> Sx s e (atsT r ++ 10 :: (List.replicate f 10 ++ R)) -> atsS s acc e = (acc ++ r,e + (atsT r).length)
 | [],acc,e,_,h=>by
  rw [atsT] at h ⊢
  have h0 : Sx s e (10 :: (List.replicate f 10 ++ R)):=h
  have ha : attrS s e = none:=by unfold attrS; rw [bl_feeds hB h0]; rfl
  rw [atsS,ha,List.append_nil]
  rfl
 | .mk n v :: r,acc,e,hall,h=>by
  have hok:=hall _ (List.mem_cons_self ..)
  unfold attrOk at hok
  simp only [Bool.and_eq_true,Bool.not_eq_true'] at hok
  obtain ⟨hn,hv,hp⟩:=hok
  obtain ⟨hS,hS2⟩:=ats_stop r (f:=f) hB
  rw [atsT_cons] at h ⊢
  have h0 : Sx s e ([10,32,32,32,32] ++ (46 :: (n.data.toList ++ (32 :: 61 :: (valT 8 v ++ (atsT r ++ 10 :: (List.replicate f 10 ++ R))))))):=h.cast (by unfold valT; rw [hv]; simp)
  have hb : bl s e = e + 5:=h0.bl (fun x hx=>by
   simp only [List.mem_cons,List.not_mem_nil,or_false] at hx
   rcases hx with rfl | rfl | rfl | rfl | rfl <;> decide) (NoH.cons (by decide) _)
  have h1:=h0.app
  have h1' : Sx s (e + 5) (46 :: (n.data.toList ++ (32 :: 61 :: (valT 8 v ++ (atsT r ++ 10 :: (List.replicate f 10 ++ R)))))):=h1
  have h32 : at0 s.data.toList (e + 5 - 1) = 32:=by
   have h2 : Sx s (e + 4) (32 :: (46 :: (n.data.toList ++ (32 :: 61 :: (valT 8 v ++ (atsT r ++ 10 :: (List.replicate f 10 ++ R))))))):=Sx.app (T:=[10,32,32,32]) h0
   exact h2.at0
  have h3:=h1'.tail
  have hnr:=named_read (m:=8) (by omega) hn hp hS hS2 h3
  have ha : attrS s e = some (n,v,e + 5 + 1 + n.data.toList.length + 2 + (valT 8 v).length):=by
   unfold attrS
   rw [hb,h1'.isAt,h32,if_pos (by rfl),hnr]
   dsimp only
   rw [hv]
   rfl
  have h4 : Sx s (e + 5 + 1 + n.data.toList.length + 2 + (valT 8 v).length) (atsT r ++ 10 :: (List.replicate f 10 ++ R)):=h3.app.tail.tail.app
  rw [atsS,ha]
  dsimp only
  rw [dif_pos ⟨by omega,h4.1⟩,ats_read hB r _ _ (fun x hx=>hall x (List.mem_cons_of_mem _ hx)) h4]
  unfold valT
  rw [hv]
  simp
  omega
end
def enT (x : EN) : List UInt8:=entT x.ty x.lv x.tx x.nm x.val x.ats
def okN (x : EN) : Prop:=rightB x.ty x.lv x.tx x.nm x.val x.ats = true
theorem okN_cases {x : EN} (h : okN x) : (x.ty = 0 /\ (∃ n : Nat,x.lv = n /\ 1 <= n /\ n <= 3) /\ textB x.tx = true /\ x.nm = E0 /\ x.val = [] /\ x.ats = []) ∨
  ((x.ty = 1 ∨ x.ty = 2) /\ x.lv = 0 /\ x.tx = E0 /\ isNameV x.nm = true /\ patB x.val 0 = true /\ (∀ a ∈ x.ats,attrOk a = true) /\ (x.val.isEmpty = false ∨ (x.ty = 1 /\ x.ats.isEmpty = false))):=by
 unfold okN rightB at h
 split at h
 ·next h0 =>
  left
  unfold comB at h
  simp only [Bool.and_eq_true,decide_eq_true_eq] at h
  obtain ⟨⟨⟨⟨⟨h1,h2⟩,h3⟩,h4⟩,h5⟩,h6⟩:=h
  exact ⟨h0,⟨x.lv.toNat,by omega,by omega,by omega⟩,h3,emp_E h4,List.eq_nil_of_length_eq_zero h5,List.eq_nil_of_length_eq_zero h6⟩
 ·split at h
  ·next h1 =>
   right
   unfold msgB at h
   simp only [Bool.and_eq_true,Bool.or_eq_true,Bool.not_eq_true',beq_iff_eq,List.all_eq_true] at h
   obtain ⟨⟨⟨⟨⟨h2,h3⟩,h4⟩,h5⟩,h6⟩,h7⟩:=h
   exact ⟨h1,h2,emp_E h3,h4,h5,h6,h7⟩
  ·cases h
theorem enT_com {x : EN} (h : x.ty = 0) {n : Nat} (hn : x.lv = n) : enT x = comT (List.replicate n 35) [] x.tx.data.toList:=by
 unfold enT entT
 rw [h,if_neg (by decide),if_pos rfl,hn]
 rfl
theorem enT_msg {x : EN} (h : x.ty = 1 ∨ x.ty = 2) : enT x = (if x.ty = 2 then [45] else []) ++ (x.nm.data.toList ++ (32 :: 61 :: (valT 4 x.val ++ (atsT x.ats ++ [10])))):=by
 unfold enT entT
 rw [if_neg (by rcases h with h | h <;> rw [h] <;> decide),if_neg (by rcases h with h | h <;> rw [h] <;> decide)]
 rfl
theorem com_head {n : Nat} (hn : 1 <= n) (t : List UInt8) : ∃ T,comT (List.replicate n 35) [] t = 35 :: T:=by
 rw [comT_lines]
 obtain ⟨x,r,hx⟩:=cutL_some t []
 obtain ⟨k,rfl⟩ : ∃ k,n = k + 1:=⟨n - 1,by omega⟩
 rw [hx,List.flatMap_cons]
 unfold cmlT
 rw [List.replicate_succ]
 exact ⟨_,rfl⟩
theorem en_head {x : EN} (h : okN x) : ∃ c T,enT x = c :: T /\ (c = 35 ∨ c = 45 ∨ leB c = true) /\ (x.ty ≠ 0 -> c ≠ 35):=by
 rcases okN_cases h with ⟨h0,⟨n,hn,h1, -⟩, -⟩ | ⟨hty, -, -,hnm, -⟩
 ·rw [enT_com h0 hn]
  obtain ⟨T,hT⟩:=com_head h1 x.tx.data.toList
  exact ⟨35,T,hT,.inl rfl,fun e=>absurd h0 e⟩
 ·rw [enT_msg hty]
  by_cases h2 : x.ty = 2
  ·rw [if_pos h2]
   exact ⟨45,_,rfl,.inr (.inl rfl),fun _=>by decide⟩
  ·obtain ⟨c,r,hc,hl, -⟩:=name_form hnm
   rw [if_neg h2,hc]
   exact ⟨c,_,rfl,.inr (.inr hl),fun _ e=>by rw [e] at hl; revert hl; decide⟩
section
variable {s : ByteArray}
theorem ent_read {x : EN} (hx : okN x) {f : Nat} {R : List UInt8} (hB : Beg R) (hn : x.ty = 0 -> ∀ j,Sx s j (List.replicate f 10 ++ R) -> ((comL s j).1 : Int) ≠ x.lv) {i : Nat} (h : Sx s i (enT x ++ (List.replicate f 10 ++ R))) :
  readS s i = ⟨x.ty,x.lv,x.tx,x.nm,x.val,x.ats,i,i + (enT x).length⟩:=by
 rcases okN_cases hx with ⟨h0,⟨n,hn1,h1,h3⟩, -,e1,e2,e3⟩ | ⟨hty,hlv,htx,hnm,hv,hat,hor⟩
 ·rw [enT_com h0 hn1] at h ⊢
  have hc:=com_read h1 h3 (fun j hj e=>hn h0 j hj (by rw [hn1,e])) h
  unfold readS
  rw [hc,h0,hn1,e1,e2,e3]
 ·obtain ⟨c,T,hcT, -,hc35⟩:=en_head hx
  have hne : x.ty ≠ 0:=by rcases hty with h | h <;> rw [h] <;> decide
  have h' : Sx s i (c :: (T ++ (List.replicate f 10 ++ R))):=h.cast (by rw [hcT]; rfl)
  have hcom : comS s i = none:=by unfold comS; rw [if_pos (com_no h' (hc35 hne))]
  rw [enT_msg hty] at h ⊢
  obtain ⟨hS,hS2⟩:=ats_stop x.ats (f:=f) hB
  have hgo : ∀ i0,Sx s i0 (x.nm.data.toList ++ (32 :: 61 :: (valT 4 x.val ++ (atsT x.ats ++ 10 :: (List.replicate f 10 ++ R))))) -> namedS s i0 = some (x.nm,x.val,i0 + x.nm.data.toList.length + 2 + (valT 4 x.val).length) /\
    atsS s [] (i0 + x.nm.data.toList.length + 2 + (valT 4 x.val).length) = (x.ats,i0 + x.nm.data.toList.length + 2 + (valT 4 x.val).length + (atsT x.ats).length) /\
    beh s (i0 + x.nm.data.toList.length + 2 + (valT 4 x.val).length + (atsT x.ats).length) = i0 + x.nm.data.toList.length + 2 + (valT 4 x.val).length + (atsT x.ats).length + 1:=by
   intro i0 hi0
   have h4 : Sx s (i0 + x.nm.data.toList.length + 2 + (valT 4 x.val).length) (atsT x.ats ++ 10 :: (List.replicate f 10 ++ R)):=hi0.app.tail.tail.app
   have h5:=h4.app
   refine ⟨named_read (by omega) hnm hv hS hS2 hi0,?_,?_⟩
   ·rw [ats_read hB x.ats [] _ hat h4,List.nil_append]
   ·have hli : li s (i0 + x.nm.data.toList.length + 2 + (valT 4 x.val).length + (atsT x.ats).length) = i0 + x.nm.data.toList.length + 2 + (valT 4 x.val).length + (atsT x.ats).length:=Sx.beh (T:=[]) h5 (fun x hx=>by cases hx) (NoH.cons (by decide) _)
    unfold beh
    rw [hli,if_pos h5.lt]
  unfold readS
  rw [hcom]
  dsimp only
  by_cases h2 : x.ty = 2
  ·rw [if_pos h2] at h ⊢
   have h6 : Sx s i (45 :: (x.nm.data.toList ++ (32 :: 61 :: (valT 4 x.val ++ (atsT x.ats ++ 10 :: (List.replicate f 10 ++ R)))))):=h.cast (by simp)
   obtain ⟨a1,a2,a3⟩:=hgo (i + 1) h6.tail
   have hve : x.val.isEmpty = false:=hor.resolve_right (fun e=>absurd (e.1.symm.trans h2) (by decide))
   unfold msgS
   rw [h6.isAt]
   simp only [beq_self_eq_true,if_true]
   rw [a1]
   dsimp only
   rw [a2]
   dsimp only
   rw [hve,if_pos (by rfl),a3,h2,hlv,htx]
   dsimp only
   congr 1
   simp
   omega
  ·have h1 : x.ty = 1:=hty.resolve_right h2
   rw [if_neg h2] at h ⊢
   have h6 : Sx s i (x.nm.data.toList ++ (32 :: 61 :: (valT 4 x.val ++ (atsT x.ats ++ 10 :: (List.replicate f 10 ++ R))))):=h.cast (by simp)
   obtain ⟨d,r,hd,hl, -⟩:=name_form hnm
   have h7 : Sx s i (d :: (r ++ (32 :: 61 :: (valT 4 x.val ++ (atsT x.ats ++ 10 :: (List.replicate f 10 ++ R)))))):=h6.cast (by rw [hd]; rfl)
   have h45 : isAt s i 45 = false:=by rw [h7.isAt]; exact beq_eq_false_iff_ne.2 (le_no hl).2.2.2.2.2
   obtain ⟨a1,a2,a3⟩:=hgo i h6
   have hcond : (!x.val.isEmpty || (!false && !x.ats.isEmpty)) = true:=by
    rcases hor with e | ⟨_,e⟩
    ·rw [e]; rfl
    ·rw [e]; simp
   unfold msgS
   rw [h45]
   simp only [Bool.false_eq_true,if_false]
   rw [a1]
   dsimp only
   rw [a2]
   dsimp only
   rw [if_pos hcond,a3,h1,hlv,htx]
   dsimp only
   congr 1
   simp
   omega
theorem pass_feeds {R : List UInt8} (hB : Beg R) : ∀ (f i : Nat),Sx s i (List.replicate f 10 ++ R) -> passE s i = i + f
 | 0,i,h=>by
  have h0 : Sx s i R:=h
  rcases hB with rfl | ⟨c,T,rfl,hc⟩
  ·have:=h0.len
   rw [List.length_nil] at this
   rw [passE,dif_neg (by omega)]
   rfl
  ·obtain ⟨c1,c2, -⟩:=beg_ne hc
   have hsp : sp s i = i:=h0.sp0 (NoH.cons (sp_no c2) _)
   rw [passE,dif_pos h0.lt,hsp,if_pos ⟨h0.lt,by rw [h0.isAt]; exact beq_eq_false_iff_ne.2 c1⟩]
   rfl
 | f + 1,i,h=>by
  have h0 : Sx s i (10 :: (List.replicate f 10 ++ R)):=h.cast (by rw [List.replicate_succ]; rfl)
  have hsp : sp s i = i:=h0.sp0 (NoH.cons (by decide) _)
  have hli : li s i = i:=Sx.beh (T:=[]) h0 (fun x hx=>by cases hx) (NoH.cons (by decide) _)
  have hbe : beh s i = i + 1:=by unfold beh; rw [hli,if_pos h0.lt]
  rw [passE,dif_pos h0.lt,hsp,if_neg (fun x=>by have:=x.2; rw [h0.isAt] at this; cases this),hbe,dif_pos (by omega),pass_feeds hB f _ h0.tail]
  omega
end
def TL : List (EN × Nat) -> List UInt8
 | []=>[]
 | (x,f) :: r=>enT x ++ (List.replicate f 10 ++ TL r)
def SepOk : List (EN × Nat) -> Prop
 | []=>True
 | (x,f) :: r=>(x.ty = 0 -> 1 <= f ∨ ∀ y g r',r = (y,g) :: r' -> ¬ (y.ty = 0 /\ y.lv = x.lv)) /\ SepOk r
def PL : List (EN × Nat) -> Nat -> List EN
 | [],_=>[]
 | (x,f) :: r,i=>⟨x.ty,x.lv,x.tx,x.nm,x.val,x.ats,i,i + (enT x).length⟩ :: PL r (i + (enT x).length + f)
theorem TL_beg : ∀ l : List (EN × Nat),(∀ p ∈ l,okN p.1) -> Beg (TL l)
 | [],_=>.inl rfl
 | (x,f) :: r,h=>by
  obtain ⟨c,T,e,hc, -⟩:=en_head (h _ (List.mem_cons_self ..))
  right
  rw [TL,e]
  exact ⟨c,_,rfl,hc⟩
theorem parse_list {s : ByteArray} : ∀ (l : List (EN × Nat)) (acc : List EN) (i : Nat),(∀ p ∈ l,okN p.1) -> SepOk l -> Sx s i (TL l) -> parseGo s acc i = acc ++ PL l i
 | [],acc,i,_,_,h=>by
  have h0 : Sx s i []:=h
  have:=h0.len
  rw [List.length_nil] at this
  rw [parseGo,dif_neg (by omega),PL,List.append_nil]
 | (x,f) :: r,acc,i,hok,hsep,h=>by
  have hx : okN x:=hok _ (List.mem_cons_self ..)
  have hr : ∀ p ∈ r,okN p.1:=fun p hp=>hok p (List.mem_cons_of_mem _ hp)
  have hB:=TL_beg r hr
  rw [TL] at h
  obtain ⟨hs1,hs2⟩:=hsep
  have hnext : x.ty = 0 -> ∀ j,Sx s j (List.replicate f 10 ++ TL r) -> ((comL s j).1 : Int) ≠ x.lv:=by
   intro h0 j hj
   have hlv : 1 <= x.lv:=by
    rcases okN_cases hx with ⟨-,⟨n,hn,h1, -⟩, -⟩ | ⟨hty, -⟩
    ·omega
    ·rcases hty with e | e <;> rw [e] at h0 <;> exact absurd h0 (by decide)
   have h00 : (comL s j).1 = 0 -> ((comL s j).1 : Int) ≠ x.lv:=fun e=>by rw [e]; omega
   cases f with
   | succ f =>
    rw [List.replicate_succ] at hj
    exact h00 (com_no hj (by decide))
   | zero =>
    have hj0 : Sx s j (TL r):=hj
    cases r with
    | nil=>exact h00 (com_end hj0)
    | cons p r =>
     obtain ⟨y,g⟩:=p
     rw [TL] at hj0
     have hy : okN y:=hr _ (List.mem_cons_self ..)
     obtain ⟨c,T,e, -,hc⟩:=en_head hy
     by_cases hy0 : y.ty = 0
     ·rcases okN_cases hy with ⟨-,⟨n,hn,h1,h3⟩, -⟩ | ⟨hty, -⟩
      ·rw [enT_com hy0 hn,comT_lines] at hj0
       have hno:=cutL_no y.tx.data.toList [] (fun c hc=>by cases hc)
       obtain ⟨z,t,hz⟩:=cutL_some y.tx.data.toList []
       rw [hz] at hj0 hno
       rw [List.flatMap_cons,List.append_assoc] at hj0
       have:=(line_com h1 h3 (hno z (List.mem_cons_self ..)) hj0).1
       rw [this]
       rcases hs1 h0 with h | h
       ·omega
       ·intro e2
        exact h y g r rfl ⟨hy0,by rw [hn,<- e2]⟩
      ·rcases hty with e | e <;> rw [e] at hy0 <;> exact absurd hy0 (by decide)
     ·rw [e] at hj0
      exact h00 (com_no hj0 (hc hy0))
  have hrd:=ent_read hx hB hnext h
  have h2:=h.app
  have hpass:=pass_feeds hB f _ h2
  obtain ⟨c,T,e, -⟩:=en_head hx
  have hpos : 0 < (enT x).length:=by rw [e,List.length_cons]; omega
  have hlt : i < s.size:=by have h':=h; rw [e] at h'; exact h'.lt
  rw [parseGo,hrd]
  dsimp only
  rw [hpass,dif_pos ⟨hlt,by omega⟩,PL]
  have h3:=h2.app
  rw [List.length_replicate] at h3
  rw [parse_list r _ _ hr hs2 h3]
  simp
theorem parse_of {l : List (EN × Nat)} (hok : ∀ p ∈ l,okN p.1) (hsep : SepOk l) : parseS (mkB (TL l)) = PL l 0:=by
 have h : Sx (mkB (TL l)) 0 (TL l):=(Sx.start _).cast (by simp [mkB])
 unfold parseS
 rw [pass_feeds (TL_beg l hok) 0 0 h,parse_list l [] 0 hok hsep h,List.nil_append]
theorem shp_in {d : Nat} {k : Int} {t n a : ByteArray} {al : List AR} {i : Option EX} {vs : List VA} (h : Shp d (.mk k t n a al i vs)) : (∀ y,i = some y -> okE .brc y (d + 1) = true) /\ vs = [] /\ okAs al d = true:=by
 have h2:=shp_al h
 cases h with
 | nest y hy=>exact ⟨(fun z hz=>by cases hz; exact hy),rfl,h2⟩
 | _=>exact ⟨(fun z hz=>by cases hz),rfl,h2⟩
mutual
theorem exD_len (M : Nat) : ∀ (e : EX) (m d : Nat),m + 8 * (21 - d) <= M -> (Shp d e -> (exT m e).length + (M + 10) <= (2 * M + 20) * e.size) /\ (okE .brc e d = true -> (plT m e).length <= (2 * M + 20) * e.size)
 | .mk k t n a al i vs,m,d,h=>by
  rw [EX.size]
  have hA:=asD_len M al m d true
  have hO:=plD_len M i m d
  have hX:=exOD_len M i m d
  have hV:=vsD_len M vs m d
  have hI:=inlG_len k t n a al.isEmpty (asT m true al) (plO m i)
  have p1:=Nat.mul_le_mul_right t.size (show 6 <= 2 * M + 20 by omega)
  have p2:=Nat.mul_le_mul_right n.size (show 1 <= 2 * M + 20 by omega)
  have p3:=Nat.mul_le_mul_right a.size (show 1 <= 2 * M + 20 by omega)
  simp only [Nat.mul_add,Nat.mul_one]
  rw [exT,plT]
  have hgo : Shp d (.mk k t n a al i vs) -> (inlG k t n a al.isEmpty (asT m true al) (plO m i)).length + (M + 10) <= 2 * M + 20 + (2 * M + 20) * t.size + (2 * M + 20) * n.size + (2 * M + 20) * a.size + (2 * M + 20) * sizeAs al + (2 * M + 20) * sizeO i + (2 * M + 20) * sizeVs vs:=fun hs=>by
   obtain ⟨h1,h2,h3⟩:=shp_in hs
   have h4:=hA h3 h
   have h5:=hO h1 (by omega)
   omega
  refine ⟨hgo,fun hb=>?_⟩
  by_cases hk : k = 7
  ·rw [if_pos hk]
   subst hk
   rw [okE] at hb
   simp only [if_true,Bool.and_eq_true,decide_eq_true_eq] at hb
   obtain ⟨hd,⟨⟨_,e5⟩,e6⟩,e7⟩:=hb
   have h4:=hV hd e6 h
   have h5:=hX e7 h
   simp [sps]
   omega
  ·rw [if_neg hk]
   have:=hgo (shp_brc hk hb).2.1
   simp
   omega
theorem plD_len (M : Nat) : ∀ (i : Option EX) (m d : Nat),(∀ y,i = some y -> okE .brc y (d + 1) = true) -> m + 8 * (21 - (d + 1)) <= M -> (plO m i).length <= (2 * M + 20) * sizeO i
 | none,m,d,_,h=>by rw [plO]; simp
 | some e,m,d,ho,h=>by
  rw [sizeO,plO]
  exact (exD_len M e m (d + 1) h).2 (ho e rfl)
theorem exOD_len (M : Nat) : ∀ (i : Option EX) (m d : Nat),okO .ask i d = true -> m + 8 * (21 - d) <= M -> (exO m i).length <= (2 * M + 20) * sizeO i
 | none,m,d,_,h=>by rw [exO]; simp
 | some e,m,d,ho,h=>by
  rw [okO] at ho
  rw [sizeO,exO]
  have:=(exD_len M e m d h).1 (shp_ask ho).1
  omega
theorem asD_len (M : Nat) : ∀ (al : List AR) (m d : Nat) (f : Bool),okAs al d = true -> m + 8 * (21 - d) <= M -> (asT m f al).length <= (2 * M + 20) * sizeAs al
 | [],m,d,f,_,h=>by rw [asT]; simp
 | .mk n e :: r,m,d,f,ho,h=>by
  rw [okAs,Bool.and_eq_true] at ho
  rw [sizeAs]
  have h1:=(exD_len M e m d h).1 (shp_inl ho.1).1
  have h2:=asD_len M r m d false ho.2 h
  have h3:=nameG_len f n
  have p2:=Nat.mul_le_mul_right n.size (show 1 <= 2 * M + 20 by omega)
  rw [asT]
  simp only [Nat.mul_add,Nat.mul_one,List.length_append]
  omega
theorem vsD_len (M : Nat) : ∀ (vs : List VA) (m d : Nat),d <= 20 -> okVs vs d = true -> m + 8 * (21 - d) <= M -> (vsT m vs).length <= (2 * M + 20) * sizeVs vs
 | [],m,d,_,_,h=>by rw [vsT]; simp
 | .mk k f v :: r,m,d,hd,ho,h=>by
  rw [okVs,Bool.and_eq_true] at ho
  rw [sizeVs]
  have h1:=esD_len M v (m + 8) (d + 1) ho.1 (by omega)
  have h2:=vsD_len M r m d hd ho.2 h
  have h3:=head_len (m + 8) v
  have p2:=Nat.mul_le_mul_right k.size (show 1 <= 2 * M + 20 by omega)
  rw [vsT]
  simp only [Nat.mul_add,Nat.mul_one,List.length_append,List.length_cons,size_data]
  simp only [sps,List.length_replicate]
  omega
theorem esD_len (M : Nat) : ∀ (l : List EL) (m d : Nat),okEs l d = true -> m + 8 * (21 - d) <= M -> (esT m l).length <= (2 * M + 20) * sizeEs l
 | [],m,d,_,h=>by rw [esT]; simp
 | .mk t none :: r,m,d,ho,h=>by
  rw [okEs] at ho
  rw [sizeEs]
  have h2:=esD_len M r m d ho h
  have h3:=lineG_len (sps m) t.data.toList
  rw [size_data] at h3
  have h4:=Nat.mul_le_mul_right t.size (show 1 + (sps m).length <= 2 * M + 20 by simp [sps]; omega)
  rw [esT]
  simp only [Nat.mul_add,Nat.mul_one,List.length_append]
  omega
 | .mk t (some e) :: r,m,d,ho,h=>by
  rw [okEs,Bool.and_eq_true] at ho
  rw [sizeEs,sizeO]
  have h1:=(exD_len M e m d h).2 ho.1
  have h2:=esD_len M r m d ho.2 h
  rw [esT]
  simp only [Nat.mul_add,Nat.mul_one,List.length_append]
  omega
end
theorem paD_len (m : Nat) (hm : m <= 8) (l : List EL) (h : patB l 0 = true) : (paT m l).length <= 372 * sizeEs l + (m + 1):=by
 unfold patB at h
 rw [Bool.and_eq_true] at h
 have h1:=esD_len 176 l m 1 h.2 (by omega)
 have h2:=head_len m l
 unfold paT
 rw [List.length_append]
 omega
theorem atsD_len : ∀ l : List AT,(∀ a ∈ l,attrOk a = true) -> (atsT l).length <= 372 * sizeTs l
 | [],h=>by rw [atsT]; simp
 | .mk n v :: r,h=>by
  have ho:=h _ (List.mem_cons_self ..)
  unfold attrOk at ho
  simp only [Bool.and_eq_true] at ho
  have h1:=paD_len 8 (by omega) v ho.2.2
  have h2:=atsD_len r (fun a ha=>h a (List.mem_cons_of_mem _ ha))
  rw [sizeTs,atsT]
  simp only [Nat.mul_add,Nat.mul_one,List.length_append,List.length_cons,size_data]
  omega
theorem enT_len {x : EN} (h : okN x) : (enT x).length <= 372 * (x.tx.size + x.nm.size + sizeEs x.val + sizeTs x.ats) + 372:=by
 rcases okN_cases h with ⟨h0,⟨n,hn,h1,h3⟩, -⟩ | ⟨hty, -, -,hnm,hv,hat, -⟩
 ·rw [enT_com h0 hn]
  have hc:=comT_len (List.replicate n 35) x.tx.data.toList []
  rw [List.length_nil,List.length_replicate,size_data] at hc
  have hc2:=Nat.mul_le_mul_right (x.tx.size + 1) (show n + 2 <= 5 by omega)
  omega
 ·rw [enT_msg hty]
  have q1:=paD_len 4 (by omega) x.val hv
  have q2:=atsD_len x.ats hat
  have q3 : (valT 4 x.val).length <= 372 * sizeEs x.val + 5:=by unfold valT; split <;> (try simp) <;> omega
  simp only [List.length_append,List.length_cons,List.length_nil,size_data]
  split <;> (try simp) <;> omega
end Go.Proofs.YtgdkpamlkpncgaaGreatDoor
