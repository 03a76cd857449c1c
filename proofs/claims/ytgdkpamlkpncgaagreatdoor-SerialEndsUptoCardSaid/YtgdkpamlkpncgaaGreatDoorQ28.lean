/-
  Several texts put together (part 28): what the law and the program call, walked; their contracts.
-/
import Derived.Test.YtgdkpamlkpncgaaGreatDoorQ27
namespace Go.Proofs.YtgdkpamlkpncgaaGreatDoor
open Go.RowKit
set_option linter.unusedVariables false
set_option linter.unusedSimpArgs false
theorem anyTo_of {p : Nat -> Bool} : ∀ {m : Nat},anyTo p m = false -> ∀ i,i < m -> p i = false
 | 0,_,i,hi => by omega
 | m + 1,h,i,hi => by
  rw [anyTo,Bool.or_eq_false_iff] at h
  by_cases e : i = m
  ·rw [e]; exact h.2
  ·exact anyTo_of h.1 i (by omega)
theorem anyTo_ex {p : Nat -> Bool} : ∀ {m : Nat},anyTo p m = true -> ∃ i,i < m /\ p i = true
 | 0,h => by cases h
 | m + 1,h => by
  rw [anyTo,Bool.or_eq_true] at h
  rcases h with h | h
  ·obtain ⟨i,hi,hp⟩ := anyTo_ex h
   exact ⟨i,by omega,hp⟩
  ·exact ⟨m,by omega,h⟩
theorem bl_ne {c : UInt8} (h : blB c = false) : c ≠ 32 /\ c ≠ 10 := by
 constructor <;> (rintro rfl; exact absurd h (by decide))
structure LinesOk (C : List UInt8) : Prop where
 hd : ∀ c T,C = c :: T -> c ≠ 32 /\ c ≠ 10
 lst : ∀ A x,C = A ++ [x] -> x ≠ 32 /\ x ≠ 10
 good : GoodL C
 mark : NoMk C ∨ (∀ c ∈ C,c ≠ 10) ∨ FlushL C
theorem lines_inv {C : List UInt8} (h : linesB C = true) : LinesOk C := by
 unfold linesB at h
 simp only [Bool.and_eq_true,Bool.not_eq_true',Bool.or_eq_true] at h
 obtain ⟨⟨⟨h1,h2⟩,h3⟩,h4⟩ := h
 have hd : ∀ c T,C = c :: T -> c ≠ 32 /\ c ≠ 10 := fun c T e => by
  subst e
  exact bl_ne h1
 have lst : ∀ A x,C = A ++ [x] -> x ≠ 32 /\ x ≠ 10 := fun A x e => by
  have hx : at0 C (C.length - 1) = x := by
   rw [e,List.length_append]
   exact at_mid A x []
  rw [hx] at h2
  exact bl_ne h2
 have good : GoodL C := by
  intro A R e
  have e' : C = (A ++ [10]) ++ R := by rw [e,List.append_assoc]; rfl
  have hA' : (A ++ [(10 : UInt8)]).length = A.length + 1 := by rw [List.length_append]; rfl
  cases R with
  | nil => exact absurd rfl (lst A 10 e).2
  | cons d R =>
   by_cases hd10 : d = 10
   ·subst hd10; exact .inl ⟨R,rfl⟩
   ·right
    have n1 : at0 C A.length = 10 := by rw [e]; exact at_mid A 10 (d :: R)
    have n2 : at0 C (A.length + 1) = d := by rw [e',<- hA']; exact at_mid (A ++ [10]) d R
    have hlt : A.length < C.length := by rw [e,List.length_append,List.length_cons]; omega
    have hb := anyTo_of h3 A.length hlt
    have hn : newAt C A.length = true := by
     unfold newAt
     rw [n1,n2,beq_eq_false_iff_ne.2 hd10,decide_eq_true (by rw [e,List.length_append,List.length_cons,List.length_cons]; omega)]
     rfl
    obtain ⟨D,E,f1,f2,f3,f4⟩ := tw_split spB (d :: R)
    have hD : D = List.replicate D.length 32 := by
     refine List.eq_replicate_iff.2 ⟨rfl,fun x hx => ?_⟩
     have := f3 x hx
     unfold spB at this
     rw [decide_eq_true_eq] at this
     exact UInt8.toNat_inj.1 (by show x.toNat = 32; omega)
    cases E with
    | nil =>
     exfalso
     rw [List.append_nil] at f1
     rcases List.eq_nil_or_concat D with rfl | ⟨D',x,rfl⟩
     ·cases f1
     ·rw [List.concat_eq_append] at f1 f3
      have hx := f3 x (by simp)
      have hx32 : x = 32 := by
       unfold spB at hx
       rw [decide_eq_true_eq] at hx
       exact UInt8.toNat_inj.1 (by show x.toNat = 32; omega)
      exact (lst (A ++ 10 :: D') x (by rw [e,f1]; simp)).1 hx32
    | cons c E =>
     have hc32 : c ≠ 32 := by rintro rfl; exact absurd (f4 32 E rfl) (by decide)
     have hbe : behN spB C (A.length + 1) = A.length + 1 + D.length := by
      rw [e',f1,hD,<- hA',behN_mid _ _ _ _ hc32,List.length_replicate]
     have hat : at0 C (A.length + 1 + D.length) = c := by
      have e2 : C = ((A ++ [10]) ++ D) ++ c :: E := by rw [e',f1]; simp
      have e3 : A.length + 1 + D.length = ((A ++ [10]) ++ D).length := by rw [List.length_append,hA']
      rw [e3,e2]
      exact at_mid _ c E
     unfold badAt at hb
     rw [hn,hbe,hat,Bool.true_and,Bool.or_eq_false_iff] at hb
     exact ⟨D.length,c,E,by rw [f1,<- hD],hc32,beq_eq_false_iff_ne.1 hb.1,hb.2⟩
 refine ⟨hd,lst,good,?_⟩
 by_cases hm : NoMk C
 ·exact .inl hm
 ·right
  have hM : isMarkB (at0 C 0) = true := by
   refine Classical.byContradiction fun hx => hm fun c T e => ?_
   subst e
   exact eq_false_of_ne_true hx
  by_cases h10 : ∀ c ∈ C,c ≠ 10
  ·exact .inl h10
  ·right
   have hten : ∃ A R,C = A ++ 10 :: R := by
    refine Classical.byContradiction fun hx => h10 fun c hc e => hx ?_
    subst e
    obtain ⟨A,R,e⟩ := List.append_of_mem hc
    exact ⟨A,R,e⟩
   have hnew : ∀ (n : Nat) (A R : List UInt8),R.length <= n -> C = A ++ 10 :: R -> anyTo (newAt C) C.length = true := by
    intro n
    induction n with
    | zero =>
     intro A R hn e
     have : R = [] := List.eq_nil_of_length_eq_zero (by omega)
     subst this
     exact absurd rfl (lst A 10 e).2
    | succ n ih =>
     intro A R hn e
     cases R with
     | nil => exact absurd rfl (lst A 10 e).2
     | cons d R =>
      by_cases hd10 : d = 10
      ·subst hd10
       exact ih (A ++ [10]) R (by rw [List.length_cons] at hn; omega) (by rw [e]; simp)
      ·have n1 : at0 C A.length = 10 := by rw [e]; exact at_mid A 10 (d :: R)
       have n2 : at0 C (A.length + 1) = d := by
        have e' : C = (A ++ [10]) ++ d :: R := by rw [e]; simp
        have hA' : A.length + 1 = (A ++ [(10 : UInt8)]).length := by rw [List.length_append]; rfl
        rw [hA',e']; exact at_mid (A ++ [10]) d R
       refine anyTo_yes (i := A.length) ?_ (by rw [e,List.length_append,List.length_cons]; omega)
       unfold newAt
       rw [n1,n2,beq_eq_false_iff_ne.2 hd10,decide_eq_true (by rw [e,List.length_append,List.length_cons,List.length_cons]; omega)]
       rfl
   obtain ⟨A,R,e⟩ := hten
   have hN := hnew _ A R (Nat.le_refl _) e
   rw [hM,hN] at h4
   have hF : anyTo (flushAt C) C.length = true := by simpa using h4
   obtain ⟨i,hi,hf⟩ := anyTo_ex hF
   unfold flushAt newAt at hf
   simp only [Bool.and_eq_true,Bool.not_eq_true',beq_iff_eq,decide_eq_true_eq] at hf
   obtain ⟨⟨⟨f1,f2⟩,f3⟩,f4⟩ := hf
   obtain ⟨B,R2,e2,hB⟩ := at_split hi
   rw [f1] at e2
   cases R2 with
   | nil => rw [e2,List.length_append,hB] at f2; simp at f2
   | cons c R2 =>
    have hc : at0 C (i + 1) = c := by
     have e' : C = (B ++ [10]) ++ c :: R2 := by rw [e2]; simp
     have hA' : i + 1 = (B ++ [(10 : UInt8)]).length := by rw [List.length_append,hB]; rfl
     rw [hA',e']; exact at_mid (B ++ [10]) c R2
    rw [hc] at f3 f4
    exact ⟨B,c,R2,e2,by rintro rfl; exact absurd f4 (by decide),beq_eq_false_iff_ne.1 f3⟩
theorem feed_no : ∀ l : List EL,feedOf l = false -> (∀ b,textsB b l = true -> ∀ c ∈ linesOf 123 l,c ≠ 10)
 | [],_,_,_,c,hc => by cases hc
 | .mk t none :: r,h,b,hb,c,hc => by
  rw [textsB] at hb
  simp only [Bool.and_eq_true] at hb
  unfold feedOf at h
  rw [List.any_cons,Bool.or_eq_false_iff] at h
  rw [linesOf] at hc
  rcases List.mem_append.1 hc with hc | hc
  ·rintro rfl
   have := h.1
   rw [<- Bool.not_eq_true,List.contains_iff_mem] at this
   exact this hc
  ·exact feed_no r h.2 true hb.2 c hc
 | .mk t (some e) :: r,h,b,hb,c,hc => by
  rw [textsB,Bool.and_eq_true] at hb
  unfold feedOf at h
  rw [List.any_cons,Bool.or_eq_false_iff] at h
  rw [linesOf] at hc
  rcases List.mem_cons.1 hc with rfl | hc
  ·decide
  ·exact feed_no r h.2 false hb.2 c hc
theorem odd_yes {l : List EL} (hb : textsB false l = true) (h : oddOf l = true) : ∃ c T,linesOf 123 l = c :: T /\ isMarkB c = true := by
 cases l with
 | nil => cases h
 | cons x r =>
  obtain ⟨t,p⟩ := x
  cases p with
  | none =>
   rw [oddOf] at h
   rw [linesOf]
   cases ht : t.data.toList with
   | nil => rw [ht] at h; cases h
   | cons c T => rw [ht] at h; exact ⟨c,T ++ linesOf 123 r,rfl,h⟩
  | some e =>
   rw [textsB,Bool.and_eq_true] at hb
   rw [oddOf,emp_E hb.1] at h
   cases h
theorem odd_no {l : List EL} (hb : textsB false l = true) (h : oddOf l = false) : NoMk (linesOf 123 l) := by
 intro c B e
 cases l with
 | nil => cases e
 | cons x r =>
  obtain ⟨t,p⟩ := x
  cases p with
  | none =>
   rw [textsB] at hb
   simp only [Bool.and_eq_true,Bool.not_eq_true'] at hb
   rw [linesOf] at e
   rw [oddOf] at h
   cases ht : t.data.toList with
   | nil => exact absurd ht (emp_F hb.1.1.1.1)
   | cons d T =>
    rw [ht] at h e
    rw [List.cons_append] at e
    injection e with e1 _
    rw [<- e1]; exact h
  | some y =>
   rw [linesOf] at e
   injection e with e1 _
   rw [<- e1]; decide
theorem FL_ne {l : List EL} (hl : l ≠ []) (hb : textsB false l = true) : FL l ≠ [] := by
 cases l with
 | nil => exact absurd rfl hl
 | cons x r =>
  obtain ⟨t,p⟩ := x
  cases p with
  | none =>
   rw [textsB] at hb
   simp only [Bool.and_eq_true,Bool.not_eq_true'] at hb
   rw [FL]
   intro e
   have := List.append_eq_nil_iff.1 e
   exact emp_F hb.1.1.1.1 (by simpa using this.1)
  | some y => rw [FL]; simp
theorem trim_ok {X : List SY} (h : ∀ A x,X.map toC = A ++ [x] -> x ≠ 32) (b : JS) (hb : b.2 = []) : trimR (X.foldl symJ b).2 = (X.foldl symJ b).2 := by
 rcases List.eq_nil_or_concat X with rfl | ⟨Z,x,rfl⟩
 ·rw [List.foldl_nil,hb]; rfl
 ·rw [List.concat_eq_append] at h ⊢
  rw [List.foldl_append,List.foldl_cons,List.foldl_nil]
  cases x with
  | ch c =>
   have hc : c ≠ 32 := h (Z.map toC) c (by rw [List.map_append]; rfl)
   unfold symJ trimR
   dsimp only
   rw [List.reverse_append,List.reverse_singleton,List.singleton_append,List.dropWhile_cons,beq_eq_false_iff_ne.2 hc]
   simp
  | pl e => rfl
theorem least_of {m : Nat} : ∀ (r : List LN) (a : Nat),m <= a -> (∀ y ∈ r,m <= y.spaces) -> (a = m ∨ ∃ y ∈ r,y.spaces = m) -> r.foldl (fun m y => if y.spaces < m then y.spaces else m) a = m
 | [],a,ha,_,h => by
  rcases h with h | ⟨y,hy,_⟩
  ·exact h
  ·cases hy
 | x :: r,a,ha,hr,h => by
  rw [List.foldl_cons]
  have hx := hr x (List.mem_cons_self ..)
  refine least_of r _ (by split <;> omega) (fun y hy => hr y (List.mem_cons_of_mem _ hy)) ?_
  rcases h with h | ⟨y,hy,e⟩
  ·left; split <;> omega
  ·rcases List.mem_cons.1 hy with rfl | hy
   ·left; split <;> omega
   ·exact .inr ⟨y,hy,e⟩
section
variable {P : Nat -> Res} {s : ByteArray} {m : Nat}
theorem pat_read (hm : 0 < m) {l : List EL} (hl : l ≠ []) (hp : patL l = true) (hpl : ∀ t e,EL.mk t (some e) ∈ l -> PlR P s m e) {i : Nat} {R : List UInt8} (hR : Stp R) (h : Sx s i (paT m l ++ R)) :
  patS P s i = some (l,i + (paT m l).length) := by
 unfold patL at hp
 rw [Bool.and_eq_true,Bool.or_eq_true] at hp
 obtain ⟨hb,hlin⟩ := hp
 have hlin : linesB (linesOf 123 l) = true := hlin.resolve_left (by cases l with | nil => exact absurd rfl hl | cons x r => simp)
 have hL := lines_inv hlin
 have hX := FL_ne hl hb
 have hsy := (es_sy m l false hb).1
 have hok := FL_ok l false hb
 have hpl2 : ∀ e,SY.pl e ∈ FL l -> PlR P s m e := fun e he => by obtain ⟨t,ht⟩ := FL_pl l e he; exact hpl t e ht
 have hC := FL_toC l
 have hG : GoodL ((FL l).map toC) := by rw [hC]; exact hL.good
 have hhd : ∀ x Y,FL l = x :: Y -> toC x ≠ 32 /\ toC x ≠ 10 := fun x Y e => hL.hd (toC x) (Y.map toC) (by rw [<- hC,e]; rfl)
 have hnorm := norm_all l [] hb
 rw [List.nil_append] at hnorm
 have htr := trim_ok (X := FL l) (fun A x e => (hL.lst A x (by rw [<- hC]; exact e)).1) ([],[]) rfl
 have hfin : endS (((FL l).foldl symJ ([],[])).1,trimR ((FL l).foldl symJ ([],[])).2) = l := by rw [htr]; exact hnorm
 obtain ⟨x0,Y0,hX0⟩ := List.exists_cons_of_ne_nil hX
 obtain ⟨T0,hT0⟩ := syT_head m x0 Y0 (hhd x0 Y0 hX0).2
 rw [<- hX0] at hT0
 unfold paT at h ⊢
 rw [hsy] at h ⊢
 by_cases hf : (feedOf l && !oddOf l) = true
 ·have hhead : headG m l = 10 :: sps m := by unfold headG; rw [if_pos hf]
  rw [hhead] at h ⊢
  rw [Bool.and_eq_true,Bool.not_eq_true'] at hf
  have hmk := odd_no hb hf.2
  have h0 : Sx s i (List.replicate 1 10 ++ (List.replicate m 32 ++ (toC x0 :: (T0 ++ R)))) := h.cast (by rw [hT0]; simp [sps])
  have h00 : Sx s i (10 :: (List.replicate m 32 ++ (toC x0 :: (T0 ++ R)))) := h0
  have hsp : sp s i = i := h00.sp0 (NoH.cons (by decide) _)
  have htx : tx s i = i := Sx.tx (T := []) h00 (fun x hx => by cases hx) (NoH.cons (by decide) _)
  have hx125 : toC x0 ≠ 125 := by
   have := hok x0 (by rw [hX0]; exact List.mem_cons_self ..)
   cases x0 with
   | ch d => exact this.2
   | pl y => show (123 : UInt8) ≠ 125; decide
  have hxm : isMarkB (toC x0) = false := hmk (toC x0) (Y0.map toC) (by rw [<- hC,hX0]; rfl)
  have hnx := next_feeds (hhd x0 Y0 hX0).2 (hhd x0 Y0 hX0).1 (stop_of hxm hx125) 0 i m hm h0
  have h3 := h0.app.app
  rw [List.length_replicate,List.length_replicate] at h3
  have h4 : Sx s (i + 0 + 1 + m) (syT m (FL l) ++ R) := by rw [hT0,show i + 0 + 1 + m = i + 1 + m by omega]; exact h3
  obtain ⟨L0,rest,r1,r2,r3,r4,r5⟩ := lines_read (m := m) hm _ (FL l) (Nat.le_refl _) hX hG hok hpl2 (fun x Y e => (hhd x Y e).2) [⟨0,0,[]⟩] 1 m (i + 0 + 1 + m) R hR h4
  have hp0 : partsS P s [] i = some ([],i) := by
   rw [partsS,htx,if_neg (by rw [h00.isAt]; decide)]
   unfold addT
   rw [if_neg (by omega)]
  have hls : linesS P s [] 0 0 i = some (⟨0,0,[]⟩ :: ⟨1,m,L0⟩ :: rest,i + 0 + 1 + m + (syT m (FL l)).length) := by
   rw [linesS,hp0]
   dsimp only
   rw [hnx]
   dsimp only
   rw [dif_pos ⟨by omega,h4.1⟩,List.nil_append,r1]
   rfl
  unfold patS
  rw [hsp,hls]
  dsimp only
  have hj : joinS (⟨0,0,[]⟩ :: ⟨1,m,L0⟩ :: rest) = l := by
   have hle : leastS (⟨1,m,L0⟩ :: rest) = m := least_of rest m (Nat.le_refl _) r2 (.inl rfl)
   unfold joinS
   rw [List.tail_cons,hle,List.foldl_cons,List.foldl_cons]
   have e1 : lineJ m (lineJ m ([],[]) ⟨0,0,[]⟩) ⟨1,m,L0⟩ = L0.foldl partJ ([],[]) := rfl
   rw [e1,r5 m (.inr rfl)]
   exact hfin
  rw [hj]
  simp [sps]
  omega
 ·have hhead : headG m l = [32] := by unfold headG; rw [if_neg hf]
  rw [hhead] at h ⊢
  have h0 : Sx s i ([32] ++ (toC x0 :: (T0 ++ R))) := h.cast (by rw [hT0]; simp)
  have hsp : sp s i = i + 1 := h0.sp (fun x hx => by rw [List.mem_singleton.1 hx]; decide) (NoH.cons (sp_no (hhd x0 Y0 hX0).1) _)
  have h4 : Sx s (i + 1) (syT m (FL l) ++ R) := by rw [hT0]; exact h0.app
  obtain ⟨L0,rest,r1,r2,r3,r4,r5⟩ := lines_read (m := m) hm _ (FL l) (Nat.le_refl _) hX hG hok hpl2 (fun x Y e => (hhd x Y e).2) [] 0 0 (i + 1) R hR h4
  unfold patS
  rw [hsp,r1]
  dsimp only
  have hj : joinS (⟨0,0,L0⟩ :: rest) = l := by
   have hle : rest = [] ∨ leastS rest = m := by
    rcases r4 with r4 | r4
    ·exact .inl r4
    ·right
     rw [hC] at r4 r3
     have hfe : feedOf l = true := by
      cases hfe : feedOf l
      ·exact absurd rfl (feed_no l hfe false hb 10 r4)
      ·rfl
     have hod : oddOf l = true := by
      rw [hfe] at hf
      simpa using hf
     obtain ⟨c,T,e,hc⟩ := odd_yes hb hod
     have hfl : FlushL (linesOf 123 l) := by
      rcases hL.mark with hmk | hmk | hmk
      ·have := hmk c T e; rw [hc] at this; cases this
      ·exact absurd rfl (hmk 10 r4)
      ·exact hmk
     obtain ⟨y,hy,hys⟩ := r3 hfl
     cases rest with
     | nil => cases hy
     | cons z rest =>
      refine least_of rest z.spaces (r2 z (List.mem_cons_self ..)) (fun w hw => r2 w (List.mem_cons_of_mem _ hw)) ?_
      rcases List.mem_cons.1 hy with rfl | hy
      ·exact .inl hys
      ·exact .inr ⟨y,hy,hys⟩
   unfold joinS
   rw [List.tail_cons,List.foldl_cons]
   have e1 : lineJ (leastS rest) ([],[]) ⟨0,0,L0⟩ = L0.foldl partJ ([],[]) := rfl
   rw [e1,r5 (leastS rest) hle]
   exact hfin
  rw [List.nil_append,hj]
  simp
  omega
theorem pat_none {i : Nat} {R : List UInt8} (hR : Stp R) (hR2 : NoH spB R) (h : Sx s i R) : patS P s i = some ([],i) := by
 have hsp : sp s i = i := h.sp0 hR2
 have htx : tx s i = i := Sx.tx (T := []) h (fun x hx => by cases hx) hR.tx
 have hp0 : partsS P s [] i = some ([],i) := by
  rw [partsS,htx,if_neg (by rw [h.isNo hR.br]; simp)]
  unfold addT
  rw [if_neg (by omega)]
 unfold patS
 rw [hsp,linesS,hp0]
 dsimp only
 rw [hR.nx s i h]
 rfl
end
theorem le_no {c : UInt8} (h : leB c = true) : blB c = false /\ c ≠ 41 /\ c ≠ 34 /\ c ≠ 36 /\ c ≠ 123 /\ c ≠ 45 := by
 unfold leB at h
 rw [decide_eq_true_eq] at h
 refine ⟨?_,?_,?_,?_,?_,?_⟩
 ·unfold blB
  rw [decide_eq_false_iff_not]
  omega
 all_goals (rintro rfl; revert h; decide)
theorem dg_no {c : UInt8} (h : c = 45 ∨ dgB c = true) : blB c = false /\ c ≠ 41 /\ c ≠ 34 /\ c ≠ 36 /\ c ≠ 123 /\ leB c = false := by
 rcases h with rfl | h
 ·decide
 ·unfold dgB at h
  rw [decide_eq_true_eq] at h
  refine ⟨?_,?_,?_,?_,?_,?_⟩
  ·unfold blB
   rw [decide_eq_false_iff_not]
   omega
  ·rintro rfl; revert h; decide
  ·rintro rfl; revert h; decide
  ·rintro rfl; revert h; decide
  ·rintro rfl; revert h; decide
  ·unfold leB
   rw [decide_eq_false_iff_not]
   omega
theorem num_head {t : ByteArray} (h : isNum t = true) : ∃ c T,t.data.toList = c :: T /\ (c = 45 ∨ dgB c = true) /\ (c = 45 -> ∃ d T',T = d :: T' /\ dgB d = true) := by
 obtain ⟨g,D,F,hf⟩ := num_form h
 obtain ⟨d,D',hD⟩ := List.exists_cons_of_ne_nil hf.d0
 have hd : dgB d = true := hf.dg d (by rw [hD]; exact List.mem_cons_self ..)
 rcases hf.sg with rfl | rfl
 ·refine ⟨d,D' ++ F,by rw [hf.eq,hD]; rfl,.inr hd,?_⟩
  rintro rfl
  exact absurd hd (by decide)
 ·exact ⟨45,D ++ F,by rw [hf.eq]; rfl,.inl rfl,fun _ => ⟨d,D' ++ F,by rw [hD]; rfl,hd⟩⟩
theorem nub_yes {s : ByteArray} {i : Nat} {t : ByteArray} {R : List UInt8} (h : Sx s i (t.data.toList ++ R)) (hn : isNum t = true) (hR : NoH dgB R) (hR2 : NoH (· == 46) R) : nubS s i = some (.mk 1 t E0 E0 [] none [],i + t.data.toList.length) := by
 obtain ⟨h1,h2,h3⟩ := h.num hn hR hR2
 unfold nubS
 rw [h1,if_neg (by omega),h2]
theorem inl_fl {P : Nat -> Res} {s : ByteArray} {i : Nat} {k : Int} {t n a : ByteArray} {al : List AR} {ie : Option EX} {vs : List VA} {j : Nat} (h : headS P s i = some (.mk k t n a al ie vs,j)) (h3 : k ≠ 3) (h4 : k ≠ 4) : inlS P s i = some (.mk k t n a al ie vs,j) := by
 have ho : opnS s (.mk k t n a al ie vs) j = (false,j) := by
  unfold opnS
  rw [if_neg]
  simp [isFuncS,isTermS,h3,h4]
 unfold inlS
 rw [h]
 dsimp only
 rw [ho]
 rfl
theorem inl_call {P : Nat -> Res} {s : ByteArray} {i j M : Nat} {e0 : EX} {R : List UInt8} {al : List AR} (hh : headS P s i = some (e0,j)) (ho : (isFuncS e0 || isTermS e0) = true) (h : Sx s j (40 :: R)) (ha : argsS P s [] false (j + 1) = some (al,M)) : inlS P s i = some (withArgs (opnE e0) al,M) := by
 have hop : opnS s e0 j = (true,j + 1) := by
  unfold opnS
  rw [if_pos ho,h.bl0 (NoH.cons (by decide) _),h.isAt,if_pos (by rfl)]
 unfold inlS
 rw [hh]
 dsimp only
 rw [hop]
 dsimp only
 rw [if_pos rfl,ha]
theorem inl_shut {P : Nat -> Res} {s : ByteArray} {i j : Nat} {e0 : EX} {R : List UInt8} (hh : headS P s i = some (e0,j)) (hF : Fol R) (h : Sx s j R) : ∃ j',inlS P s i = some (e0,j') /\ (j' = j ∨ j' = bl s j) := by
 have hn := hF.not h 40 (by decide) (by decide) (by decide) (by decide)
 unfold inlS
 rw [hh]
 dsimp only
 unfold opnS
 by_cases ho : (isFuncS e0 || isTermS e0) = true
 ·rw [if_pos ho,hn]
  exact ⟨bl s j,rfl,.inr rfl⟩
 ·rw [if_neg ho]
  exact ⟨j,rfl,.inl rfl⟩
structure InR (P : Nat -> Res) (s : ByteArray) (i : Nat) (e : EX) (T : List UInt8) : Prop where
 nam : namS s i = none
 rd : ∃ j,inlS P s i = some (e,j) /\ (j = i + T.length ∨ j = bl s (i + T.length))
structure InTo' (P : Nat -> Res) (s : ByteArray) (m : Nat) (e : EX) : Prop where
 hd : ∃ c T,exT m e = c :: T /\ blB c = false /\ c ≠ 41
 go : ∀ i R,Fol R -> Sx s i (exT m e ++ R) -> InR P s i e (exT m e)
section
variable {P : Nat -> Res} {s : ByteArray} {m : Nat}
theorem step_plain (hP : PosOk s P) {xs : List AR} {e : EX} {i j : Nat} (hi : i <= s.size) (hb : bl s i <= s.size) (h41 : isAt s (bl s i) 41 = false) (hn : namS s (bl s i) = none) (h : inlS P s (bl s i) = some (e,j)) (hok : addOk xs E0 e = true) :
  argsS P s xs false i = argsS P s (xs ++ [.mk E0 e]) true j := by
 have hE := emE0
 have hge := bl_ge s i
 unfold inlS at h
 rw [argsS,if_neg (by rw [h41]; simp),if_neg (by simp)]
 cases hh : headS P s (bl s i) with
 | none => rw [hh] at h; cases h
 | some x =>
  obtain ⟨e0,j0⟩ := x
  rw [hh] at h
  dsimp only at h
  have hA : argS P s (bl s i) = some (E0,e0,j0) := by unfold argS; rw [hn,hh]
  have hpos := head_pos hP hb hh
  have hop := opn_pos e0 hpos.2
  rw [hA]
  dsimp only
  by_cases ho : (opnS s e0 j0).1 = true
  ·rw [if_pos ho] at h
   rw [if_pos (by rw [hE,ho]; rfl),dif_pos ⟨by omega,hop.2⟩]
   cases hg : argsS P s [] false (opnS s e0 j0).2 with
   | none => rw [hg] at h; cases h
   | some y =>
    obtain ⟨xs',M⟩ := y
    rw [hg] at h
    dsimp only at h
    cases h
    dsimp only
    have := args_pos hP _ [] false _ (Nat.le_refl _) hop.2 _ _ hg
    rw [dif_pos ⟨by omega,this.2⟩,if_pos hok]
  ·rw [if_neg ho] at h
   cases h
   rw [if_neg (by rw [eq_false_of_ne_true ho]; simp)]
   simp only [hE,if_true]
   rw [dif_pos ⟨by omega,hop.2⟩,if_pos hok]
theorem step_named (hP : PosOk s P) {xs : List AR} {n : ByteArray} {e : EX} {i j : Nat} (hb : bl s i <= s.size) (h41 : isAt s (bl s i) 41 = false) (hn : emp n = false) (h : namS s (bl s i) = some (n,e,j)) (hok : addOk xs n e = true) :
  argsS P s xs false i = argsS P s (xs ++ [.mk n e]) true j := by
 have hge := bl_ge s i
 have hA : argS P s (bl s i) = some (n,e,j) := by unfold argS; rw [h]
 have hpos := nam_pos hb h
 rw [argsS,if_neg (by rw [h41]; simp),if_neg (by simp),hA]
 dsimp only
 rw [if_neg (by rw [hn]; simp)]
 simp only [hn,Bool.false_eq_true,if_false]
 rw [dif_pos ⟨by omega,hpos.2⟩,if_pos hok]
def nameT (n : ByteArray) : List UInt8 := if emp n then [] else n.data.toList ++ [58,32]
theorem nameG_t (n : ByteArray) : nameG true n = nameT n /\ nameG false n = 44 :: 32 :: nameT n := by
 unfold nameG nameT
 constructor <;> rfl
def LitE (e : EX) : Prop := (∃ t,e = .mk 0 t E0 E0 [] none [] /\ validB t = true) ∨ ∃ t,e = .mk 1 t E0 E0 [] none [] /\ isNum t = true
theorem exT_quo (m : Nat) (t : ByteArray) : exT m (.mk 0 t E0 E0 [] none []) = quoteAll t := by rw [exT]; rfl
theorem exT_num (m : Nat) (t : ByteArray) : exT m (.mk 1 t E0 E0 [] none []) = t.data.toList := by rw [exT]; rfl
theorem exT_var (m : Nat) (n : ByteArray) : exT m (.mk 2 E0 n E0 [] none []) = 36 :: n.data.toList := by rw [exT]; rfl
theorem exT_ref (m : Nat) (n a : ByteArray) : exT m (.mk 3 E0 n a [] none []) = refT n a := by
 rw [exT]
 show (([] : List UInt8) ++ (n.data.toList ++ (if emp a = true then [] else 46 :: a.data.toList))) ++ [] = _
 rw [List.append_nil,List.nil_append]
 rfl
theorem exT_ter (m : Nat) (n a : ByteArray) (al : List AR) : exT m (.mk 4 E0 n a al none []) = 45 :: (refT n a ++ (if al = [] then [] else 40 :: (asT m true al ++ [41]))) := by
 rw [exT]
 show (([45] : List UInt8) ++ (n.data.toList ++ (if emp a = true then [] else 46 :: a.data.toList))) ++ (if (4 : Int) ≠ 5 /\ al.isEmpty = true then [] else 40 :: (asT m true al ++ [41])) = _
 by_cases h : al = []
 ·subst h; rfl
 ·have hc : ¬ ((4 : Int) ≠ 5 /\ al.isEmpty = true) := by simp [h]
  rw [if_neg hc,if_neg h]; rfl
theorem exT_fn (m : Nat) (n : ByteArray) (al : List AR) : exT m (.mk 5 E0 n E0 al none []) = n.data.toList ++ (40 :: (asT m true al ++ [41])) := by
 rw [exT]
 show (([] : List UInt8) ++ (n.data.toList ++ (if emp E0 = true then [] else 46 :: E0.data.toList))) ++ (if (5 : Int) ≠ 5 /\ al.isEmpty = true then [] else 40 :: (asT m true al ++ [41])) = _
 rw [emE0,if_pos rfl,if_neg (by simp),List.append_nil,List.nil_append]
theorem exT_nest (m : Nat) (e : EX) : exT m (.mk 6 E0 E0 E0 [] (some e) []) = plT m e := by rw [exT]; rfl
theorem arg_any (hP : PosOk s P) {n : ByteArray} {e : EX} {xs : List AR} (hin : InTo' P s m e) (hn : emp n = true ∨ (isNameV n = true /\ LitE e)) (hok : addOk xs n e = true) {i : Nat} {pre R : List UInt8} (hpre : pre = [] ∨ pre = [32]) (hR : ∃ c R',R = c :: R' /\ (c = 44 ∨ c = 41))
  (h : Sx s i (pre ++ (nameT n ++ (exT m e ++ R)))) : argsS P s xs false i = argsS P s (xs ++ [.mk n e]) true (i + (pre ++ (nameT n ++ exT m e)).length) := by
 have hpb : ∀ x ∈ pre,blB x = true := fun x hx => by
  rcases hpre with rfl | rfl
  ·cases hx
  ·rw [List.mem_singleton.1 hx]; decide
 obtain ⟨c,T,hT,hc1,hc2⟩ := hin.hd
 have hF : Fol R := by
  obtain ⟨d,R',rfl,hd⟩ := hR
  rcases hd with rfl | rfl
  ·exact Fol.comma R'
  ·exact Fol.close R'
 have hRb : NoH blB R := by
  obtain ⟨d,R',rfl,hd⟩ := hR
  rcases hd with rfl | rfl <;> exact NoH.cons (by decide) _
 have hi := h.1
 rcases hn with hn | ⟨hnv,hlit⟩
 ·have hE := emp_E hn
  subst hE
  have hnt : nameT E0 = [] := by unfold nameT; rw [hn]; rfl
  rw [hnt,List.nil_append] at h ⊢
  have hb : bl s i = i + pre.length := h.bl hpb (by rw [hT]; exact NoH.cons hc1 _)
  have h1 := h.app
  obtain ⟨hna,j,hj,hjj⟩ := hin.go _ R hF h1
  have h2 := h1.app
  have hj2 : j = i + pre.length + (exT m e).length := by
   rcases hjj with hjj | hjj
   ·exact hjj
   ·rw [hjj,h2.bl0 hRb]
  have h1' := h1
  rw [hT,List.cons_append] at h1'
  rw [step_plain hP hi (by rw [hb]; exact h1.1) (by rw [hb,h1'.isAt]; exact beq_eq_false_iff_ne.2 hc2) (by rw [hb]; exact hna) (by rw [hb]; exact hj) hok,hj2,List.length_append]
  congr 1
  omega
 ·have hem := name_emp hnv
  have hnt : nameT n = n.data.toList ++ [58,32] := by unfold nameT; rw [hem]; rfl
  obtain ⟨c0,r0,hn0,hle0, -⟩ := name_form hnv
  rw [hnt] at h ⊢
  have hb : bl s i = i + pre.length := h.bl hpb (by rw [hn0]; exact NoH.cons (le_no hle0).1 _)
  have h1 := h.app
  have h1a : Sx s (i + pre.length) (n.data.toList ++ (58 :: 32 :: (exT m e ++ R))) := h1.cast (by simp)
  obtain ⟨g1,g2,g3⟩ := h1a.name hnv (NoH.cons (by decide) _)
  have h2 := h1a.app
  have h3 := h2.tail
  have hb2 : bl s (i + pre.length + n.data.toList.length) = i + pre.length + n.data.toList.length := h2.bl0 (NoH.cons (by decide) _)
  have hb3 : bl s (i + pre.length + n.data.toList.length + 1) = i + pre.length + n.data.toList.length + 1 + 1 := h3.bl1 (by rw [hT]; exact NoH.cons hc1 _)
  have h4 := h3.tail
  have hval : (quoS s (i + pre.length + n.data.toList.length + 1 + 1)).or (nubS s (i + pre.length + n.data.toList.length + 1 + 1)) = some (e,i + pre.length + n.data.toList.length + 1 + 1 + (exT m e).length) := by
   rcases hlit with ⟨t,rfl,hv⟩ | ⟨t,rfl,hv⟩
   ·rw [exT_quo] at h4 ⊢
    rw [quo_yes h4 hv]
    rfl
   ·rw [exT_num] at h4 ⊢
    obtain ⟨d,T2,ht,hd, -⟩ := num_head hv
    have h4' := h4
    rw [ht,List.cons_append] at h4'
    rw [quo_no h4' (dg_no hd).2.2.1,nub_yes h4 hv (hF.noh (by decide) (by decide) (by decide)) (hF.noh (by decide) (by decide) (by decide))]
    rfl
  have hna : namS s (i + pre.length) = some (n,e,i + pre.length + n.data.toList.length + 1 + 1 + (exT m e).length) := by
   unfold namS
   rw [g1,if_neg (by omega),hb2,h2.isAt,if_pos (by rfl),hb3,hval]
   dsimp only
   rw [g2]
  have h1' := h1
  rw [hn0,List.cons_append,List.cons_append] at h1'
  rw [step_named hP (by rw [hb]; exact h1.1) (by rw [hb,h1'.isAt]; exact beq_eq_false_iff_ne.2 (le_no hle0).2.1) hem (by rw [hb]; exact hna) hok]
  congr 1
  simp
  omega
theorem asT_cons (m : Nat) (f : Bool) (n : ByteArray) (e : EX) (r : List AR) : asT m f (.mk n e :: r) = nameG f n ++ (exT m e ++ asT m false r) := by rw [asT]
theorem rest_head (m : Nat) (r : List AR) (R : List UInt8) : ∃ c R',asT m false r ++ 41 :: R = c :: R' /\ (c = 44 ∨ c = 41) := by
 cases r with
 | nil => exact ⟨41,R,by rw [asT]; rfl,.inr rfl⟩
 | cons x r =>
  obtain ⟨n,e⟩ := x
  rw [asT_cons,(nameG_t n).2]
  exact ⟨44,_,rfl,.inl rfl⟩
structure ArOk (P : Nat -> Res) (s : ByteArray) (m d : Nat) (e : EX) : Prop where
 go : InTo' P s m e
 ok : okE .inl e d = true
theorem lit_of {d : Nat} {k : Int} {t n a : ByteArray} {al : List AR} {i : Option EX} {vs : List VA} (h : okE .inl (.mk k t n a al i vs) d = true) (hk : (k == 0 || k == 1) = true) : LitE (.mk k t n a al i vs) := by
 have hs := (shp_inl h).1
 rw [Bool.or_eq_true,beq_iff_eq,beq_iff_eq] at hk
 cases hs with
 | quo t hv => exact .inl ⟨t,rfl,hv⟩
 | num t hv => exact .inr ⟨t,rfl,hv⟩
 | var => exact absurd hk (by decide)
 | ref => exact absurd hk (by decide)
 | ter => exact absurd hk (by decide)
 | fn => exact absurd hk (by decide)
 | nest => exact absurd hk (by decide)
theorem arg_cond {d : Nat} {n : ByteArray} {e : EX} {r : List AR} {seen : List ByteArray} {xs : List AR} (hs : ∀ x ∈ xs,emp (arName x) = true ∨ arName x ∈ seen) (ha : argNames seen (.mk n e :: r) = true) (hok : okE .inl e d = true) :
  addOk xs n e = true /\ (emp n = true ∨ (isNameV n = true /\ LitE e)) /\ ∃ seen',(∀ x ∈ xs ++ [.mk n e],emp (arName x) = true ∨ arName x ∈ seen') /\ argNames seen' r = true := by
 obtain ⟨k,t,n',a,al,i,vs⟩ := e
 rw [argNames] at ha
 by_cases hn : emp n = true
 ·rw [if_pos hn,Bool.and_eq_true,List.isEmpty_iff] at ha
  refine ⟨?_,.inl hn,seen,?_,ha.2⟩
  ·unfold addOk
   rw [if_pos hn,(shp_inl hok).2,Bool.and_eq_true,List.all_eq_true]
   refine ⟨fun x hx => ?_,rfl⟩
   rcases hs x hx with h | h
   ·exact h
   ·rw [ha.1] at h; cases h
  ·intro x hx
   rcases List.mem_append.1 hx with hx | hx
   ·exact hs x hx
   ·rw [List.mem_singleton.1 hx]; exact .inl hn
 ·rw [if_neg hn] at ha
  simp only [Bool.and_eq_true,Bool.not_eq_true'] at ha
  obtain ⟨⟨⟨h1,h2⟩,h3⟩,h4⟩ := ha
  have hmem : ∀ z ∈ seen,n ≠ z := by
   unfold memB at h1
   rw [List.any_eq_false] at h1
   intro z hz e
   exact h1 z hz (by rw [e]; simp)
  refine ⟨?_,.inr ⟨h2,lit_of hok h3⟩,n :: seen,?_,h4⟩
  ·unfold addOk
   rw [if_neg hn,Bool.not_eq_true',List.any_eq_false]
   intro x hx e
   rw [decide_eq_true_eq] at e
   rcases hs x hx with h | h
   ·rw [e] at h; exact hn h
   ·rw [e] at h; exact hmem n h rfl
  ·intro x hx
   rcases List.mem_append.1 hx with hx | hx
   ·rcases hs x hx with h | h
    ·exact .inl h
    ·exact .inr (List.mem_cons_of_mem _ h)
   ·rw [List.mem_singleton.1 hx]; exact .inr (List.mem_cons_self ..)
theorem args_rest (hP : PosOk s P) {d : Nat} : ∀ (al xs : List AR) (seen : List ByteArray) (i : Nat) (R : List UInt8),(∀ x ∈ xs,emp (arName x) = true ∨ arName x ∈ seen) -> argNames seen al = true -> (∀ n e,AR.mk n e ∈ al -> ArOk P s m d e) ->
  Sx s i (asT m false al ++ 41 :: R) -> argsS P s xs true i = some (xs ++ al,i + (asT m false al).length + 1)
 | [],xs,seen,i,R,_,_,_,h => by
  rw [asT] at h ⊢
  have h0 : Sx s i (41 :: R) := h
  rw [argsS,h0.bl0 (NoH.cons (by decide) _),h0.isAt,if_pos (by rfl),List.append_nil]
  rfl
 | .mk n e :: r,xs,seen,i,R,hs,ha,hal,h => by
  have hok := hal n e (List.mem_cons_self ..)
  obtain ⟨c1,c2,seen',c3,c4⟩ := arg_cond hs ha hok.ok
  rw [asT_cons,(nameG_t n).2] at h ⊢
  have h0 : Sx s i (44 :: ([32] ++ (nameT n ++ (exT m e ++ (asT m false r ++ 41 :: R))))) := h.cast (by simp)
  have hb : bl s i = i := h0.bl0 (NoH.cons (by decide) _)
  have h1 := h0.tail
  rw [argsS,hb,if_neg (by rw [h0.isAt]; decide),if_pos rfl,dif_pos (by rw [h0.isAt]; rfl)]
  rw [arg_any hP hok.go c2 c1 (.inr rfl) (rest_head m r R) h1]
  have h2 : Sx s (i + 1 + ([32] ++ (nameT n ++ exT m e)).length) (asT m false r ++ 41 :: R) := Sx.app (h1.cast (by simp))
  rw [args_rest hP r _ seen' _ R c3 c4 (fun n e he => hal n e (List.mem_cons_of_mem _ he)) h2]
  simp
  omega
theorem args_all (hP : PosOk s P) {d : Nat} (al : List AR) (i : Nat) (R : List UInt8) (ha : argNames [] al = true) (hal : ∀ n e,AR.mk n e ∈ al -> ArOk P s m d e) (h : Sx s i (asT m true al ++ 41 :: R)) : argsS P s [] false i = some (al,i + (asT m true al).length + 1) := by
 cases al with
 | nil =>
  rw [asT] at h ⊢
  have h0 : Sx s i (41 :: R) := h
  rw [argsS,h0.bl0 (NoH.cons (by decide) _),h0.isAt,if_pos (by rfl)]
  rfl
 | cons x r =>
  obtain ⟨n,e⟩ := x
  have hok := hal n e (List.mem_cons_self ..)
  obtain ⟨c1,c2,seen',c3,c4⟩ := arg_cond (xs := []) (fun x hx => by cases hx) ha hok.ok
  rw [asT_cons,(nameG_t n).1] at h ⊢
  have h0 : Sx s i ([] ++ (nameT n ++ (exT m e ++ (asT m false r ++ 41 :: R)))) := h.cast (by simp)
  rw [arg_any hP hok.go c2 c1 (.inl rfl) (rest_head m r R) h0]
  have h2 : Sx s (i + ([] ++ (nameT n ++ exT m e)).length) (asT m false r ++ 41 :: R) := Sx.app (h0.cast (by simp))
  rw [args_rest hP r _ seen' _ R c3 c4 (fun n e he => hal n e (List.mem_cons_of_mem _ he)) h2]
  simp
  omega
end
section
variable {P : Nat -> Res} {s : ByteArray} {m : Nat}
theorem nam_ref {i : Nat} {n : ByteArray} {R : List UInt8} (h : Sx s i (n.data.toList ++ R)) (hn : isNameV n = true) (hR : NoH naB R) (h58 : isAt s (bl s (i + n.data.toList.length)) 58 = false) : namS s i = none := by
 obtain ⟨g1,g2,g3⟩ := h.name hn hR
 unfold namS
 rw [g1,if_neg (by omega),h58]
 rfl
theorem ref_behind {i : Nat} {n a : ByteArray} {R : List UInt8} (h : Sx s i (refT n a ++ R)) (hn : isNameV n = true) (hR : (∃ R',R = 40 :: R') ∨ Fol R) : namS s i = none := by
 have hRn : NoH naB R := by
  rcases hR with ⟨R',rfl⟩ | hF
  ·exact NoH.cons (by decide) _
  ·exact hF.noh (by decide) (by decide) (by decide)
 unfold refT at h
 by_cases ha : emp a = true
 ·rw [if_pos ha,List.append_nil] at h
  refine nam_ref h hn hRn ?_
  rcases hR with ⟨R',rfl⟩ | hF
  ·have h2 := h.app
   rw [h2.bl0 (NoH.cons (by decide) _),h2.isAt]
   rfl
  ·exact hF.not h.app 58 (by decide) (by decide) (by decide) (by decide)
 ·rw [if_neg ha,List.append_assoc,List.cons_append] at h
  refine nam_ref h hn (NoH.cons (by decide) _) ?_
  have h2 := h.app
  rw [h2.bl0 (NoH.cons (by decide) _),h2.isAt]
  rfl
theorem ref_noh {R : List UInt8} (hR : (∃ R',R = 40 :: R') ∨ Fol R) {p : UInt8 -> Bool} (h0 : p 40 = false) (h1 : p 44 = false) (h2 : p 41 = false) (h3 : p 32 = false) : NoH p R := by
 rcases hR with ⟨R',rfl⟩ | hF
 ·exact NoH.cons h0 _
 ·exact hF.noh h1 h2 h3
theorem head_ref (hP0 : ∀ i,isAt s i 123 = false -> P i = none) {i : Nat} {n a : ByteArray} {R : List UInt8} (h : Sx s i (refT n a ++ R)) (hn : isNameV n = true) (ha : a = E0 ∨ isNameV a = true) (hR : (∃ R',R = 40 :: R') ∨ Fol R) :
  headS P s i = some (.mk 3 E0 n a [] none [],i + (refT n a).length) := by
 obtain ⟨c,r,hc,hl, -⟩ := name_form hn
 have h1 : Sx s i (c :: (r ++ ((if emp a then [] else 46 :: a.data.toList) ++ R))) := h.cast (by unfold refT; rw [hc]; simp)
 obtain ⟨-, -,g3,g4,g5,g6⟩ := le_no hl
 unfold headS
 rw [quo_no h1 g3,var_no h1 g4,nest_no hP0 h1 g5,ter_no h1 g6,ref_yes 3 h hn ha (ref_noh hR (by decide) (by decide) (by decide) (by decide)) (ref_noh hR (by decide) (by decide) (by decide) (by decide))]
 rfl
theorem head_ter (hP0 : ∀ i,isAt s i 123 = false -> P i = none) {i : Nat} {n a : ByteArray} {R : List UInt8} (h : Sx s i (45 :: (refT n a ++ R))) (hn : isNameV n = true) (ha : a = E0 ∨ isNameV a = true) (hR : (∃ R',R = 40 :: R') ∨ Fol R) :
  headS P s i = some (.mk 4 E0 n a [] none [],i + 1 + (refT n a).length) := by
 have ht : terS s i = some (.mk 4 E0 n a [] none [],i + 1 + (refT n a).length) := by
  unfold terS
  rw [h.isAt,if_pos (by rfl)]
  exact ref_yes 4 h.tail hn ha (ref_noh hR (by decide) (by decide) (by decide) (by decide)) (ref_noh hR (by decide) (by decide) (by decide) (by decide))
 unfold headS
 rw [quo_no h (by decide),var_no h (by decide),nest_no hP0 h (by decide),ht]
 rfl
theorem head_numS (hP0 : ∀ i,isAt s i 123 = false -> P i = none) {i : Nat} {t : ByteArray} {R : List UInt8} (h : Sx s i (t.data.toList ++ R)) (hn : isNum t = true) (hF : Fol R) : headS P s i = some (.mk 1 t E0 E0 [] none [],i + t.data.toList.length) := by
 obtain ⟨c,T,ht,hc,hc2⟩ := num_head hn
 have h1 : Sx s i (c :: (T ++ R)) := h.cast (by rw [ht]; rfl)
 obtain ⟨-, -,g3,g4,g5,g6⟩ := dg_no hc
 have hter : terS s i = none := by
  by_cases e : c = 45
  ·obtain ⟨d,T',hT,hd⟩ := hc2 e
   subst e
   have h2 : Sx s (i + 1) (d :: (T' ++ R)) := h1.tail.cast (by rw [hT]; rfl)
   unfold terS
   rw [h1.isAt,if_pos (by rfl)]
   exact ref_no h2 (NoH.cons (dg_no (.inr hd)).2.2.2.2.2 _)
  ·exact ter_no h1 e
 unfold headS
 rw [quo_no h1 g3,var_no h1 g4,nest_no hP0 h1 g5,hter,ref_no h1 (NoH.cons g6 _),nub_yes h hn (hF.noh (by decide) (by decide) (by decide)) (hF.noh (by decide) (by decide) (by decide))]
 rfl
theorem head_varS {i : Nat} {n : ByteArray} {R : List UInt8} (h : Sx s i (36 :: (n.data.toList ++ R))) (hn : isNameV n = true) (hF : Fol R) : headS P s i = some (.mk 2 E0 n E0 [] none [],i + 1 + n.data.toList.length) := by
 unfold headS
 rw [quo_no h (by decide),var_yes h hn (hF.noh (by decide) (by decide) (by decide))]
 rfl
theorem head_quoS {i : Nat} {t : ByteArray} {R : List UInt8} (h : Sx s i (quoteAll t ++ R)) (hv : validB t = true) : headS P s i = some (.mk 0 t E0 E0 [] none [],i + (quoteAll t).length) := by
 unfold headS
 rw [quo_yes h hv]
 rfl
theorem head_plS {i : Nat} {e : EX} {R : List UInt8} (hp : PlR P s m e) (h : Sx s i (plT m e ++ R)) : headS P s i = some (.mk 6 E0 E0 E0 [] (some e) [],i + (plT m e).length) := by
 obtain ⟨T,hT⟩ := pl_head m e
 have h1 : Sx s i (123 :: (T ++ R)) := h.cast (by rw [hT]; rfl)
 unfold headS
 rw [quo_no h1 (by decide),var_no h1 (by decide)]
 unfold nestS
 rw [hp i R h]
 rfl
theorem quoteAll_head (t : ByteArray) : ∃ T,quoteAll t = 34 :: T := ⟨_,rfl⟩
theorem in_any (hP : PosOk s P) (hP0 : ∀ i,isAt s i 123 = false -> P i = none) {d : Nat} {e : EX} (hs : Shp d e) (hal : ∀ k t n a al i vs,e = .mk k t n a al i vs -> ∀ x y,AR.mk x y ∈ al -> ArOk P s m d y) (hpl : ∀ y,e = .mk 6 E0 E0 E0 [] (some y) [] -> PlR P s m y) : InTo' P s m e := by
 cases hs with
 | quo t hv =>
  obtain ⟨T,hT⟩ := quoteAll_head t
  refine ⟨⟨34,T,by rw [exT_quo,hT],by decide,by decide⟩,fun i R hF h => ?_⟩
  rw [exT_quo] at h ⊢
  have h1 : Sx s i (34 :: (T ++ R)) := h.cast (by rw [hT]; rfl)
  exact ⟨nam_no h1 (NoH.cons (by decide) _),_,inl_fl (head_quoS h hv) (by decide) (by decide),.inl rfl⟩
 | num t hv =>
  obtain ⟨c,T,ht,hc, -⟩ := num_head hv
  obtain ⟨g1,g2, -, -, -,g6⟩ := dg_no hc
  refine ⟨⟨c,T,by rw [exT_num,ht],g1,g2⟩,fun i R hF h => ?_⟩
  rw [exT_num] at h ⊢
  have h1 : Sx s i (c :: (T ++ R)) := h.cast (by rw [ht]; rfl)
  exact ⟨nam_no h1 (NoH.cons g6 _),_,inl_fl (head_numS hP0 h hv hF) (by decide) (by decide),.inl rfl⟩
 | var n hn =>
  refine ⟨⟨36,n.data.toList,by rw [exT_var],by decide,by decide⟩,fun i R hF h => ?_⟩
  rw [exT_var] at h ⊢
  have h1 : Sx s i (36 :: (n.data.toList ++ R)) := h
  exact ⟨nam_no h1 (NoH.cons (by decide) _),_,inl_fl (head_varS h1 hn hF) (by decide) (by decide),.inl (by rw [List.length_cons]; omega)⟩
 | ref n a hn ha =>
  obtain ⟨c,r,hc,hl, -⟩ := name_form hn
  obtain ⟨g1,g2, -⟩ := le_no hl
  refine ⟨⟨c,_,by rw [exT_ref]; unfold refT; rw [hc]; rfl,g1,g2⟩,fun i R hF h => ?_⟩
  rw [exT_ref] at h ⊢
  obtain ⟨j,hj,hjj⟩ := inl_shut (head_ref hP0 h hn ha (.inr hF)) hF h.app
  exact ⟨ref_behind h hn (.inr hF),j,hj,hjj⟩
 | ter n a al hn ha h1 h2 =>
  refine ⟨⟨45,_,exT_ter m n a al,by decide,by decide⟩,fun i R hF h => ?_⟩
  rw [exT_ter] at h ⊢
  by_cases hne : al = []
  ·subst hne
   rw [if_pos rfl,List.append_nil] at h ⊢
   have h3 : Sx s i (45 :: (refT n a ++ R)) := h
   obtain ⟨j,hj,hjj⟩ := inl_shut (head_ter hP0 h3 hn ha (.inr hF)) hF h3.tail.app
   refine ⟨nam_no h3 (NoH.cons (by decide) _),j,hj,?_⟩
   rw [List.length_cons]
   rw [show i + ((refT n a).length + 1) = i + 1 + (refT n a).length by omega]
   exact hjj
  ·rw [if_neg hne] at h ⊢
   have h3 : Sx s i (45 :: (refT n a ++ (40 :: (asT m true al ++ 41 :: R)))) := h.cast (by simp)
   have h4 := h3.tail.app
   have hh := head_ter hP0 h3 hn ha (.inl ⟨_,rfl⟩)
   have hg := args_all hP al _ R h1 (fun x y hxy => hal _ _ _ _ _ _ _ rfl x y hxy) h4.tail
   refine ⟨nam_no h3 (NoH.cons (by decide) _),_,inl_call hh (by simp [isFuncS,isTermS]) h4 hg,.inl ?_⟩
   simp
   omega
 | fn n al hn hb h1 h2 =>
  obtain ⟨c,r,hc,hl, -⟩ := name_form hn
  obtain ⟨g1,g2, -⟩ := le_no hl
  refine ⟨⟨c,_,by rw [exT_fn,hc]; rfl,g1,g2⟩,fun i R hF h => ?_⟩
  rw [exT_fn] at h ⊢
  have hr : refT n E0 = n.data.toList := by unfold refT; rw [emE0,if_pos rfl,List.append_nil]
  have h3 : Sx s i (refT n E0 ++ (40 :: (asT m true al ++ 41 :: R))) := h.cast (by rw [hr]; simp)
  have h4 := h3.app
  have hh := head_ref hP0 h3 hn (.inl rfl) (.inl ⟨_,rfl⟩)
  have hg := args_all hP al _ R h1 (fun x y hxy => hal _ _ _ _ _ _ _ rfl x y hxy) h4.tail
  refine ⟨ref_behind h3 hn (.inl ⟨_,rfl⟩),_,inl_call hh (by simp [isFuncS,isTermS,hb,emE0]) h4 hg,.inl ?_⟩
  rw [hr]
  simp
  omega
 | nest y hy =>
  obtain ⟨T,hT⟩ := pl_head m y
  refine ⟨⟨123,T,by rw [exT_nest,hT],by decide,by decide⟩,fun i R hF h => ?_⟩
  rw [exT_nest] at h ⊢
  have h1 : Sx s i (123 :: (T ++ R)) := h.cast (by rw [hT]; rfl)
  exact ⟨nam_no h1 (NoH.cons (by decide) _),_,inl_fl (head_plS (hpl y rfl) h) (by decide) (by decide),.inl rfl⟩
end
theorem stp_of {q : Nat} {c : UInt8} {T : List UInt8} (h1 : c ≠ 10) (h2 : c ≠ 32) (h3 : stopB c = true ∨ q = 0) : Stp (10 :: (List.replicate q 32 ++ c :: T)) := by
 refine ⟨NoH.cons (by decide) _,NoH.cons (by decide) _,fun s i h => ?_⟩
 have h0 : Sx s i (List.replicate (0 + 1) 10 ++ (List.replicate q 32 ++ c :: T)) := h
 have h4 := h0.app.app
 rw [List.length_replicate,List.length_replicate] at h4
 have h5 : Sx s (i + 0 + 1 + q) (c :: T) := by rw [show i + 0 + 1 + q = i + (0 + 1) + q by omega]; exact h4
 unfold nextS
 rw [nl_feeds h1 h2 0 0 i i q h0]
 dsimp only
 rw [if_pos]
 rcases h3 with h3 | h3
 ·right; right
  rw [h5.at0]; exact h3
 ·left; omega
theorem bl_ten {s : ByteArray} {i : Nat} {R : List UInt8} (h : Sx s i (10 :: R)) : bl s i = bl s (i + 1) := by
 have hl : i < s.data.toList.length := by rw [size_data]; exact h.lt
 have h0 := h.at0
 rw [at0_get _ _ hl] at h0
 exact (behN_yes blB s.data.toList i hl (by rw [h0]; decide)).symm
theorem sps_bl (n : Nat) : ∀ x ∈ sps n,blB x = true := fun x hx => by unfold sps at hx; rw [List.eq_of_mem_replicate hx]; decide
theorem sps_len (n : Nat) : (sps n).length = n := List.length_replicate
structure VaOk (P : Nat -> Res) (s : ByteArray) (m : Nat) (k : ByteArray) (v : List EL) : Prop where
 key : isNameV k = true ∨ isNum k = true
 ne : v ≠ []
 pat : patL v = true
 pl : ∀ t e,EL.mk t (some e) ∈ v -> PlR P s (m + 8) e
section
variable {P : Nat -> Res} {s : ByteArray} {m : Nat}
theorem key_read {k : ByteArray} (hk : isNameV k = true ∨ isNum k = true) {a : Nat} {R : List UInt8} (h : Sx s a (k.data.toList ++ 93 :: R)) : keyE s a = a + k.data.toList.length /\ s.extract a (a + k.data.toList.length) = k /\ 0 < k.data.toList.length /\ bl s a = a := by
 rcases hk with hk | hk
 ·obtain ⟨g1,g2,g3⟩ := h.name hk (NoH.cons (by decide) _)
  obtain ⟨c,r,hc,hl, -⟩ := name_form hk
  refine ⟨?_,g2,g3,h.bl0 (by rw [hc]; exact NoH.cons (le_no hl).1 _)⟩
  unfold keyE
  rw [g1,if_neg (by omega)]
 ·obtain ⟨g1,g2,g3⟩ := h.num hk (NoH.cons (by decide) _) (NoH.cons (by decide) _)
  obtain ⟨c,T,ht,hc, -⟩ := num_head hk
  obtain ⟨b1, -, -, -, -,b6⟩ := dg_no hc
  have hn : nm s a = a := h.nm0 (by rw [ht]; exact NoH.cons b6 _)
  refine ⟨?_,g2,g3,h.bl0 (by rw [ht]; exact NoH.cons b1 _)⟩
  unfold keyE
  rw [hn,if_pos rfl,g1]
theorem vari_read (hm : 0 < m) {k : ByteArray} {d : Bool} {v : List EL} (hv : VaOk P s m k v) {b b1 : Nat} {R : List UInt8} (hb : (if isAt s b 42 then b + 1 else b) = b1) (hd : isAt s b 42 = d) (hR : Stp R) (hR2 : ∃ R',R = 10 :: R') (h : Sx s b1 (91 :: (k.data.toList ++ (93 :: (paT (m + 8) v ++ R))))) :
  variS P s b = some (.mk k d v,b1 + 1 + k.data.toList.length + 1 + (paT (m + 8) v).length) := by
 have h1 := h.tail
 obtain ⟨g1,g2,g3,g4⟩ := key_read hv.key h1
 have h2 := h1.app
 have h3 := h2.tail
 have hp := pat_read (m := m + 8) (by omega) hv.ne hv.pat hv.pl hR h3
 have h4 := h3.app
 have hb93 : bl s (b1 + 1 + k.data.toList.length) = b1 + 1 + k.data.toList.length := h2.bl0 (NoH.cons (by decide) _)
 obtain ⟨R',rfl⟩ := hR2
 unfold variS
 rw [hb,h.isAt,if_pos (by rfl),g4,g1,if_neg (by omega),hb93,h2.isAt,if_pos (by rfl),hp]
 dsimp only
 have hve : v.isEmpty = false := by cases v with | nil => exact absurd rfl hv.ne | cons x r => rfl
 rw [h4.isAt,hve,if_pos (by rfl),g2,hd]
theorem vs_cons (m : Nat) (k : ByteArray) (d : Bool) (v : List EL) (r : List VA) : vsT m (.mk k d v :: r) = 10 :: (sps (m + 3) ++ ((if d then 42 else 32) :: 91 :: (k.data.toList ++ (93 :: paT (m + 8) v)))) ++ vsT m r := by
 rw [vsT]
 rfl
theorem vs_stop (m : Nat) (vs : List VA) (R : List UInt8) : Stp (vsT m vs ++ (10 :: (sps m ++ 125 :: R))) /\ ∃ R',vsT m vs ++ (10 :: (sps m ++ 125 :: R)) = 10 :: R' := by
 cases vs with
 | nil =>
  rw [vsT]
  exact ⟨stp_of (q := m) (by decide) (by decide) (.inl (by decide)),_,rfl⟩
 | cons x r =>
  obtain ⟨k,d,v⟩ := x
  rw [vs_cons]
  refine ⟨?_,_,rfl⟩
  cases d with
  | true =>
   have e : 10 :: (sps (m + 3) ++ ((if true = true then 42 else 32) :: 91 :: (k.data.toList ++ (93 :: paT (m + 8) v)))) ++ vsT m r ++ (10 :: (sps m ++ 125 :: R)) = 10 :: (List.replicate (m + 3) 32 ++ 42 :: (91 :: (k.data.toList ++ (93 :: paT (m + 8) v)) ++ vsT m r ++ (10 :: (sps m ++ 125 :: R)))) := by simp [sps]
   rw [e]
   exact stp_of (by decide) (by decide) (.inl (by decide))
  | false =>
   have e : 10 :: (sps (m + 3) ++ ((if false = true then 42 else 32) :: 91 :: (k.data.toList ++ (93 :: paT (m + 8) v)))) ++ vsT m r ++ (10 :: (sps m ++ 125 :: R)) = 10 :: (List.replicate (m + 3 + 1) 32 ++ 91 :: (k.data.toList ++ (93 :: paT (m + 8) v) ++ vsT m r ++ (10 :: (sps m ++ 125 :: R)))) := by
    rw [List.replicate_succ']
    simp [sps]
   rw [e]
   exact stp_of (by decide) (by decide) (.inl (by decide))
theorem vars_read (hm : 0 < m) : ∀ (vs acc : List VA) (p : Nat) (R : List UInt8),(∀ k d v,VA.mk k d v ∈ vs -> VaOk P s m k v) -> Sx s p (vsT m vs ++ (10 :: (sps m ++ 125 :: R))) ->
  varsS P s acc (bl s (p + 1)) = if (acc ++ vs).countP vaDflt = 1 then some (acc ++ vs,p + (vsT m vs).length + 1 + m + 1) else none
 | [],acc,p,R,_,h => by
  rw [vsT] at h ⊢
  have h0 : Sx s p (10 :: (sps m ++ 125 :: R)) := h
  have h1 := h0.tail
  have hb : bl s (p + 1) = p + 1 + m := by rw [h1.bl (sps_bl m) (NoH.cons (by decide) _),sps_len]
  have h2 := h1.app
  rw [sps_len] at h2
  rw [varsS,hb,h2.isAt,if_pos (by rfl),List.append_nil]
  rfl
 | .mk k d v :: r,acc,p,R,hall,h => by
  have hv := hall k d v (List.mem_cons_self ..)
  obtain ⟨hS,hS2⟩ := vs_stop m r R
  rw [vs_cons] at h ⊢
  have h0 : Sx s p (10 :: (sps (m + 3) ++ ((if d then 42 else 32) :: (91 :: (k.data.toList ++ (93 :: (paT (m + 8) v ++ (vsT m r ++ (10 :: (sps m ++ 125 :: R)))))))))) := h.cast (by simp)
  have h1 := h0.tail
  have h2 := h1.app
  rw [sps_len] at h2
  have h3 := h2.tail
  have hbd : (if isAt s (bl s (p + 1)) 42 then bl s (p + 1) + 1 else bl s (p + 1)) = p + 1 + (m + 3) + 1 /\ isAt s (bl s (p + 1)) 42 = d /\ isAt s (bl s (p + 1)) 125 = false /\ p + 1 <= bl s (p + 1) /\ bl s (p + 1) <= p + 1 + (m + 3) + 1 := by
   cases d with
   | true =>
    have hb : bl s (p + 1) = p + 1 + (m + 3) := by rw [h1.bl (sps_bl _) (NoH.cons (by decide) _),sps_len]
    have h2' : Sx s (p + 1 + (m + 3)) (42 :: (91 :: (k.data.toList ++ (93 :: (paT (m + 8) v ++ (vsT m r ++ (10 :: (sps m ++ 125 :: R)))))))) := h2
    rw [hb,h2'.isAt,h2'.isAt]
    exact ⟨rfl,rfl,rfl,by omega,by omega⟩
   | false =>
    have h1' : Sx s (p + 1) (sps (m + 3 + 1) ++ (91 :: (k.data.toList ++ (93 :: (paT (m + 8) v ++ (vsT m r ++ (10 :: (sps m ++ 125 :: R)))))))) := h1.cast (by
     have e : sps (m + 3 + 1) = sps (m + 3) ++ [32] := List.replicate_succ'
     rw [e]; simp)
    have hb : bl s (p + 1) = p + 1 + (m + 3 + 1) := by rw [h1'.bl (sps_bl _) (NoH.cons (by decide) _),sps_len]
    have h2' : Sx s (p + 1 + (m + 3 + 1)) (91 :: (k.data.toList ++ (93 :: (paT (m + 8) v ++ (vsT m r ++ (10 :: (sps m ++ 125 :: R))))))) := h3
    rw [hb,h2'.isAt,h2'.isAt]
    exact ⟨rfl,rfl,rfl,by omega,by omega⟩
  obtain ⟨hb1,hb2,hb3,hb4,hb5⟩ := hbd
  have hvr := vari_read hm hv hb1 hb2 hS hS2 h3
  have h4 : Sx s (p + 1 + (m + 3) + 1 + 1 + k.data.toList.length + 1 + (paT (m + 8) v).length) (vsT m r ++ (10 :: (sps m ++ 125 :: R))) := h3.tail.app.tail.app
  obtain ⟨R',hR'⟩ := hS2
  have h4' := h4
  rw [hR'] at h4'
  have hbt := bl_ten h4'
  have hge := bl_ge s (p + 1 + (m + 3) + 1 + 1 + k.data.toList.length + 1 + (paT (m + 8) v).length + 1)
  have hle : bl s (p + 1 + (m + 3) + 1 + 1 + k.data.toList.length + 1 + (paT (m + 8) v).length) <= s.size := by
   have := behN_le blB s.data.toList _ (by rw [size_data]; exact h4.1)
   rw [size_data] at this
   exact this
  rw [varsS,if_neg (by rw [hb3]; simp),hvr]
  dsimp only
  rw [dif_pos ⟨by rw [hbt]; omega,hle⟩,hbt,vars_read hm r _ _ R (fun k d v hx => hall k d v (List.mem_cons_of_mem _ hx)) h4]
  have e1 : acc ++ [VA.mk k d v] ++ r = acc ++ VA.mk k d v :: r := by simp
  rw [e1]
  by_cases hc : (acc ++ VA.mk k d v :: r).countP vaDflt = 1
  ·rw [if_pos hc,if_pos hc]
   congr 2
   simp [sps_len]
   omega
  ·rw [if_neg hc,if_neg hc]
theorem sel_read (hm : 0 < m) {vs : List VA} (hne : vs ≠ []) (hc : vs.countP vaDflt = 1) {p : Nat} {R : List UInt8} (hall : ∀ k d v,VA.mk k d v ∈ vs -> VaOk P s m k v) (h : Sx s p (vsT m vs ++ (10 :: (sps m ++ 125 :: R)))) :
  selS P s p = some (vs,p + (vsT m vs).length + 1 + m + 1) := by
 obtain ⟨-,R',hR'⟩ := vs_stop m vs R
 have h' := h
 rw [hR'] at h'
 have hsp : sp s p = p := h'.sp0 (NoH.cons (by decide) _)
 unfold selS
 rw [hsp,h'.isAt,if_pos (by rfl),vars_read hm vs [] p R hall h,List.nil_append,if_pos hc]
end
theorem mem_as {n : ByteArray} {e : EX} : ∀ {al : List AR},AR.mk n e ∈ al -> e.size <= sizeAs al
 | [],h => by cases h
 | .mk n' e' :: r,h => by
  rw [sizeAs]
  rcases List.mem_cons.1 h with h | h
  ·cases h; omega
  ·have := mem_as h; omega
theorem mem_es {t : ByteArray} {e : EX} : ∀ {l : List EL},EL.mk t (some e) ∈ l -> e.size <= sizeEs l
 | [],h => by cases h
 | .mk t' p :: r,h => by
  rw [sizeEs]
  rcases List.mem_cons.1 h with h | h
  ·cases h; rw [sizeO]; omega
  ·have := mem_es h; omega
theorem mem_vs {k : ByteArray} {d : Bool} {v : List EL} : ∀ {vs : List VA},VA.mk k d v ∈ vs -> sizeEs v <= sizeVs vs
 | [],h => by cases h
 | .mk k' d' v' :: r,h => by
  rw [sizeVs]
  rcases List.mem_cons.1 h with h | h
  ·cases h; omega
  ·have := mem_vs h; omega
theorem okAs_mem {n : ByteArray} {e : EX} {d : Nat} : ∀ {al : List AR},okAs al d = true -> AR.mk n e ∈ al -> okE .inl e d = true
 | [],_,h => by cases h
 | .mk n' e' :: r,h,hx => by
  rw [okAs,Bool.and_eq_true] at h
  rcases List.mem_cons.1 hx with hx | hx
  ·cases hx; exact h.1
  ·exact okAs_mem h.2 hx
theorem okEs_mem {t : ByteArray} {e : EX} {d : Nat} : ∀ {l : List EL},okEs l d = true -> EL.mk t (some e) ∈ l -> okE .brc e d = true
 | [],_,h => by cases h
 | .mk t' none :: r,h,hx => by
  rw [okEs] at h
  rcases List.mem_cons.1 hx with hx | hx
  ·cases hx
  ·exact okEs_mem h hx
 | .mk t' (some e') :: r,h,hx => by
  rw [okEs,Bool.and_eq_true] at h
  rcases List.mem_cons.1 hx with hx | hx
  ·cases hx; exact h.1
  ·exact okEs_mem h.2 hx
theorem okVs_mem {k : ByteArray} {f : Bool} {v : List EL} {d : Nat} : ∀ {vs : List VA},okVs vs d = true -> VA.mk k f v ∈ vs -> okEs v (d + 1) = true
 | [],_,h => by cases h
 | .mk k' f' v' :: r,h,hx => by
  rw [okVs,Bool.and_eq_true] at h
  rcases List.mem_cons.1 hx with hx | hx
  ·cases hx; exact h.1
  ·exact okVs_mem h.2 hx
theorem place0 (s : ByteArray) (r : Nat) : ∀ i,isAt s i 123 = false -> placeS s r i = none := by
 intro i h
 cases r with
 | zero => rfl
 | succ r => rw [placeS,h]; rfl
theorem shp_al {d : Nat} {k : Int} {t n a : ByteArray} {al : List AR} {i : Option EX} {vs : List VA} (h : Shp d (.mk k t n a al i vs)) : okAs al d = true := by
 cases h with
 | ter n a al h ha h1 h2 => exact h2
 | fn n al h hb h1 h2 => exact h2
 | _ => rfl
theorem knot_read (s : ByteArray) : ∀ (N : Nat) (e : EX),e.size <= N -> ∀ (d m : Nat),0 < m -> (d <= 20 -> Shp d e -> InTo' (placeS s (20 - d)) s m e) /\ (okE .brc e d = true -> PlR (placeS s (21 - d)) s m e) := by
 intro N
 induction N with
 | zero =>
  intro e he
  obtain ⟨k,t,n,a,al,i,vs⟩ := e
  rw [EX.size] at he
  omega
 | succ N ih =>
  intro e he d m hm
  have hin : d <= 20 -> Shp d e -> InTo' (placeS s (20 - d)) s m e := fun hd hs => by
   refine in_any (place_pos s _) (place0 s _) hs ?_ ?_
   ·rintro k t n a al i vs rfl x y hxy
    have ho := okAs_mem (shp_al hs) hxy
    have hy := mem_as hxy
    rw [EX.size] at he
    exact ⟨(ih y (by omega) d m hm).1 hd (shp_inl ho).1,ho⟩
   ·rintro y rfl
    rw [EX.size,sizeO] at he
    cases hs with
    | nest _ hy =>
     have h2 := (ih y (by omega) (d + 1) m hm).2 hy
     rw [show 21 - (d + 1) = 20 - d by omega] at h2
     exact h2
  refine ⟨hin,fun hb => ?_⟩
  obtain ⟨k,t,n,a,al,ie,vs⟩ := e
  by_cases hk : k = 7
  ·subst hk
   rw [okE] at hb
   simp only [if_true,Bool.and_eq_true,decide_eq_true_eq,List.isEmpty_iff] at hb
   obtain ⟨hd,⟨⟨⟨⟨⟨e1,e2⟩,e3⟩,e4⟩,e5⟩,e6⟩,e7⟩ := hb
   cases ie with
   | none => rw [okO] at e7; cases e7
   | some y =>
    rw [okO] at e7
    obtain ⟨hs,hask⟩ := shp_ask e7
    rw [emp_E e1,emp_E e2,emp_E e3,e4]
    rw [EX.size,sizeO] at he
    have hI := (ih y (by omega) d m hm).1 hd hs
    unfold varsL at e5
    rw [Bool.and_eq_true,List.all_eq_true,beq_iff_eq] at e5
    obtain ⟨v1,v2⟩ := e5
    have hne : vs ≠ [] := by rintro rfl; exact absurd v2 (by decide)
    have hall : ∀ k d' v,VA.mk k d' v ∈ vs -> VaOk (placeS s (20 - d)) s m k v := fun k d' v hv => by
     have h1 := v1 _ hv
     simp only [Bool.and_eq_true,Bool.or_eq_true,Bool.not_eq_true',vaKey,vaVal] at h1
     refine ⟨h1.1.1,by rintro rfl; exact absurd h1.1.2 (by decide),h1.2,fun t e hte => ?_⟩
     have hsz := mem_es hte
     have hsv := mem_vs hv
     have h2 := (ih e (by omega) (d + 1) (m + 8) (by omega)).2 (okEs_mem (okVs_mem e6 hv) hte)
     rw [show 21 - (d + 1) = 20 - d by omega] at h2
     exact h2
    intro i R h
    have hpl : plT m (.mk 7 E0 E0 E0 [] (some y) vs) = 123 :: 32 :: (exT m y ++ (32 :: 45 :: 62 :: (vsT m vs ++ (10 :: (sps m ++ [125]))))) := by
     rw [plT,if_pos rfl]; rfl
    rw [hpl] at h ⊢
    have h0 : Sx s i (123 :: (32 :: (exT m y ++ (32 :: 45 :: 62 :: (vsT m vs ++ (10 :: (sps m ++ 125 :: R))))))) := h.cast (by simp)
    obtain ⟨c,T,hT,hc1,hc2⟩ := hI.hd
    have h1 := h0.tail
    have hb1 : bl s (i + 1) = i + 1 + 1 := h1.bl1 (by rw [hT]; exact NoH.cons hc1 _)
    have h2 := h1.tail
    obtain ⟨-,j,hj,hjj⟩ := hI.go _ _ (Fol.arrow _) h2
    have h3 := h2.app
    have hbj : bl s j = i + 1 + 1 + (exT m y).length + 1 := by
     have hx : bl s (i + 1 + 1 + (exT m y).length) = i + 1 + 1 + (exT m y).length + 1 := h3.bl1 (NoH.cons (by decide) _)
     rcases hjj with hjj | hjj
     ·rw [hjj,hx]
     ·rw [hjj,bl_bl,hx]
    have h4 := h3.tail
    have h5 := h4.tail
    have h6 := h5.tail
    have hsel := sel_read hm hne v2 hall h6
    rw [show 21 - d = (20 - d) + 1 by omega,placeS,h0.isAt,if_pos (by rfl),hb1,hj]
    dsimp only
    rw [hbj,h4.isAt,if_neg (by decide),h4.isAt,h5.isAt,hask,if_pos (by rfl),hsel]
    dsimp only
    congr 2
    simp [sps_len]
    omega
  ·obtain ⟨hd,hs,ht⟩ := shp_brc hk hb
   have hI := hin hd hs
   intro i R h
   rw [plT_plain m k t n a al ie vs hk] at h ⊢
   generalize hE : EX.mk k t n a al ie vs = E at *
   have h0 : Sx s i (123 :: (32 :: (exT m E ++ (32 :: 125 :: R)))) := h.cast (by simp)
   obtain ⟨c,T,hT,hc1,hc2⟩ := hI.hd
   have h1 := h0.tail
   have hb1 : bl s (i + 1) = i + 1 + 1 := h1.bl1 (by rw [hT]; exact NoH.cons hc1 _)
   have h2 := h1.tail
   obtain ⟨-,j,hj,hjj⟩ := hI.go _ _ (Fol.brace _) h2
   have h3 := h2.app
   have hbj : bl s j = i + 1 + 1 + (exT m E).length + 1 := by
    have hx : bl s (i + 1 + 1 + (exT m E).length) = i + 1 + 1 + (exT m E).length + 1 := h3.bl1 (NoH.cons (by decide) _)
    rcases hjj with hjj | hjj
    ·rw [hjj,hx]
    ·rw [hjj,bl_bl,hx]
   have h4 := h3.tail
   rw [show 21 - d = (20 - d) + 1 by omega,placeS,h0.isAt,if_pos (by rfl),hb1,hj]
   dsimp only
   rw [hbj,h4.isAt,if_pos (by rfl),if_neg (by rw [ht]; simp)]
   congr 2
   simp
   omega
theorem patB_read {s : ByteArray} {m : Nat} (hm : 0 < m) {l : List EL} (hl : l ≠ []) (hp : patB l 0 = true) {i : Nat} {R : List UInt8} (hR : Stp R) (h : Sx s i (paT m l ++ R)) : patS (placeS s 20) s i = some (l,i + (paT m l).length) := by
 unfold patB at hp
 rw [Bool.and_eq_true] at hp
 exact pat_read hm hl hp.1 (fun t e hte => (knot_read s _ e (Nat.le_refl _) 1 m hm).2 (okEs_mem hp.2 hte)) hR h
end Go.Proofs.YtgdkpamlkpncgaaGreatDoor
