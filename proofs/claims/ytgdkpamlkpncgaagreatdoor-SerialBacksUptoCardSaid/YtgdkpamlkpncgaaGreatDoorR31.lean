/-
  Several texts put together (part 31): what the law and the program call, walked; their contracts.
-/
import Derived.Test.YtgdkpamlkpncgaaGreatDoorR26
import Derived.Test.YtgdkpamlkpncgaaGreatDoorR21
import Derived.Test.YtgdkpamlkpncgaaGreatDoorR27
import Derived.Test.YtgdkpamlkpncgaaGreatDoorR9
import Derived.Test.YtgdkpamlkpncgaaGreatDoorR5
import Derived.Test.YtgdkpamlkpncgaaGreatDoorR22
import Derived.Test.YtgdkpamlkpncgaaGreatDoorR30
import Derived.Test.YtgdkpamlkpncgaaGreatDoorR25
import Derived.Deep.RegionHeld3
import Derived.IntWalk
namespace Go.Proofs.YtgdkpamlkpncgaaGreatDoor
open Go.RowKit
open _root_.Go.Lib (hid)
set_option linter.unusedVariables false
set_option linter.unusedSimpArgs false
def coreN (x : EV) : EN:=⟨x.ty,x.lv,x.tx,x.nm,x.val,x.ats,0,0⟩
def sepL : List EV -> List (EN × Nat)
 | []=>[]
 | [x]=>[(coreN x,0)]
 | x :: y :: r=>(coreN x,if oneB x y then 1 else 0) :: sepL (y :: r)
theorem piece_up (x : EV) (l : List EV) (j : Nat) : pieceT (x :: l) (j + 2) = pieceT l (j + 1):=by
 unfold pieceT
 rw [List.getElem?_cons_succ]
 cases h : l[j + 1]? with
 | none=>rfl
 | some y =>
  dsimp only
  unfold sepT
  dsimp only
  rw [List.getElem?_cons_succ]
theorem res_cons (x y : EV) (r : List EV) : resT (x :: y :: r) = x.text ++ ((if oneB x y then [10] else []) ++ resT (y :: r)):=by
 have e1 : resT (x :: y :: r) = pieceT (x :: y :: r) 0 ++ (pieceT (x :: y :: r) 1 ++ (List.range r.length).flatMap (fun j=>pieceT (x :: y :: r) (j + 2))):=by
  unfold resT resN
  rw [List.length_cons,List.length_cons,List.range_succ_eq_map,List.flatMap_cons,List.range_succ_eq_map,List.map_cons,List.flatMap_cons,List.map_map,List.flatMap_map]
  rfl
 have e2 : resT (y :: r) = pieceT (y :: r) 0 ++ (List.range r.length).flatMap (fun j=>pieceT (y :: r) (j + 1)):=by
  unfold resT resN
  rw [List.length_cons,List.range_succ_eq_map,List.flatMap_cons,List.flatMap_map]
 have e3 : (fun j=>pieceT (x :: y :: r) (j + 2)) = fun j=>pieceT (y :: r) (j + 1):=by funext j; exact piece_up x (y :: r) j
 have p0 : pieceT (x :: y :: r) 0 = x.text:=rfl
 have p1 : pieceT (x :: y :: r) 1 = (if oneB x y then [10] else []) ++ y.text:=rfl
 have p2 : pieceT (y :: r) 0 = y.text:=rfl
 rw [e1,e2,e3,p0,p1,p2]
 simp
theorem res_TL : ∀ l : List EV,resT l = TL (sepL l)
 | []=>rfl
 | [x]=>by
  rw [sepL,TL,TL]
  have e : enT (coreN x) = x.text:=rfl
  rw [e,List.replicate_zero,List.append_nil,List.append_nil]
  unfold resT resN
  simp [pieceT,sepT]
 | x :: y :: r=>by
  rw [res_cons,res_TL (y :: r),sepL,TL]
  have e : enT (coreN x) = x.text:=rfl
  rw [e]
  cases oneB x y <;> rfl
theorem sep_ok : ∀ l : List EV,(∀ x ∈ l,rightB x.ty x.lv x.tx x.nm x.val x.ats = true) -> (∀ p ∈ sepL l,okN p.1) /\ SepOk (sepL l)
 | [],_=>⟨(fun p hp=>by cases hp),trivial⟩
 | [x],h=>by
  rw [sepL]
  refine ⟨fun p hp=>?_,⟨fun _=>.inr (fun y g r e=>by cases e),trivial⟩⟩
  rw [List.mem_singleton.1 hp]
  exact h x (List.mem_singleton_self _)
 | x :: y :: r,h=>by
  obtain ⟨h1,h2⟩:=sep_ok (y :: r) (fun z hz=>h z (List.mem_cons_of_mem _ hz))
  rw [sepL]
  refine ⟨fun p hp=>?_,⟨fun h0=>?_,h2⟩⟩
  ·rcases List.mem_cons.1 hp with rfl | hp
   ·exact h x (List.mem_cons_self ..)
   ·exact h1 p hp
  ·cases ho : oneB x y
   ·right
    intro z g r' e hz
    have hz2 : z = coreN y:=by
     cases r with
     | nil=>rw [sepL] at e; cases e; rfl
     | cons w r=>rw [sepL] at e; cases e; rfl
    subst hz2
    have h0' : x.ty = 0:=h0
    have hy0 : y.ty = 0:=hz.1
    have hlv : y.lv = x.lv:=hz.2
    unfold oneB at ho
    rw [h0',hy0,hlv] at ho
    simp at ho
   ·left; simp
def bareN (x : EN) : EN:=⟨x.ty,x.lv,x.tx,x.nm,x.val,x.ats,0,0⟩
theorem PL_bare : ∀ (l : List (EN × Nat)) (i : Nat),(PL l i).map bareN = l.map (fun p=>bareN p.1)
 | [],_=>rfl
 | (x,f) :: r,i=>by rw [PL,List.map_cons,List.map_cons,PL_bare r]; rfl
theorem sep_bare : ∀ l : List EV,(sepL l).map (fun p=>bareN p.1) = l.map coreN
 | []=>rfl
 | [x]=>rfl
 | x :: y :: r=>by rw [sepL,List.map_cons,sep_bare (y :: r)]; rfl
theorem back_read (l : List EV) (h : ∀ x ∈ l,rightB x.ty x.lv x.tx x.nm x.val x.ats = true) : ∃ L,parseS ⟨(resT l).toArray⟩ = L /\ L.map bareN = l.map coreN:=by
 obtain ⟨h1,h2⟩:=sep_ok l h
 refine ⟨PL (sepL l) 0,?_,by rw [PL_bare,sep_bare]⟩
 rw [<- parse_of h1 h2,<- res_TL]
 rfl
theorem va_ascii : ∀ {l : List UInt8},(∀ c ∈ l,c.toNat < 128) -> Lib.validD l = true
 | [],_=>rfl
 | c :: l,h=>by rw [Lib.validD_cons c l (h c (List.mem_cons_self ..))]; exact va_ascii (fun d hd=>h d (List.mem_cons_of_mem _ hd))
theorem va_cons {c : UInt8} {l : List UInt8} (hc : c.toNat < 128) (h : Lib.validD l = true) : Lib.validD (c :: l) = true:=by rw [Lib.validD_cons c l hc]; exact h
theorem va_sps (m : Nat) : Lib.validD (sps m) = true:=va_ascii (fun c hc=>by unfold sps at hc; rw [List.eq_of_mem_replicate hc]; decide)
theorem va_name {n : ByteArray} (h : isNameV n = true) : Lib.validD n.data.toList = true:=by
 obtain ⟨c,r,e, -,hall⟩:=name_form h
 refine va_ascii (fun d hd=>?_)
 have:=hall d hd
 unfold naB leB dgB joB at this
 simp only [Bool.or_eq_true,decide_eq_true_eq] at this
 omega
theorem va_num {t : ByteArray} (h : isNum t = true) : Lib.validD t.data.toList = true:=by
 obtain ⟨g,D,F,hf⟩:=num_form h
 have hdg : ∀ x : UInt8,dgB x = true -> x.toNat < 128:=fun x hx=>by unfold dgB at hx; rw [decide_eq_true_eq] at hx; omega
 refine va_ascii (fun d hd=>?_)
 rw [hf.eq] at hd
 rcases List.mem_append.1 hd with hd | hd
 ·rcases hf.sg with e | e
  ·rw [e] at hd; cases hd
  ·rw [e,List.mem_singleton] at hd; rw [hd]; decide
 ·rcases List.mem_append.1 hd with hd | hd
  ·exact hdg d (hf.dg d hd)
  ·rcases hf.fr with e | ⟨D2,e, -,h2⟩
   ·rw [e] at hd; cases hd
   ·rw [e] at hd
    rcases List.mem_cons.1 hd with hd | hd
    ·rw [hd]; decide
    ·exact hdg d (h2 d hd)
theorem va_hex (n : Nat) (h : n < 16) : (hexC n).toNat < 128:=(hexC_at n h).1
theorem va_quoteR (r : Nat) : Lib.validD (quoteR r) = true:=by
 unfold quoteR
 split
 ·exact va_cons (by decide) (valid_one _)
 ·split
  ·next h =>
   refine va_ascii (fun c hc=>?_)
   simp only [List.mem_cons,List.not_mem_nil,or_false] at hc
   rcases hc with rfl | rfl | rfl | rfl | rfl | rfl
   ·decide
   ·decide
   ·decide
   ·decide
   ·exact va_hex _ (by omega)
   ·exact va_hex _ (by omega)
  ·exact valid_one _
theorem va_quoteF (s : ByteArray) : ∀ (f p : Nat),Lib.validD (quoteFrom s f p) = true
 | 0,_=>rfl
 | f + 1,p=>by
  rw [quoteFrom]
  split
  ·exact valid_two (va_quoteR _) (va_quoteF s f _)
  ·rfl
theorem va_quote (s : ByteArray) : Lib.validD (quoteAll s) = true:=va_cons (by decide) (valid_two (va_quoteF s _ _) rfl)
theorem cut_ten : ∀ l : List UInt8,(∀ c ∈ l,c ≠ 10) ∨ ∃ a b,l = a ++ 10 :: b /\ ∀ c ∈ a,c ≠ 10
 | []=>.inl (fun c hc=>by cases hc)
 | c :: l=>by
  by_cases h : c = 10
  ·subst h; exact .inr ⟨[],l,rfl,fun d hd=>by cases hd⟩
  ·rcases cut_ten l with h1 | ⟨a,b,e,h1⟩
   ·refine .inl (fun d hd=>?_)
    rcases List.mem_cons.1 hd with rfl | hd
    ·exact h
    ·exact h1 d hd
   ·refine .inr ⟨c :: a,b,by rw [e]; rfl,fun d hd=>?_⟩
    rcases List.mem_cons.1 hd with rfl | hd
    ·exact h
    ·exact h1 d hd
theorem lineG_no {mg : List UInt8} : ∀ {a b : List UInt8},(∀ c ∈ a,c ≠ 10) -> lineG mg (a ++ b) = a ++ lineG mg b
 | [],b,_=>rfl
 | c :: a,b,h=>by
  rw [List.cons_append,lineG,if_neg (fun x=>h c (List.mem_cons_self ..) x.1),lineG_no (fun d hd=>h d (List.mem_cons_of_mem _ hd))]
  rfl
theorem va_lineG (m : Nat) : ∀ (n : Nat) (l : List UInt8),l.length <= n -> Lib.validD l = true -> Lib.validD (lineG (sps m) l) = true:=by
 intro n
 induction n with
 | zero =>
  intro l hl _
  have : l = []:=List.eq_nil_of_length_eq_zero (by omega)
  subst this
  rfl
 | succ n ih =>
  intro l hl hv
  rcases cut_ten l with h | ⟨a,b,rfl,h⟩
  ·have:=lineG_no (mg:=sps m) (b:=[]) h
   rw [List.append_nil] at this
   rw [this]
   show Lib.validD (l ++ []) = true
   rw [List.append_nil]
   exact hv
  ·obtain ⟨ha,hb⟩:=valid_split _ a 10 b (Nat.le_refl _) (by decide) hv
   have hi:=ih b (by rw [List.length_append,List.length_cons] at hl; omega) hb
   rw [lineG_no h,lineG]
   refine valid_two ha ?_
   split
   ·exact va_cons (by decide) (valid_two (va_sps m) hi)
   ·exact va_cons (by decide) hi
theorem va_head (m : Nat) (l : List EL) : Lib.validD (headG m l) = true:=by
 unfold headG
 split
 ·exact va_cons (by decide) (va_sps m)
 ·rfl
theorem va_text {t : ByteArray} (h : textB t = true) : Lib.validD t.data.toList = true:=by
 unfold textB at h
 rw [Bool.and_eq_true] at h
 exact h.1
theorem va_ref {n a : ByteArray} (hn : isNameV n = true) (ha : a = E0 ∨ isNameV a = true) : Lib.validD (refT n a) = true:=by
 unfold refT
 refine valid_two (va_name hn) ?_
 rcases ha with rfl | ha
 ·rw [emE0]; rfl
 ·split
  ·rfl
  ·exact va_cons (by decide) (va_name ha)
theorem va_argT {seen : List ByteArray} : ∀ {al : List AR},argNames seen al = true -> ∀ n e,AR.mk n e ∈ al -> emp n = true ∨ isNameV n = true
 | [],_,n,e,h=>by cases h
 | .mk n' (.mk k t m a al' i vs) :: r,ha,n,e,h=>by
  rw [argNames] at ha
  by_cases hn : emp n' = true
  ·rw [if_pos hn,Bool.and_eq_true] at ha
   rcases List.mem_cons.1 h with h | h
   ·cases h; exact .inl hn
   ·exact va_argT ha.2 n e h
  ·rw [if_neg hn] at ha
   simp only [Bool.and_eq_true] at ha
   rcases List.mem_cons.1 h with h | h
   ·cases h; exact .inr ha.1.1.2
   ·exact va_argT ha.2 n e h
theorem va_as {m : Nat} : ∀ (al : List AR) (f : Bool),(∀ n e,AR.mk n e ∈ al -> (emp n = true ∨ isNameV n = true) /\ Lib.validD (exT m e) = true) -> Lib.validD (asT m f al) = true
 | [],f,_=>by rw [asT]; rfl
 | .mk n e :: r,f,h=>by
  obtain ⟨h1,h2⟩:=h n e (List.mem_cons_self ..)
  rw [asT_cons]
  refine valid_two ?_ (valid_two h2 (va_as r false (fun n e he=>h n e (List.mem_cons_of_mem _ he))))
  unfold nameG
  refine valid_two (by cases f <;> rfl) ?_
  split
  ·rfl
  ·next hn=>exact valid_two (va_name (h1.resolve_left hn)) rfl
theorem va_es {m : Nat} : ∀ (l : List EL) (b : Bool),textsB b l = true -> (∀ t e,EL.mk t (some e) ∈ l -> Lib.validD (plT m e) = true) -> Lib.validD (esT m l) = true
 | [],_,_,_=>by rw [esT]; rfl
 | .mk t none :: r,b,h,hp=>by
  rw [textsB] at h
  simp only [Bool.and_eq_true] at h
  rw [esT]
  exact valid_two (va_lineG m _ _ (Nat.le_refl _) (va_text h.1.1.1.2)) (va_es r true h.2 (fun t e he=>hp t e (List.mem_cons_of_mem _ he)))
 | .mk t (some e) :: r,b,h,hp=>by
  rw [textsB,Bool.and_eq_true] at h
  rw [esT]
  exact valid_two (hp t e (List.mem_cons_self ..)) (va_es r false h.2 (fun t e he=>hp t e (List.mem_cons_of_mem _ he)))
theorem va_pa {m : Nat} {l : List EL} (h : patL l = true) (hp : ∀ t e,EL.mk t (some e) ∈ l -> Lib.validD (plT m e) = true) : Lib.validD (paT m l) = true:=by
 unfold patL at h
 rw [Bool.and_eq_true] at h
 unfold paT
 exact valid_two (va_head m l) (va_es l false h.1 hp)
theorem va_vs {m : Nat} : ∀ (vs : List VA),(∀ k d v,VA.mk k d v ∈ vs -> (isNameV k = true ∨ isNum k = true) /\ Lib.validD (paT (m + 8) v) = true) -> Lib.validD (vsT m vs) = true
 | [],_=>by rw [vsT]; rfl
 | .mk k d v :: r,h=>by
  obtain ⟨h1,h2⟩:=h k d v (List.mem_cons_self ..)
  have hk : Lib.validD k.data.toList = true:=h1.elim va_name va_num
  rw [vs_cons]
  refine valid_two (va_cons (by decide) (valid_two (va_sps _) (va_cons (by cases d <;> decide) (va_cons (by decide) (valid_two hk (va_cons (by decide) h2)))))) (va_vs r (fun k d v hx=>h k d v (List.mem_cons_of_mem _ hx)))
theorem va_knot : ∀ (N : Nat) (e : EX),e.size <= N -> ∀ (d m : Nat),(Shp d e -> Lib.validD (exT m e) = true) /\ (okE .brc e d = true -> Lib.validD (plT m e) = true):=by
 intro N
 induction N with
 | zero =>
  intro e he
  obtain ⟨k,t,n,a,al,i,vs⟩:=e
  rw [EX.size] at he
  omega
 | succ N ih =>
  intro e he d m
  have hin : Shp d e -> Lib.validD (exT m e) = true:=fun hs=>by
   have hargs : ∀ k t n a al i vs,e = .mk k t n a al i vs -> argNames [] al = true -> okAs al d = true -> Lib.validD (asT m true al) = true:=fun k t n a al i vs hE h1 h2=>by
    subst hE
    rw [EX.size] at he
    refine va_as al true (fun x y hxy=>⟨va_argT h1 x y hxy,?_⟩)
    have:=mem_as hxy
    exact (ih y (by omega) d m).1 (shp_inl (okAs_mem h2 hxy)).1
   cases hs with
   | quo t hv=>rw [exT_quo]; exact va_quote t
   | num t hv=>rw [exT_num]; exact va_num hv
   | var n hn=>rw [exT_var]; exact va_cons (by decide) (va_name hn)
   | ref n a hn ha=>rw [exT_ref]; exact va_ref hn ha
   | ter n a al hn ha h1 h2 =>
    rw [exT_ter]
    refine va_cons (by decide) (valid_two (va_ref hn ha) ?_)
    split
    ·rfl
    ·exact va_cons (by decide) (valid_two (hargs _ _ _ _ _ _ _ rfl h1 h2) rfl)
   | fn n al hn hb h1 h2 =>
    rw [exT_fn]
    exact valid_two (va_name hn) (va_cons (by decide) (valid_two (hargs _ _ _ _ _ _ _ rfl h1 h2) rfl))
   | nest y hy =>
    rw [EX.size,sizeO] at he
    rw [exT_nest]
    exact (ih y (by omega) (d + 1) m).2 hy
  refine ⟨hin,fun hb=>?_⟩
  obtain ⟨k,t,n,a,al,ie,vs⟩:=e
  by_cases hk : k = 7
  ·subst hk
   rw [okE] at hb
   simp only [if_true,Bool.and_eq_true,decide_eq_true_eq,List.isEmpty_iff] at hb
   obtain ⟨hd,⟨⟨⟨⟨⟨e1,e2⟩,e3⟩,e4⟩,e5⟩,e6⟩,e7⟩:=hb
   cases ie with
   | none=>rw [okO] at e7; cases e7
   | some y =>
    rw [okO] at e7
    rw [EX.size,sizeO] at he
    have hI:=(ih y (by omega) d m).1 (shp_ask e7).1
    unfold varsL at e5
    rw [Bool.and_eq_true,List.all_eq_true] at e5
    have hvs : Lib.validD (vsT m vs) = true:=va_vs vs (fun k d' v hv=>by
     have h1:=e5.1 _ hv
     simp only [Bool.and_eq_true,Bool.or_eq_true,Bool.not_eq_true',vaKey,vaVal] at h1
     refine ⟨h1.1.1,va_pa h1.2 (fun t e hte=>?_)⟩
     have hsz:=mem_es hte
     have hsv:=mem_vs hv
     exact (ih e (by omega) (d + 1) (m + 8)).2 (okEs_mem (okVs_mem e6 hv) hte))
    rw [plT,if_pos rfl]
    exact va_cons (by decide) (va_cons (by decide) (valid_two hI (va_cons (by decide) (va_cons (by decide) (va_cons (by decide) (valid_two hvs (va_cons (by decide) (valid_two (va_sps m) rfl))))))))
  ·have hs:=(shp_brc hk hb).2.1
   rw [plT_plain m k t n a al ie vs hk]
   exact va_cons (by decide) (va_cons (by decide) (valid_two (hin hs) rfl))
theorem va_patB {m : Nat} {l : List EL} (h : patB l 0 = true) : Lib.validD (paT m l) = true:=by
 unfold patB at h
 rw [Bool.and_eq_true] at h
 exact va_pa h.1 (fun t e hte=>(va_knot _ e (Nat.le_refl _) 1 m).2 (okEs_mem h.2 hte))
theorem va_ats : ∀ l : List AT,(∀ a ∈ l,attrOk a = true) -> Lib.validD (atsT l) = true
 | [],_=>by rw [atsT]; rfl
 | .mk n v :: r,h=>by
  have ho:=h _ (List.mem_cons_self ..)
  unfold attrOk at ho
  simp only [Bool.and_eq_true] at ho
  rw [atsT_cons]
  exact valid_two (va_cons (by decide) (va_cons (by decide) (va_cons (by decide) (va_cons (by decide) (va_cons (by decide) (va_cons (by decide) (valid_two (va_name ho.1) (va_cons (by decide) (va_cons (by decide) (va_patB ho.2.2)))))))))) (va_ats r (fun a ha=>h a (List.mem_cons_of_mem _ ha)))
theorem va_com (n : Nat) : ∀ (k : Nat) (l line : List UInt8),l.length <= k -> Lib.validD (line ++ l) = true -> (∀ c ∈ line,c ≠ 10) -> Lib.validD (comT (List.replicate n 35) line l) = true:=by
 intro k l line hl hv hno
 rw [comT_lines]
 have hall : ∀ (k : Nat) (l line : List UInt8),l.length <= k -> Lib.validD (line ++ l) = true -> ∀ x ∈ cutL line l,Lib.validD x = true:=by
  intro k
  induction k with
  | zero =>
   intro l line hl hv x hx
   have : l = []:=List.eq_nil_of_length_eq_zero (by omega)
   subst this
   rw [cutL,List.mem_singleton] at hx
   rw [hx]
   rw [List.append_nil] at hv
   exact hv
  | succ k ih =>
   intro l line hl hv x hx
   cases l with
   | nil =>
    rw [cutL,List.mem_singleton] at hx
    rw [hx]
    rw [List.append_nil] at hv
    exact hv
   | cons c r =>
    rw [cutL] at hx
    rw [List.length_cons] at hl
    by_cases hc : c = 10
    ·subst hc
     rw [if_pos rfl] at hx
     obtain ⟨h1,h2⟩:=valid_split _ line 10 r (Nat.le_refl _) (by decide) hv
     rcases List.mem_cons.1 hx with hx | hx
     ·rw [hx]; exact h1
     ·exact ih r [] (by omega) h2 x hx
    ·rw [if_neg hc] at hx
     exact ih r (line ++ [c]) (by omega) (by rw [List.append_assoc]; exact hv) x hx
 have hcm : ∀ x,Lib.validD x = true -> Lib.validD (cmlT (List.replicate n 35) x) = true:=fun x hx=>by
  unfold cmlT
  refine valid_two (va_ascii (fun c hc=>by rw [List.eq_of_mem_replicate hc]; decide)) (valid_two ?_ rfl)
  split
  ·rfl
  ·exact va_cons (by decide) hx
 have : ∀ L : List (List UInt8),(∀ x ∈ L,Lib.validD x = true) -> Lib.validD (L.flatMap (cmlT (List.replicate n 35))) = true:=by
  intro L
  induction L with
  | nil=>intro _; rfl
  | cons x L ih=>intro h; rw [List.flatMap_cons]; exact valid_two (hcm x (h x (List.mem_cons_self ..))) (ih (fun y hy=>h y (List.mem_cons_of_mem _ hy)))
 exact this _ (hall k l line hl hv)
theorem va_en {x : EN} (h : okN x) : Lib.validD (enT x) = true:=by
 rcases okN_cases h with ⟨h0,⟨n,hn, -, -⟩,ht, -⟩ | ⟨hty, -, -,hnm,hv,hat, -⟩
 ·rw [enT_com h0 hn]
  exact va_com n _ _ [] (Nat.le_refl _) (va_text ht) (fun c hc=>by cases hc)
 ·rw [enT_msg hty]
  refine valid_two (by split <;> rfl) (valid_two (va_name hnm) (va_cons (by decide) (va_cons (by decide) (valid_two ?_ (valid_two (va_ats _ hat) rfl)))))
  unfold valT
  split
  ·rfl
  ·exact va_patB hv
theorem va_TL : ∀ l : List (EN × Nat),(∀ p ∈ l,okN p.1) -> Lib.validD (TL l) = true
 | [],_=>rfl
 | (x,f) :: r,h=>by
  rw [TL]
  exact valid_two (va_en (h _ (List.mem_cons_self ..))) (valid_two (va_ascii (fun c hc=>by rw [List.eq_of_mem_replicate hc]; decide)) (va_TL r (fun p hp=>h p (List.mem_cons_of_mem _ hp))))
theorem va_res (l : List EV) (h : ∀ x ∈ l,rightB x.ty x.lv x.tx x.nm x.val x.ats = true) : Lib.validD (resT l) = true:=by
 rw [res_TL]
 exact va_TL _ (sep_ok l h).1
theorem PatF.at2 {W : World} {F : Nat -> Prop} (g : ∀ b,F b -> b < W.heap.size) {l : List EL} {v : Value} (h : PatF W F l v) : PatAt W l v:=LieAt.imp h (fun b o=>EsF.at_ g l b o)
theorem TsF.at2 {W : World} {F : Nat -> Prop} (g : ∀ b,F b -> b < W.heap.size) : ∀ (l : List AT) (b o : Nat),TsF W F l b o -> TsAt W l b o
 | [],b,o,_=>by rw [TsAt]; trivial
 | .mk n v :: r,b,o,h=>by
  rw [TsF] at h
  rw [TsAt]
  obtain ⟨hb,h1,⟨u,h2,h3⟩,h4⟩:=h
  exact ⟨g b hb,h1,⟨u,h2,PatF.at2 g h3⟩,TsF.at2 g r b _ h4⟩
theorem AtsF.at2 {W : World} {F : Nat -> Prop} (g : ∀ b,F b -> b < W.heap.size) {l : List AT} {v : Value} (h : AtsF W F l v) : LieAt (TsAt W l) v l.length:=LieAt.imp h (fun b o=>TsF.at2 g l b o)
theorem bare_at {L : List EN} {l : List EV} (h : L.map bareN = l.map coreN) {j : Nat} {x : EV} (hj : l[j]? = some x) : ∃ fr tu : Nat,L[j]? = some ⟨x.ty,x.lv,x.tx,x.nm,x.val,x.ats,fr,tu⟩:=by
 have e:=congrArg (·[j]?) h
 simp only [List.getElem?_map,hj,Option.map_some] at e
 cases hL : L[j]? with
 | none=>rw [hL] at e; cases e
 | some y =>
  rw [hL] at e
  obtain ⟨a1,a2,a3,a4,a5,a6,a7,a8⟩:=y
  simp only [Option.map_some,bareN,coreN,Option.some.injEq,EN.mk.injEq] at e
  obtain ⟨e1,e2,e3,e4,e5,e6, -, -⟩:=e
  exact ⟨a7,a8,by rw [e1,e2,e3,e4,e5,e6]⟩
theorem res_len9 (l : List EV) (h : ∀ x ∈ l,rightB x.ty x.lv x.tx x.nm x.val x.ats = true) (hl : l.length <= 1048576) (hz : wtsE l <= 1048576) : (resT l).length <= 1000000000:=by
 have:=resT_len 372 l (fun x hx=>enT_len (x:=coreN x) (h x hx))
 have h1:=Nat.mul_le_mul_left 372 hz
 have h2:=Nat.mul_le_mul_right (372 + 1) hl
 omega
set_option maxHeartbeats 16000000 in
set_option maxRecDepth 1000000 in
theorem lbacks_any {W0 : World} (hM : MxW W0) (hT : TabU W0) (l : List EV) (hl : l.length <= 1048576) (hz : wtsE l <= 1048576) (hall : ∀ x ∈ l,x.At W0) (lb lo n : Nat) (A : Option Addr) (hA : 0 < l.length -> A = some ⟨lb,lo,none⟩) (hcs : 0 < l.length -> CellsN W0 lb lo l) :
  Calls Tryz.prog 3 #[.slice A l.length n] W0 fun e w'=>e = .returned (.bool true) /\ Below W0.heap.size W0 w':=by
 have hl0 : (l.length : Int) <= 4000000:=by omega
 have HH:=hid (head10_any W0 hM)
 have HFw:=hid (fun W (g : Below W0.heap.size W0 W)=>few_any hT l (by omega) (fun x hx=>⟨hall x hx,by have:=wtsE_get l x hx; unfold EV.sz at this; omega⟩) lb lo n A hA hcs W g)
 have HR1:=hid (fun (hf : ∀ x ∈ l,(x.fit /\ x.ty ≠ 3) /\ rightB x.ty x.lv x.tx x.nm x.val x.ats = true) W (g : Below W0.heap.size W0 W)=>sres_any hM l (by omega) (fun x hx=>⟨hall x hx,(hf x hx).1.1⟩) (fun x hx=>ent_ne x (hf x hx).1.1 (hf x hx).1.2) lb lo n A hA hcs (by have:=res_len9 l (fun x hx=>(hf x hx).2) hl hz; omega) W g)
 have HSz : Hid ((∀ x ∈ l,(x.fit /\ x.ty ≠ 3) /\ rightB x.ty x.lv x.tx x.nm x.val x.ats = true) -> (resT l).length <= 1000000000 /\ (∃ L,parseS ⟨(resT l).toArray⟩ = L /\ L.map bareN = l.map coreN) /\ Lib.validD (resT l) = true):=fun hf=>⟨res_len9 l (fun x hx=>(hf x hx).2) hl hz,back_read l (fun x hx=>(hf x hx).2),va_res l (fun x hx=>(hf x hx).2)⟩
 have HTab:=hid hT
 have HAd:=hid hA
 have HCs:=hid hcs
 have HAll:=hid hall
 clear hM hT hall hA hcs hz hl
 go_enter Tryz.func3,Tryz.ntmps3
 go_wp2_with fail
 go_at_call 7
 refine HH.out.mono ?_
 rintro e w1 ⟨rfl,h1⟩
 have HB1:=hid h1
 have HF1:=hid (HFw.out w1 h1)
 clear h1 HH HFw
 go_wp2_with fail
 go_at_call 8
 refine HF1.out.mono ?_
 rintro e w2 ⟨⟨b,rfl,hb⟩,h2⟩
 have HB2:=hid (HB1.out.trans (h2.mono HB1.out.size))
 have Hb:=hid hb
 clear h2 hb HF1
 cases b
 ·go_wp2
  go_ret
  exact ⟨rfl,HB2.out⟩
 have hft:=Hb.out (by first | rfl | trivial | simp)
 obtain ⟨hsz,⟨L,hL,hLl⟩,hva⟩:=HSz.out hft
 have HR2:=hid (HR1.out hft w2 HB2.out)
 clear Hb HR1 HSz hft
 have hLlen : L.length = l.length:=by have:=congrArg List.length hLl; simpa using this
 obtain ⟨RT,hRT⟩ : ∃ s : ByteArray,(⟨(resT l).toArray⟩ : ByteArray) = s:=⟨_,rfl⟩
 rw [hRT] at HR2 hL
 have hRs : RT.size <= 1000000000:=by
  rw [<- hRT]
  show (resT l).toArray.size <= _
  simpa using hsz
 have hsg : (sigAll RT.data.toList).isSome = true:=by
  rw [<- valid_sig]
  rw [<- hRT]
  exact hva
 have hpc:=fun W=>parse_call (pat_calls hRs) hRs W
 simp only [hL] at hpc
 have HPc:=hid hpc
 have HSg:=hid (fun W (g : Below W0.heap.size W0 W)=>signs_big RT W (HTab.out.below g) (by omega))
 have Hsg:=hid hsg
 have HLl:=hid hLl
 clear hpc hsg hL hLl hRs hva hsz hRT
 go_wp2_with fail
 go_at_call 9
 refine HR2.out.mono ?_
 rintro e w3 ⟨rfl,h3⟩
 have HB3:=hid (HB2.out.trans (h3.mono HB2.out.size))
 clear h3 HR2
 go_wp2_with fail
 go_at_call 10
 refine (HPc.out _).mono ?_
 rintro e w4 ⟨h4,AL,cL,rfl,hLF⟩
 have HB4:=hid (HB3.out.trans (h4.mono HB3.out.size))
 have HLF:=hid hLF
 rw [hLlen]
 clear h4 hLF HPc
 go_wp2_with fail
 go_at_call 11
 refine (HSg.out _ HB4.out).mono ?_
 rintro e w5 ⟨hsE,h5⟩
 have HB45:=hid h5
 have HB5:=hid (HB4.out.trans (h5.mono HB4.out.size))
 obtain ⟨vs,rfl⟩ : ∃ v,e = .returned (.tuple #[v,.bool true]):=by
  rcases hsE with ⟨h, -⟩ | ⟨xs,v, -, -,h, -⟩
  ·have:=Hsg.out; rw [h] at this; cases this
  ·exact ⟨v,h⟩
 clear h5 hsE HSg
 go_wp2_with fail
 go_loopw [34] (fun t34 wr=>∃ j : Nat,t34 = .int .i64 j /\ j <= l.length /\ Hid (Below W0.heap.size W0 wr) /\ Hid (Below w4.heap.size w4 wr)) (fun t34 _=>l.length - (intOf t34).toNat)
 case atStart=>exact ⟨0,rfl,Nat.zero_le _,HB5,HB45⟩
 case round =>
  obtain ⟨j,rfl,hj,HB,HC⟩:=hrel
  have hj0 : (j : Int) <= 4000000:=by omega
  by_cases hlt : j < l.length
  ·have d1 : decide ((j : Int) < (l.length : Int)) = true:=decide_eq_true (by omega)
   have d2 : (j : Int) < (l.length : Int):=by omega
   obtain ⟨y,hy⟩ : ∃ y,l[j]? = some y:=⟨_,List.getElem?_eq_getElem hlt⟩
   obtain ⟨fr,tu,hy2⟩:=bare_at HLl.out hy
   have hLF:=HLF.out
   have ha:=HAd.out (by omega)
   subst ha
   obtain ⟨b,o,rfl,hN⟩:=list_at hLF (by omega)
   obtain ⟨hF0,A0,c0,B0,d0,p0,p1,p2,p3,p4,p5,p6,p7,pt0,pa0⟩:=hN.get j hy2
   dsimp only at p0 p1 p2 p3 p4 p5 p6 p7 pt0 pa0
   have hcw:=(HCs.out (by omega)).below HB.out
   obtain ⟨q0,q1,q2,q3,q4,q5,q6,q7⟩:=cellsN8 hcw hy
   have hllb:=hcw.1
   have hyA:=HAll.out y (List.mem_of_getElem? hy)
   have hlb4 : b < w4.heap.size:=hF0.2
   have hsE:=fun W (g' : Below w4.heap.size w4 W)=>entry_same y.ty y.lv y.tx y.nm y.val y.ats (fr : Int) (tu : Int) y.fr y.tu (PatF.at2 (fun z hz=>hz.2) pt0) (hyA.pat.later HB4.out) (AtsF.at2 (fun z hz=>hz.2) pa0) (LieAt.imp hyA.ats (fun b o=>TsAt.later HB4.out y.ats b o)) (by have:=hyA.wz; omega) (by have:=hyA.wz; omega) W g'
   have HSE:=hid hsE
   have r0:=(HC.out.cell (p:=⟨b,o + j * 8,none⟩) hlb4).trans p0
   have r1:=(HC.out.cell (p:=⟨b,o + j * 8 + 1,none⟩) hlb4).trans p1
   have r2:=(HC.out.cell (p:=⟨b,o + j * 8 + 2,none⟩) hlb4).trans p2
   have r3:=(HC.out.cell (p:=⟨b,o + j * 8 + 3,none⟩) hlb4).trans p3
   have r4:=(HC.out.cell (p:=⟨b,o + j * 8 + 4,none⟩) hlb4).trans p4
   have r5:=(HC.out.cell (p:=⟨b,o + j * 8 + 5,none⟩) hlb4).trans p5
   have r6:=(HC.out.cell (p:=⟨b,o + j * 8 + 6,none⟩) hlb4).trans p6
   have r7:=(HC.out.cell (p:=⟨b,o + j * 8 + 7,none⟩) hlb4).trans p7
   have hlbr : b < wr.heap.size:=Nat.lt_of_lt_of_le hlb4 HC.out.size
   obtain ⟨xt,xl,xx,xn,xv,xa,xA,xc,xB,xd,xf,xu⟩:=y
   unfold entV at HSE
   dsimp only at *
   clear hN hF0 hLF pt0 pa0 p0 p1 p2 p3 p4 p5 p6 p7 hcw hyA hsE hy hy2 hlb4 hLlen
   have CB:=hid (BoxAt.new wr #[.int .i64 xt,.int .i64 xl,.string xx,.string xn,.slice A0 xv.length c0,.slice B0 xa.length d0,.int .i64 (fr : Int),.int .i64 (tu : Int)] 34)
   have hlr : wr.heap.size < wr.heap.size + 1:=Nat.lt_succ_self _
   have HKp : Hid (∀ W W',(W.cell? ⟨wr.heap.size,0,none⟩ = some (.int .i64 xt) /\ W.cell? ⟨wr.heap.size,1,none⟩ = some (.int .i64 xl) /\ W.cell? ⟨wr.heap.size,2,none⟩ = some (.string xx) /\ W.cell? ⟨wr.heap.size,3,none⟩ = some (.string xn) /\ W.cell? ⟨wr.heap.size,4,none⟩ = some (.slice A0 xv.length c0) /\ W.cell? ⟨wr.heap.size,5,none⟩ = some (.slice B0 xa.length d0) /\ W.cell? ⟨wr.heap.size,6,none⟩ = some (.int .i64 (fr : Int)) /\ W.cell? ⟨wr.heap.size,7,none⟩ = some (.int .i64 (tu : Int)) /\ W.cell? ⟨lb,lo + j * 8,none⟩ = some (.int .i64 xt) /\ W.cell? ⟨lb,lo + j * 8 + 1,none⟩ = some (.int .i64 xl) /\ W.cell? ⟨lb,lo + j * 8 + 2,none⟩ = some (.string xx) /\ W.cell? ⟨lb,lo + j * 8 + 3,none⟩ = some (.string xn) /\ W.cell? ⟨lb,lo + j * 8 + 4,none⟩ = some (.slice xA xv.length xc) /\ W.cell? ⟨lb,lo + j * 8 + 5,none⟩ = some (.slice xB xa.length xd) /\ W.cell? ⟨lb,lo + j * 8 + 6,none⟩ = some (.int .i64 xf) /\ W.cell? ⟨lb,lo + j * 8 + 7,none⟩ = some (.int .i64 xu) /\ wr.heap.size + 1 <= W.heap.size /\ Below (wr.heap.size + 1) (wr.alloc (.cells #[.int .i64 xt,.int .i64 xl,.string xx,.string xn,.slice A0 xv.length c0,.slice B0 xa.length d0,.int .i64 (fr : Int),.int .i64 (tu : Int)] 34)) W) -> Below W.heap.size W W' -> (W'.cell? ⟨wr.heap.size,0,none⟩ = some (.int .i64 xt) /\ W'.cell? ⟨wr.heap.size,1,none⟩ = some (.int .i64 xl) /\ W'.cell? ⟨wr.heap.size,2,none⟩ = some (.string xx) /\ W'.cell? ⟨wr.heap.size,3,none⟩ = some (.string xn) /\ W'.cell? ⟨wr.heap.size,4,none⟩ = some (.slice A0 xv.length c0) /\ W'.cell? ⟨wr.heap.size,5,none⟩ = some (.slice B0 xa.length d0) /\ W'.cell? ⟨wr.heap.size,6,none⟩ = some (.int .i64 (fr : Int)) /\ W'.cell? ⟨wr.heap.size,7,none⟩ = some (.int .i64 (tu : Int)) /\ W'.cell? ⟨lb,lo + j * 8,none⟩ = some (.int .i64 xt) /\ W'.cell? ⟨lb,lo + j * 8 + 1,none⟩ = some (.int .i64 xl) /\ W'.cell? ⟨lb,lo + j * 8 + 2,none⟩ = some (.string xx) /\ W'.cell? ⟨lb,lo + j * 8 + 3,none⟩ = some (.string xn) /\ W'.cell? ⟨lb,lo + j * 8 + 4,none⟩ = some (.slice xA xv.length xc) /\ W'.cell? ⟨lb,lo + j * 8 + 5,none⟩ = some (.slice xB xa.length xd) /\ W'.cell? ⟨lb,lo + j * 8 + 6,none⟩ = some (.int .i64 xf) /\ W'.cell? ⟨lb,lo + j * 8 + 7,none⟩ = some (.int .i64 xu) /\ wr.heap.size + 1 <= W'.heap.size /\ Below (wr.heap.size + 1) (wr.alloc (.cells #[.int .i64 xt,.int .i64 xl,.string xx,.string xn,.slice A0 xv.length c0,.slice B0 xa.length d0,.int .i64 (fr : Int),.int .i64 (tu : Int)] 34)) W')):=fun W W' ⟨h0,h1,h2,h3,h4,h5,h6,h7,h8,h9,h10,h11,h12,h13,h14,h15,hs,hb⟩ g =>
    ⟨(g.cell (p:=⟨wr.heap.size,0,none⟩) (Nat.lt_of_lt_of_le hlr hs)).trans h0,(g.cell (p:=⟨wr.heap.size,1,none⟩) (Nat.lt_of_lt_of_le hlr hs)).trans h1,(g.cell (p:=⟨wr.heap.size,2,none⟩) (Nat.lt_of_lt_of_le hlr hs)).trans h2,(g.cell (p:=⟨wr.heap.size,3,none⟩) (Nat.lt_of_lt_of_le hlr hs)).trans h3,(g.cell (p:=⟨wr.heap.size,4,none⟩) (Nat.lt_of_lt_of_le hlr hs)).trans h4,(g.cell (p:=⟨wr.heap.size,5,none⟩) (Nat.lt_of_lt_of_le hlr hs)).trans h5,(g.cell (p:=⟨wr.heap.size,6,none⟩) (Nat.lt_of_lt_of_le hlr hs)).trans h6,(g.cell (p:=⟨wr.heap.size,7,none⟩) (Nat.lt_of_lt_of_le hlr hs)).trans h7,(g.cell (p:=⟨lb,lo + j * 8,none⟩) (Nat.lt_of_lt_of_le (Nat.lt_succ_of_lt hllb) hs)).trans h8,(g.cell (p:=⟨lb,lo + j * 8 + 1,none⟩) (Nat.lt_of_lt_of_le (Nat.lt_succ_of_lt hllb) hs)).trans h9,(g.cell (p:=⟨lb,lo + j * 8 + 2,none⟩) (Nat.lt_of_lt_of_le (Nat.lt_succ_of_lt hllb) hs)).trans h10,(g.cell (p:=⟨lb,lo + j * 8 + 3,none⟩) (Nat.lt_of_lt_of_le (Nat.lt_succ_of_lt hllb) hs)).trans h11,(g.cell (p:=⟨lb,lo + j * 8 + 4,none⟩) (Nat.lt_of_lt_of_le (Nat.lt_succ_of_lt hllb) hs)).trans h12,(g.cell (p:=⟨lb,lo + j * 8 + 5,none⟩) (Nat.lt_of_lt_of_le (Nat.lt_succ_of_lt hllb) hs)).trans h13,(g.cell (p:=⟨lb,lo + j * 8 + 6,none⟩) (Nat.lt_of_lt_of_le (Nat.lt_succ_of_lt hllb) hs)).trans h14,(g.cell (p:=⟨lb,lo + j * 8 + 7,none⟩) (Nat.lt_of_lt_of_le (Nat.lt_succ_of_lt hllb) hs)).trans h15,Nat.le_trans hs g.size,hb.trans (g.mono hs)⟩
   have hz1 : (wr.alloc (.cells #[.int .i64 xt,.int .i64 xl,.string xx,.string xn,.slice A0 xv.length c0,.slice B0 xa.length d0,.int .i64 (fr : Int),.int .i64 (tu : Int)] 34)).heap.size = wr.heap.size + 1:=World.size_alloc _ _
   have HS0 : Hid ((wr.alloc (.cells #[.int .i64 xt,.int .i64 xl,.string xx,.string xn,.slice A0 xv.length c0,.slice B0 xa.length d0,.int .i64 (fr : Int),.int .i64 (tu : Int)] 34)).drew.cell? ⟨wr.heap.size,0,none⟩ = some (.int .i64 xt) /\ (wr.alloc (.cells #[.int .i64 xt,.int .i64 xl,.string xx,.string xn,.slice A0 xv.length c0,.slice B0 xa.length d0,.int .i64 (fr : Int),.int .i64 (tu : Int)] 34)).drew.cell? ⟨wr.heap.size,1,none⟩ = some (.int .i64 xl) /\ (wr.alloc (.cells #[.int .i64 xt,.int .i64 xl,.string xx,.string xn,.slice A0 xv.length c0,.slice B0 xa.length d0,.int .i64 (fr : Int),.int .i64 (tu : Int)] 34)).drew.cell? ⟨wr.heap.size,2,none⟩ = some (.string xx) /\ (wr.alloc (.cells #[.int .i64 xt,.int .i64 xl,.string xx,.string xn,.slice A0 xv.length c0,.slice B0 xa.length d0,.int .i64 (fr : Int),.int .i64 (tu : Int)] 34)).drew.cell? ⟨wr.heap.size,3,none⟩ = some (.string xn) /\ (wr.alloc (.cells #[.int .i64 xt,.int .i64 xl,.string xx,.string xn,.slice A0 xv.length c0,.slice B0 xa.length d0,.int .i64 (fr : Int),.int .i64 (tu : Int)] 34)).drew.cell? ⟨wr.heap.size,4,none⟩ = some (.slice A0 xv.length c0) /\ (wr.alloc (.cells #[.int .i64 xt,.int .i64 xl,.string xx,.string xn,.slice A0 xv.length c0,.slice B0 xa.length d0,.int .i64 (fr : Int),.int .i64 (tu : Int)] 34)).drew.cell? ⟨wr.heap.size,5,none⟩ = some (.slice B0 xa.length d0) /\ (wr.alloc (.cells #[.int .i64 xt,.int .i64 xl,.string xx,.string xn,.slice A0 xv.length c0,.slice B0 xa.length d0,.int .i64 (fr : Int),.int .i64 (tu : Int)] 34)).drew.cell? ⟨wr.heap.size,6,none⟩ = some (.int .i64 (fr : Int)) /\ (wr.alloc (.cells #[.int .i64 xt,.int .i64 xl,.string xx,.string xn,.slice A0 xv.length c0,.slice B0 xa.length d0,.int .i64 (fr : Int),.int .i64 (tu : Int)] 34)).drew.cell? ⟨wr.heap.size,7,none⟩ = some (.int .i64 (tu : Int)) /\ (wr.alloc (.cells #[.int .i64 xt,.int .i64 xl,.string xx,.string xn,.slice A0 xv.length c0,.slice B0 xa.length d0,.int .i64 (fr : Int),.int .i64 (tu : Int)] 34)).drew.cell? ⟨lb,lo + j * 8,none⟩ = some (.int .i64 xt) /\ (wr.alloc (.cells #[.int .i64 xt,.int .i64 xl,.string xx,.string xn,.slice A0 xv.length c0,.slice B0 xa.length d0,.int .i64 (fr : Int),.int .i64 (tu : Int)] 34)).drew.cell? ⟨lb,lo + j * 8 + 1,none⟩ = some (.int .i64 xl) /\ (wr.alloc (.cells #[.int .i64 xt,.int .i64 xl,.string xx,.string xn,.slice A0 xv.length c0,.slice B0 xa.length d0,.int .i64 (fr : Int),.int .i64 (tu : Int)] 34)).drew.cell? ⟨lb,lo + j * 8 + 2,none⟩ = some (.string xx) /\ (wr.alloc (.cells #[.int .i64 xt,.int .i64 xl,.string xx,.string xn,.slice A0 xv.length c0,.slice B0 xa.length d0,.int .i64 (fr : Int),.int .i64 (tu : Int)] 34)).drew.cell? ⟨lb,lo + j * 8 + 3,none⟩ = some (.string xn) /\ (wr.alloc (.cells #[.int .i64 xt,.int .i64 xl,.string xx,.string xn,.slice A0 xv.length c0,.slice B0 xa.length d0,.int .i64 (fr : Int),.int .i64 (tu : Int)] 34)).drew.cell? ⟨lb,lo + j * 8 + 4,none⟩ = some (.slice xA xv.length xc) /\ (wr.alloc (.cells #[.int .i64 xt,.int .i64 xl,.string xx,.string xn,.slice A0 xv.length c0,.slice B0 xa.length d0,.int .i64 (fr : Int),.int .i64 (tu : Int)] 34)).drew.cell? ⟨lb,lo + j * 8 + 5,none⟩ = some (.slice xB xa.length xd) /\ (wr.alloc (.cells #[.int .i64 xt,.int .i64 xl,.string xx,.string xn,.slice A0 xv.length c0,.slice B0 xa.length d0,.int .i64 (fr : Int),.int .i64 (tu : Int)] 34)).drew.cell? ⟨lb,lo + j * 8 + 6,none⟩ = some (.int .i64 xf) /\ (wr.alloc (.cells #[.int .i64 xt,.int .i64 xl,.string xx,.string xn,.slice A0 xv.length c0,.slice B0 xa.length d0,.int .i64 (fr : Int),.int .i64 (tu : Int)] 34)).drew.cell? ⟨lb,lo + j * 8 + 7,none⟩ = some (.int .i64 xu) /\ wr.heap.size + 1 <= (wr.alloc (.cells #[.int .i64 xt,.int .i64 xl,.string xx,.string xn,.slice A0 xv.length c0,.slice B0 xa.length d0,.int .i64 (fr : Int),.int .i64 (tu : Int)] 34)).drew.heap.size /\ Below (wr.heap.size + 1) (wr.alloc (.cells #[.int .i64 xt,.int .i64 xl,.string xx,.string xn,.slice A0 xv.length c0,.slice B0 xa.length d0,.int .i64 (fr : Int),.int .i64 (tu : Int)] 34)) (wr.alloc (.cells #[.int .i64 xt,.int .i64 xl,.string xx,.string xn,.slice A0 xv.length c0,.slice B0 xa.length d0,.int .i64 (fr : Int),.int .i64 (tu : Int)] 34)).drew):=⟨CB.out.cell 0,CB.out.cell 1,CB.out.cell 2,CB.out.cell 3,CB.out.cell 4,CB.out.cell 5,CB.out.cell 6,CB.out.cell 7,((((Below.refl wr.heap.size wr).alloc (Nat.le_refl _) (.cells #[.int .i64 xt,.int .i64 xl,.string xx,.string xn,.slice A0 xv.length c0,.slice B0 xa.length d0,.int .i64 (fr : Int),.int .i64 (tu : Int)] 34)).cell (p:=⟨lb,lo + j * 8,none⟩) hllb).trans q0),((((Below.refl wr.heap.size wr).alloc (Nat.le_refl _) (.cells #[.int .i64 xt,.int .i64 xl,.string xx,.string xn,.slice A0 xv.length c0,.slice B0 xa.length d0,.int .i64 (fr : Int),.int .i64 (tu : Int)] 34)).cell (p:=⟨lb,lo + j * 8 + 1,none⟩) hllb).trans q1),((((Below.refl wr.heap.size wr).alloc (Nat.le_refl _) (.cells #[.int .i64 xt,.int .i64 xl,.string xx,.string xn,.slice A0 xv.length c0,.slice B0 xa.length d0,.int .i64 (fr : Int),.int .i64 (tu : Int)] 34)).cell (p:=⟨lb,lo + j * 8 + 2,none⟩) hllb).trans q2),((((Below.refl wr.heap.size wr).alloc (Nat.le_refl _) (.cells #[.int .i64 xt,.int .i64 xl,.string xx,.string xn,.slice A0 xv.length c0,.slice B0 xa.length d0,.int .i64 (fr : Int),.int .i64 (tu : Int)] 34)).cell (p:=⟨lb,lo + j * 8 + 3,none⟩) hllb).trans q3),((((Below.refl wr.heap.size wr).alloc (Nat.le_refl _) (.cells #[.int .i64 xt,.int .i64 xl,.string xx,.string xn,.slice A0 xv.length c0,.slice B0 xa.length d0,.int .i64 (fr : Int),.int .i64 (tu : Int)] 34)).cell (p:=⟨lb,lo + j * 8 + 4,none⟩) hllb).trans q4),((((Below.refl wr.heap.size wr).alloc (Nat.le_refl _) (.cells #[.int .i64 xt,.int .i64 xl,.string xx,.string xn,.slice A0 xv.length c0,.slice B0 xa.length d0,.int .i64 (fr : Int),.int .i64 (tu : Int)] 34)).cell (p:=⟨lb,lo + j * 8 + 5,none⟩) hllb).trans q5),((((Below.refl wr.heap.size wr).alloc (Nat.le_refl _) (.cells #[.int .i64 xt,.int .i64 xl,.string xx,.string xn,.slice A0 xv.length c0,.slice B0 xa.length d0,.int .i64 (fr : Int),.int .i64 (tu : Int)] 34)).cell (p:=⟨lb,lo + j * 8 + 6,none⟩) hllb).trans q6),((((Below.refl wr.heap.size wr).alloc (Nat.le_refl _) (.cells #[.int .i64 xt,.int .i64 xl,.string xx,.string xn,.slice A0 xv.length c0,.slice B0 xa.length d0,.int .i64 (fr : Int),.int .i64 (tu : Int)] 34)).cell (p:=⟨lb,lo + j * 8 + 7,none⟩) hllb).trans q7),Nat.le_of_eq hz1.symm,(Below.refl _ _).drew⟩
   have HQ:=hid (fun W (q : W.cell? ⟨wr.heap.size,0,none⟩ = some (.int .i64 xt) /\ W.cell? ⟨wr.heap.size,1,none⟩ = some (.int .i64 xl) /\ W.cell? ⟨wr.heap.size,2,none⟩ = some (.string xx) /\ W.cell? ⟨wr.heap.size,3,none⟩ = some (.string xn) /\ W.cell? ⟨wr.heap.size,4,none⟩ = some (.slice A0 xv.length c0) /\ W.cell? ⟨wr.heap.size,5,none⟩ = some (.slice B0 xa.length d0) /\ W.cell? ⟨wr.heap.size,6,none⟩ = some (.int .i64 (fr : Int)) /\ W.cell? ⟨wr.heap.size,7,none⟩ = some (.int .i64 (tu : Int)) /\ W.cell? ⟨lb,lo + j * 8,none⟩ = some (.int .i64 xt) /\ W.cell? ⟨lb,lo + j * 8 + 1,none⟩ = some (.int .i64 xl) /\ W.cell? ⟨lb,lo + j * 8 + 2,none⟩ = some (.string xx) /\ W.cell? ⟨lb,lo + j * 8 + 3,none⟩ = some (.string xn) /\ W.cell? ⟨lb,lo + j * 8 + 4,none⟩ = some (.slice xA xv.length xc) /\ W.cell? ⟨lb,lo + j * 8 + 5,none⟩ = some (.slice xB xa.length xd) /\ W.cell? ⟨lb,lo + j * 8 + 6,none⟩ = some (.int .i64 xf) /\ W.cell? ⟨lb,lo + j * 8 + 7,none⟩ = some (.int .i64 xu) /\ wr.heap.size + 1 <= W.heap.size /\ Below (wr.heap.size + 1) (wr.alloc (.cells #[.int .i64 xt,.int .i64 xl,.string xx,.string xn,.slice A0 xv.length c0,.slice B0 xa.length d0,.int .i64 (fr : Int),.int .i64 (tu : Int)] 34)) W)=>HSE.out W ((HC.out.alloc HC.out.size (.cells #[.int .i64 xt,.int .i64 xl,.string xx,.string xn,.slice A0 xv.length c0,.slice B0 xa.length d0,.int .i64 (fr : Int),.int .i64 (tu : Int)] 34)).trans (q.2.2.2.2.2.2.2.2.2.2.2.2.2.2.2.2.2.mono (by have:=HC.out.size; omega))))
   have HBa:=hid (HB.out.alloc HB.out.size (.cells #[.int .i64 xt,.int .i64 xl,.string xx,.string xn,.slice A0 xv.length c0,.slice B0 xa.length d0,.int .i64 (fr : Int),.int .i64 (tu : Int)] 34))
   have HCa:=hid (HC.out.alloc HC.out.size (.cells #[.int .i64 xt,.int .i64 xl,.string xx,.string xn,.slice A0 xv.length c0,.slice B0 xa.length d0,.int .i64 (fr : Int),.int .i64 (tu : Int)] 34))
   have hB5:=HB5
   clear CB q0 q1 q2 q3 q4 q5 q6 q7 hz1
   go_wp2_with fail
   go_region_held3 (fun w'=>w'.cell? ⟨wr.heap.size,0,none⟩ = some (.int .i64 xt) /\ w'.cell? ⟨wr.heap.size,1,none⟩ = some (.int .i64 xl) /\ w'.cell? ⟨wr.heap.size,2,none⟩ = some (.string xx) /\ w'.cell? ⟨wr.heap.size,3,none⟩ = some (.string xn) /\ w'.cell? ⟨wr.heap.size,4,none⟩ = some (.slice A0 xv.length c0) /\ w'.cell? ⟨wr.heap.size,5,none⟩ = some (.slice B0 xa.length d0) /\ w'.cell? ⟨wr.heap.size,6,none⟩ = some (.int .i64 (fr : Int)) /\ w'.cell? ⟨wr.heap.size,7,none⟩ = some (.int .i64 (tu : Int)) /\ w'.cell? ⟨lb,lo + j * 8,none⟩ = some (.int .i64 xt) /\ w'.cell? ⟨lb,lo + j * 8 + 1,none⟩ = some (.int .i64 xl) /\ w'.cell? ⟨lb,lo + j * 8 + 2,none⟩ = some (.string xx) /\ w'.cell? ⟨lb,lo + j * 8 + 3,none⟩ = some (.string xn) /\ w'.cell? ⟨lb,lo + j * 8 + 4,none⟩ = some (.slice xA xv.length xc) /\ w'.cell? ⟨lb,lo + j * 8 + 5,none⟩ = some (.slice xB xa.length xd) /\ w'.cell? ⟨lb,lo + j * 8 + 6,none⟩ = some (.int .i64 xf) /\ w'.cell? ⟨lb,lo + j * 8 + 7,none⟩ = some (.int .i64 xu) /\ wr.heap.size + 1 <= w'.heap.size /\ Below (wr.heap.size + 1) (wr.alloc (.cells #[.int .i64 xt,.int .i64 xl,.string xx,.string xn,.slice A0 xv.length c0,.slice B0 xa.length d0,.int .i64 (fr : Int),.int .i64 (tu : Int)] 34)) w')
    (first | (exact HKp.out _ _ (by assumption) (by assumption)) | (exact HS0.out) | assumption | go_keep)
    (first | (go_at_call 12; (with_reducible refine (HQ.out _ (by assumption)).mono ?_); rintro e wa ⟨rfl,hba⟩))
   rename_i hmE
   have HBE:=hid (HBa.out.trans (hmE.2.2.2.2.2.2.2.2.2.2.2.2.2.2.2.2.2.mono (by have:=HB.out.size; omega)))
   have HCE:=hid (HCa.out.trans (hmE.2.2.2.2.2.2.2.2.2.2.2.2.2.2.2.2.2.mono (by have:=HC.out.size; omega)))
   clear hmE
   go_wp2
   go_roundw
   case rel=>exact ⟨j + 1,by go_num,hlt,hid HBE.out,hid HCE.out⟩
   case measure=>simp [intOf]; omega
  ·obtain rfl : j = l.length:=by omega
   have d1 : decide ((l.length : Int) < (l.length : Int)) = false:=decide_eq_false (by omega)
   go_wp2
   go_ret
   exact ⟨rfl,HB.out⟩
end Go.Proofs.YtgdkpamlkpncgaaGreatDoor
