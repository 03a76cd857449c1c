/-
  Several texts put together (part 23): what the law and the program call, walked; their contracts.
-/
import Derived.Test.YtgdkpamlkpncgaaGreatDoorR20
import Derived.Test.YtgdkpamlkpncgaaGreatDoorR21
import Derived.Test.YtgdkpamlkpncgaaGreatDoorR8
import Derived.Test.YtgdkpamlkpncgaaGreatDoorR19
import Derived.Test.YtgdkpamlkpncgaaGreatDoorR9
import Derived.Test.YtgdkpamlkpncgaaGreatDoorR22
namespace Go.Proofs.YtgdkpamlkpncgaaGreatDoor
open Go.RowKit
set_option linter.unusedVariables false
set_option linter.unusedSimpArgs false
theorem decodeL_drop (s : ByteArray) (pos : Nat) (h : pos < s.size) : Lib.decodeL (s.data.toList.drop pos) = Utf8.decode s pos:=by
 have h1:=Lib.decodeGo_extract s pos h
 rw [<- extract_drop s pos]
 have hz : (s.extract pos s.size).size ≠ 0:=by simp; omega
 unfold Lib.decodeGo at h1
 rw [if_neg hz] at h1
 unfold Lib.decodeL
 rw [<- h1]
theorem app_data (a b : ByteArray) : (a ++ b).data.toList = a.data.toList ++ b.data.toList:=by simp
theorem drop_len (l : List UInt8) (hne : l ≠ []) : (l.drop (Lib.decodeL l).2).length < l.length:=by
 have h1:=decodeL_pos l
 have h2 : 0 < l.length:=List.length_pos_iff.2 hne
 rw [List.length_drop]; omega
def unqL : Nat -> List UInt8 -> Nat -> Nat -> List UInt8 -> Option (List UInt8 × Nat)
 | 0,_,_,_,_=>none
 | f + 1,l,pos,next,acc =>
  if l = [] then none
  else if pos < next then unqL f (l.drop (Lib.decodeL l).2) (pos + (Lib.decodeL l).2) next acc
   else if (Lib.decodeL l).1 = 34 then some (acc,pos + 1)
   else if (Lib.decodeL l).1 = 10 then none
   else if (Lib.decodeL l).1 = 92 then
    if (escV l).2 = 0 then none
    else unqL f (l.drop (Lib.decodeL l).2) (pos + (Lib.decodeL l).2) (pos + (escV l).2) (acc ++ Lib.encodeRune (escV l).1)
   else unqL f (l.drop (Lib.decodeL l).2) (pos + (Lib.decodeL l).2) next (acc ++ Lib.encodeRune (Lib.decodeL l).1)
theorem unqFrom_L (s : ByteArray) : ∀ f pos next acc,unqFrom s f pos next acc = unqL f (s.data.toList.drop pos) pos next acc
 | 0,_,_,_=>rfl
 | f + 1,pos,next,acc=>by
  by_cases hp : pos < s.size
  ·have hne : s.data.toList.drop pos ≠ []:=by
    intro e
    have h1:=congrArg List.length e
    rw [List.length_drop,size_data,List.length_nil] at h1
    omega
   have hdl:=decodeL_drop s pos hp
   rw [unqFrom,if_pos hp,unqL,if_neg hne,hdl,List.drop_drop,unqFrom_L s f,unqFrom_L s f,unqFrom_L s f]
  ·rw [unqFrom_end s _ _ _ _ hp,List.drop_eq_nil_of_le (by rw [size_data]; omega)]
   rw [unqL,if_pos rfl]
theorem dec_ascii (c : UInt8) (m : List UInt8) (h : c.toNat < 128) : Lib.decodeL (c :: m) = (c.toNat,1):=by
 rw [Lib.decodeL_N]
 simp only [List.getD_cons_zero]
 unfold Lib.decodeN
 rw [if_pos h]
theorem unq_skip (f : Nat) (c : UInt8) (m : List UInt8) (h : c.toNat < 128) (pos next : Nat) (acc : List UInt8) (hp : pos < next) : unqL (f + 1) (c :: m) pos next acc = unqL f m (pos + 1) next acc:=by
 rw [unqL,if_neg (by simp),if_pos hp,dec_ascii c m h]
 rfl
theorem hexC_ascii : ∀ i : Fin 16,(hexC i.val).toNat < 128 /\ (hexV (hexC i.val)).1 = (i.val : Int) /\ (hexV (hexC i.val)).2 = true:=by decide
theorem hexC_at (x : Nat) (h : x < 16) : (hexC x).toNat < 128 /\ (hexV (hexC x)).1 = (x : Int) /\ (hexV (hexC x)).2 = true:=hexC_ascii ⟨x,h⟩
theorem runeOk_small (r : Nat) (h : r < 128) : runeOk (r : Int) = (r : Int):=by
 unfold runeOk
 rw [if_pos]
 unfold Lib.validRune
 rw [decide_eq_true_eq]
 left
 omega
theorem escV_control (r : Nat) (h : r < 128) (m : List UInt8) : escV ([92,117,48,48,hexC (r / 16),hexC (r % 16)] ++ m) = ((r : Int),6):=by
 obtain ⟨a1,a2,a3⟩:=hexC_at (r / 16) (by omega)
 obtain ⟨b1,b2,b3⟩:=hexC_at (r % 16) (by omega)
 have hn : numV (92 :: 117 :: 48 :: 48 :: hexC (r / 16) :: hexC (r % 16) :: m) 4 = ((r : Int),6):=by
  unfold numV
  have hq : ((92 :: 117 :: 48 :: 48 :: hexC (r / 16) :: hexC (r % 16) :: m : List UInt8).drop 2).take 4 = [48,48,hexC (r / 16),hexC (r % 16)]:=rfl
  rw [hq,if_pos ⟨by simp,by simp only [List.all_cons,List.all_nil,a3,b3]; rfl⟩]
  have hx : hexN [48,48,hexC (r / 16),hexC (r % 16)] = (r : Int):=by
   unfold hexN
   simp only [List.foldl_cons,List.foldl_nil]
   have e0 : (hexV 48).1 = 0:=by decide
   rw [e0,a2,b2]
   omega
  rw [hx,runeOk_small r h]
 unfold escV
 rw [if_neg (by simp)]
 have e1 : ([92,117,48,48,hexC (r / 16),hexC (r % 16)] ++ m).getD 1 0 = 117:=rfl
 rw [e1,if_neg (by decide),if_pos rfl]
 exact hn
theorem escV_pair (c : UInt8) (h : c = 34 ∨ c = 92) (m : List UInt8) : escV (92 :: c :: m) = ((c.toNat : Int),2):=by
 unfold escV
 rw [if_neg (by simp)]
 have e1 : (92 :: c :: m : List UInt8).getD 1 0 = c:=rfl
 rw [e1,if_pos h]
theorem unq_piece (r : Nat) (hok : okRune r) (f : Nat) (m : List UInt8) (pos next : Nat) (acc : List UInt8) (hn : next <= pos) :
  ∃ next',next' <= pos + (quoteR r).length /\ unqL (f + (quoteR r).length) (quoteR r ++ m) pos next acc = unqL (f + ((quoteR r).length - (if r = 34 ∨ r = 92 then 2 else if r < 32 ∨ r = 127 then 6 else 1))) m (pos + (quoteR r).length) next' (acc ++ Lib.encodeRune (r : Int)):=by
 by_cases h1 : r = 34 ∨ r = 92
 ·have hc : Lib.encodeRune (r : Int) = [UInt8.ofNat r]:=by rcases h1 with rfl | rfl <;> kernel_rfl
  have hq : quoteR r = [92,UInt8.ofNat r]:=by unfold quoteR; rw [if_pos h1,hc]
  rw [hq,if_pos h1]
  refine ⟨pos + 2,Nat.le_refl _,?_⟩
  have hcc : UInt8.ofNat r = 34 ∨ UInt8.ofNat r = 92:=by rcases h1 with rfl | rfl <;> decide
  have hcn : ((UInt8.ofNat r).toNat : Int) = (r : Int):=by rcases h1 with rfl | rfl <;> decide
  have hca : (UInt8.ofNat r).toNat < 128:=by rcases h1 with rfl | rfl <;> decide
  show unqL (f + 1 + 1) (92 :: UInt8.ofNat r :: m) pos next acc = unqL (f + 0) m (pos + 2) (pos + 2) _
  rw [unqL,if_neg (by simp),if_neg (by omega),dec_ascii 92 _ (by decide),if_neg (by decide),if_neg (by decide),if_pos (by decide),escV_pair _ hcc,if_neg (fun h=>absurd (show (2 : Nat) = 0 from h) (by decide))]
  show unqL (f + 1) (UInt8.ofNat r :: m) (pos + 1) (pos + 2) (acc ++ Lib.encodeRune ((UInt8.ofNat r).toNat : Int)) = _
  rw [unq_skip f _ m hca _ _ _ (by omega),hcn]
  rfl
 ·rw [if_neg h1]
  by_cases h2 : r < 32 ∨ r = 127
  ·have hq : quoteR r = [92,117,48,48,hexC (r / 16),hexC (r % 16)]:=by unfold quoteR; rw [if_neg h1,if_pos h2]
   have hr : r < 128:=by omega
   rw [hq,if_pos h2]
   refine ⟨pos + 6,Nat.le_refl _,?_⟩
   have he:=escV_control r hr m
   obtain ⟨a1, -⟩:=hexC_at (r / 16) (by omega)
   obtain ⟨b1, -⟩:=hexC_at (r % 16) (by omega)
   show unqL (f + 5 + 1) ([92,117,48,48,hexC (r / 16),hexC (r % 16)] ++ m) pos next acc = unqL (f + 0) m (pos + 6) (pos + 6) _
   have hd : Lib.decodeL ([92,117,48,48,hexC (r / 16),hexC (r % 16)] ++ m) = (92,1):=dec_ascii 92 _ (by decide)
   rw [unqL,if_neg (by simp),if_neg (by omega),hd,if_neg (by decide),if_neg (by decide),if_pos rfl,he,if_neg (fun h=>absurd (show (6 : Nat) = 0 from h) (by decide))]
   show unqL (f + 4 + 1) (117 :: 48 :: 48 :: hexC (r / 16) :: hexC (r % 16) :: m) (pos + 1) (pos + 6) (acc ++ Lib.encodeRune (r : Int)) = _
   rw [unq_skip _ _ _ (by decide) _ _ _ (by omega)]
   show unqL (f + 3 + 1) _ _ _ _ = _
   rw [unq_skip _ _ _ (by decide) _ _ _ (by omega)]
   show unqL (f + 2 + 1) _ _ _ _ = _
   rw [unq_skip _ _ _ (by decide) _ _ _ (by omega)]
   show unqL (f + 1 + 1) _ _ _ _ = _
   rw [unq_skip _ _ _ a1 _ _ _ (by omega)]
   rw [unq_skip _ _ _ b1 _ _ _ (by omega)]
   rfl
  ·have hq : quoteR r = Lib.encodeRune (r : Int):=by unfold quoteR; rw [if_neg h1,if_neg h2]
   have hlen:=enc_len (r : Int)
   rw [hq,if_neg h2]
   refine ⟨next,by omega,?_⟩
   have e : f + (Lib.encodeRune (r : Int)).length = (f + ((Lib.encodeRune (r : Int)).length - 1)) + 1:=by omega
   rw [e,unqL,if_neg (enc_ne _ _),if_neg (by omega),dec_enc r hok m]
   dsimp only
   rw [if_neg (by omega),if_neg (by omega),if_neg (by omega),List.drop_left]
def quoteL : Nat -> List UInt8 -> List UInt8
 | 0,_=>[]
 | f + 1,l=>if l = [] then [] else quoteR (Lib.decodeL l).1 ++ quoteL f (l.drop (Lib.decodeL l).2)
theorem quoteFrom_L (s : ByteArray) : ∀ f pos,quoteFrom s f pos = quoteL f (s.data.toList.drop pos)
 | 0,_=>rfl
 | f + 1,pos=>by
  by_cases hp : pos < s.size
  ·have hne : s.data.toList.drop pos ≠ []:=by
    intro e
    have h1:=congrArg List.length e
    rw [List.length_drop,size_data,List.length_nil] at h1
    omega
   rw [quoteFrom,if_pos hp,quoteL,if_neg hne,decodeL_drop s pos hp,List.drop_drop,quoteFrom_L s f]
  ·rw [quoteFrom_end s _ _ hp,List.drop_eq_nil_of_le (by rw [size_data]; omega)]
   rw [quoteL,if_pos rfl]
theorem unq_quote (more : List UInt8) : ∀ (k : Nat) (l : List UInt8),l.length <= k -> Lib.validD l = true -> ∀ f pos next acc,next <= pos -> (quoteL k l).length + 1 <= f ->
  unqL f (quoteL k l ++ 34 :: more) pos next acc = some (acc ++ l,pos + (quoteL k l).length + 1)
 | 0,l,hk,_,f,pos,next,acc,hn,hf=>by
  have : l = []:=List.eq_nil_of_length_eq_zero (by omega)
  subst this
  obtain ⟨f,rfl⟩ : ∃ f',f = f' + 1:=⟨f - 1,by simp [quoteL] at hf; omega⟩
  show unqL (f + 1) (34 :: more) pos next acc = _
  rw [unqL,if_neg (by simp),if_neg (by omega),dec_ascii 34 _ (by decide),if_pos (by decide)]
  simp [quoteL]
 | k + 1,l,hk,hs,f,pos,next,acc,hn,hf=>by
  by_cases hne : l = []
  ·subst hne
   obtain ⟨f,rfl⟩ : ∃ f',f = f' + 1:=⟨f - 1,by omega⟩
   have hq : quoteL (k + 1) ([] : List UInt8) = []:=by rw [quoteL,if_pos rfl]
   rw [hq]
   show unqL (f + 1) (34 :: more) pos next acc = _
   rw [unqL,if_neg (by simp),if_neg (by omega),dec_ascii 34 _ (by decide),if_pos (by decide)]
   simp
  ·have hd:=drop_len l hne
   have hw:=decodeL_pos l
   rw [Lib.validD_step l hne] at hs
   by_cases hbad : (Lib.decodeL l).1 = 65533 /\ (Lib.decodeL l).2 = 1
   ·rw [if_pos hbad] at hs; cases hs
   ·rw [if_neg hbad] at hs
    have hs':=hs
    have he:=Lib.encode_decode l hne hbad
    have hq : quoteL (k + 1) l = quoteR (Lib.decodeL l).1 ++ quoteL k (l.drop (Lib.decodeL l).2):=by rw [quoteL,if_neg hne]
    rw [hq,List.length_append] at hf
    rw [hq]
    obtain ⟨next',hn',hp⟩:=unq_piece (Lib.decodeL l).1 (decodeL_ok l) (f - (quoteR (Lib.decodeL l).1).length) (quoteL k (l.drop (Lib.decodeL l).2) ++ 34 :: more) pos next acc hn
    rw [Nat.sub_add_cancel (by omega)] at hp
    rw [List.append_assoc,hp,unq_quote more k _ (by omega) hs' _ _ _ _ hn' (by omega),List.length_append,List.append_assoc,he,List.take_append_drop]
    congr 2
    omega
theorem unq_all (s more : ByteArray) (h : Lib.validD s.data.toList = true) : unqAll (⟨(quoteAll s).toArray⟩ ++ more) = some (s.data.toList,(quoteAll s).length):=by
 have hq : quoteAll s = 34 :: (quoteL s.size s.data.toList ++ [34]):=by
  unfold quoteAll
  rw [quoteFrom_L,List.drop_zero]
 have hdat : ((⟨(quoteAll s).toArray⟩ : ByteArray) ++ more).data.toList = 34 :: (quoteL s.size s.data.toList ++ 34 :: more.data.toList):=by
  rw [app_data,hq]
  simp
 have hsz : ((⟨(quoteAll s).toArray⟩ : ByteArray) ++ more).size = (quoteL s.size s.data.toList).length + 2 + more.size:=by
  rw [<- size_data,hdat]
  simp
  omega
 unfold unqAll
 have hpre : Lib.hasPrefix ((⟨(quoteAll s).toArray⟩ : ByteArray) ++ more).data.toList [34] = true:=by
  rw [hdat]
  unfold Lib.hasPrefix
  simp [List.isPrefixOf]
 rw [if_pos hpre,unqFrom_L,List.drop_zero,hdat,hsz]
 have e : (quoteL s.size s.data.toList).length + 2 + more.size = ((quoteL s.size s.data.toList).length + 1 + more.size) + 1:=by omega
 rw [e,unq_skip _ 34 _ (by decide) _ _ _ (by omega)]
 rw [unq_quote more.data.toList s.size s.data.toList (by rw [size_data]; exact Nat.le_refl _) h _ _ _ _ (Nat.le_refl _) (by omega),hq]
 simp
 omega
theorem unq_quoted (t : ByteArray) (R : List UInt8) (hv : validB t = true) : unqAll (mkB (quoteAll t ++ R)) = some (t.data.toList,(quoteAll t).length):=by
 have e : mkB (quoteAll t ++ R) = (⟨(quoteAll t).toArray⟩ : ByteArray) ++ mkB R:=by
  apply bytes_eq
  rw [app_data]
  simp [mkB]
 rw [e]
 exact unq_all t (mkB R) hv
theorem emE0 : emp E0 = true:=by kernel_rfl
theorem name_emp {n : ByteArray} (h : isNameV n = true) : emp n = false:=by
 obtain ⟨c,r,e,_⟩:=name_form h
 unfold emp
 rw [Lib.toList_data,e]
 rfl
theorem bl_bl (s : ByteArray) (i : Nat) : bl s (bl s i) = bl s i:=by
 by_cases h : bl s i < s.size
 ·have hs : blB (at0 s.data.toList (bl s i)) = false:=behN_stop blB s.data.toList i (by rw [size_data]; exact h)
  have h2 : bl s i < s.data.toList.length:=by rw [size_data]; exact h
  rw [at0_get _ _ h2] at hs
  exact behN_no blB s.data.toList (bl s i) h2 hs
 ·exact behN_end blB s.data.toList (bl s i) (by rw [size_data]; omega)
theorem NoH.mono {p q : UInt8 -> Bool} {R : List UInt8} (h : NoH p R) (hq : ∀ c,q c = true -> p c = true) : NoH q R:=fun c R' e=>by
 have:=h c R' e
 cases hc : q c
 ·rfl
 ·rw [hq c hc] at this; cases this
theorem Sx.isNo {s : ByteArray} {i : Nat} {R : List UInt8} (h : Sx s i R) {d : UInt8} (hR : NoH (· == d) R) : Go.Proofs.YtgdkpamlkpncgaaGreatDoor.isAt s i d = false:=by
 cases R with
 | nil=>exact h.isEnd d
 | cons c R=>rw [h.isAt]; exact hR c R rfl
def Fol (R : List UInt8) : Prop:=∃ c R',R = c :: R' /\ (c = 44 ∨ c = 41 ∨ (c = 32 /\ ∃ d R2,R' = d :: R2 /\ (d = 125 ∨ d = 45)))
theorem Fol.brace (R : List UInt8) : Fol (32 :: 125 :: R):=⟨32,_,rfl,.inr (.inr ⟨rfl,_,_,rfl,.inl rfl⟩)⟩
theorem Fol.arrow (R : List UInt8) : Fol (32 :: 45 :: R):=⟨32,_,rfl,.inr (.inr ⟨rfl,_,_,rfl,.inr rfl⟩)⟩
theorem Fol.comma (R : List UInt8) : Fol (44 :: R):=⟨44,_,rfl,.inl rfl⟩
theorem Fol.close (R : List UInt8) : Fol (41 :: R):=⟨41,_,rfl,.inr (.inl rfl)⟩
theorem Fol.noh {R : List UInt8} (h : Fol R) {p : UInt8 -> Bool} (h1 : p 44 = false) (h2 : p 41 = false) (h3 : p 32 = false) : NoH p R:=by
 obtain ⟨c,R',rfl,hc⟩:=h
 refine NoH.cons ?_ _
 rcases hc with rfl | rfl | ⟨rfl,_⟩ <;> assumption
theorem Fol.bl {R : List UInt8} (h : Fol R) {s : ByteArray} {j : Nat} (hs : Sx s j R) : ∃ d R2,Sx s (bl s j) (d :: R2) /\ (d = 44 ∨ d = 41 ∨ d = 125 ∨ d = 45):=by
 obtain ⟨c,R',rfl,hc⟩:=h
 rcases hc with rfl | rfl | ⟨rfl,d,R2,rfl,hd⟩
 ·rw [hs.bl0 (NoH.cons (by decide) _)]; exact ⟨44,R',hs,.inl rfl⟩
 ·rw [hs.bl0 (NoH.cons (by decide) _)]; exact ⟨41,R',hs,.inr (.inl rfl)⟩
 ·have hb : blB d = false:=by rcases hd with rfl | rfl <;> decide
  rw [hs.bl1 (NoH.cons hb _)]
  exact ⟨d,R2,hs.tail,.inr (.inr hd)⟩
theorem Fol.not {R : List UInt8} (h : Fol R) {s : ByteArray} {j : Nat} (hs : Sx s j R) (x : UInt8) (h1 : x ≠ 44) (h2 : x ≠ 41) (h3 : x ≠ 125) (h4 : x ≠ 45) : Go.Proofs.YtgdkpamlkpncgaaGreatDoor.isAt s (Go.Proofs.YtgdkpamlkpncgaaGreatDoor.bl s j) x = false:=by
 obtain ⟨d,R2,hd,hc⟩:=h.bl hs
 rw [hd.isAt]
 rcases hc with rfl | rfl | rfl | rfl
 ·exact beq_eq_false_iff_ne.2 h1.symm
 ·exact beq_eq_false_iff_ne.2 h2.symm
 ·exact beq_eq_false_iff_ne.2 h3.symm
 ·exact beq_eq_false_iff_ne.2 h4.symm
section
variable {s : ByteArray} {i : Nat} {R : List UInt8} {c : UInt8}
theorem quo_yes {t : ByteArray} (h : Sx s i (quoteAll t ++ R)) (hv : validB t = true) : quoS s i = some (.mk 0 t E0 E0 [] none [],i + (quoteAll t).length):=by
 unfold quoS
 rw [h.rest,unq_quoted t R hv]
 dsimp only
 rw [mkB_of]
theorem quo_no (h : Sx s i (c :: R)) (hc : c ≠ 34) : quoS s i = none:=by
 unfold quoS unqAll
 rw [h.rest,if_neg]
 rw [show (mkB (c :: R)).data.toList = c :: R by simp [mkB]]
 simp [Lib.hasPrefix,Ne.symm hc]
theorem var_no (h : Sx s i (c :: R)) (hc : c ≠ 36) : varS s i = none:=by
 unfold varS
 rw [h.isAt,beq_eq_false_iff_ne.2 hc]
 rfl
theorem ter_no (h : Sx s i (c :: R)) (hc : c ≠ 45) : terS s i = none:=by
 unfold terS
 rw [h.isAt,beq_eq_false_iff_ne.2 hc]
 rfl
theorem ref_no {k : Int} (h : Sx s i R) (hc : NoH leB R) : refS k s i = none:=by
 unfold refS
 rw [h.nm0 hc,if_pos rfl]
theorem nest_no {P : Nat -> Res} (hP0 : ∀ i,isAt s i 123 = false -> P i = none) (h : Sx s i (c :: R)) (hc : c ≠ 123) : nestS P i = none:=by
 unfold nestS
 rw [hP0 i (by rw [h.isAt]; exact beq_eq_false_iff_ne.2 hc)]
theorem nam_no (h : Sx s i R) (hc : NoH leB R) : namS s i = none:=by
 unfold namS
 rw [h.nm0 hc,if_pos rfl]
theorem var_yes {n : ByteArray} (h : Sx s i (36 :: (n.data.toList ++ R))) (hn : isNameV n = true) (hR : NoH naB R) : varS s i = some (.mk 2 E0 n E0 [] none [],i + 1 + n.data.toList.length):=by
 obtain ⟨h1,h2,h3⟩:=h.tail.name hn hR
 unfold varS
 rw [h.isAt,h1,h2,decide_eq_true (by omega)]
 rfl
def refT (n a : ByteArray) : List UInt8:=n.data.toList ++ (if emp a then [] else 46 :: a.data.toList)
theorem ref_yes (k : Int) {n a : ByteArray} (h : Sx s i (refT n a ++ R)) (hn : isNameV n = true) (ha : a = E0 ∨ isNameV a = true) (hR : NoH naB R) (hR2 : NoH (· == 46) R) : refS k s i = some (.mk k E0 n a [] none [],i + (refT n a).length):=by
 unfold refT at h ⊢
 rcases ha with rfl | ha
 ·rw [emE0,if_pos rfl,List.append_nil] at h ⊢
  obtain ⟨h1,h2,h3⟩:=h.name hn hR
  unfold refS
  rw [h1,if_neg (by omega),Sx.isNo (h.app) hR2,h2]
  rfl
 ·rw [name_emp ha,if_neg (by simp),List.append_assoc,List.cons_append] at h
  rw [name_emp ha,if_neg (by simp)]
  obtain ⟨h1,h2,h3⟩:=h.name hn (NoH.cons (by decide) _)
  have h4:=h.app
  obtain ⟨g1,g2,g3⟩:=h4.tail.name ha hR
  unfold refS
  rw [h1,if_neg (by omega),h4.isAt,if_pos (by rfl),g1,if_neg (by omega),h2,g2]
  simp
  omega
end
inductive Shp (d : Nat) : EX -> Prop
 | quo (t : ByteArray) (h : validB t = true) : Shp d (.mk 0 t E0 E0 [] none [])
 | num (t : ByteArray) (h : isNum t = true) : Shp d (.mk 1 t E0 E0 [] none [])
 | var (n : ByteArray) (h : isNameV n = true) : Shp d (.mk 2 E0 n E0 [] none [])
 | ref (n a : ByteArray) (h : isNameV n = true) (ha : a = E0 ∨ isNameV a = true) : Shp d (.mk 3 E0 n a [] none [])
 | ter (n a : ByteArray) (al : List AR) (h : isNameV n = true) (ha : a = E0 ∨ isNameV a = true) (h1 : argNames [] al = true) (h2 : okAs al d = true) : Shp d (.mk 4 E0 n a al none [])
 | fn (n : ByteArray) (al : List AR) (h : isNameV n = true) (hb : bigV n = true) (h1 : argNames [] al = true) (h2 : okAs al d = true) : Shp d (.mk 5 E0 n E0 al none [])
 | nest (e : EX) (h : okE .brc e (d + 1) = true) : Shp d (.mk 6 E0 E0 E0 [] (some e) [])
theorem shp_of {d : Nat} {k : Int} {t n a : ByteArray} {al : List AR} {i : Option EX} {vs : List VA}
  (h : inlP k t n a al.isEmpty i.isNone vs.isEmpty (argNames [] al && okAs al d) (okO .brc i (d + 1)) = true) : Shp d (.mk k t n a al i vs) /\ termAttr (.mk k t n a al i vs) = false:=by
 unfold inlP at h
 unfold termAttr
 split at h
 ·next hk =>
  subst hk
  simp only [Bool.and_eq_true,List.isEmpty_iff,Option.isNone_iff_eq_none] at h
  obtain ⟨h1,⟨⟨⟨h2,h3⟩,h4⟩,h5⟩,h6⟩:=h
  rw [emp_E h2,emp_E h3,h4,h5,h6]
  exact ⟨.quo t h1,rfl⟩
 ·split at h
  ·next hk =>
   subst hk
   simp only [Bool.and_eq_true,List.isEmpty_iff,Option.isNone_iff_eq_none] at h
   obtain ⟨h1,⟨⟨⟨h2,h3⟩,h4⟩,h5⟩,h6⟩:=h
   rw [emp_E h2,emp_E h3,h4,h5,h6]
   exact ⟨.num t h1,rfl⟩
  ·split at h
   ·next hk =>
    subst hk
    simp only [Bool.and_eq_true,List.isEmpty_iff,Option.isNone_iff_eq_none] at h
    obtain ⟨h1,⟨⟨⟨h2,h3⟩,h4⟩,h5⟩,h6⟩:=h
    rw [emp_E h2,emp_E h3,h4,h5,h6]
    exact ⟨.var n h1,rfl⟩
   ·split at h
    ·next hk =>
     subst hk
     simp only [Bool.and_eq_true,Bool.or_eq_true,List.isEmpty_iff,Option.isNone_iff_eq_none] at h
     obtain ⟨⟨h1,h2⟩,⟨⟨h3,h4⟩,h5⟩,h6⟩:=h
     rw [emp_E h3,h4,h5,h6]
     exact ⟨.ref n a h1 (h2.imp emp_E id),rfl⟩
    ·split at h
     ·next hk =>
      subst hk
      simp only [Bool.and_eq_true,List.isEmpty_iff,Option.isNone_iff_eq_none] at h
      obtain ⟨⟨h1,h2,h3⟩,⟨⟨h4,h5⟩,h6⟩,h7⟩:=h
      rw [emp_E h4,emp_E h5,h6,h7]
      exact ⟨.ter n E0 al h1 (.inl rfl) h2 h3,by dsimp only; rw [emE0]; rfl⟩
     ·split at h
      ·next hk =>
       subst hk
       simp only [Bool.and_eq_true,List.isEmpty_iff,Option.isNone_iff_eq_none] at h
       obtain ⟨⟨⟨h1,hb⟩,h2,h3⟩,⟨⟨h4,h5⟩,h6⟩,h7⟩:=h
       rw [emp_E h4,emp_E h5,h6,h7]
       exact ⟨.fn n al h1 hb h2 h3,rfl⟩
      ·split at h
       ·next hk =>
        subst hk
        simp only [Bool.and_eq_true,List.isEmpty_iff] at h
        obtain ⟨h1,⟨⟨⟨h2,h3⟩,h4⟩,h5⟩,h6⟩:=h
        rw [emp_E h2,emp_E h3,emp_E h4,h5,h6]
        cases i with
        | none=>rw [okO] at h1; cases h1
        | some e=>rw [okO] at h1; exact ⟨.nest e h1,rfl⟩
       ·cases h
theorem shp_inl {d : Nat} {e : EX} (h : okE .inl e d = true) : Shp d e /\ termAttr e = false:=by
 obtain ⟨k,t,n,a,al,i,vs⟩:=e
 rw [okE] at h
 exact shp_of h
theorem shp_brc {d : Nat} {k : Int} {t n a : ByteArray} {al : List AR} {i : Option EX} {vs : List VA} (hk : k ≠ 7) (h : okE .brc (.mk k t n a al i vs) d = true) : d <= 20 /\ Shp d (.mk k t n a al i vs) /\ termAttr (.mk k t n a al i vs) = false:=by
 rw [okE] at h
 simp only [if_neg hk,Bool.and_eq_true,decide_eq_true_eq] at h
 exact ⟨h.1,shp_of h.2⟩
theorem shp_ask {d : Nat} {e : EX} (h : okE .ask e d = true) : Shp d e /\ mayAsk e = true:=by
 obtain ⟨k,t,n,a,al,i,vs⟩:=e
 rw [okE] at h
 try dsimp only at h
 split at h
 ·next hk =>
  subst hk
  rw [Bool.and_eq_true] at h
  obtain ⟨h0,h⟩:=h
  unfold inlP at h
  simp only [show ¬ ((4 : Int) = 0) by decide,show ¬ ((4 : Int) = 1) by decide,show ¬ ((4 : Int) = 2) by decide,show ¬ ((4 : Int) = 3) by decide,if_false,if_true,Bool.and_eq_true,List.isEmpty_iff,Option.isNone_iff_eq_none] at h
  obtain ⟨⟨h1,h2,h3⟩,⟨⟨h4,h5⟩,h6⟩,h7⟩:=h
  rw [emp_E h4,h6,h7]
  refine ⟨.ter n a al h1 (.inr h0) h2 h3,?_⟩
  unfold mayAsk termAttr
  dsimp only
  rw [name_emp h0]
  rfl
 ·split at h
  ·next hk =>
   refine ⟨(shp_of h).1,?_⟩
   unfold mayAsk
   dsimp only
   rw [decide_eq_true hk]
   rfl
  ·cases h
structure Sn (s : ByteArray) : Prop where
 ok : Lib.validD s.data.toList = true
 cr : ∀ c ∈ s.data.toList,c ≠ 13
theorem Sn.of {s : ByteArray} (h : textOk s = true) : Sn s:=by
 unfold textOk at h
 rw [Bool.and_eq_true,Bool.and_eq_true,Bool.not_eq_true'] at h
 obtain ⟨⟨h1,h2⟩,_⟩:=h
 rw [<- valid_sig] at h1
 refine ⟨h1,fun c hc e=>?_⟩
 rw [List.any_eq_false] at h2
 exact h2 c hc (by rw [e]; rfl)
structure TxOk (l : List UInt8) : Prop where
 ok : Lib.validD l = true
 sg : ∀ c ∈ l,c ≠ 13 /\ c ≠ 123 /\ c ≠ 125
theorem TxOk.nil : TxOk []:=⟨rfl,fun c hc=>by cases hc⟩
theorem TxOk.append {a b : List UInt8} (h : TxOk a) (g : TxOk b) : TxOk (a ++ b):=⟨valid_two h.ok g.ok,fun c hc=>by
 rcases List.mem_append.1 hc with hc | hc
 ·exact h.sg c hc
 ·exact g.sg c hc⟩
theorem valid_rep (c : UInt8) (hc : c.toNat < 128) : ∀ n,Lib.validD (List.replicate n c) = true
 | 0=>rfl
 | n + 1=>by rw [List.replicate_succ,Lib.validD_cons _ _ hc]; exact valid_rep c hc n
theorem TxOk.rep (c : UInt8) (hc : c.toNat < 128) (h : c ≠ 13 /\ c ≠ 123 /\ c ≠ 125) (n : Nat) : TxOk (List.replicate n c):=⟨valid_rep c hc n,fun x hx=>by rw [List.eq_of_mem_replicate hx]; exact h⟩
def ElOk : EL -> Prop
 | .mk t none=>TxOk t.data.toList /\ t.data.toList ≠ [] /\ ∀ c ∈ t.data.toList,c ≠ 10
 | .mk t (some _)=>t = E0
def stE : Bool -> List EL -> Bool
 | b,[]=>b
 | _,.mk _ none :: r=>stE true r
 | _,.mk _ (some _) :: r=>stE false r
theorem textsB_app : ∀ (a b : List EL) (be : Bool),textsB be (a ++ b) = (textsB be a && textsB (stE be a) b)
 | [],b,be=>by rw [List.nil_append,textsB,stE,Bool.true_and]
 | .mk t none :: r,b,be=>by rw [List.cons_append,textsB,textsB,stE,textsB_app r b true,Bool.and_assoc,Bool.and_assoc,Bool.and_assoc,Bool.and_assoc,Bool.and_assoc,Bool.and_assoc,Bool.and_assoc]
 | .mk t (some e) :: r,b,be=>by rw [List.cons_append,textsB,textsB,stE,textsB_app r b false,Bool.and_assoc]
theorem stE_app : ∀ (a b : List EL) (be : Bool),stE be (a ++ b) = stE (stE be a) b
 | [],b,be=>rfl
 | .mk t none :: r,b,be=>by rw [List.cons_append,stE,stE,stE_app r b true]
 | .mk t (some e) :: r,b,be=>by rw [List.cons_append,stE,stE,stE_app r b false]
theorem emp_list (X : ByteArray) : emp X = X.data.toList.isEmpty:=by
 rw [emp_size,<- size_data]
 cases X.data.toList <;> simp
theorem textsB_one {l : List UInt8} (h : TxOk l) (hl : l ≠ []) : textsB false [.mk (mkB l) none] = true:=by
 rw [textsB,textsB,emp_list,mkB_dl]
 unfold textB validB
 rw [mkB_dl,h.ok]
 have h1 : l.contains 13 = false:=by
  rw [List.contains_eq_any_beq,List.any_eq_false]
  intro c hc e
  exact (h.sg c hc).1 (beq_iff_eq.1 e).symm
 have h2 : l.contains 123 = false:=by
  rw [List.contains_eq_any_beq,List.any_eq_false]
  intro c hc e
  exact (h.sg c hc).2.1 (beq_iff_eq.1 e).symm
 have h3 : l.contains 125 = false:=by
  rw [List.contains_eq_any_beq,List.any_eq_false]
  intro c hc e
  exact (h.sg c hc).2.2 (beq_iff_eq.1 e).symm
 rw [h1,h2,h3]
 cases l with
 | nil=>exact absurd rfl hl
 | cons a l=>rfl
structure JsOk (b : JS) : Prop where
 txs : textsB false b.1 = true
 st : stE false b.1 = false
 tx : TxOk b.2
theorem JsOk.ends {b : JS} (h : JsOk b) : textsB false (endS b) = true:=by
 unfold endS
 split
 ·exact h.txs
 ·next hn=>rw [textsB_app,h.txs,h.st,textsB_one h.tx hn]; rfl
theorem JsOk.part {b : JS} (h : JsOk b) : ∀ {x : EL},ElOk x -> JsOk (partJ b x)
 | .mk t none,hx=>⟨h.txs,h.st,h.tx.append hx.1⟩
 | .mk t (some e),hx=>by
  obtain rfl : t = E0:=hx
  refine ⟨?_,?_,TxOk.nil⟩
  ·show textsB false (endS b ++ [.mk E0 (some e)]) = true
   rw [textsB_app,h.ends,textsB,textsB,emp_E0]; rfl
  ·show stE false (endS b ++ [.mk E0 (some e)]) = false
   rw [stE_app,stE,stE]
theorem JsOk.parts : ∀ {l : List EL} {b : JS},JsOk b -> (∀ x ∈ l,ElOk x) -> JsOk (l.foldl partJ b)
 | [],b,h,_=>h
 | x :: r,b,h,hl=>by
  rw [List.foldl_cons]
  exact JsOk.parts (h.part (hl x (List.mem_cons_self ..))) (fun y hy=>hl y (List.mem_cons_of_mem _ hy))
theorem JsOk.head {b : JS} (h : JsOk b) (least : Nat) (x : LN) : JsOk (headJ least b x):=by
 unfold headJ
 split
 ·exact h
 ·exact ⟨h.txs,h.st,(h.tx.append (TxOk.rep 10 (by decide) (by decide) _)).append (TxOk.rep 32 (by decide) (by decide) _)⟩
theorem JsOk.line {b : JS} (h : JsOk b) (least : Nat) {x : LN} (hx : ∀ e ∈ x.parts,ElOk e) : JsOk (lineJ least b x):=by
 unfold lineJ
 exact (h.head least x).parts hx
def flatJ (b : JS) : List UInt8:=linesOf 123 b.1 ++ b.2
theorem linesOf_app (c : UInt8) : ∀ a b : List EL,linesOf c (a ++ b) = linesOf c a ++ linesOf c b
 | [],b=>by rw [List.nil_append,linesOf,List.nil_append]
 | .mk t none :: r,b=>by rw [List.cons_append,linesOf,linesOf,linesOf_app c r b,List.append_assoc]
 | .mk t (some e) :: r,b=>by rw [List.cons_append,linesOf,linesOf,linesOf_app c r b,List.cons_append]
theorem flat_end (b : JS) : linesOf 123 (endS b) = flatJ b:=by
 unfold endS flatJ
 split
 ·next h=>rw [h,List.append_nil]
 ·rw [linesOf_app,linesOf,linesOf,mkB_dl,List.append_nil]
theorem flat_part (b : JS) : ∀ x : EL,flatJ (partJ b x) = flatJ b ++ linesOf 123 [x]
 | .mk t none=>by
  rw [linesOf,linesOf,List.append_nil]
  show linesOf 123 b.1 ++ (b.2 ++ t.data.toList) = _
  unfold flatJ
  rw [List.append_assoc]
 | .mk t (some e)=>by
  rw [linesOf,linesOf]
  show linesOf 123 (endS b ++ [.mk t (some e)]) ++ [] = _
  rw [linesOf_app,flat_end,linesOf,linesOf,List.append_nil]
theorem flat_parts : ∀ (l : List EL) (b : JS),flatJ (l.foldl partJ b) = flatJ b ++ linesOf 123 l
 | [],b=>by rw [linesOf,List.append_nil]; rfl
 | x :: r,b=>by
  rw [List.foldl_cons,flat_parts r,flat_part,List.append_assoc,<- linesOf_app]
  rfl
theorem lines_ne : ∀ {l : List EL} {be : Bool},textsB be l = true -> l ≠ [] -> linesOf 123 l ≠ []
 | [],_,_,h=>absurd rfl h
 | .mk t none :: r,be,h,_=>by
  rw [textsB] at h
  rw [linesOf]
  intro e
  have e1:=List.append_eq_nil_iff.1 e
  rw [emp_list,e1.1] at h
  simp at h
 | .mk t (some x) :: r,_,_,_=>by rw [linesOf]; exact fun e=>by cases e
theorem JsOk.none {b : JS} (h : JsOk b) : flatJ b = [] ↔ (b.1 = [] /\ b.2 = []):=by
 unfold flatJ
 rw [List.append_eq_nil_iff]
 constructor
 ·rintro ⟨h1,h2⟩
  refine ⟨Classical.byContradiction fun hn=>lines_ne h.txs hn h1,h2⟩
 ·rintro ⟨h1,h2⟩
  exact ⟨by rw [h1,linesOf],h2⟩
theorem flat_head {b : JS} (h : JsOk b) (least : Nat) (x : LN) : flatJ (headJ least b x) = if flatJ b = [] then [] else flatJ b ++ (List.replicate x.feeds 10 ++ List.replicate (x.spaces - least) 32):=by
 unfold headJ
 by_cases hn : flatJ b = []
 ·rw [if_pos (h.none.1 hn),if_pos hn,hn]
 ·rw [if_neg (fun e=>hn (h.none.2 e)),if_neg hn]
  show linesOf 123 b.1 ++ (b.2 ++ _ ++ _) = _
  unfold flatJ
  rw [List.append_assoc,List.append_assoc]
theorem flat_line {b : JS} (h : JsOk b) (least : Nat) (x : LN) : flatJ (lineJ least b x) = (if flatJ b = [] then [] else flatJ b ++ (List.replicate x.feeds 10 ++ List.replicate (x.spaces - least) 32)) ++ linesOf 123 x.parts:=by
 unfold lineJ
 rw [flat_parts,flat_head h]
def goodS (R : List UInt8) : Prop:=(∃ R',R = 10 :: R') ∨ ∃ (p : Nat) (c : UInt8) (R' : List UInt8),R = List.replicate p 32 ++ c :: R' /\ c ≠ 32 /\ c ≠ 10 /\ isMarkB c = false
def GoodL (l : List UInt8) : Prop:=∀ A R,l = A ++ 10 :: R -> goodS R
theorem goodS.append {R : List UInt8} (h : goodS R) (X : List UInt8) : goodS (R ++ X):=by
 rcases h with ⟨R',rfl⟩ | ⟨p,c,R',rfl,h1,h2,h3⟩
 ·exact Or.inl ⟨R' ++ X,rfl⟩
 ·exact Or.inr ⟨p,c,R' ++ X,by rw [List.append_assoc]; rfl,h1,h2,h3⟩
theorem GoodL.no10 {l : List UInt8} (h : ∀ c ∈ l,c ≠ 10) : GoodL l:=fun A R e=>absurd rfl (h 10 (by rw [e]; simp))
theorem GoodL.app {a b : List UInt8} (h : GoodL a) (g : GoodL b) : GoodL (a ++ b):=by
 intro A R e
 rcases List.append_eq_append_iff.1 e with ⟨a',e1,e2⟩ | ⟨c',e1,e2⟩
 ·exact g a' R e2
 ·cases c' with
  | nil =>
   rw [List.nil_append] at e2
   exact g [] R (by rw [List.nil_append]; exact e2.symm)
  | cons x c' =>
   rw [List.cons_append] at e2
   injection e2 with e3 e4
   subst e3
   rw [e4]
   exact (h A c' e1).append b
theorem GoodL.seg {p : Nat} {c : UInt8} {B : List UInt8} (h1 : c ≠ 32) (h2 : c ≠ 10) (h3 : isMarkB c = false) (hB : ∀ x ∈ B,x ≠ 10) : ∀ f,GoodL (List.replicate f 10 ++ (List.replicate p 32 ++ c :: B))
 | 0=>GoodL.no10 (fun x hx=>by
   rw [List.replicate_zero,List.nil_append] at hx
   rcases List.mem_append.1 hx with hx | hx
   ·rw [List.eq_of_mem_replicate hx]; decide
   ·rcases List.mem_cons.1 hx with hx | hx
    ·rw [hx]; exact h2
    ·exact hB x hx)
 | f + 1=>by
  intro A R e
  rw [List.replicate_succ,List.cons_append] at e
  cases A with
  | nil =>
   rw [List.nil_append] at e
   injection e with _ e
   subst e
   cases f with
   | zero=>exact Or.inr ⟨p,c,B,rfl,h1,h2,h3⟩
   | succ f=>exact Or.inl ⟨_,by rw [List.replicate_succ]; rfl⟩
  | cons a A =>
   rw [List.cons_append] at e
   injection e with _ e
   exact GoodL.seg h1 h2 h3 hB f A R e
def Hd0 (l : List UInt8) : Prop:=∀ c B,l = c :: B -> c ≠ 32 /\ c ≠ 10
def NoMk (l : List UInt8) : Prop:=∀ c B,l = c :: B -> isMarkB c = false
def FlushL (l : List UInt8) : Prop:=∃ A c R,l = A ++ 10 :: c :: R /\ c ≠ 32 /\ c ≠ 10
theorem FlushL.append {l : List UInt8} (h : FlushL l) (X : List UInt8) : FlushL (l ++ X):=by
 obtain ⟨A,c,R,rfl,h1,h2⟩:=h
 exact ⟨A,c,R ++ X,by rw [List.append_assoc]; rfl,h1,h2⟩
theorem anyTo_yes {p : Nat -> Bool} {i : Nat} (hp : p i = true) : ∀ {m : Nat},i < m -> anyTo p m = true
 | 0,h=>by omega
 | m + 1,h=>by
  rw [anyTo]
  by_cases he : i = m
  ·rw [<- he,hp,Bool.or_true]
  ·rw [anyTo_yes hp (by omega : i < m)]; rfl
theorem at_mid (A : List UInt8) (c : UInt8) (R : List UInt8) : at0 (A ++ c :: R) A.length = c:=by
 unfold at0
 rw [List.getD_eq_getElem?_getD,List.getElem?_append_right (Nat.le_refl _),Nat.sub_self]
 rfl
theorem at_split {l : List UInt8} {i : Nat} (h : i < l.length) : ∃ A R,l = A ++ at0 l i :: R /\ A.length = i:=by
 refine ⟨l.take i,l.drop (i + 1),?_,by rw [List.length_take]; omega⟩
 rw [at0_get l i h,<- List.drop_eq_getElem_cons h,List.take_append_drop]
theorem behN_mid (A : List UInt8) (p : Nat) (c : UInt8) (R : List UInt8) (hc : c ≠ 32) : behN spB (A ++ (List.replicate p 32 ++ c :: R)) A.length = A.length + p:=by
 unfold behN
 have e1 : (A ++ (List.replicate p 32 ++ c :: R)).drop A.length = List.replicate p 32 ++ c :: R:=by rw [List.drop_left]
 rw [e1]
 have hf : spB c = false:=by
  unfold spB
  refine decide_eq_false fun h=>hc (UInt8.toNat_inj.1 ?_)
  show c.toNat = 32
  omega
 have e2 : ∀ p,(List.replicate p 32 ++ c :: R).takeWhile spB = List.replicate p 32:=by
  intro p
  induction p with
  | zero=>rw [List.replicate_zero,List.nil_append,List.takeWhile_cons,hf]; rfl
  | succ p ih=>rw [List.replicate_succ,List.cons_append,List.takeWhile_cons,show spB 32 = true by decide,if_pos rfl,ih]
 rw [e2,List.length_replicate]
theorem ne32 {c : UInt8} (h : c ≠ 32) : ¬ (c.toNat : Int) = 32:=fun e=>h (UInt8.toNat_inj.1 (by show c.toNat = 32; omega))
theorem ne10 {c : UInt8} (h : c ≠ 10) : ¬ (c.toNat : Int) = 10:=fun e=>h (UInt8.toNat_inj.1 (by show c.toNat = 10; omega))
structure TailOk (x : LN) : Prop where
 els : ∀ e ∈ x.parts,ElOk e
 fd : 1 <= x.feeds
 hd : ∃ c B,linesOf 123 x.parts = c :: B /\ c ≠ 32 /\ c ≠ 10 /\ isMarkB c = false
theorem els_no10 : ∀ {l : List EL},(∀ e ∈ l,ElOk e) -> ∀ c ∈ linesOf 123 l,c ≠ 10
 | [],_,c,hc=>by rw [linesOf] at hc; cases hc
 | .mk t none :: r,h,c,hc=>by
  rw [linesOf] at hc
  rcases List.mem_append.1 hc with hc | hc
  ·exact (h _ (List.mem_cons_self ..)).2.2 c hc
  ·exact els_no10 (fun e he=>h e (List.mem_cons_of_mem _ he)) c hc
 | .mk t (some x) :: r,h,c,hc=>by
  rw [linesOf] at hc
  rcases List.mem_cons.1 hc with hc | hc
  ·rw [hc]; decide
  ·exact els_no10 (fun e he=>h e (List.mem_cons_of_mem _ he)) c hc
structure Jn (least : Nat) (done : List LN) (b : JS) : Prop where
 ok : JsOk b
 hd : Hd0 (flatJ b)
 good : GoodL (flatJ b)
 mkk : NoMk (flatJ b) ∨ (flatJ b ≠ [] /\ (∀ x ∈ done,x.spaces <= least -> FlushL (flatJ b)) /\ (done = [] -> ∀ c ∈ flatJ b,c ≠ 10))
theorem Jn.step {least : Nat} {done : List LN} {b : JS} (h : Jn least done b) {x : LN} (hx : TailOk x) : Jn least (done ++ [x]) (lineJ least b x):=by
 obtain ⟨c,B,hcB,a1,a2,a3⟩:=hx.hd
 have hB : ∀ y ∈ c :: B,y ≠ 10:=by rw [<- hcB]; exact els_no10 hx.els
 have hfl:=flat_line h.ok least x
 by_cases hn : flatJ b = []
 ·rw [if_pos hn,List.nil_append,hcB] at hfl
  refine ⟨h.ok.line least hx.els,?_,?_,Or.inl ?_⟩
  ·rw [hfl]; intro d D e; injection e with e1 _; rw [<- e1]; exact ⟨a1,a2⟩
  ·rw [hfl]; exact GoodL.no10 hB
  ·rw [hfl]; intro d D e; injection e with e1 _; rw [<- e1]; exact a3
 ·rw [if_neg hn,hcB,List.append_assoc,List.append_assoc] at hfl
  have hnew : ∀ d D,flatJ (lineJ least b x) = d :: D -> ∃ D',flatJ b = d :: D':=fun d D e=>by
   rw [hfl] at e
   cases hb : flatJ b with
   | nil=>exact absurd hb hn
   | cons y Y =>
    rw [hb,List.cons_append] at e
    injection e with e1 _
    exact ⟨Y,by rw [e1]⟩
  refine ⟨h.ok.line least hx.els,?_,?_,?_⟩
  ·intro d D e
   obtain ⟨D',e'⟩:=hnew d D e
   exact h.hd d D' e'
  ·rw [hfl]
   exact h.good.app (GoodL.seg a1 a2 a3 (fun y hy=>hB y (List.mem_cons_of_mem _ hy)) x.feeds)
  ·rcases h.mkk with hk | ⟨k1,k2,k3⟩
   ·left
    intro d D e
    obtain ⟨D',e'⟩:=hnew d D e
    exact hk d D' e'
   ·right
    refine ⟨?_,?_,fun e=>?_⟩
    ·rw [hfl]
     exact fun e=>hn (List.append_eq_nil_iff.1 e).1
    ·intro y hy hle
     rcases List.mem_append.1 hy with hy | hy
     ·rw [hfl]; exact (k2 y hy hle).append _
     ·rw [List.mem_singleton] at hy
      subst hy
      obtain ⟨f,hf⟩ : ∃ f,y.feeds = f + 1:=⟨y.feeds - 1,by have:=hx.fd; omega⟩
      rw [show y.spaces - least = 0 by omega,List.replicate_zero,List.nil_append,hf,List.replicate_succ'] at hfl
      exact ⟨flatJ b ++ List.replicate f 10,c,B,by rw [hfl]; simp,a1,a2⟩
    ·exact absurd e (by simp)
inductive SY where
 | ch (c : UInt8)
 | pl (e : EX)
def FL : List EL -> List SY
 | []=>[]
 | .mk t none :: r=>t.data.toList.map .ch ++ FL r
 | .mk _ (some e) :: r=>.pl e :: FL r
def isLf : List SY -> Bool
 | .ch c :: _=>c == 10
 | _=>false
def syT (m : Nat) : List SY -> List UInt8
 | []=>[]
 | .ch c :: r=>if c = 10 /\ isLf r = false then 10 :: (sps m ++ syT m r) else c :: syT m r
 | .pl e :: r=>plT m e ++ syT m r
def toC : SY -> UInt8
 | .ch c=>c
 | .pl _=>123
theorem FL_toC : ∀ l : List EL,(FL l).map toC = linesOf 123 l
 | []=>rfl
 | .mk t none :: r=>by
  rw [FL,linesOf,List.map_append,FL_toC r,List.map_map]
  congr 1
  have : toC ∘ SY.ch = id:=rfl
  rw [this,List.map_id]
 | .mk t (some e) :: r=>by rw [FL,linesOf,List.map_cons,FL_toC r]; rfl
theorem lf_map (t : List UInt8) (X : List SY) (hX : isLf X = false) : isLf (t.map SY.ch ++ X) = (t.head? == some 10):=by
 cases t with
 | nil=>rw [List.map_nil,List.nil_append,hX]; rfl
 | cons c t =>
  show (c == 10) = (some c == some 10)
  rfl
theorem lineG_sy (m : Nat) (X : List SY) (hX : isLf X = false) : ∀ t : List UInt8,lineG (sps m) t ++ syT m X = syT m (t.map SY.ch ++ X)
 | []=>rfl
 | c :: t=>by
  rw [lineG,List.map_cons,List.cons_append,syT,lf_map t X hX,<- lineG_sy m X hX t]
  by_cases h : c = 10
  ·subst h
   by_cases h2 : t.head? = some 10
   ·rw [if_neg (fun x=>x.2 h2),h2,if_neg (by simp)]
    rfl
   ·rw [if_pos ⟨rfl,h2⟩,if_pos ⟨rfl,beq_eq_false_iff_ne.2 h2⟩]
    simp
  ·rw [if_neg (fun x=>h x.1),if_neg (fun x=>h x.1)]
   rfl
theorem es_sy (m : Nat) : ∀ (l : List EL) (b : Bool),textsB b l = true -> esT m l = syT m (FL l) /\ (b = true -> isLf (FL l) = false)
 | [],_,_=>⟨rfl,fun _=>rfl⟩
 | .mk t none :: r,b,h=>by
  rw [textsB] at h
  simp only [Bool.and_eq_true,Bool.not_eq_true'] at h
  obtain ⟨⟨⟨⟨h1,h2⟩,h3⟩,h4⟩,h5⟩:=h
  obtain ⟨g1,g2⟩:=es_sy m r true h5
  refine ⟨?_,fun hb=>by rw [hb] at h4; cases h4⟩
  rw [esT,FL,g1,lineG_sy m _ (g2 rfl)]
 | .mk t (some e) :: r,b,h=>by
  rw [textsB,Bool.and_eq_true] at h
  obtain ⟨g1, -⟩:=es_sy m r false h.2
  refine ⟨?_,fun _=>rfl⟩
  rw [esT,FL,syT,g1]
def SyOk : SY -> Prop
 | .ch c=>c ≠ 123 /\ c ≠ 125
 | .pl _=>True
theorem FL_ok : ∀ (l : List EL) (b : Bool),textsB b l = true -> ∀ x ∈ FL l,SyOk x
 | [],_,_,x,hx=>by cases hx
 | .mk t none :: r,b,h,x,hx=>by
  rw [textsB] at h
  simp only [Bool.and_eq_true,Bool.not_eq_true'] at h
  obtain ⟨⟨⟨⟨h1,h2⟩,h3⟩,h4⟩,h5⟩:=h
  rw [FL] at hx
  rcases List.mem_append.1 hx with hx | hx
  ·obtain ⟨c,hc,rfl⟩:=List.mem_map.1 hx
   rw [Bool.or_eq_false_iff] at h3
   refine ⟨fun e=>?_,fun e=>?_⟩
   ·have:=h3.1; rw [<- Bool.not_eq_true,List.contains_iff_mem] at this; exact this (e ▸ hc)
   ·have:=h3.2; rw [<- Bool.not_eq_true,List.contains_iff_mem] at this; exact this (e ▸ hc)
  ·exact FL_ok r true h5 x hx
 | .mk t (some e) :: r,b,h,x,hx=>by
  rw [textsB,Bool.and_eq_true] at h
  rw [FL] at hx
  rcases List.mem_cons.1 hx with rfl | hx
  ·trivial
  ·exact FL_ok r false h.2 x hx
theorem FL_pl : ∀ (l : List EL) (e : EX),SY.pl e ∈ FL l -> ∃ t,EL.mk t (some e) ∈ l
 | [],e,h=>by cases h
 | .mk t none :: r,e,h=>by
  rw [FL] at h
  rcases List.mem_append.1 h with h | h
  ·obtain ⟨c,_,hc⟩:=List.mem_map.1 h; cases hc
  ·obtain ⟨t',ht⟩:=FL_pl r e h; exact ⟨t',List.mem_cons_of_mem _ ht⟩
 | .mk t (some x) :: r,e,h=>by
  rw [FL] at h
  rcases List.mem_cons.1 h with h | h
  ·cases h; exact ⟨t,List.mem_cons_self ..⟩
  ·obtain ⟨t',ht⟩:=FL_pl r e h; exact ⟨t',List.mem_cons_of_mem _ ht⟩
def symJ (b : JS) : SY -> JS
 | .ch c=>(b.1,b.2 ++ [c])
 | .pl e=>(endS b ++ [.mk E0 (some e)],[])
theorem sym_chars : ∀ (t : List UInt8) (b : JS),(t.map SY.ch).foldl symJ b = (b.1,b.2 ++ t)
 | [],b=>by simp
 | c :: t,b=>by
  rw [List.map_cons,List.foldl_cons,sym_chars t]
  simp [symJ]
theorem sym_rep (c : UInt8) (n : Nat) (b : JS) : (List.replicate n (SY.ch c)).foldl symJ b = (b.1,b.2 ++ List.replicate n c):=by
 rw [<- sym_chars,List.map_replicate]
theorem norm_all : ∀ (l : List EL) (acc : List EL),textsB false l = true -> endS ((FL l).foldl symJ (acc,[])) = acc ++ l
 | [],acc,_=>by
  show endS (acc,[]) = _
  unfold endS
  rw [if_pos rfl,List.append_nil]
 | .mk t none :: [],acc,h=>by
  rw [textsB] at h
  simp only [Bool.and_eq_true,Bool.not_eq_true'] at h
  obtain ⟨⟨⟨⟨h1,h2⟩,h3⟩,h4⟩,h5⟩:=h
  rw [FL,FL,List.append_nil,sym_chars]
  unfold endS
  rw [List.nil_append,if_neg (emp_F h1),mkB_of]
 | .mk t none :: .mk t' none :: r,acc,h=>by
  rw [textsB] at h
  simp only [Bool.and_eq_true,Bool.not_eq_true'] at h
  obtain ⟨⟨⟨⟨h1,h2⟩,h3⟩,h4⟩,h5⟩:=h
  rw [textsB] at h5
  simp at h5
 | .mk t none :: .mk t' (some e) :: r,acc,h=>by
  rw [textsB] at h
  simp only [Bool.and_eq_true,Bool.not_eq_true'] at h
  obtain ⟨⟨⟨⟨h1,h2⟩,h3⟩,h4⟩,h5⟩:=h
  rw [textsB,Bool.and_eq_true] at h5
  rw [FL,FL,List.foldl_append,sym_chars,List.foldl_cons]
  show endS ((FL r).foldl symJ (endS (acc,[] ++ t.data.toList) ++ [.mk E0 (some e)],[])) = _
  rw [norm_all r _ h5.2]
  unfold endS
  rw [List.nil_append,if_neg (emp_F h1),mkB_of,emp_E h5.1]
  simp
 | .mk t (some e) :: r,acc,h=>by
  rw [textsB,Bool.and_eq_true] at h
  rw [FL,List.foldl_cons]
  show endS ((FL r).foldl symJ (endS (acc,[]) ++ [.mk E0 (some e)],[])) = _
  rw [norm_all r _ h.2]
  unfold endS
  rw [if_pos rfl,emp_E h.1]
  simp
theorem sym_some {Y : List SY} (h : Y ≠ []) (b : JS) : ¬ ((Y.foldl symJ b).1 = [] /\ (Y.foldl symJ b).2 = []):=by
 rcases List.eq_nil_or_concat Y with rfl | ⟨Z,x,rfl⟩
 ·exact absurd rfl h
 ·rw [List.concat_eq_append,List.foldl_append,List.foldl_cons,List.foldl_nil]
  cases x with
  | ch c=>intro ⟨_,e⟩; simp [symJ] at e
  | pl e=>intro ⟨e,_⟩; simp [symJ] at e
theorem pl_head (m : Nat) (e : EX) : ∃ T,plT m e = 123 :: T:=by
 obtain ⟨k,t,n,a,al,i,vs⟩:=e
 rw [plT]
 split <;> exact ⟨_,rfl⟩
structure Stp (R : List UInt8) : Prop where
 tx : NoH txB R
 br : NoH (· == 123) R
 nx : ∀ s i,Sx s i R -> nextS s i = none
def PlR (P : Nat -> Res) (s : ByteArray) (m : Nat) (e : EX) : Prop:=∀ i R,Sx s i (plT m e ++ R) -> P i = some (e,i + (plT m e).length)
theorem pl_len (m : Nat) (e : EX) : 0 < (plT m e).length:=by
 obtain ⟨T,h⟩:=pl_head m e
 rw [h,List.length_cons]
 omega
section
variable {P : Nat -> Res} {s : ByteArray} {m : Nat}
theorem line_read : ∀ (n : Nat) (Y : List SY),Y.length <= n -> (∀ x ∈ Y,SyOk x /\ toC x ≠ 10) -> (∀ e,SY.pl e ∈ Y -> PlR P s m e) -> ∀ (acc : List EL) (i : Nat) (R : List UInt8),NoH txB R -> NoH (· == 123) R -> Sx s i (syT m Y ++ R) ->
  ∃ ps,partsS P s acc i = some (acc ++ ps,i + (syT m Y).length) /\ ∀ b,ps.foldl partJ b = Y.foldl symJ b:=by
 intro n
 induction n with
 | zero =>
  intro Y hn hok hpl acc i R hR hR2 h
  have : Y = []:=List.eq_nil_of_length_eq_zero (by omega)
  subst this
  have h0 : Sx s i R:=h
  have e1 : tx s i = i:=Sx.tx (T:=[]) h0 (fun x hx=>by cases hx) hR
  refine ⟨[],?_,fun b=>rfl⟩
  rw [partsS,e1,if_neg (by rw [h0.isNo hR2]; simp)]
  unfold addT
  rw [if_neg (by omega),List.append_nil]
  rfl
 | succ n ih =>
  intro Y hn hok hpl acc i R hR hR2 h
  -- the text ahead of the first place
  have hsp : ∃ (t : List UInt8) (Z : List SY),Y = t.map SY.ch ++ Z /\ (Z = [] ∨ ∃ e Z',Z = .pl e :: Z'):=by
   clear hn hok hpl h
   induction Y with
   | nil=>exact ⟨[],[],rfl,.inl rfl⟩
   | cons x Y ihY =>
    cases x with
    | ch c =>
     obtain ⟨t,Z,e,hz⟩:=ihY
     exact ⟨c :: t,Z,by rw [e]; rfl,hz⟩
    | pl e=>exact ⟨[],.pl e :: Y,rfl,.inr ⟨e,Y,rfl⟩⟩
  obtain ⟨t,Z,hY,hZ⟩:=hsp
  have ht : ∀ c ∈ t,txB c = true:=fun c hc=>by
   have:=hok (.ch c) (by rw [hY]; exact List.mem_append_left _ (List.mem_map_of_mem hc))
   unfold txB
   obtain ⟨⟨a1,a2⟩,a3⟩:=this
   rw [beq_eq_false_iff_ne.2 (show c ≠ 10 from a3),beq_eq_false_iff_ne.2 a1,beq_eq_false_iff_ne.2 a2]
   rfl
  have hsy : ∀ (t : List UInt8) (X : List SY),(∀ c ∈ t,txB c = true) -> syT m (t.map SY.ch ++ X) = t ++ syT m X:=by
   intro t X ht
   induction t with
   | nil=>rfl
   | cons c t iht =>
    have hc : c ≠ 10:=fun e=>by have:=ht c (List.mem_cons_self ..); rw [e] at this; exact absurd this (by decide)
    rw [List.map_cons,List.cons_append,syT,if_neg (fun x=>hc x.1),iht (fun c hc=>ht c (List.mem_cons_of_mem _ hc))]
    rfl
  rcases hZ with rfl | ⟨e,Z',rfl⟩
  ·have hs:=hsy t [] ht
   rw [<- hY] at hs
   rw [hs] at h ⊢
   have h1 : Sx s i (t ++ R):=h.cast (by simp [syT])
   have e1 : tx s i = i + t.length:=h1.tx ht hR
   have h2:=h1.app
   refine ⟨if t = [] then [] else [.mk (mkB t) none],?_,fun b=>?_⟩
   ·rw [partsS,e1,if_neg (by rw [h2.isNo hR2]; simp)]
    unfold addT
    by_cases h0 : t = []
    ·subst h0
     rw [if_neg (by simp),if_pos rfl,List.append_nil]
     rfl
    ·have:=List.length_pos_iff.2 h0
     rw [if_pos (by omega),if_neg h0,h1.ext]
     simp [syT]
   ·rw [hY,List.append_nil]
    by_cases h0 : t = []
    ·subst h0; rfl
    ·rw [if_neg h0,sym_chars]
     show partJ b (.mk (mkB t) none) = _
     unfold partJ
     dsimp only
     rw [show (mkB t).data.toList = t by simp [mkB]]
  ·have hs:=hsy t (.pl e :: Z') ht
   rw [<- hY,syT] at hs
   rw [hs] at h ⊢
   obtain ⟨T,hT⟩:=pl_head m e
   have h1 : Sx s i (t ++ (123 :: (T ++ (syT m Z' ++ R)))):=h.cast (by rw [hT]; simp)
   have e1 : tx s i = i + t.length:=h1.tx ht (NoH.cons (by decide) _)
   have h2:=h1.app
   have h3 : Sx s (i + t.length) (plT m e ++ (syT m Z' ++ R)):=h2.cast (by rw [hT]; simp)
   have hp:=hpl e (by rw [hY]; simp) _ _ h3
   have hl:=pl_len m e
   have h4:=h3.app
   have hlen : Z'.length <= n:=by rw [hY,List.length_append,List.length_cons,List.length_map] at hn; omega
   obtain ⟨ps,g1,g2⟩:=ih Z' hlen (fun x hx=>hok x (by rw [hY]; exact List.mem_append_right _ (List.mem_cons_of_mem _ hx))) (fun e' he'=>hpl e' (by rw [hY]; exact List.mem_append_right _ (List.mem_cons_of_mem _ he'))) (addT s acc i (i + t.length) ++ [.mk E0 (some e)]) _ R hR hR2 h4
   refine ⟨(if t = [] then [] else [.mk (mkB t) none]) ++ .mk E0 (some e) :: ps,?_,fun b=>?_⟩
   ·rw [partsS,e1,h2.isAt,if_pos (by rfl),hp]
    dsimp only
    rw [dif_pos ⟨by omega,h4.1⟩,g1]
    unfold addT
    by_cases h0 : t = []
    ·subst h0
     rw [if_neg (by simp),if_pos rfl]
     simp
     omega
    ·have:=List.length_pos_iff.2 h0
     rw [if_pos (by omega),if_neg h0,h1.ext]
     simp
     omega
   ·rw [hY,List.foldl_append,List.foldl_append,sym_chars,List.foldl_cons,List.foldl_cons,g2]
    congr 1
    by_cases h0 : t = []
    ·subst h0
     simp [partJ,symJ]
    ·rw [if_neg h0,List.foldl_cons,List.foldl_nil]
     unfold partJ symJ
     dsimp only
     rw [show (mkB t).data.toList = t by simp [mkB]]
end
theorem sp_no {c : UInt8} (h : c ≠ 32) : spB c = false:=decide_eq_false (ne32 h)
theorem rep_sp (n : Nat) : ∀ x ∈ List.replicate n (32 : UInt8),spB x = true:=fun x hx=>by rw [List.eq_of_mem_replicate hx]; decide
theorem nl_feeds {s : ByteArray} {c : UInt8} {R : List UInt8} (hc : c ≠ 10) (hc2 : c ≠ 32) : ∀ (k f fr i q : Nat),Sx s i (List.replicate (k + 1) 10 ++ (List.replicate q 32 ++ c :: R)) -> nlS s f fr i = (f + k + 1,i + k + 1,i + k + 1 + q)
 | 0,f,fr,i,q,h=>by
  have h0 : Sx s i (10 :: (List.replicate q 32 ++ c :: R)):=h
  have h1:=h0.tail
  have e1 : sp s (i + 1) = i + 1 + (List.replicate q (32 : UInt8)).length:=h1.sp (rep_sp q) (NoH.cons (sp_no hc2) _)
  have h2:=h1.app
  rw [List.length_replicate] at e1 h2
  rw [nlS,dif_pos (by rw [h0.isAt]; rfl),e1,nlS,dif_neg (by rw [h2.isAt,beq_eq_false_iff_ne.2 hc]; simp)]
 | k + 1,f,fr,i,q,h=>by
  have h0 : Sx s i (10 :: (List.replicate (k + 1) 10 ++ (List.replicate q 32 ++ c :: R))):=h.cast (by rw [List.replicate_succ]; rfl)
  have h1:=h0.tail
  have e1 : sp s (i + 1) = i + 1:=h1.sp0 (by rw [List.replicate_succ]; exact NoH.cons (by decide) _)
  rw [nlS,dif_pos (by rw [h0.isAt]; rfl),e1,nl_feeds hc hc2 k _ _ _ q h1]
  simp only [Prod.mk.injEq]
  omega
theorem next_feeds {s : ByteArray} {c : UInt8} {R : List UInt8} (hc : c ≠ 10) (hc2 : c ≠ 32) (hc3 : stopB c = false) (k i q : Nat) (hq : 0 < q) (h : Sx s i (List.replicate (k + 1) 10 ++ (List.replicate q 32 ++ c :: R))) : nextS s i = some (k + 1,q,i + k + 1 + q):=by
 have h1:=h.app.app
 rw [List.length_replicate,List.length_replicate] at h1
 have h2 : Sx s (i + k + 1 + q) (c :: R):=by rw [show i + k + 1 + q = i + (k + 1) + q by omega]; exact h1
 have:=h2.lt
 unfold nextS
 rw [nl_feeds hc hc2 k 0 i i q h]
 dsimp only
 rw [if_neg]
 ·congr 2
  ·omega
  ·congr 1
   omega
 ·rintro (e | e | e)
  ·omega
  ·omega
  ·rw [h2.at0,hc3] at e; cases e
theorem split_line : ∀ X : List SY,∃ Y Z,X = Y ++ Z /\ (∀ x ∈ Y,toC x ≠ 10) /\ (Z = [] ∨ ∃ Z',Z = .ch 10 :: Z')
 | []=>⟨[],[],rfl,(fun x hx=>by cases hx),.inl rfl⟩
 | .pl e :: X=>by
  obtain ⟨Y,Z,e1,h1,h2⟩:=split_line X
  refine ⟨.pl e :: Y,Z,by rw [e1]; rfl,fun x hx=>?_,h2⟩
  rcases List.mem_cons.1 hx with rfl | hx
  ·show (123 : UInt8) ≠ 10; decide
  ·exact h1 x hx
 | .ch c :: X=>by
  by_cases hc : c = 10
  ·subst hc
   exact ⟨[],.ch 10 :: X,rfl,(fun x hx=>by cases hx),.inr ⟨X,rfl⟩⟩
  ·obtain ⟨Y,Z,e1,h1,h2⟩:=split_line X
   refine ⟨.ch c :: Y,Z,by rw [e1]; rfl,fun x hx=>?_,h2⟩
   rcases List.mem_cons.1 hx with rfl | hx
   ·exact hc
   ·exact h1 x hx
theorem split_feeds : ∀ X : List SY,∃ k W,X = List.replicate k (.ch 10) ++ W /\ isLf W = false
 | []=>⟨0,[],rfl,rfl⟩
 | .pl e :: X=>⟨0,.pl e :: X,rfl,rfl⟩
 | .ch c :: X=>by
  by_cases hc : c = 10
  ·subst hc
   obtain ⟨k,W,e,h⟩:=split_feeds X
   exact ⟨k + 1,W,by rw [e,List.replicate_succ]; rfl,h⟩
  ·exact ⟨0,.ch c :: X,rfl,beq_eq_false_iff_ne.2 hc⟩
theorem split_spaces : ∀ (p : Nat) (W : List SY) (c : UInt8) (R : List UInt8),W.map toC = List.replicate p 32 ++ c :: R -> ∃ x W',W = List.replicate p (.ch 32) ++ x :: W' /\ toC x = c /\ W'.map toC = R
 | 0,W,c,R,h=>by
  cases W with
  | nil=>cases h
  | cons x W =>
   rw [List.map_cons,List.replicate_zero,List.nil_append] at h
   injection h with h1 h2
   exact ⟨x,W,rfl,h1,h2⟩
 | p + 1,W,c,R,h=>by
  cases W with
  | nil=>cases h
  | cons x W =>
   rw [List.map_cons,List.replicate_succ,List.cons_append] at h
   injection h with h1 h2
   obtain ⟨y,W',e,g1,g2⟩:=split_spaces p W c R h2
   cases x with
   | ch d =>
    have hd : d = 32:=h1
    subst hd
    exact ⟨y,W',by rw [e,List.replicate_succ]; rfl,g1,g2⟩
   | pl e=>exact absurd (show (123 : UInt8) = 32 from h1) (by decide)
theorem syT_app (m : Nat) : ∀ (Y Z : List SY),(∀ x ∈ Y,toC x ≠ 10) -> syT m (Y ++ Z) = syT m Y ++ syT m Z
 | [],Z,_=>rfl
 | .ch c :: Y,Z,h=>by
  have hc : c ≠ 10:=h (.ch c) (List.mem_cons_self ..)
  rw [List.cons_append,syT,syT,if_neg (fun x=>hc x.1),if_neg (fun x=>hc x.1),syT_app m Y Z (fun x hx=>h x (List.mem_cons_of_mem _ hx))]
  rfl
 | .pl e :: Y,Z,h=>by
  rw [List.cons_append,syT,syT,syT_app m Y Z (fun x hx=>h x (List.mem_cons_of_mem _ hx)),List.append_assoc]
theorem syT_feeds (m : Nat) (W : List SY) (hW : isLf W = false) : ∀ k,syT m (List.replicate (k + 1) (.ch 10) ++ W) = List.replicate (k + 1) 10 ++ (sps m ++ syT m W)
 | 0=>by
  show syT m (.ch 10 :: W) = _
  rw [syT,if_pos ⟨rfl,hW⟩]
  rfl
 | k + 1=>by
  rw [List.replicate_succ,List.cons_append,syT,if_neg,syT_feeds m W hW k,List.replicate_succ (n:=k + 1)]
  ·rfl
  ·rintro ⟨_,h⟩
   rw [List.replicate_succ] at h
   exact absurd (show ((10 : UInt8) == 10) = false from h) (by decide)
theorem syT_spaces (m : Nat) (V : List SY) (q : Nat) : syT m (List.replicate q (.ch 32) ++ V) = List.replicate q 32 ++ syT m V:=by
 rw [syT_app m _ V (fun x hx=>by rw [List.eq_of_mem_replicate hx]; show (32 : UInt8) ≠ 10; decide)]
 congr 1
 induction q with
 | zero=>rfl
 | succ q ih =>
  rw [List.replicate_succ,syT,if_neg (fun x=>absurd x.1 (by decide)),ih,List.replicate_succ]
theorem syT_head (m : Nat) (x : SY) (W : List SY) (h : toC x ≠ 10) : ∃ T,syT m (x :: W) = toC x :: T:=by
 cases x with
 | ch c =>
  have hc : c ≠ 10:=h
  rw [syT,if_neg (fun x=>hc x.1)]
  exact ⟨_,rfl⟩
 | pl e =>
  obtain ⟨T,hT⟩:=pl_head m e
  rw [syT,hT]
  exact ⟨_,rfl⟩
theorem FlushL.cons {x : UInt8} {l : List UInt8} (h : FlushL (x :: l)) : (x = 10 /\ ∃ d T,l = d :: T /\ d ≠ 32 /\ d ≠ 10) ∨ FlushL l:=by
 obtain ⟨A,c,R,e,h1,h2⟩:=h
 cases A with
 | nil =>
  rw [List.nil_append] at e
  injection e with e1 e2
  exact .inl ⟨e1,c,R,e2,h1,h2⟩
 | cons a A =>
  rw [List.cons_append] at e
  injection e with e1 e2
  exact .inr ⟨A,c,R,e2,h1,h2⟩
theorem flush_no {l : List UInt8} (h : ∀ c ∈ l,c ≠ 10) : ¬ FlushL l:=by
 rintro ⟨A,c,R,e,_⟩
 exact h 10 (by rw [e]; simp) rfl
theorem flush_skip {l : List UInt8} : ∀ {Y : List UInt8},(∀ c ∈ Y,c ≠ 10) -> FlushL (Y ++ l) -> FlushL l
 | [],_,h=>h
 | c :: Y,hY,h=>by
  rcases FlushL.cons h with ⟨e,_⟩ | h
  ·exact absurd e (hY c (List.mem_cons_self ..))
  ·exact flush_skip (fun d hd=>hY d (List.mem_cons_of_mem _ hd)) h
theorem flush_feeds {l : List UInt8} {q : Nat} : ∀ {k : Nat},FlushL (List.replicate (k + 1) 10 ++ (List.replicate (q + 1) 32 ++ l)) -> FlushL l
 | 0,h=>by
  rcases FlushL.cons h with ⟨_,d,T,e,h1,h2⟩ | h
  ·have e' : List.replicate (q + 1) 32 ++ l = d :: T:=e
   rw [List.replicate_succ,List.cons_append] at e'
   injection e' with e1 _
   exact absurd e1.symm h1
  ·exact flush_skip (Y:=List.replicate (q + 1) 32) (fun c hc=>by rw [List.eq_of_mem_replicate hc]; decide) h
 | k + 1,h=>by
  rw [List.replicate_succ,List.cons_append] at h
  rcases FlushL.cons h with ⟨_,d,T,e,h1,h2⟩ | h
  ·rw [List.replicate_succ,List.cons_append] at e
   injection e with e1 _
   exact absurd e1.symm h2
  ·exact flush_feeds h
theorem good_suf {A l : List UInt8} (h : GoodL (A ++ l)) : GoodL l:=fun B R e=>h (A ++ B) R (by rw [e,List.append_assoc])
theorem stop_of {c : UInt8} (h1 : isMarkB c = false) (h2 : c ≠ 125) : stopB c = false:=by
 unfold isMarkB at h1
 rw [decide_eq_false_iff_not] at h1
 unfold stopB
 have h : ∀ n : UInt8,(c.toNat : Int) ≠ n.toNat -> (c == n) = false:=fun n hn=>beq_eq_false_iff_ne.2 (fun e=>hn (by rw [e]))
 rw [h 46 (fun e=>h1 (.inl e)),h 42 (fun e=>h1 (.inr (.inl e))),h 91 (fun e=>h1 (.inr (.inr e))),beq_eq_false_iff_ne.2 h2]
 rfl
section
variable {P : Nat -> Res} {s : ByteArray} {m : Nat}
theorem lines_read (hm : 0 < m) : ∀ (n : Nat) (X : List SY),X.length <= n -> X ≠ [] -> GoodL (X.map toC) -> (∀ x ∈ X,SyOk x) -> (∀ e,SY.pl e ∈ X -> PlR P s m e) -> (∀ x Y,X = x :: Y -> toC x ≠ 10) ->
  ∀ (acc : List LN) (f p i : Nat) (R : List UInt8),Stp R -> Sx s i (syT m X ++ R) -> ∃ L0 rest,linesS P s acc f p i = some (acc ++ ⟨f,p,L0⟩ :: rest,i + (syT m X).length) /\ (∀ y ∈ rest,m <= y.spaces) /\
   (FlushL (X.map toC) -> ∃ y ∈ rest,y.spaces = m) /\ (rest = [] ∨ 10 ∈ X.map toC) /\ ∀ least,(rest = [] ∨ least = m) -> ∀ b,rest.foldl (lineJ least) (L0.foldl partJ b) = X.foldl symJ b:=by
 intro n
 induction n with
 | zero =>
  intro X hn hne
  exact absurd (List.eq_nil_of_length_eq_zero (by omega)) hne
 | succ n ih =>
  intro X hn hne hG hok hpl hhd acc f p i R hR h
  obtain ⟨Y,Z,hX,hY,hZ⟩:=split_line X
  have hYne : Y ≠ []:=by
   rintro rfl
   rcases hZ with rfl | ⟨Z',rfl⟩
   ·exact hne hX
   ·exact hhd _ _ hX rfl
  have hYok : ∀ x ∈ Y,SyOk x /\ toC x ≠ 10:=fun x hx=>⟨hok x (by rw [hX]; exact List.mem_append_left _ hx),hY x hx⟩
  have hYpl : ∀ e,SY.pl e ∈ Y -> PlR P s m e:=fun e he=>hpl e (by rw [hX]; exact List.mem_append_left _ he)
  have hYc : ∀ c ∈ Y.map toC,c ≠ 10:=fun c hc=>by obtain ⟨x,hx,rfl⟩:=List.mem_map.1 hc; exact hY x hx
  rcases hZ with rfl | ⟨Z',rfl⟩
  ·rw [List.append_nil] at hX
   subst hX
   obtain ⟨ps,g1,g2⟩:=line_read (m:=m) _ X (Nat.le_refl _) hYok hYpl [] i R hR.tx hR.br h
   refine ⟨ps,[],?_,(fun y hy=>by cases hy),(fun hf=>absurd hf (flush_no hYc)),.inl rfl,fun _ _ b=>g2 b⟩
   rw [linesS,g1]
   dsimp only
   rw [hR.nx s _ h.app]
   rfl
  ·obtain ⟨k,W,hW,hW0⟩:=split_feeds Z'
   have hX1 : X = Y ++ (List.replicate (k + 1) (.ch 10) ++ W):=by rw [hX,hW,List.replicate_succ]; rfl
   have hCm : X.map toC = (Y.map toC ++ List.replicate k 10) ++ 10 :: W.map toC:=by
    rw [hX1,List.map_append,List.map_append,List.map_replicate,List.replicate_succ']
    show _ ++ ((List.replicate k 10 ++ [10]) ++ _) = _
    simp
   rcases hG _ _ hCm with ⟨R',e⟩ | ⟨q,c,R',e,c1,c2,c3⟩
   ·exfalso
    cases W with
    | nil=>cases e
    | cons x W =>
     rw [List.map_cons] at e
     injection e with e1 _
     cases x with
     | ch d =>
      have hd : d = 10:=e1
      subst hd
      exact absurd (show ((10 : UInt8) == 10) = false from hW0) (by decide)
     | pl y=>exact absurd (show (123 : UInt8) = 10 from e1) (by decide)
   ·obtain ⟨x,W',hWe,hx,hW'⟩:=split_spaces q W c R' e
    have hX2 : X = Y ++ (List.replicate (k + 1) (.ch 10) ++ (List.replicate q (.ch 32) ++ x :: W')):=by rw [hX1,hWe]
    have hC2 : X.map toC = Y.map toC ++ (List.replicate (k + 1) 10 ++ (List.replicate q 32 ++ (x :: W').map toC)):=by
     rw [hX2,List.map_append,List.map_append,List.map_append,List.map_replicate,List.map_replicate]
     rfl
    have hxm : x ∈ X:=by rw [hX2]; simp
    have hx10 : toC x ≠ 10:=by rw [hx]; exact c2
    have hx125 : toC x ≠ 125:=by
     cases x with
     | ch d=>exact (hok _ hxm).2
     | pl y=>show (123 : UInt8) ≠ 125; decide
    obtain ⟨T,hT⟩:=syT_head m x W' hx10
    have hsy : syT m X = syT m Y ++ (List.replicate (k + 1) 10 ++ (List.replicate (m + q) 32 ++ syT m (x :: W'))):=by
     have hW1 : isLf (List.replicate q (.ch 32) ++ x :: W') = false:=by rw [<- hWe]; exact hW0
     rw [hX2,syT_app m Y _ hY,syT_feeds m _ hW1,syT_spaces,sps,<- List.append_assoc (List.replicate m 32),List.replicate_append_replicate]
    rw [hsy] at h ⊢
    have h1 : Sx s i (syT m Y ++ (List.replicate (k + 1) 10 ++ (List.replicate (m + q) 32 ++ (toC x :: (T ++ R))))):=h.cast (by rw [hT]; simp)
    obtain ⟨ps,g1,g2⟩:=line_read (m:=m) _ Y (Nat.le_refl _) hYok hYpl [] i _ (by rw [List.replicate_succ]; exact NoH.cons (by decide) _) (by rw [List.replicate_succ]; exact NoH.cons (by decide) _) h1
    have h2:=h1.app
    have hnx:=next_feeds (by rw [hx]; exact c2) (by rw [hx]; exact c1) (stop_of (by rw [hx]; exact c3) hx125) k _ (m + q) (by omega) h2
    have h3:=h2.app.app
    rw [List.length_replicate,List.length_replicate] at h3
    have h4 : Sx s (i + (syT m Y).length + k + 1 + (m + q)) (syT m (x :: W') ++ R):=by
     rw [hT,show i + (syT m Y).length + k + 1 + (m + q) = i + (syT m Y).length + (k + 1) + (m + q) by omega]
     exact h3
    have hlen : (x :: W').length <= n:=by
     have:=List.length_pos_iff.2 hYne
     rw [hX2,List.length_append,List.length_append,List.length_append,List.length_replicate,List.length_replicate] at hn
     omega
    have hsub : ∀ z ∈ x :: W',z ∈ X:=fun z hz=>by rw [hX2]; exact List.mem_append_right _ (List.mem_append_right _ (List.mem_append_right _ hz))
    have hG2 : GoodL ((x :: W').map toC):=by
     rw [hC2,<- List.append_assoc,<- List.append_assoc] at hG
     exact good_suf hG
    obtain ⟨L0,rest,r1,r2,r3,r4,r5⟩:=ih (x :: W') hlen (by simp) hG2 (fun z hz=>hok z (hsub z hz)) (fun e he=>hpl e (hsub _ he)) (fun z Y' e=>by cases e; exact hx10) (acc ++ [⟨f,p,ps⟩]) (k + 1) (m + q) _ R hR h4
    refine ⟨ps,⟨k + 1,m + q,L0⟩ :: rest,?_,?_,?_,?_,?_⟩
    ·rw [linesS,g1]
     dsimp only
     rw [hnx]
     dsimp only
     rw [dif_pos ⟨by omega,h4.1⟩,List.nil_append,r1]
     simp
     omega
    ·intro y hy
     rcases List.mem_cons.1 hy with rfl | hy
     ·exact Nat.le_add_right _ _
     ·exact r2 y hy
    ·intro hf
     rw [hC2] at hf
     have hf:=flush_skip hYc hf
     cases q with
     | zero=>exact ⟨_,List.mem_cons_self ..,rfl⟩
     | succ q =>
      obtain ⟨y,hy,e⟩:=r3 (flush_feeds hf)
      exact ⟨y,List.mem_cons_of_mem _ hy,e⟩
    ·right
     rw [hCm]
     simp
    ·intro least hl b
     have hl : least = m:=hl.resolve_left (by simp)
     subst hl
     rw [List.foldl_cons,g2]
     have hne2:=sym_some hYne b
     unfold lineJ headJ
     rw [if_neg hne2]
     dsimp only
     have e5:=r5 least (.inr rfl) ((Y.foldl symJ b).1,(Y.foldl symJ b).2 ++ List.replicate (k + 1) 10 ++ List.replicate (least + q - least) 32)
     rw [show (fun b x=>List.foldl partJ (if b.fst = [] /\ b.snd = [] then b else (b.fst,b.snd ++ List.replicate x.feeds 10 ++ List.replicate (x.spaces - least) 32)) x.parts) = lineJ least from rfl]
     rw [e5,hX2,List.foldl_append,List.foldl_append,List.foldl_append,sym_rep,sym_rep,Nat.add_sub_cancel_left]
end
theorem anyTo_of {p : Nat -> Bool} : ∀ {m : Nat},anyTo p m = false -> ∀ i,i < m -> p i = false
 | 0,_,i,hi=>by omega
 | m + 1,h,i,hi=>by
  rw [anyTo,Bool.or_eq_false_iff] at h
  by_cases e : i = m
  ·rw [e]; exact h.2
  ·exact anyTo_of h.1 i (by omega)
theorem anyTo_ex {p : Nat -> Bool} : ∀ {m : Nat},anyTo p m = true -> ∃ i,i < m /\ p i = true
 | 0,h=>by cases h
 | m + 1,h=>by
  rw [anyTo,Bool.or_eq_true] at h
  rcases h with h | h
  ·obtain ⟨i,hi,hp⟩:=anyTo_ex h
   exact ⟨i,by omega,hp⟩
  ·exact ⟨m,by omega,h⟩
theorem bl_ne {c : UInt8} (h : blB c = false) : c ≠ 32 /\ c ≠ 10:=by
 constructor <;> (rintro rfl; exact absurd h (by decide))
structure LinesOk (C : List UInt8) : Prop where
 hd : ∀ c T,C = c :: T -> c ≠ 32 /\ c ≠ 10
 lst : ∀ A x,C = A ++ [x] -> x ≠ 32 /\ x ≠ 10
 good : GoodL C
 mark : NoMk C ∨ (∀ c ∈ C,c ≠ 10) ∨ FlushL C
theorem lines_inv {C : List UInt8} (h : linesB C = true) : LinesOk C:=by
 unfold linesB at h
 simp only [Bool.and_eq_true,Bool.not_eq_true',Bool.or_eq_true] at h
 obtain ⟨⟨⟨h1,h2⟩,h3⟩,h4⟩:=h
 have hd : ∀ c T,C = c :: T -> c ≠ 32 /\ c ≠ 10:=fun c T e=>by
  subst e
  exact bl_ne h1
 have lst : ∀ A x,C = A ++ [x] -> x ≠ 32 /\ x ≠ 10:=fun A x e=>by
  have hx : at0 C (C.length - 1) = x:=by
   rw [e,List.length_append]
   exact at_mid A x []
  rw [hx] at h2
  exact bl_ne h2
 have good : GoodL C:=by
  intro A R e
  have e' : C = (A ++ [10]) ++ R:=by rw [e,List.append_assoc]; rfl
  have hA' : (A ++ [(10 : UInt8)]).length = A.length + 1:=by rw [List.length_append]; rfl
  cases R with
  | nil=>exact absurd rfl (lst A 10 e).2
  | cons d R =>
   by_cases hd10 : d = 10
   ·subst hd10; exact .inl ⟨R,rfl⟩
   ·right
    have n1 : at0 C A.length = 10:=by rw [e]; exact at_mid A 10 (d :: R)
    have n2 : at0 C (A.length + 1) = d:=by rw [e',<- hA']; exact at_mid (A ++ [10]) d R
    have hlt : A.length < C.length:=by rw [e,List.length_append,List.length_cons]; omega
    have hb:=anyTo_of h3 A.length hlt
    have hn : newAt C A.length = true:=by
     unfold newAt
     rw [n1,n2,beq_eq_false_iff_ne.2 hd10,decide_eq_true (by rw [e,List.length_append,List.length_cons,List.length_cons]; omega)]
     rfl
    obtain ⟨D,E,f1,f2,f3,f4⟩:=tw_split spB (d :: R)
    have hD : D = List.replicate D.length 32:=by
     refine List.eq_replicate_iff.2 ⟨rfl,fun x hx=>?_⟩
     have:=f3 x hx
     unfold spB at this
     rw [decide_eq_true_eq] at this
     exact UInt8.toNat_inj.1 (by show x.toNat = 32; omega)
    cases E with
    | nil =>
     exfalso
     rw [List.append_nil] at f1
     rcases List.eq_nil_or_concat D with rfl | ⟨D',x,rfl⟩
     ·cases f1
     ·rw [List.concat_eq_append] at f1 f3
      have hx:=f3 x (by simp)
      have hx32 : x = 32:=by
       unfold spB at hx
       rw [decide_eq_true_eq] at hx
       exact UInt8.toNat_inj.1 (by show x.toNat = 32; omega)
      exact (lst (A ++ 10 :: D') x (by rw [e,f1]; simp)).1 hx32
    | cons c E =>
     have hc32 : c ≠ 32:=by rintro rfl; exact absurd (f4 32 E rfl) (by decide)
     have hbe : behN spB C (A.length + 1) = A.length + 1 + D.length:=by
      rw [e',f1,hD,<- hA',behN_mid _ _ _ _ hc32,List.length_replicate]
     have hat : at0 C (A.length + 1 + D.length) = c:=by
      have e2 : C = ((A ++ [10]) ++ D) ++ c :: E:=by rw [e',f1]; simp
      have e3 : A.length + 1 + D.length = ((A ++ [10]) ++ D).length:=by rw [List.length_append,hA']
      rw [e3,e2]
      exact at_mid _ c E
     unfold badAt at hb
     rw [hn,hbe,hat,Bool.true_and,Bool.or_eq_false_iff] at hb
     exact ⟨D.length,c,E,by rw [f1,<- hD],hc32,beq_eq_false_iff_ne.1 hb.1,hb.2⟩
 refine ⟨hd,lst,good,?_⟩
 by_cases hm : NoMk C
 ·exact .inl hm
 ·right
  have hM : isMarkB (at0 C 0) = true:=by
   refine Classical.byContradiction fun hx=>hm fun c T e=>?_
   subst e
   exact eq_false_of_ne_true hx
  by_cases h10 : ∀ c ∈ C,c ≠ 10
  ·exact .inl h10
  ·right
   have hten : ∃ A R,C = A ++ 10 :: R:=by
    refine Classical.byContradiction fun hx=>h10 fun c hc e=>hx ?_
    subst e
    obtain ⟨A,R,e⟩:=List.append_of_mem hc
    exact ⟨A,R,e⟩
   have hnew : ∀ (n : Nat) (A R : List UInt8),R.length <= n -> C = A ++ 10 :: R -> anyTo (newAt C) C.length = true:=by
    intro n
    induction n with
    | zero =>
     intro A R hn e
     have : R = []:=List.eq_nil_of_length_eq_zero (by omega)
     subst this
     exact absurd rfl (lst A 10 e).2
    | succ n ih =>
     intro A R hn e
     cases R with
     | nil=>exact absurd rfl (lst A 10 e).2
     | cons d R =>
      by_cases hd10 : d = 10
      ·subst hd10
       exact ih (A ++ [10]) R (by rw [List.length_cons] at hn; omega) (by rw [e]; simp)
      ·have n1 : at0 C A.length = 10:=by rw [e]; exact at_mid A 10 (d :: R)
       have n2 : at0 C (A.length + 1) = d:=by
        have e' : C = (A ++ [10]) ++ d :: R:=by rw [e]; simp
        have hA' : A.length + 1 = (A ++ [(10 : UInt8)]).length:=by rw [List.length_append]; rfl
        rw [hA',e']; exact at_mid (A ++ [10]) d R
       refine anyTo_yes (i:=A.length) ?_ (by rw [e,List.length_append,List.length_cons]; omega)
       unfold newAt
       rw [n1,n2,beq_eq_false_iff_ne.2 hd10,decide_eq_true (by rw [e,List.length_append,List.length_cons,List.length_cons]; omega)]
       rfl
   obtain ⟨A,R,e⟩:=hten
   have hN:=hnew _ A R (Nat.le_refl _) e
   rw [hM,hN] at h4
   have hF : anyTo (flushAt C) C.length = true:=by simpa using h4
   obtain ⟨i,hi,hf⟩:=anyTo_ex hF
   unfold flushAt newAt at hf
   simp only [Bool.and_eq_true,Bool.not_eq_true',beq_iff_eq,decide_eq_true_eq] at hf
   obtain ⟨⟨⟨f1,f2⟩,f3⟩,f4⟩:=hf
   obtain ⟨B,R2,e2,hB⟩:=at_split hi
   rw [f1] at e2
   cases R2 with
   | nil=>rw [e2,List.length_append,hB] at f2; simp at f2
   | cons c R2 =>
    have hc : at0 C (i + 1) = c:=by
     have e' : C = (B ++ [10]) ++ c :: R2:=by rw [e2]; simp
     have hA' : i + 1 = (B ++ [(10 : UInt8)]).length:=by rw [List.length_append,hB]; rfl
     rw [hA',e']; exact at_mid (B ++ [10]) c R2
    rw [hc] at f3 f4
    exact ⟨B,c,R2,e2,by rintro rfl; exact absurd f4 (by decide),beq_eq_false_iff_ne.1 f3⟩
theorem feed_no : ∀ l : List EL,feedOf l = false -> (∀ b,textsB b l = true -> ∀ c ∈ linesOf 123 l,c ≠ 10)
 | [],_,_,_,c,hc=>by cases hc
 | .mk t none :: r,h,b,hb,c,hc=>by
  rw [textsB] at hb
  simp only [Bool.and_eq_true] at hb
  unfold feedOf at h
  rw [List.any_cons,Bool.or_eq_false_iff] at h
  rw [linesOf] at hc
  rcases List.mem_append.1 hc with hc | hc
  ·rintro rfl
   have:=h.1
   rw [<- Bool.not_eq_true,List.contains_iff_mem] at this
   exact this hc
  ·exact feed_no r h.2 true hb.2 c hc
 | .mk t (some e) :: r,h,b,hb,c,hc=>by
  rw [textsB,Bool.and_eq_true] at hb
  unfold feedOf at h
  rw [List.any_cons,Bool.or_eq_false_iff] at h
  rw [linesOf] at hc
  rcases List.mem_cons.1 hc with rfl | hc
  ·decide
  ·exact feed_no r h.2 false hb.2 c hc
theorem odd_yes {l : List EL} (hb : textsB false l = true) (h : oddOf l = true) : ∃ c T,linesOf 123 l = c :: T /\ isMarkB c = true:=by
 cases l with
 | nil=>cases h
 | cons x r =>
  obtain ⟨t,p⟩:=x
  cases p with
  | none =>
   rw [oddOf] at h
   rw [linesOf]
   cases ht : t.data.toList with
   | nil=>rw [ht] at h; cases h
   | cons c T=>rw [ht] at h; exact ⟨c,T ++ linesOf 123 r,rfl,h⟩
  | some e =>
   rw [textsB,Bool.and_eq_true] at hb
   rw [oddOf,emp_E hb.1] at h
   cases h
theorem odd_no {l : List EL} (hb : textsB false l = true) (h : oddOf l = false) : NoMk (linesOf 123 l):=by
 intro c B e
 cases l with
 | nil=>cases e
 | cons x r =>
  obtain ⟨t,p⟩:=x
  cases p with
  | none =>
   rw [textsB] at hb
   simp only [Bool.and_eq_true,Bool.not_eq_true'] at hb
   rw [linesOf] at e
   rw [oddOf] at h
   cases ht : t.data.toList with
   | nil=>exact absurd ht (emp_F hb.1.1.1.1)
   | cons d T =>
    rw [ht] at h e
    rw [List.cons_append] at e
    injection e with e1 _
    rw [<- e1]; exact h
  | some y =>
   rw [linesOf] at e
   injection e with e1 _
   rw [<- e1]; decide
theorem FL_ne {l : List EL} (hl : l ≠ []) (hb : textsB false l = true) : FL l ≠ []:=by
 cases l with
 | nil=>exact absurd rfl hl
 | cons x r =>
  obtain ⟨t,p⟩:=x
  cases p with
  | none =>
   rw [textsB] at hb
   simp only [Bool.and_eq_true,Bool.not_eq_true'] at hb
   rw [FL]
   intro e
   have:=List.append_eq_nil_iff.1 e
   exact emp_F hb.1.1.1.1 (by simpa using this.1)
  | some y=>rw [FL]; simp
theorem trim_ok {X : List SY} (h : ∀ A x,X.map toC = A ++ [x] -> x ≠ 32) (b : JS) (hb : b.2 = []) : trimR (X.foldl symJ b).2 = (X.foldl symJ b).2:=by
 rcases List.eq_nil_or_concat X with rfl | ⟨Z,x,rfl⟩
 ·rw [List.foldl_nil,hb]; rfl
 ·rw [List.concat_eq_append] at h ⊢
  rw [List.foldl_append,List.foldl_cons,List.foldl_nil]
  cases x with
  | ch c =>
   have hc : c ≠ 32:=h (Z.map toC) c (by rw [List.map_append]; rfl)
   unfold symJ trimR
   dsimp only
   rw [List.reverse_append,List.reverse_singleton,List.singleton_append,List.dropWhile_cons,beq_eq_false_iff_ne.2 hc]
   simp
  | pl e=>rfl
theorem least_of {m : Nat} : ∀ (r : List LN) (a : Nat),m <= a -> (∀ y ∈ r,m <= y.spaces) -> (a = m ∨ ∃ y ∈ r,y.spaces = m) -> r.foldl (fun m y=>if y.spaces < m then y.spaces else m) a = m
 | [],a,ha,_,h=>by
  rcases h with h | ⟨y,hy,_⟩
  ·exact h
  ·cases hy
 | x :: r,a,ha,hr,h=>by
  rw [List.foldl_cons]
  have hx:=hr x (List.mem_cons_self ..)
  refine least_of r _ (by split <;> omega) (fun y hy=>hr y (List.mem_cons_of_mem _ hy)) ?_
  rcases h with h | ⟨y,hy,e⟩
  ·left; split <;> omega
  ·rcases List.mem_cons.1 hy with rfl | hy
   ·left; split <;> omega
   ·exact .inr ⟨y,hy,e⟩
section
variable {P : Nat -> Res} {s : ByteArray} {m : Nat}
theorem pat_read (hm : 0 < m) {l : List EL} (hl : l ≠ []) (hp : patL l = true) (hpl : ∀ t e,EL.mk t (some e) ∈ l -> PlR P s m e) {i : Nat} {R : List UInt8} (hR : Stp R) (h : Sx s i (paT m l ++ R)) :
  patS P s i = some (l,i + (paT m l).length):=by
 unfold patL at hp
 rw [Bool.and_eq_true,Bool.or_eq_true] at hp
 obtain ⟨hb,hlin⟩:=hp
 have hlin : linesB (linesOf 123 l) = true:=hlin.resolve_left (by cases l with | nil=>exact absurd rfl hl | cons x r=>simp)
 have hL:=lines_inv hlin
 have hX:=FL_ne hl hb
 have hsy:=(es_sy m l false hb).1
 have hok:=FL_ok l false hb
 have hpl2 : ∀ e,SY.pl e ∈ FL l -> PlR P s m e:=fun e he=>by obtain ⟨t,ht⟩:=FL_pl l e he; exact hpl t e ht
 have hC:=FL_toC l
 have hG : GoodL ((FL l).map toC):=by rw [hC]; exact hL.good
 have hhd : ∀ x Y,FL l = x :: Y -> toC x ≠ 32 /\ toC x ≠ 10:=fun x Y e=>hL.hd (toC x) (Y.map toC) (by rw [<- hC,e]; rfl)
 have hnorm:=norm_all l [] hb
 rw [List.nil_append] at hnorm
 have htr:=trim_ok (X:=FL l) (fun A x e=>(hL.lst A x (by rw [<- hC]; exact e)).1) ([],[]) rfl
 have hfin : endS (((FL l).foldl symJ ([],[])).1,trimR ((FL l).foldl symJ ([],[])).2) = l:=by rw [htr]; exact hnorm
 obtain ⟨x0,Y0,hX0⟩:=List.exists_cons_of_ne_nil hX
 obtain ⟨T0,hT0⟩:=syT_head m x0 Y0 (hhd x0 Y0 hX0).2
 rw [<- hX0] at hT0
 unfold paT at h ⊢
 rw [hsy] at h ⊢
 by_cases hf : (feedOf l && !oddOf l) = true
 ·have hhead : headG m l = 10 :: sps m:=by unfold headG; rw [if_pos hf]
  rw [hhead] at h ⊢
  rw [Bool.and_eq_true,Bool.not_eq_true'] at hf
  have hmk:=odd_no hb hf.2
  have h0 : Sx s i (List.replicate 1 10 ++ (List.replicate m 32 ++ (toC x0 :: (T0 ++ R)))):=h.cast (by rw [hT0]; simp [sps])
  have h00 : Sx s i (10 :: (List.replicate m 32 ++ (toC x0 :: (T0 ++ R)))):=h0
  have hsp : sp s i = i:=h00.sp0 (NoH.cons (by decide) _)
  have htx : tx s i = i:=Sx.tx (T:=[]) h00 (fun x hx=>by cases hx) (NoH.cons (by decide) _)
  have hx125 : toC x0 ≠ 125:=by
   have:=hok x0 (by rw [hX0]; exact List.mem_cons_self ..)
   cases x0 with
   | ch d=>exact this.2
   | pl y=>show (123 : UInt8) ≠ 125; decide
  have hxm : isMarkB (toC x0) = false:=hmk (toC x0) (Y0.map toC) (by rw [<- hC,hX0]; rfl)
  have hnx:=next_feeds (hhd x0 Y0 hX0).2 (hhd x0 Y0 hX0).1 (stop_of hxm hx125) 0 i m hm h0
  have h3:=h0.app.app
  rw [List.length_replicate,List.length_replicate] at h3
  have h4 : Sx s (i + 0 + 1 + m) (syT m (FL l) ++ R):=by rw [hT0,show i + 0 + 1 + m = i + 1 + m by omega]; exact h3
  obtain ⟨L0,rest,r1,r2,r3,r4,r5⟩:=lines_read (m:=m) hm _ (FL l) (Nat.le_refl _) hX hG hok hpl2 (fun x Y e=>(hhd x Y e).2) [⟨0,0,[]⟩] 1 m (i + 0 + 1 + m) R hR h4
  have hp0 : partsS P s [] i = some ([],i):=by
   rw [partsS,htx,if_neg (by rw [h00.isAt]; decide)]
   unfold addT
   rw [if_neg (by omega)]
  have hls : linesS P s [] 0 0 i = some (⟨0,0,[]⟩ :: ⟨1,m,L0⟩ :: rest,i + 0 + 1 + m + (syT m (FL l)).length):=by
   rw [linesS,hp0]
   dsimp only
   rw [hnx]
   dsimp only
   rw [dif_pos ⟨by omega,h4.1⟩,List.nil_append,r1]
   rfl
  unfold patS
  rw [hsp,hls]
  dsimp only
  have hj : joinS (⟨0,0,[]⟩ :: ⟨1,m,L0⟩ :: rest) = l:=by
   have hle : leastS (⟨1,m,L0⟩ :: rest) = m:=least_of rest m (Nat.le_refl _) r2 (.inl rfl)
   unfold joinS
   rw [List.tail_cons,hle,List.foldl_cons,List.foldl_cons]
   have e1 : lineJ m (lineJ m ([],[]) ⟨0,0,[]⟩) ⟨1,m,L0⟩ = L0.foldl partJ ([],[]):=rfl
   rw [e1,r5 m (.inr rfl)]
   exact hfin
  rw [hj]
  simp [sps]
  omega
 ·have hhead : headG m l = [32]:=by unfold headG; rw [if_neg hf]
  rw [hhead] at h ⊢
  have h0 : Sx s i ([32] ++ (toC x0 :: (T0 ++ R))):=h.cast (by rw [hT0]; simp)
  have hsp : sp s i = i + 1:=h0.sp (fun x hx=>by rw [List.mem_singleton.1 hx]; decide) (NoH.cons (sp_no (hhd x0 Y0 hX0).1) _)
  have h4 : Sx s (i + 1) (syT m (FL l) ++ R):=by rw [hT0]; exact h0.app
  obtain ⟨L0,rest,r1,r2,r3,r4,r5⟩:=lines_read (m:=m) hm _ (FL l) (Nat.le_refl _) hX hG hok hpl2 (fun x Y e=>(hhd x Y e).2) [] 0 0 (i + 1) R hR h4
  unfold patS
  rw [hsp,r1]
  dsimp only
  have hj : joinS (⟨0,0,L0⟩ :: rest) = l:=by
   have hle : rest = [] ∨ leastS rest = m:=by
    rcases r4 with r4 | r4
    ·exact .inl r4
    ·right
     rw [hC] at r4 r3
     have hfe : feedOf l = true:=by
      cases hfe : feedOf l
      ·exact absurd rfl (feed_no l hfe false hb 10 r4)
      ·rfl
     have hod : oddOf l = true:=by
      rw [hfe] at hf
      simpa using hf
     obtain ⟨c,T,e,hc⟩:=odd_yes hb hod
     have hfl : FlushL (linesOf 123 l):=by
      rcases hL.mark with hmk | hmk | hmk
      ·have:=hmk c T e; rw [hc] at this; cases this
      ·exact absurd rfl (hmk 10 r4)
      ·exact hmk
     obtain ⟨y,hy,hys⟩:=r3 hfl
     cases rest with
     | nil=>cases hy
     | cons z rest =>
      refine least_of rest z.spaces (r2 z (List.mem_cons_self ..)) (fun w hw=>r2 w (List.mem_cons_of_mem _ hw)) ?_
      rcases List.mem_cons.1 hy with rfl | hy
      ·exact .inl hys
      ·exact .inr ⟨y,hy,hys⟩
   unfold joinS
   rw [List.tail_cons,List.foldl_cons]
   have e1 : lineJ (leastS rest) ([],[]) ⟨0,0,L0⟩ = L0.foldl partJ ([],[]):=rfl
   rw [e1,r5 (leastS rest) hle]
   exact hfin
  rw [List.nil_append,hj]
  simp
  omega
theorem pat_none {i : Nat} {R : List UInt8} (hR : Stp R) (hR2 : NoH spB R) (h : Sx s i R) : patS P s i = some ([],i):=by
 have hsp : sp s i = i:=h.sp0 hR2
 have htx : tx s i = i:=Sx.tx (T:=[]) h (fun x hx=>by cases hx) hR.tx
 have hp0 : partsS P s [] i = some ([],i):=by
  rw [partsS,htx,if_neg (by rw [h.isNo hR.br]; simp)]
  unfold addT
  rw [if_neg (by omega)]
 unfold patS
 rw [hsp,linesS,hp0]
 dsimp only
 rw [hR.nx s i h]
 rfl
end
end Go.Proofs.YtgdkpamlkpncgaaGreatDoor
