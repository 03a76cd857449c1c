/-
  Several texts put together (part 14): what the law and the program call, walked; their contracts.
-/
import Derived.Test.YtgdkpamlkpncgaaGreatDoorR12
import Derived.Test.YtgdkpamlkpncgaaGreatDoorR9
import Derived.Test.YtgdkpamlkpncgaaGreatDoorR8
import Derived.Test.YtgdkpamlkpncgaaGreatDoorR13
import Derived.Test.YtgdkpamlkpncgaaGreatDoorR4
import Derived.Test.YtgdkpamlkpncgaaGreatDoorR5
import Derived.Lib.OthersKept
import Derived.Lib.OwnKind
import Derived.Lib.Builder
import Derived.WalkSmall
import Derived.OneCell
import Derived.Laws.EntriesVeiled
import Derived.Lib.ValidU
import Derived.Lib.TrimU
import Derived.Laws.RangeAny
import Derived.Laws.RangeString
import Derived.WalkMore
import Derived.Deep.LoopGhost
import Derived.Deep.QuietTactic
import Derived.BigQuiet
import Derived.Lib.TrimUEq
import Derived.Deep.DeepCutAuto
import Derived.Maps.Own
import Derived.Maps.OwnOps
import Derived.Maps.OwnSet
import Derived.Maps.Views
import Derived.WideMake
import Derived.StillTailTactics
import Derived.Deep.RegionHeld3
namespace Go.Proofs.YtgdkpamlkpncgaaGreatDoor
open Go.RowKit
open _root_.Go.Lib (hid)
set_option linter.unusedVariables false
set_option linter.unusedSimpArgs false
-- from Aq
structure StepQ (B qb : Nat) (w w' : World) : Prop where
 below : Below B w w'
 kept : Lib.OthersKept 23 (some qb) w w'
theorem StepQ.refl (B qb : Nat) (w : World) : StepQ B qb w w:=⟨Below.refl _ _,Lib.OthersKept.refl _ _ _⟩
theorem StepQ.trans {B qb : Nat} {a b c : World} (h : StepQ B qb a b) (k : StepQ B qb b c) : StepQ B qb a c:=⟨h.below.trans k.below,h.kept.trans k.kept⟩
theorem StepQ.alloc {B qb : Nat} {a w : World} (h : StepQ B qb a w) (hB : B <= w.heap.size) (o : Obj) : StepQ B qb a (w.alloc o):=⟨h.below.alloc hB o,h.kept.alloc o⟩
theorem StepQ.drew {B qb : Nat} {a w : World} (h : StepQ B qb a w) : StepQ B qb a w.drew:=⟨h.below.drew,h.kept.drew⟩
theorem StepQ.size {B qb : Nat} {a w : World} (h : StepQ B qb a w) : a.heap.size <= w.heap.size:=h.below.size
theorem BoxAt.step {B qb : Nat} {w w' : World} {k : Nat} {cs : Array Value} {t : TypeId} (h : BoxAt w k cs t) (hs : StepQ B qb w w') (hk : k ≠ qb) (ht : t ≠ 23) : BoxAt w' k cs t :=
 hs.kept k _ h (by intro e; exact hk (Option.some.inj e)) (by intro c fz e; cases e; exact ht rfl)
-- from Asp
def validB (s : ByteArray) : Bool:=Lib.validD s.data.toList
def isNum (s : ByteArray) : Bool:=!s.data.toList.isEmpty && (numI s.data.toList 0 == (s.size : Int))
inductive Md where | inl | brc | ask
def inlP (k : Int) (t n a : ByteArray) (as0 i0 vs0 argsOk innerOk : Bool) : Bool :=
 if k = 0 then validB t && (emp n && emp a && as0 && i0 && vs0)
 else if k = 1 then isNum t && (emp n && emp a && as0 && i0 && vs0)
 else if k = 2 then isNameV n && (emp t && emp a && as0 && i0 && vs0)
 else if k = 3 then isNameV n && (emp a || isNameV a) && (emp t && as0 && i0 && vs0)
 else if k = 4 then isNameV n && argsOk && (emp t && emp a && i0 && vs0)
 else if k = 5 then isNameV n && bigV n && argsOk && (emp t && emp a && i0 && vs0)
 else if k = 6 then innerOk && (emp t && emp n && emp a && as0 && vs0)
 else false
def argNames : List ByteArray -> List AR -> Bool
 | _,[]=>true
 | seen,.mk n (.mk k _ _ _ _ _ _) :: r =>
  if emp n then seen.isEmpty && argNames seen r
  else !memB n seen && isNameV n && (k == 0 || k == 1) && argNames (n :: seen) r
def linesOf (c : UInt8) : List EL -> List UInt8
 | []=>[]
 | .mk t none :: r=>t.data.toList ++ linesOf c r
 | .mk t (some _) :: r=>c :: linesOf c r
def isMarkB (c : UInt8) : Bool:=decide ((c.toNat : Int) = 46 ∨ (c.toNat : Int) = 42 ∨ (c.toNat : Int) = 91)
def newAt (l : List UInt8) (i : Nat) : Bool:=(at0 l i == 10) && decide (i + 1 < l.length) && !(at0 l (i + 1) == 10)
def badAt (l : List UInt8) (i : Nat) : Bool:=newAt l i && (at0 l (behN spB l (i + 1)) == 10 || isMarkB (at0 l (behN spB l (i + 1))))
def flushAt (l : List UInt8) (i : Nat) : Bool:=newAt l i && !spB (at0 l (i + 1))
def anyTo (p : Nat -> Bool) : Nat -> Bool
 | 0=>false
 | m + 1=>anyTo p m || p m
def linesB (l : List UInt8) : Bool :=
 !blB (at0 l 0) && !blB (at0 l (l.length - 1)) && !anyTo (badAt l) l.length && (!isMarkB (at0 l 0) || !anyTo (newAt l) l.length || anyTo (flushAt l) l.length)
def textB (t : ByteArray) : Bool:=validB t && !t.data.toList.contains 13
def textsB : Bool -> List EL -> Bool
 | _,[]=>true
 | beside,.mk t none :: r=>!emp t && textB t && !(t.data.toList.contains 123 || t.data.toList.contains 125) && !beside && textsB true r
 | _,.mk t (some _) :: r=>emp t && textsB false r
def patL (l : List EL) : Bool:=textsB false l && (l.isEmpty || linesB (linesOf 123 l))
def varsL (vs : List VA) : Bool:=vs.all (fun v=>(isNameV (vaKey v) || isNum (vaKey v)) && !(vaVal v).isEmpty && patL (vaVal v)) && (vs.countP vaDflt == 1)
mutual
def okE : Md -> EX -> Nat -> Bool
 | m,.mk k t n a al i vs,d =>
  match m with
  | .inl=>inlP k t n a al.isEmpty i.isNone vs.isEmpty (argNames [] al && okAs al d) (okO .brc i (d + 1))
  | .brc=>decide (d <= 20) && (if k = 7 then emp t && emp n && emp a && al.isEmpty && varsL vs && okVs vs d && okO .ask i d
    else inlP k t n a al.isEmpty i.isNone vs.isEmpty (argNames [] al && okAs al d) (okO .brc i (d + 1)))
  | .ask=>if k = 4 then isNameV a && inlP k t n ByteArray.empty al.isEmpty i.isNone vs.isEmpty (argNames [] al && okAs al d) (okO .brc i (d + 1))
    else if k = 0 ∨ k = 1 ∨ k = 2 ∨ k = 5 then inlP k t n a al.isEmpty i.isNone vs.isEmpty (argNames [] al && okAs al d) (okO .brc i (d + 1)) else false
def okO : Md -> Option EX -> Nat -> Bool
 | _,none,_=>false
 | m,some e,d=>okE m e d
def okAs : List AR -> Nat -> Bool
 | [],_=>true
 | .mk _ e :: r,d=>okE .inl e d && okAs r d
def okVs : List VA -> Nat -> Bool
 | [],_=>true
 | .mk _ _ v :: r,d=>okEs v (d + 1) && okVs r d
def okEs : List EL -> Nat -> Bool
 | [],_=>true
 | .mk _ none :: r,d=>okEs r d
 | .mk _ (some e) :: r,d=>okE .brc e d && okEs r d
end
def patB (l : List EL) (d : Nat) : Bool:=patL l && okEs l (d + 1)
inductive Qn where
 | same (a b : EX)
 | pats (a b : List EL)
 | may (m : Md) (e : EX) (d : Nat)
def Qn.ans : Qn -> Bool
 | .same a b=>sameE a b
 | .pats a b=>sameEs a b
 | .may m e d=>okE m e d
def Qn.size : Qn -> Nat
 | .same a _=>a.size
 | .pats a _=>1 + sizeEs a
 | .may _ e _=>e.size
theorem EX.size_pos : ∀ e : EX,1 <= e.size
 | .mk .. => by rw [EX.size]; omega
theorem Qn.size_pos (q : Qn) : 1 <= q.size:=by
 cases q with
 | same a b=>exact a.size_pos
 | pats a b=>rw [Qn.size]; omega
 | may m e d=>exact e.size_pos
theorem EsAt.get {W : World} : ∀ {l : List EL} {b o : Nat} (j : Nat) {t : ByteArray} {p : Option EX},EsAt W l b o -> l[j]? = some (.mk t p) ->
  b < W.heap.size /\ W.cell? ⟨b,o + j * 2,none⟩ = some (.string t) /\ ∃ u,W.cell? ⟨b,o + j * 2 + 1,none⟩ = some u /\ OAt W p u
 | [],b,o,j,t,p,h,hj=>by simp at hj
 | .mk t' p' :: r,b,o,0,t,p,h,hj=>by
  rw [EsAt] at h
  simp at hj
  obtain ⟨rfl,rfl⟩:=hj
  obtain ⟨h0,h1,h2,_⟩:=h
  exact ⟨h0,by simpa using h1,by simpa using h2⟩
 | .mk t' p' :: r,b,o,j + 1,t,p,h,hj=>by
  rw [EsAt] at h
  have:=EsAt.get j h.2.2.2 (by simpa using hj)
  rw [show o + (j + 1) * 2 = o + 2 + j * 2 by omega]
  exact this
theorem AsAt.get {W : World} : ∀ {l : List AR} {b o : Nat} (j : Nat) {t : ByteArray} {e : EX},AsAt W l b o -> l[j]? = some (.mk t e) ->
  b < W.heap.size /\ W.cell? ⟨b,o + j * 8,none⟩ = some (.string t) /\ ∃ c,CellsAt W b (o + j * 8 + 1) c /\ ExAt W e c
 | [],b,o,j,t,p,h,hj=>by simp at hj
 | .mk t' p' :: r,b,o,0,t,p,h,hj=>by
  rw [AsAt] at h
  simp at hj
  obtain ⟨rfl,rfl⟩:=hj
  obtain ⟨h0,h1,h2,_⟩:=h
  exact ⟨h0,by simpa using h1,by simpa using h2⟩
 | .mk t' p' :: r,b,o,j + 1,t,p,h,hj=>by
  rw [AsAt] at h
  have:=AsAt.get j h.2.2.2 (by simpa using hj)
  rw [show o + (j + 1) * 8 = o + 8 + j * 8 by omega]
  exact this
theorem VsAt.get {W : World} : ∀ {l : List VA} {b o : Nat} (j : Nat) {t : ByteArray} {d : Bool} {v : List EL},VsAt W l b o -> l[j]? = some (.mk t d v) ->
  b < W.heap.size /\ W.cell? ⟨b,o + j * 3,none⟩ = some (.string t) /\ W.cell? ⟨b,o + j * 3 + 1,none⟩ = some (.bool d) /\ ∃ u,W.cell? ⟨b,o + j * 3 + 2,none⟩ = some u /\ PatAt W v u
 | [],b,o,j,t,d,p,h,hj=>by simp at hj
 | .mk t' d' p' :: r,b,o,0,t,d,p,h,hj=>by
  rw [VsAt] at h
  simp at hj
  obtain ⟨rfl,rfl,rfl⟩:=hj
  obtain ⟨h0,h1,hd,h2,_⟩:=h
  exact ⟨h0,by simpa using h1,by simpa using hd,by simpa [PatAt] using h2⟩
 | .mk t' d' p' :: r,b,o,j + 1,t,d,p,h,hj=>by
  rw [VsAt] at h
  have:=VsAt.get j h.2.2.2.2 (by simpa using hj)
  rw [show o + (j + 1) * 3 = o + 3 + j * 3 by omega]
  exact this
-- from Aln
theorem badAt_no {l : List UInt8} {j : Nat} (h : newAt l j = false) : badAt l j = false:=by unfold badAt; rw [h]; rfl
theorem flushAt_no {l : List UInt8} {j : Nat} (h : newAt l j = false) : flushAt l j = false:=by unfold flushAt; rw [h]; rfl
theorem at0_data (s : ByteArray) (k : Nat) (h : k < s.size) : at0 s.data.toList k = s[k]:=by
 rw [at0_get _ _ (by rw [size_data]; exact h)]; rfl
theorem beh_pos (p : UInt8 -> Bool) (l : List UInt8) (k : Nat) (h : k < l.length) : decide ((k : Int) < (behN p l k : Int)) = p (at0 l k):=by
 rw [at0_get l k h]
 cases hb : p l[k]
 ·rw [behN_no p l k h hb]; simp
 ·have h1:=behN_yes p l k h hb
  have h2:=behN_ge p l (k + 1)
  exact decide_eq_true (by omega)
theorem sp_at (l : List UInt8) (k : Nat) (h : k < l.length) : ((behN spB l k : Int) == (k : Int)) = !spB (at0 l k):=by
 have:=beh_pos spB l k h
 have hg:=behN_ge spB l k
 rw [<- this]
 by_cases e : behN spB l k = k
 ·rw [e]; simp
 ·have h1 : (k : Int) < (behN spB l k : Int):=by omega
  rw [decide_eq_true h1]
  simp
  omega
theorem sp_lt (l : List UInt8) (k : Nat) (h : k < l.length) (hl : blB (at0 l (l.length - 1)) = false) : behN spB l k < l.length:=by
 have h1:=behN_le spB l k (by omega)
 rcases Nat.lt_or_ge (behN spB l k) l.length with h2 | h2
 ·exact h2
 ·have:=behN_so spB l k (l.length - 1) (by omega) (by omega)
  unfold blB at hl
  unfold spB at this
  simp at hl this
  omega
theorem anyTo_true (p : Nat -> Bool) (i : Nat) (h : p i = true) : ∀ n,i < n -> anyTo p n = true
 | 0,hn=>by omega
 | n + 1,hn=>by
  rw [anyTo]
  by_cases e : i = n
  ·subst e; rw [h,Bool.or_true]
  ·rw [anyTo_true p i h n (by omega),Bool.true_or]
-- from Apk
theorem IsBuilderF.box {n b : Nat} {bs : List Value} {w : World} (h : Lib.IsBuilderF 54 5 n b bs w) : ∃ cs,BoxAt w b cs 54:=by
 rcases h with ⟨_,v,h,_⟩ | ⟨_,v,h,_⟩
 ·exact ⟨_,h⟩
 ·exact ⟨_,h⟩
-- from Apa
def besideAt (l : List EL) : Nat -> Bool
 | 0=>false
 | j + 1=>match l[j]? with
  | some (.mk _ none)=>true
  | _=>false
theorem pat_get {W0 : World} {l : List EL} {v : Value} (h : PatAt W0 l v) {i : Nat} (hi : i < l.length) : ∃ b o c,v = .slice (some ⟨b,o,none⟩) l.length c /\ b < W0.heap.size /\
  ∀ j t p,l[j]? = some (.mk t p) -> W0.cell? ⟨b,o + j * 2,none⟩ = some (.string t) /\ ∃ u,W0.cell? ⟨b,o + j * 2 + 1,none⟩ = some u /\ OAt W0 p u:=by
 obtain ⟨A,c,rfl,_,_,h2⟩:=h
 obtain ⟨b,o,rfl,h3⟩:=h2 (by omega)
 obtain ⟨t,p⟩ : EL:=l[0]'(by omega)
 have h0 : l[0]? = some l[0]:=List.getElem?_eq_getElem (by omega)
 refine ⟨b,o,c,rfl,?_,fun j t p hj=>?_⟩
 ·cases e : l[0]'(by omega) with
  | mk t p=>rw [e] at h0; exact (h3.get 0 h0).1
 ·exact ⟨(h3.get j hj).2.1,(h3.get j hj).2.2⟩
theorem sizeEs_length : ∀ l : List EL,l.length <= sizeEs l
 | []=>Nat.zero_le _
 | .mk t p :: r=>by have:=sizeEs_length r; rw [sizeEs,List.length_cons]; omega
theorem sizeEs_append : ∀ a b : List EL,sizeEs (a ++ b) = sizeEs a + sizeEs b
 | [],b=>by rw [List.nil_append,sizeEs]; omega
 | .mk t p :: r,b=>by rw [List.cons_append,sizeEs,sizeEs,sizeEs_append r b]; omega
theorem linesOf_append (c : UInt8) : ∀ a b : List EL,linesOf c (a ++ b) = linesOf c a ++ linesOf c b
 | [],b=>by simp [linesOf]
 | .mk t none :: r,b=>by rw [List.cons_append,linesOf,linesOf,linesOf_append c r b,List.append_assoc]
 | .mk t (some e) :: r,b=>by rw [List.cons_append,linesOf,linesOf,linesOf_append c r b,List.cons_append]
theorem linesOf_length (c : UInt8) : ∀ l : List EL,(linesOf c l).length <= sizeEs l
 | []=>by simp [linesOf]
 | .mk t none :: r=>by have:=linesOf_length c r; have:=size_data t; rw [linesOf,sizeEs,List.length_append]; omega
 | .mk t (some e) :: r=>by have:=linesOf_length c r; rw [linesOf,sizeEs,List.length_cons]; omega
theorem sizeEs_take (l : List EL) (i : Nat) : sizeEs (l.take i) <= sizeEs l:=by
 have:=sizeEs_append (l.take i) (l.drop i)
 rw [List.take_append_drop] at this
 omega
theorem StepQ.later {B qb : Nat} {a w w' : World} (h : StepQ B qb a w) (hb : Below w.heap.size w w') (hB : B <= w.heap.size) : StepQ B qb a w' :=
 ⟨h.below.trans (hb.mono hB),fun k o hk h1 h2=>by
  have:=h.kept k o hk h1 h2
  exact (hb.block k (Array.getElem?_eq_some_iff.1 this).1).trans this⟩
theorem IsBuilderF.later {n b : Nat} {bs : List Value} {w w' : World} (h : Lib.IsBuilderF 54 5 n b bs w) (hb : Below w.heap.size w w') : Lib.IsBuilderF 54 5 n b bs w':=by
 have go : ∀ {p : Value},Lib.BuilderAtF 54 5 n b p bs w -> Lib.BuilderAtF 54 5 n b p bs w':=by
  rintro p ⟨h1,v,h2,h3,h4⟩
  refine ⟨h1,v,(hb.block b (Array.getElem?_eq_some_iff.1 h2).1).trans h2,?_,h4⟩
  obtain ⟨g1,g2⟩:=h3
  refine ⟨g1,?_⟩
  rcases g2 with g2 | ⟨g,cap,cur,fz,e,hg,hh,r⟩
  ·exact .inl g2
  ·exact .inr ⟨g,cap,cur,fz,e,hg,(hb.block g (Array.getElem?_eq_some_iff.1 hh).1).trans hh,r⟩
 rcases h with h | h
 ·exact .inl (go h)
 ·exact .inr (go h)
-- from Alnm
theorem ldigit_any (c : UInt8) (w : World) : Calls Tryz.prog 55 #[.int .u8 (c.toNat : Int)] w fun e w'=>e = .returned (.bool (dgB c)) /\ w = w':=by
 by_cases h : (48 : Int) <= (c.toNat : Int)
 all_goals
  go_enter Tryz.func55,Tryz.ntmps55
  go_wp2
  go_ret
  refine ⟨ret_bool ?_,rfl⟩
  rw [Bool.eq_iff_iff]
  simp [dgB]
  omega
theorem lletter_any (c : UInt8) (w : World) : Calls Tryz.prog 54 #[.int .u8 (c.toNat : Int)] w fun e w'=>e = .returned (.bool (leB c)) /\ w = w':=by
 by_cases h1 : (97 : Int) <= (c.toNat : Int)
 ·by_cases h2 : (c.toNat : Int) <= 122
  ·go_enter Tryz.func54,Tryz.ntmps54
   go_wp2
   go_ret
   refine ⟨ret_bool ?_,rfl⟩
   simp [leB,h1,h2]
  ·have hb : decide ((c.toNat : Int) <= 122) = false:=by simp; omega
   by_cases h3 : (65 : Int) <= (c.toNat : Int)
   all_goals
    go_enter Tryz.func54,Tryz.ntmps54
    go_wp2
    go_ret
    refine ⟨ret_bool ?_,rfl⟩
    rw [Bool.eq_iff_iff]
    simp [leB]
    omega
 ·by_cases h3 : (65 : Int) <= (c.toNat : Int)
  all_goals
   go_enter Tryz.func54,Tryz.ntmps54
   go_wp2
   go_ret
   refine ⟨ret_bool ?_,rfl⟩
   rw [Bool.eq_iff_iff]
   simp [leB]
   omega
theorem jo_or (c : UInt8) : joB c = true ↔ ((c.toNat : Int) = 95 ∨ (c.toNat : Int) = 45):=by simp [joB]
set_option maxHeartbeats 2000000 in
theorem lname_any (s : ByteArray) (w : World) (hs : s.size <= 4000000) :
  Calls Tryz.prog 34 #[.string s] w fun e w'=>e = .returned (.bool (lnameB s.data.toList)) /\ w = w':=by
 obtain ⟨R,hR⟩ : ∃ R,lnameB s.data.toList = R:=⟨_,rfl⟩
 rw [hR]
 have HR:=hid hR
 clear hR
 have hbad : ∀ j,j < s.size -> goodAt s.data.toList j = false -> R = false:=by
  intro j hj hg
  rw [<- HR.out]
  apply Bool.eq_false_iff.2
  intro h
  have:=(of_decide_eq_true h).2 j (by rw [size_data]; exact hj)
  rw [hg] at this
  cases this
 have HBad:=hid hbad
 clear hbad
 go_enter Tryz.func34,Tryz.ntmps34
 go_wp2_with fail
 go_loop [3,4] (fun t _=>∃ j : Nat,t = .int .i64 j /\ j <= s.size /\ Hid (∀ m,m < j -> goodAt s.data.toList m = true)) (fun t _=>s.size - (intOf t).toNat)
 case atStart=>exact ⟨0,rfl,Nat.zero_le _,hid fun m h=>by omega⟩
 case round =>
  obtain ⟨j,rfl,hjs,hg⟩:=hrel
  by_cases hlt : j < s.size
  ·have hlt' : j < s.data.toList.length:=by rw [size_data]; exact hlt
   have hat : at0 s.data.toList j = s[j]:=at0_get _ j hlt'
   have hnext : goodAt s.data.toList j = true -> Hid (∀ m,m < j + 1 -> goodAt s.data.toList m = true):=fun h=>hid fun m hm=>by
    by_cases e : m = j
    ·subst e; exact h
    ·exact hg.out m (by omega)
   have Hnext:=hid hnext
   have Hat:=hid hat
   clear hnext hat
   cases hl : leB s[j]
   ·cases hd : dgB s[j]
    ·cases hj : joB s[j]
     ·obtain rfl : R = false:=HBad.out j hlt (by unfold goodAt; rw [Hat.out,hl,hd,hj]; simp)
      have h1 : ((s[j].toNat : Int) != 95) = true:=by
       apply bne_iff_ne.2; intro h; rw [(jo_or _).2 (.inl h)] at hj; cases hj
      have h2 : ((s[j].toNat : Int) != 45) = true:=by
       apply bne_iff_ne.2; intro h; rw [(jo_or _).2 (.inr h)] at hj; cases hj
      clear hj
      by_cases hz : j = 0
      ·subst hz
       go_wp2_with (first | (go_at_call 54; refine (lletter_any _ _).mono ?_; rw [hl]; rintro e w' ⟨rfl,rfl⟩) | (go_at_call 55; refine (ldigit_any _ _).mono ?_; rw [hd]; rintro e w' ⟨rfl,rfl⟩))
       go_ret
       exact ⟨rfl,rfl⟩
      ·have hz' : ((j : Int) == 0) = false:=by simp; omega
       go_wp2_with (first | (go_at_call 54; refine (lletter_any _ _).mono ?_; rw [hl]; rintro e w' ⟨rfl,rfl⟩) | (go_at_call 55; refine (ldigit_any _ _).mono ?_; rw [hd]; rintro e w' ⟨rfl,rfl⟩))
       go_ret
       exact ⟨rfl,rfl⟩
     ·by_cases hz : j = 0
      ·subst hz
       obtain rfl : R = false:=HBad.out 0 hlt (by unfold goodAt; rw [Hat.out,hl]; simp)
       clear hj
       go_wp2_with (first | (go_at_call 54; refine (lletter_any _ _).mono ?_; rw [hl]; rintro e w' ⟨rfl,rfl⟩) | (go_at_call 55; refine (ldigit_any _ _).mono ?_; rw [hd]; rintro e w' ⟨rfl,rfl⟩))
       go_ret
       exact ⟨rfl,rfl⟩
      ·have hz' : ((j : Int) == 0) = false:=by simp; omega
       have hgd:=Hnext.out (by unfold goodAt; rw [Hat.out,hl,hj]; simp; omega)
       rcases (jo_or _).1 hj with h | h
       ·have h1 : ((s[j].toNat : Int) != 95) = false:=by rw [h]; rfl
        clear hj h
        go_wp2_with (first | (go_at_call 54; refine (lletter_any _ _).mono ?_; rw [hl]; rintro e w' ⟨rfl,rfl⟩) | (go_at_call 55; refine (ldigit_any _ _).mono ?_; rw [hd]; rintro e w' ⟨rfl,rfl⟩))
        go_round
        case rel=>exact ⟨j + 1,by go_num,by omega,hgd⟩
        case measure=>simp [intOf]; omega
       ·have h1 : ((s[j].toNat : Int) != 95) = true:=by rw [h]; rfl
        have h2 : ((s[j].toNat : Int) != 45) = false:=by rw [h]; rfl
        clear hj h
        go_wp2_with (first | (go_at_call 54; refine (lletter_any _ _).mono ?_; rw [hl]; rintro e w' ⟨rfl,rfl⟩) | (go_at_call 55; refine (ldigit_any _ _).mono ?_; rw [hd]; rintro e w' ⟨rfl,rfl⟩))
        go_round
        case rel=>exact ⟨j + 1,by go_num,by omega,hgd⟩
        case measure=>simp [intOf]; omega
    ·by_cases hz : j = 0
     ·subst hz
      obtain rfl : R = false:=HBad.out 0 hlt (by unfold goodAt; rw [Hat.out,hl]; simp)
      go_wp2_with (first | (go_at_call 54; refine (lletter_any _ _).mono ?_; rw [hl]; rintro e w' ⟨rfl,rfl⟩) | (go_at_call 55; refine (ldigit_any _ _).mono ?_; rw [hd]; rintro e w' ⟨rfl,rfl⟩))
      go_ret
      exact ⟨rfl,rfl⟩
     ·have hz' : ((j : Int) == 0) = false:=by simp; omega
      have hgd:=Hnext.out (by unfold goodAt; rw [Hat.out,hl,hd]; simp; omega)
      go_wp2_with (first | (go_at_call 54; refine (lletter_any _ _).mono ?_; rw [hl]; rintro e w' ⟨rfl,rfl⟩) | (go_at_call 55; refine (ldigit_any _ _).mono ?_; rw [hd]; rintro e w' ⟨rfl,rfl⟩))
      go_round
      case rel=>exact ⟨j + 1,by go_num,by omega,hgd⟩
      case measure=>simp [intOf]; omega
   ·have hgd:=Hnext.out (by unfold goodAt; rw [Hat.out,hl]; rfl)
    go_wp2_with (first | (go_at_call 54; refine (lletter_any _ _).mono ?_; rw [hl]; rintro e w' ⟨rfl,rfl⟩) | (go_at_call 55; refine (ldigit_any _ _).mono ?_; rintro e w' ⟨rfl,rfl⟩))
    go_round
    case rel=>exact ⟨j + 1,by go_num,by omega,hgd⟩
    case measure=>simp [intOf]; omega
  ·obtain rfl : j = s.size:=by omega
   have hfin:=hid (show R = decide (0 < s.size) by
    rw [<- HR.out]
    unfold lnameB
    rw [Bool.eq_iff_iff,decide_eq_true_iff,decide_eq_true_iff,size_data]
    exact ⟨fun h=>by omega,fun h=>⟨by omega,hg.out⟩⟩)
   go_wp2
   go_ret
   exact ⟨ret_bool hfin.out.symm,rfl⟩
def bigTo (s : ByteArray) (j : Nat) : Bool:=decide (0 < s.size) && (s.data.toList.take j).all biB
theorem behN_all (p : UInt8 -> Bool) (l : List UInt8) : (behN p l 0 = l.length) ↔ l.all p = true:=by
 rw [all_at]
 constructor
 ·intro h m hm
  exact behN_so p l 0 m (Nat.zero_le _) (by omega)
 ·intro h
  have h1:=behN_le p l 0 (Nat.zero_le _)
  by_cases e : behN p l 0 < l.length
  ·have:=behN_stop p l 0 e
   rw [h _ e] at this
   cases this
  ·omega
theorem empty_size (s : ByteArray) : s.data.toList.isEmpty = !decide (0 < s.size):=by
 rw [Bool.eq_iff_iff,List.isEmpty_iff,<- List.length_eq_zero_iff,size_data]
 simp
theorem bigV_to (s : ByteArray) : bigV s = bigTo s s.size:=by
 unfold bigV bigTo behI
 have h:=behN_all biB s.data.toList
 rw [if_neg (by omega),empty_size,Bool.not_not,<- size_data,List.take_length]
 congr 1
 rw [Bool.eq_iff_iff,beq_iff_eq,<- h]
 simp only [Int.toNat_zero]
 omega
theorem nameV_l (s : ByteArray) : isNameV s = lnameB s.data.toList:=by
 unfold isNameV lnameB
 rw [empty_size,Bool.not_not,Bool.eq_iff_iff,Bool.and_eq_true,decide_eq_true_iff,decide_eq_true_iff,beq_iff_eq,size_data]
 have hl:=lname_iff s.data.toList 0 s.size (by rw [size_data]; exact Nat.le_refl _)
 unfold lnameB at hl
 have hpc : pc s.data.toList 0 s.size = s.data.toList:=by
  unfold pc
  rw [List.drop_zero,<- size_data,List.take_length]
 rw [hpc,decide_eq_true_iff,size_data] at hl
 rw [hl]
 unfold nameI
 rw [size_data]
 constructor
 ·rintro ⟨h0,h1⟩
  by_cases hc : (0 : Int) <= 0 /\ (0 : Int) < s.size /\ leB (s.data.toList.getD (0 : Int).toNat 0) = true
  ·rw [if_pos hc] at h1
   refine ⟨h0,hc.2.2,fun m _ hm=>?_⟩
   unfold behI at h1
   rw [if_neg (by omega)] at h1
   exact behN_so naB _ 0 m (Nat.zero_le _) (by rw [show (0 : Int).toNat = 0 from rfl] at h1; omega)
  ·rw [if_neg hc] at h1; omega
 ·rintro ⟨h0,h1,h2⟩
  refine ⟨h0,?_⟩
  rw [if_pos ⟨by omega,by omega,h1⟩]
  unfold behI
  rw [if_neg (by omega),show (0 : Int).toNat = 0 from rfl]
  have h:=(behN_all naB s.data.toList).2 ((all_at _ _).2 fun m hm=>h2 m (Nat.zero_le _) (by rw [size_data] at hm; exact hm))
  rw [h,size_data]
-- from Alnu
theorem bad_num (T : ByteArray) (j : Nat) (h : j < T.size) (hb : okAt T.data.toList j = false) : numB T.data.toList = false:=by
 apply Bool.eq_false_iff.2
 intro hq
 have:=(of_decide_eq_true hq).2.1 j (by rw [size_data]; exact h)
 rw [hb] at this
 cases this
set_option maxHeartbeats 8000000 in
theorem lnumber_any (s : ByteArray) (w : World) (hs : s.size <= 4000000) :
  Calls Tryz.prog 84 #[.string s] w fun e w'=>e = .returned (.bool (lnumB s.data.toList)) /\ w = w':=by
 obtain ⟨R,hR⟩ : ∃ R,lnumB s.data.toList = R:=⟨_,rfl⟩
 rw [hR]
 by_cases hpos : 0 < s.size
 ·have hp1 : decide ((0 : Int) < (s.size : Int)) = true:=by simp; omega
  have hat : at0 s.data.toList 0 = s[0]:=at0_get _ 0 (by rw [size_data]; exact hpos)
  by_cases h45 : s[0] = 45
  ·have h1 : ((s[0].toNat : Int) == 45) = true:=by rw [h45]; rfl
   obtain ⟨T,hT⟩ : ∃ T : ByteArray,s.extract 1 s.size = T:=⟨_,rfl⟩
   have hTs : T.size <= 4000000:=by rw [<- hT,ByteArray.size_extract]; omega
   have HR : Hid (numB T.data.toList = R):=hid (by
    rw [<- hR,<- hT,extract_drop]
    unfold lnumB strip
    rw [hat,if_pos h45])
   clear hR hat h45
   go_enter Tryz.func84,Tryz.ntmps84
   go_wp2_with fail
   go_loop [3,4] (fun c t=>∃ (j n : Nat),t = .int .i64 j /\ c = .int .i64 n /\ j <= T.size /\ n <= j /\ Hid (n = cntP T.data.toList j) /\ Hid (∀ m,m < j -> okAt T.data.toList m = true)) (fun _ t=>T.size - (intOf t).toNat)
   case atStart=>exact ⟨0,0,rfl,rfl,Nat.zero_le _,Nat.le_refl _,hid rfl,hid fun m h=>by omega⟩
   case round =>
    obtain ⟨j,n,rfl,rfl,hjs,hnj,hn,hok⟩:=hrel
    by_cases hlt : j < T.size
    ·have hlt' : j < T.data.toList.length:=by rw [size_data]; exact hlt
     have Hat:=hid (at0_get T.data.toList j hlt')
     have Hnext:=hid (fun (h : okAt T.data.toList j = true)=>hid (show ∀ m,m < j + 1 -> okAt T.data.toList m = true from fun m hm=>by
      by_cases e : m = j
      ·subst e; exact h
      ·exact hok.out m (by omega)))
     have Hcnt : Hid (cntP T.data.toList (j + 1) = cntP T.data.toList j + if ptAt T.data.toList j = true then 1 else 0):=hid rfl
     have Hbad:=hid (bad_num T j hlt)
     rw [HR.out] at Hbad
     have hq : ((T[j].toNat : Int) == 46) = decide (T[j] = 46):=by
      rw [Bool.eq_iff_iff,beq_iff_eq,decide_eq_true_iff]
      constructor
      ·intro h; exact UInt8.toNat_inj.1 (by have : (46 : UInt8).toNat = 46:=rfl; omega)
      ·intro h; rw [h]; rfl
     by_cases h46 : T[j] = 46
     ·have h1 : ((T[j].toNat : Int) == 46) = true:=by rw [hq]; simpa using h46
      have hd0 : dgB T[j] = false:=by rw [h46]; decide
      have Hd0:=hid hd0
      have H46:=hid h46
      clear hq hd0 h46
      by_cases hj0 : j = 0
      ·subst hj0
       obtain rfl : R = false:=Hbad.out (by unfold okAt ptAt; rw [Hat.out]; rw [show dgB T.data.toList[0] = false from Hd0.out]; simp)
       go_wp2_with (go_at_call 55; refine (ldigit_any T[0] _).mono ?_; rw [Hd0.out]; rintro e w' ⟨rfl,rfl⟩)
       go_ret
       exact ⟨rfl,rfl⟩
      ·have h2 : decide ((0 : Int) < (j : Int)) = true:=by simp; omega
       have h2n : decide (0 < j) = true:=by simp; omega
       by_cases hje : j + 1 < T.size
       ·have h3 : decide ((j : Int) < (T.size : Int) - 1) = true:=by simp; omega
        have Hp:=hid (show ptAt T.data.toList j = true by unfold ptAt; rw [Hat.out,size_data]; exact decide_eq_true ⟨H46.out,by omega,hje⟩)
        have Ho:=hid (show okAt T.data.toList j = true by unfold okAt; rw [Hp.out]; rfl)
        go_wp2_with (go_at_call 55; refine (ldigit_any T[j] _).mono ?_; rw [Hd0.out]; rintro e w' ⟨rfl,rfl⟩)
        go_round
        case rel=>exact ⟨j + 1,n + 1,by go_num,by go_num,by omega,by omega,hid (by rw [Hcnt.out,if_pos Hp.out,<- hn.out]),Hnext.out Ho.out⟩
        case measure=>simp [intOf]; omega
       ·have h3 : decide ((j : Int) < (T.size : Int) - 1) = false:=by simp; omega
        obtain rfl : R = false:=Hbad.out (by unfold okAt ptAt; rw [Hat.out,size_data]; rw [show dgB T.data.toList[j] = false from Hd0.out]; simp; omega)
        go_wp2_with (go_at_call 55; refine (ldigit_any T[j] _).mono ?_; rw [Hd0.out]; rintro e w' ⟨rfl,rfl⟩)
        go_ret
        exact ⟨rfl,rfl⟩
     ·have h1 : ((T[j].toNat : Int) == 46) = false:=by rw [hq]; simpa using h46
      have Hp:=hid (show ptAt T.data.toList j = false by unfold ptAt; rw [Hat.out]; exact decide_eq_false fun x=>h46 x.1)
      clear hq h46
      cases hd : dgB T[j]
      ·obtain rfl : R = false:=Hbad.out (by unfold okAt; rw [Hp.out,Hat.out]; exact hd)
       have Hd:=hid hd
       clear hd
       go_wp2_with (go_at_call 55; refine (ldigit_any T[j] _).mono ?_; rw [Hd.out]; rintro e w' ⟨rfl,rfl⟩)
       go_ret
       exact ⟨rfl,rfl⟩
      ·have Ho:=hid (show okAt T.data.toList j = true by unfold okAt; rw [Hp.out,Hat.out]; exact hd)
       have Hd:=hid hd
       clear hd
       go_wp2_with (go_at_call 55; refine (ldigit_any T[j] _).mono ?_; rw [Hd.out]; rintro e w' ⟨rfl,rfl⟩)
       go_round
       case rel=>exact ⟨j + 1,n,by go_num,rfl,by omega,by omega,hid (by rw [Hcnt.out,if_neg (by rw [Hp.out]; decide),<- hn.out]; rfl),Hnext.out Ho.out⟩
       case measure=>simp [intOf]; omega
    ·obtain rfl : j = T.size:=by omega
     have Hfin:=hid (show R = (decide (0 < T.size) && decide (n <= 1)) by
      rw [<- HR.out]
      unfold numB
      rw [Bool.eq_iff_iff,Bool.and_eq_true,decide_eq_true_iff,decide_eq_true_iff,decide_eq_true_iff,size_data,<- hn.out]
      exact ⟨fun h=>⟨h.1,h.2.2⟩,fun h=>⟨h.1,hok.out,h.2⟩⟩)
     by_cases hz : 0 < T.size
     ·have hz1 : decide ((0 : Int) < (T.size : Int)) = true:=decide_eq_true (by omega); have hz2 : decide (0 < T.size) = true:=decide_eq_true hz
      go_wp2
      go_ret
      exact ⟨ret_bool (by rw [Hfin.out,hz2]; simp; omega),rfl⟩
     ·have hz0 : T.size = 0:=by omega
      have Hf2:=hid (show R = false by rw [Hfin.out,decide_eq_false hz]; rfl)
      go_wp2
      go_ret
      exact ⟨ret_bool (by rw [Hf2.out]),rfl⟩
  ·have h1 : ((s[0].toNat : Int) == 45) = false:=by
    apply beq_eq_false_iff_ne.2
    intro h
    exact h45 (UInt8.toNat_inj.1 (by have : (45 : UInt8).toNat = 45:=rfl; omega))
   have HR : Hid (numB s.data.toList = R):=hid (by
    rw [<- hR]
    unfold lnumB strip
    rw [hat,if_neg h45])
   clear hR hat h45
   have hTs:=hs
   go_enter Tryz.func84,Tryz.ntmps84
   go_wp2_with fail
   go_loop [3,4] (fun c t=>∃ (j n : Nat),t = .int .i64 j /\ c = .int .i64 n /\ j <= s.size /\ n <= j /\ Hid (n = cntP s.data.toList j) /\ Hid (∀ m,m < j -> okAt s.data.toList m = true)) (fun _ t=>s.size - (intOf t).toNat)
   case atStart=>exact ⟨0,0,rfl,rfl,Nat.zero_le _,Nat.le_refl _,hid rfl,hid fun m h=>by omega⟩
   case round =>
    obtain ⟨j,n,rfl,rfl,hjs,hnj,hn,hok⟩:=hrel
    by_cases hlt : j < s.size
    ·have hlt' : j < s.data.toList.length:=by rw [size_data]; exact hlt
     have Hat:=hid (at0_get s.data.toList j hlt')
     have Hnext:=hid (fun (h : okAt s.data.toList j = true)=>hid (show ∀ m,m < j + 1 -> okAt s.data.toList m = true from fun m hm=>by
      by_cases e : m = j
      ·subst e; exact h
      ·exact hok.out m (by omega)))
     have Hcnt : Hid (cntP s.data.toList (j + 1) = cntP s.data.toList j + if ptAt s.data.toList j = true then 1 else 0):=hid rfl
     have Hbad:=hid (bad_num s j hlt)
     rw [HR.out] at Hbad
     have hq : ((s[j].toNat : Int) == 46) = decide (s[j] = 46):=by
      rw [Bool.eq_iff_iff,beq_iff_eq,decide_eq_true_iff]
      constructor
      ·intro h; exact UInt8.toNat_inj.1 (by have : (46 : UInt8).toNat = 46:=rfl; omega)
      ·intro h; rw [h]; rfl
     by_cases h46 : s[j] = 46
     ·have h1 : ((s[j].toNat : Int) == 46) = true:=by rw [hq]; simpa using h46
      have hd0 : dgB s[j] = false:=by rw [h46]; decide
      have Hd0:=hid hd0
      have H46:=hid h46
      clear hq hd0 h46
      by_cases hj0 : j = 0
      ·subst hj0
       obtain rfl : R = false:=Hbad.out (by unfold okAt ptAt; rw [Hat.out]; rw [show dgB s.data.toList[0] = false from Hd0.out]; simp)
       go_wp2_with (go_at_call 55; refine (ldigit_any s[0] _).mono ?_; rw [Hd0.out]; rintro e w' ⟨rfl,rfl⟩)
       go_ret
       exact ⟨rfl,rfl⟩
      ·have h2 : decide ((0 : Int) < (j : Int)) = true:=by simp; omega
       have h2n : decide (0 < j) = true:=by simp; omega
       by_cases hje : j + 1 < s.size
       ·have h3 : decide ((j : Int) < (s.size : Int) - 1) = true:=by simp; omega
        have Hp:=hid (show ptAt s.data.toList j = true by unfold ptAt; rw [Hat.out,size_data]; exact decide_eq_true ⟨H46.out,by omega,hje⟩)
        have Ho:=hid (show okAt s.data.toList j = true by unfold okAt; rw [Hp.out]; rfl)
        go_wp2_with (go_at_call 55; refine (ldigit_any s[j] _).mono ?_; rw [Hd0.out]; rintro e w' ⟨rfl,rfl⟩)
        go_round
        case rel=>exact ⟨j + 1,n + 1,by go_num,by go_num,by omega,by omega,hid (by rw [Hcnt.out,if_pos Hp.out,<- hn.out]),Hnext.out Ho.out⟩
        case measure=>simp [intOf]; omega
       ·have h3 : decide ((j : Int) < (s.size : Int) - 1) = false:=by simp; omega
        obtain rfl : R = false:=Hbad.out (by unfold okAt ptAt; rw [Hat.out,size_data]; rw [show dgB s.data.toList[j] = false from Hd0.out]; simp; omega)
        go_wp2_with (go_at_call 55; refine (ldigit_any s[j] _).mono ?_; rw [Hd0.out]; rintro e w' ⟨rfl,rfl⟩)
        go_ret
        exact ⟨rfl,rfl⟩
     ·have h1 : ((s[j].toNat : Int) == 46) = false:=by rw [hq]; simpa using h46
      have Hp:=hid (show ptAt s.data.toList j = false by unfold ptAt; rw [Hat.out]; exact decide_eq_false fun x=>h46 x.1)
      clear hq h46
      cases hd : dgB s[j]
      ·obtain rfl : R = false:=Hbad.out (by unfold okAt; rw [Hp.out,Hat.out]; exact hd)
       have Hd:=hid hd
       clear hd
       go_wp2_with (go_at_call 55; refine (ldigit_any s[j] _).mono ?_; rw [Hd.out]; rintro e w' ⟨rfl,rfl⟩)
       go_ret
       exact ⟨rfl,rfl⟩
      ·have Ho:=hid (show okAt s.data.toList j = true by unfold okAt; rw [Hp.out,Hat.out]; exact hd)
       have Hd:=hid hd
       clear hd
       go_wp2_with (go_at_call 55; refine (ldigit_any s[j] _).mono ?_; rw [Hd.out]; rintro e w' ⟨rfl,rfl⟩)
       go_round
       case rel=>exact ⟨j + 1,n,by go_num,rfl,by omega,by omega,hid (by rw [Hcnt.out,if_neg (by rw [Hp.out]; decide),<- hn.out]; rfl),Hnext.out Ho.out⟩
       case measure=>simp [intOf]; omega
    ·obtain rfl : j = s.size:=by omega
     have Hfin:=hid (show R = (decide (0 < s.size) && decide (n <= 1)) by
      rw [<- HR.out]
      unfold numB
      rw [Bool.eq_iff_iff,Bool.and_eq_true,decide_eq_true_iff,decide_eq_true_iff,decide_eq_true_iff,size_data,<- hn.out]
      exact ⟨fun h=>⟨h.1,h.2.2⟩,fun h=>⟨h.1,hok.out,h.2⟩⟩)
     by_cases hz : 0 < s.size
     ·have hz1 : decide ((0 : Int) < (s.size : Int)) = true:=decide_eq_true (by omega); have hz2 : decide (0 < s.size) = true:=decide_eq_true hz
      go_wp2
      go_ret
      exact ⟨ret_bool (by rw [Hfin.out,hz2]; simp; omega),rfl⟩
     ·have hz0 : s.size = 0:=by omega
      have Hf2:=hid (show R = false by rw [Hfin.out,decide_eq_false hz]; rfl)
      go_wp2
      go_ret
      exact ⟨ret_bool (by rw [Hf2.out]),rfl⟩
 ·have hp1 : decide ((0 : Int) < (s.size : Int)) = false:=decide_eq_false (by omega)
  have hp2 : decide (0 < s.size) = false:=decide_eq_false hpos
  obtain rfl : R = false:=by
   rw [<- hR]
   have : s.data.toList = []:=List.eq_nil_of_length_eq_zero (by rw [size_data]; omega)
   rw [this]
   decide
  have hz : s.size = 0:=by omega
  clear hR
  go_enter Tryz.func84,Tryz.ntmps84
  go_wp2_with fail
  go_loop [3,4] (fun c t=>t = .int .i64 0 /\ c = .int .i64 0) (fun _ t=>0)
  case atStart=>exact ⟨rfl,rfl⟩
  case round =>
   obtain ⟨rfl,rfl⟩:=hrel
   go_wp2
   go_ret
   exact ⟨rfl,rfl⟩
-- from Alm
theorem num_nil : lnumB [] = false:=by decide
theorem longN_top (Q : List UInt8 -> Bool) (l : List UInt8) (hl : l ≠ []) : longN Q l 0 l.length = l.length ↔ Q l = true:=by
 have hpc : pc l 0 l.length = l:=by unfold pc; rw [List.drop_zero,List.take_length]
 obtain ⟨m,hm⟩ : ∃ m,l.length = m + 1:=⟨l.length - 1,by have:=List.length_pos_iff.2 hl; omega⟩
 rw [hm] at hpc
 have hle : ∀ k,longN Q l 0 k <= k:=by
  intro k
  induction k with
  | zero=>exact Nat.le_refl _
  | succ k ih =>
   unfold longN
   split
   ·exact Nat.le_refl _
   ·omega
 rw [hm]
 unfold longN
 rw [hpc]
 constructor
 ·intro h
  split at h
  ·next h2=>exact h2.2
  ·have:=hle m; omega
 ·intro h
  rw [if_pos ⟨Nat.succ_pos _,h⟩]
theorem isNum_l (s : ByteArray) : isNum s = lnumB s.data.toList:=by
 unfold isNum
 have h0:=numI_nat s.data.toList 0
 rw [show ((0 : Nat) : Int) = 0 from rfl] at h0
 rw [h0,<- long_num s.data.toList 0 (Nat.zero_le _)]
 by_cases he : s.data.toList = []
 ·rw [he,num_nil]; rfl
 ·have ht:=longN_top lnumB s.data.toList he
  rw [Bool.eq_iff_iff,Bool.and_eq_true,beq_iff_eq,<- ht,Bool.not_eq_true',List.isEmpty_eq_false_iff,<- size_data]
  constructor
  ·rintro ⟨_,h⟩; omega
  ·intro h; exact ⟨he,by omega⟩
theorem valid_sigs : ∀ (n : Nat) (l : List UInt8),Lib.validGoD n l = (sigs n l).isSome
 | 0,l=>rfl
 | n + 1,l=>by
  unfold Lib.validGoD sigs
  by_cases he : l = []
  ·rw [if_pos he,if_pos he]; rfl
  ·rw [if_neg he,if_neg he]
   have hp:=decodeL_pos l
   by_cases h : (Lib.decodeL l).1 = 65533 /\ (Lib.decodeL l).2 = 1
   ·rw [if_pos h,if_pos ⟨h.1,by omega⟩]; rfl
   ·rw [if_neg h,if_neg (fun e=>h ⟨e.1,by omega⟩),valid_sigs n]
    simp
end Go.Proofs.YtgdkpamlkpncgaaGreatDoor
