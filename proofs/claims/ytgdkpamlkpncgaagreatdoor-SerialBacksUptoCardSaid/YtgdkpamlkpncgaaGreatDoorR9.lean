/-
  Several texts put together (part 9): what the law and the program call, walked; their contracts.
-/
import Derived.Test.YtgdkpamlkpncgaaGreatDoorR5
import Derived.Test.YtgdkpamlkpncgaaGreatDoorR4
import Derived.Test.YtgdkpamlkpncgaaGreatDoorR8
import Derived.Deep.QuietTactic
import Derived.BigQuiet
import Derived.Lib.MapLaws
import Derived.Shelf.Strings.BuilderK
namespace Go.Proofs.YtgdkpamlkpncgaaGreatDoor
open Go.RowKit
open _root_.Go.Lib (hid)
set_option linter.unusedVariables false
set_option linter.unusedSimpArgs false
def mkB (l : List UInt8) : ByteArray:=⟨l.toArray⟩
def isAt (s : ByteArray) (i : Nat) (c : UInt8) : Bool:=decide (i < s.size) && (at0 s.data.toList i == c)
theorem isAt_lt {s : ByteArray} {i : Nat} {c : UInt8} (h : isAt s i c = true) : i < s.size:=by
 unfold isAt at h
 rw [Bool.and_eq_true,decide_eq_true_iff] at h
 exact h.1
def bl (s : ByteArray) (i : Nat) : Nat:=behN blB s.data.toList i
def sp (s : ByteArray) (i : Nat) : Nat:=behN spB s.data.toList i
def nm (s : ByteArray) (i : Nat) : Nat:=if i < s.size /\ leB (at0 s.data.toList i) = true then behN naB s.data.toList i else i
def nu (s : ByteArray) (i : Nat) : Nat:=numN s.data.toList i
theorem bl_ge (s : ByteArray) (i : Nat) : i <= bl s i:=behN_ge _ _ _
theorem sp_ge (s : ByteArray) (i : Nat) : i <= sp s i:=behN_ge _ _ _
def E0 : ByteArray:=⟨#[]⟩
abbrev Res:=Option (EX × Nat)
def quoS (s : ByteArray) (i : Nat) : Res:=match unqAll (s.extract i s.size) with
 | some (t,n)=>some (.mk 0 (mkB t) E0 E0 [] none [],i + n)
 | none=>none
def varS (s : ByteArray) (i : Nat) : Res:=if isAt s i 36 && decide (i + 1 < nm s (i + 1)) then some (.mk 2 E0 (s.extract (i + 1) (nm s (i + 1))) E0 [] none [],nm s (i + 1)) else none
def nestS (P : Nat -> Res) (i : Nat) : Res:=match P i with
 | some (e,j)=>some (.mk 6 E0 E0 E0 [] (some e) [],j)
 | none=>none
def refS (k : Int) (s : ByteArray) (i : Nat) : Res :=
 if nm s i = i then none
 else if isAt s (nm s i) 46 then
  (if nm s (nm s i + 1) = nm s i + 1 then none else some (.mk k E0 (s.extract i (nm s i)) (s.extract (nm s i + 1) (nm s (nm s i + 1))) [] none [],nm s (nm s i + 1)))
 else some (.mk k E0 (s.extract i (nm s i)) E0 [] none [],nm s i)
def terS (s : ByteArray) (i : Nat) : Res:=if isAt s i 45 then refS 4 s (i + 1) else none
def nubS (s : ByteArray) (i : Nat) : Res:=if nu s i = i then none else some (.mk 1 (s.extract i (nu s i)) E0 E0 [] none [],nu s i)
def headS (P : Nat -> Res) (s : ByteArray) (i : Nat) : Res:=(quoS s i).or ((varS s i).or ((nestS P i).or ((terS s i).or ((refS 3 s i).or (nubS s i)))))
def isFuncS : EX -> Bool | .mk k _ n a _ _ _=>(k == 3) && emp a && bigV n
def isTermS : EX -> Bool | .mk k _ _ _ _ _ _=>k == 4
def termAttr : EX -> Bool | .mk k _ _ a _ _ _=>(k == 4) && !emp a
def opnE : EX -> EX | .mk k t n a al i v=>.mk (if k = 3 then 5 else k) t n a al i v
def withArgs : EX -> List AR -> EX | .mk k t n a _ i v,xs=>.mk k t n a xs i v
def opnS (s : ByteArray) (e : EX) (i : Nat) : Bool × Nat :=
 if isFuncS e || isTermS e then (if isAt s (bl s i) 40 then (true,bl s i + 1) else (false,bl s i)) else (false,i)
def namS (s : ByteArray) (i : Nat) : Option (ByteArray × EX × Nat) :=
 if nm s i = i then none
 else if isAt s (bl s (nm s i)) 58 then
  (match (quoS s (bl s (bl s (nm s i) + 1))).or (nubS s (bl s (bl s (nm s i) + 1))) with
   | some (e,q)=>some (s.extract i (nm s i),e,q)
   | none=>none)
 else none
def argS (P : Nat -> Res) (s : ByteArray) (i : Nat) : Option (ByteArray × EX × Nat):=match namS s i with
 | some x=>some x
 | none=>match headS P s i with
  | some (e,j)=>some (E0,e,j)
  | none=>none
def addOk (xs : List AR) (n : ByteArray) (e : EX) : Bool:=if emp n then xs.all (fun x=>emp (arName x)) && !termAttr e else !(xs.any fun x=>decide (arName x = n))
def argsS (P : Nat -> Res) (s : ByteArray) (xs : List AR) (want : Bool) (i : Nat) : Option (List AR × Nat) :=
 if isAt s (bl s i) 41 then some (xs,bl s i + 1)
 else if want then
  if h : isAt s (bl s i) 44 = true then argsS P s xs false (bl s i + 1) else none
 else match argS P s (bl s i) with
  | none=>none
  | some (n,e,j) =>
   if emp n && (opnS s e j).1 then
    if h : i < (opnS s e j).2 /\ (opnS s e j).2 <= s.size then
     match argsS P s [] false (opnS s e j).2 with
     | none=>none
     | some (xs',m) =>
      if h2 : i < m /\ m <= s.size then
       if addOk xs E0 (withArgs (opnE e) xs') then argsS P s (xs ++ [.mk E0 (withArgs (opnE e) xs')]) true m else none
      else none
    else none
   else if h : i < (if emp n then (opnS s e j).2 else j) /\ (if emp n then (opnS s e j).2 else j) <= s.size then
    if addOk xs n e then argsS P s (xs ++ [.mk n e]) true (if emp n then (opnS s e j).2 else j) else none
   else none
termination_by s.size - i
decreasing_by
 ·have:=bl_ge s i; have:=isAt_lt h; omega
 ·omega
 ·omega
 ·omega
def inlS (P : Nat -> Res) (s : ByteArray) (i : Nat) : Res:=match headS P s i with
 | none=>none
 | some (e,j) =>
  if (opnS s e j).1 then
   match argsS P s [] false (opnS s e j).2 with
   | none=>none
   | some (xs,m)=>some (withArgs (opnE e) xs,m)
  else some (e,(opnS s e j).2)
def txB (c : UInt8) : Bool:=!(c == 10 || c == 123 || c == 125)
def tx (s : ByteArray) (i : Nat) : Nat:=behN txB s.data.toList i
def addT (s : ByteArray) (acc : List EL) (i j : Nat) : List EL:=if i < j then acc ++ [.mk (s.extract i j) none] else acc
def partsS (P : Nat -> Res) (s : ByteArray) (acc : List EL) (i : Nat) : Option (List EL × Nat) :=
 if isAt s (tx s i) 123 then
  match P (tx s i) with
  | none=>none
  | some (e,j)=>if h : i < j /\ j <= s.size then partsS P s (addT s acc i (tx s i) ++ [.mk E0 (some e)]) j else none
 else some (addT s acc i (tx s i),tx s i)
termination_by s.size - i
decreasing_by omega
def nlS (s : ByteArray) (f fr i : Nat) : Nat × Nat × Nat:=if h : isAt s i 10 = true then nlS s (f + 1) (i + 1) (sp s (i + 1)) else (f,fr,i)
termination_by s.size - i
decreasing_by have:=sp_ge s (i + 1); have:=isAt_lt h; omega
def stopB (c : UInt8) : Bool:=c == 46 || c == 42 || c == 91 || c == 125
def nextS (s : ByteArray) (i : Nat) : Option (Nat × Nat × Nat) :=
 if (nlS s 0 i i).2.2 = (nlS s 0 i i).2.1 ∨ (nlS s 0 i i).2.2 = s.size ∨ stopB (at0 s.data.toList (nlS s 0 i i).2.2) = true then none
 else some ((nlS s 0 i i).1,(nlS s 0 i i).2.2 - (nlS s 0 i i).2.1,(nlS s 0 i i).2.2)
structure LN where
 feeds : Nat
 spaces : Nat
 parts : List EL
def linesS (P : Nat -> Res) (s : ByteArray) (acc : List LN) (f p : Nat) (i : Nat) : Option (List LN × Nat) :=
 match partsS P s [] i with
 | none=>none
 | some (ps,j)=>match nextS s j with
  | none=>some (acc ++ [⟨f,p,ps⟩],j)
  | some (f',p',k)=>if h : i < k /\ k <= s.size then linesS P s (acc ++ [⟨f,p,ps⟩]) f' p' k else none
termination_by s.size - i
decreasing_by omega
def leastS : List LN -> Nat
 | []=>0
 | x :: r=>r.foldl (fun m y=>if y.spaces < m then y.spaces else m) x.spaces
abbrev JS:=List EL × List UInt8
def endS (b : JS) : List EL:=if b.2 = [] then b.1 else b.1 ++ [.mk (mkB b.2) none]
def partJ (b : JS) : EL -> JS
 | .mk t none=>(b.1,b.2 ++ t.data.toList)
 | .mk t (some e)=>(endS b ++ [.mk t (some e)],[])
def headJ (least : Nat) (b : JS) (x : LN) : JS:=if b.1 = [] /\ b.2 = [] then b else (b.1,b.2 ++ List.replicate x.feeds 10 ++ List.replicate (x.spaces - least) 32)
def lineJ (least : Nat) (b : JS) (x : LN) : JS:=x.parts.foldl partJ (headJ least b x)
def trimR (l : List UInt8) : List UInt8:=(l.reverse.dropWhile (· == 32)).reverse
def joinS (ls : List LN) : List EL :=
 endS (let b:=ls.foldl (lineJ (leastS ls.tail)) ([],[]); (b.1,trimR b.2))
def patS (P : Nat -> Res) (s : ByteArray) (i : Nat) : Option (List EL × Nat):=match linesS P s [] 0 0 (sp s i) with
 | none=>none
 | some (ls,j)=>some (joinS ls,j)
def keyE (s : ByteArray) (a : Nat) : Nat:=if nm s a = a then nu s a else nm s a
def variS (P : Nat -> Res) (s : ByteArray) (i : Nat) : Option (VA × Nat) :=
 if isAt s (if isAt s i 42 then i + 1 else i) 91 then
  if keyE s (bl s ((if isAt s i 42 then i + 1 else i) + 1)) = bl s ((if isAt s i 42 then i + 1 else i) + 1) then none
  else if isAt s (bl s (keyE s (bl s ((if isAt s i 42 then i + 1 else i) + 1)))) 93 then
   match patS P s (bl s (keyE s (bl s ((if isAt s i 42 then i + 1 else i) + 1))) + 1) with
   | none=>none
   | some (l,j)=>if isAt s j 10 && !l.isEmpty then some (.mk (s.extract (bl s ((if isAt s i 42 then i + 1 else i) + 1)) (keyE s (bl s ((if isAt s i 42 then i + 1 else i) + 1)))) (isAt s i 42) l,j) else none
  else none
 else none
def varsS (P : Nat -> Res) (s : ByteArray) (acc : List VA) (i : Nat) : Option (List VA × Nat) :=
 if isAt s i 125 then (if acc.countP vaDflt = 1 then some (acc,i + 1) else none)
 else match variS P s i with
  | none=>none
  | some (v,j)=>if h : i < bl s j /\ bl s j <= s.size then varsS P s (acc ++ [v]) (bl s j) else none
termination_by s.size - i
decreasing_by omega
def selS (P : Nat -> Res) (s : ByteArray) (i : Nat) : Option (List VA × Nat):=if isAt s (sp s i) 10 then varsS P s [] (bl s (sp s i + 1)) else none
def mayAsk : EX -> Bool | .mk k t n a al i v=>decide (k = 0 ∨ k = 1 ∨ k = 2 ∨ k = 5) || termAttr (.mk k t n a al i v)
def placeS (s : ByteArray) : Nat -> Nat -> Res
 | 0,_=>none
 | r + 1,i =>
  if isAt s i 123 then
   match inlS (placeS s r) s (bl s (i + 1)) with
   | none=>none
   | some (e,j) =>
    if isAt s (bl s j) 125 then (if termAttr e then none else some (e,bl s j + 1))
    else if isAt s (bl s j) 45 && isAt s (bl s j + 1) 62 && mayAsk e then
     match selS (placeS s r) s (bl s j + 2) with
     | none=>none
     | some (vs,m)=>some (.mk 7 E0 E0 E0 [] (some e) vs,m)
    else none
  else none
def PosOk (s : ByteArray) (P : Nat -> Res) : Prop:=∀ i e j,P i = some (e,j) -> i < j /\ j <= s.size
def Enters (N : FuncId) : Prop:=∀ (args : Array Value) (w : World),(callFunc N args).run Tryz.prog w = .ok (.enter N args) w
def EndFn (N : FuncId) (f : ByteArray -> Nat -> Nat) (s : ByteArray) : Prop:=Enters N /\ ∀ (i : Nat) (w : World),s.size <= 4000000000 -> i <= s.size -> i <= f s i /\ f s i <= s.size /\ Calls Tryz.prog N #[.string s,.int .i64 (i : Nat)] w fun e w'=>e = .returned (.int .i64 (f s i : Nat)) /\ Below w.heap.size w w'
set_option maxHeartbeats 2000000 in
set_option maxRecDepth 100000 in
theorem pass_any {N : FuncId} {f : ByteArray -> Nat -> Nat} {rb : Nat} {s : ByteArray} {i : Nat} (hN : EndFn N f s) (w : World) (hr : Rd rb s i w) (hs : s.size <= 4000000000) (hi : i <= s.size) :
  Calls Tryz.prog 169 #[pt rb,.func (.func N) #[] #[]] w fun e w'=>e = .returned (.string (s.extract i (f s i))) /\ Rd rb s (f s i) w' /\ Kp rb w w':=by
 obtain ⟨hE,hC⟩:=hN
 obtain ⟨h1,h2,_⟩:=hC i w hs hi
 have hC2:=fun W=>(hC i W hs hi).2.2
 have HC:=hid hC2
 have c0:=hr.c0
 have c1:=hr.c1
 have f0:=hr.f 0
 have f1:=hr.f 1
 have hlt:=hr.lt
 have HR:=hid hr
 obtain ⟨j,hj⟩ : ∃ j,f s i = j:=⟨_,rfl⟩
 rw [hj] at h1 h2 HC ⊢
 have hi0 : (i : Int) <= 4000000000:=by omega
 have hj0 : (j : Int) <= 4000000000:=by omega
 have hij : (i : Int) <= (j : Int):=by omega
 have hjs : (j : Int) <= (s.size : Int):=by omega
 have hss : (s.size : Int) <= 4000000000:=by omega
 clear hC hC2 hj hr
 unfold Enters at hE
 unfold pt
 go_enter Tryz.func169,Tryz.ntmps169
 go_wp2_with fail
 refine (HC.out _).mono ?_
 rintro e w1 ⟨rfl,hb⟩
 have hR1:=HR.out.later hb
 have d0:=hR1.c0
 have d1:=hR1.c1
 have g0:=hR1.f 0
 have g1:=hR1.f 1
 have hl1:=hR1.lt
 have HR1:=hid hR1
 have HK:=hid (Kp.of_below hb (Nat.le_of_lt hlt))
 clear hR1 hb
 go_wp2
 go_region
 go_wp2
 go_ret
 exact ⟨rfl,HR1.out.set j,(HK.out.setCell 1 _).drew⟩
def strSize : Value -> Nat | .string b=>b.size | _=>0
theorem decodeL_pos (l : List UInt8) : 1 <= (Lib.decodeL l).2:=Lib.decodeL_width l
theorem ext_size (t : ByteArray) (n : Nat) (h : n <= t.size) : (t.extract 0 n).size = n /\ (t.extract n t.size).size = t.size - n:=by
 constructor
 ·simp; omega
 ·simp
theorem runeIn_any (s : ByteArray) (w : World) (hT : TabU w) (hs : 0 < s.size) : Calls Tryz.prog 25 #[.string s] w fun e w'=>e = .returned (.tuple #[.int .i32 (Lib.decodeL s.data.toList).1,.int .i64 (Lib.decodeL s.data.toList).2]) /\ Below w.heap.size w w':=by
 have h:=Tryz.utf8_DecodeRuneInString s w hT
 have e : Lib.decodeGo s = Lib.decodeL s.data.toList:=by
  unfold Lib.decodeGo Lib.decodeL
  rw [if_neg (by omega)]
 rw [e] at h
 exact h
theorem infoStr : (Tryz.prog.info? 9).map (fun i=>(i.zero,i.size,i.bytes)) = some (some (.string ⟨#[]⟩),1,16):=by kernel_rfl
def sigs : Nat -> List UInt8 -> Option (List (List UInt8))
 | 0,_=>some []
 | f + 1,l=>if l = [] then some [] else if (Lib.decodeL l).1 = 65533 /\ (Lib.decodeL l).2 <= 1 then none else (sigs f (l.drop (Lib.decodeL l).2)).map (l.take (Lib.decodeL l).2 :: ·)
def strV (l : List UInt8) : Value:=.string ⟨l.toArray⟩
def sigAll (l : List UInt8) : Option (List (List UInt8)):=sigs l.length l
def SignsEnd (l : List UInt8) (B : Nat) (w' : World) (e : Ending) : Prop :=
 (sigAll l = none /\ e = .returned (.tuple #[.slice none 0 0,.bool false])) ∨ ∃ xs v,sigAll l = some xs /\ xs.length <= l.length /\ e = .returned (.tuple #[v,.bool true]) /\ w'.ownsRowF B 9 1 v xs.length (xs.map strV)
theorem sigs_step (f : Nat) (l : List UInt8) (hne : l ≠ []) : sigs (f + 1) l = if (Lib.decodeL l).1 = 65533 /\ (Lib.decodeL l).2 <= 1 then none else (sigs f (l.drop (Lib.decodeL l).2)).map (l.take (Lib.decodeL l).2 :: ·):=by
 rw [sigs,if_neg hne]
theorem sigs_nil (f : Nat) : sigs f [] = some []:=by cases f <;> rfl
theorem strV_extract (t : ByteArray) (n : Nat) : strV (t.data.toList.take n) = .string (t.extract 0 n):=by
 unfold strV
 congr 1
 apply bytes_eq
 rw [extract_take]
theorem ownsRowF_below {w w1 : World} {base : Nat} {e : TypeId} {size : Nat} {v : Value} {n : Nat} {xs : List Value} (h : w.ownsRowF base e size v n xs) (hb : Below w.heap.size w w1) : w1.ownsRowF base e size v n xs:=by
 refine ⟨h.1,?_⟩
 rcases h.2 with hn | ⟨g,cap,cur,fz,hv,hbg,hg,rest⟩
 ·exact Or.inl hn
 ·exact Or.inr ⟨g,cap,cur,fz,hv,hbg,(hb.block g (Array.getElem?_eq_some_iff.1 hg).1).trans hg,rest⟩
theorem owns_empty (w : World) (e : TypeId) : (w.alloc (.cells #[] e)).ownsRowF w.heap.size e 1 (.slice (some ⟨w.heap.size,0,none⟩) 0 0) 0 []:=by
 refine ⟨rfl,Or.inr ⟨w.heap.size,0,#[],(0,0),rfl,Nat.le_refl _,heap_alloc_new w _,Nat.le_refl _,Nat.le_refl _,by decide,rfl,?_⟩⟩
 simp
set_option maxHeartbeats 4000000 in
set_option maxRecDepth 1000000 in
theorem signs_any (s : ByteArray) (w : World) (hT : TabU w) (hs : s.size <= 4000000) :
  Calls Tryz.prog 11 #[.string s] w fun e w'=>SignsEnd s.data.toList w.heap.size w' e /\ Below w.heap.size w w':=by
 obtain ⟨i0,hi,hz0,hz1,hz2⟩:=info_parts infoStr
 have hTw:=hid hT
 clear hT
 go_enter Tryz.func11,Tryz.ntmps11
 go_wp2
 go_loopw [0,4] (fun st ot wr=>∃ (t : ByteArray) (done : List (List UInt8)) (f : Nat),st = .string t /\ Hid (wr.ownsRowF w.heap.size 9 1 ot done.length (done.map strV)) /\ Hid ((sigs f t.data.toList).map (done ++ ·) = sigAll s.data.toList) /\ Hid (t.size <= f) /\ Hid (done.length + t.size <= s.size) /\ Below w.heap.size w wr) (fun st _ _=>strSize st)
 case atStart =>
  refine ⟨s,[],s.size,rfl,?_,?_,by show s.size <= s.size; omega,by show 0 + s.size <= s.size; omega,(Below.refl _ w).alloc (Nat.le_refl _) _⟩
  ·exact owns_empty w 9
  ·show _ = _
   unfold sigAll
   rw [size_data]
   cases sigs s.size s.data.toList <;> simp
 case round =>
  obtain ⟨t,done,f,rfl,Hown,Hsig,Hf,Hlen,hbw⟩:=hrel
  by_cases h0 : 0 < t.size
  ·have hne : t.data.toList ≠ []:=by
    intro e
    have h1:=size_data t
    rw [e,List.length_nil] at h1
    omega
   obtain ⟨f,rfl⟩ : ∃ f',f = f' + 1:=⟨f - 1,by have:=Hf.out; omega⟩
   have hsg:=Hsig.out
   rw [sigs_step f _ hne] at hsg
   have hw1:=decodeL_pos t.data.toList
   have hw2:=Lib.decodeL_le t.data.toList hne
   have hcall':=runeIn_any t wr (hTw.out.below hbw) h0
   have hsv:=strV_extract t (Lib.decodeL t.data.toList).2
   have hed:=extract_drop t (Lib.decodeL t.data.toList).2
   rw [size_data] at hw2
   generalize Lib.decodeL t.data.toList = rn at *
   obtain ⟨r,n⟩:=rn
   dsimp only at *
   have Hsv:=hid hsv
   have Hed:=hid hed
   have Hsg:=hid hsg
   have hflen:=Hlen.out
   clear hsv hed hsg hne Hsig
   have hn1 : (1 : Int) <= n:=by omega
   have hn2 : (n : Int) <= t.size:=by omega
   by_cases hbad : r = 65533 /\ n <= 1
   ·obtain ⟨hr,hn⟩:=hbad
    obtain rfl : n = 1:=by omega
    subst hr
    have hfin:=Hsg.out
    rw [if_pos ⟨rfl,Nat.le_refl _⟩] at hfin
    have Hfin:=hid hfin
    clear hfin Hsg
    go_wp2_with fail
    go_at_call 25
    refine hcall'.mono ?_
    rintro e W1 ⟨rfl,b1⟩
    go_wp2
    go_ret2
    exact ⟨Or.inl ⟨Hfin.out.symm,rfl⟩,hbw.trans (b1.mono hbw.size)⟩
   ·have hpart : (((r : Int) == 65533) = true /\ ¬ ((n : Int) <= 1)) ∨ ((r : Int) == 65533) = false:=by
     by_cases h : r = 65533
     ·left; exact ⟨by rw [h]; rfl,by intro e; exact hbad ⟨h,by omega⟩⟩
     ·right; rw [beq_eq_false_iff_ne]; omega
    have hfin:=Hsg.out
    rw [if_neg hbad] at hfin
    have Hfin:=hid hfin
    clear hfin Hsg hbad
    rcases hpart with ⟨hq1,hq2⟩ | hq1
    all_goals
     go_wp2_with fail
     go_at_call 25
     refine hcall'.mono ?_
     rintro e W1 ⟨rfl,b1⟩
     have hown1:=ownsRowF_below Hown.out b1
     go_wp2_with (at_builtin; refine wpList_append_ownF _ rfl _ _ 27 rfl w.heap.size 9 i0 (.string ⟨#[]⟩) 1 16 Tryz.underlying27 hi hz0 hz1 hz2 rfl (by decide) _ _ _ rfl (hown1.alloc _) ⟨W1.heap.size,0,none⟩ 1 1 [.string (t.extract 0 n)] rfl rfl ?c1 ?c2 ?c3 ?c4 ?c5 ?_)
     case c1 =>
      intro j u hj
      match j,hj with
      | 0,hj=>simp at hj; subst hj; simp [Addr.add]
     case c2=>intro u hu; simp at hu; subst hu; rfl
     case c3=>unfold maxLen; omega
     case c4=>omega
     case c5=>have:=hbw.size; have:=b1.size; simp; omega
     intro v' w2 hown' hgrow _
     have hbw2 : Below w.heap.size w w2:=((hbw.trans (b1.mono hbw.size)).alloc (by have:=hbw.size; have:=b1.size; omega) _).grown hgrow (by have:=hbw.size; have:=b1.size; simp; omega) (fun k hk=>((hown1.alloc (.cells #[.string (t.extract 0 n)] 9)).lt k hk).1)
     have Hown':=hid hown'
     clear hown' hgrow hown1
     go_wp2
     go_roundw
     case rel =>
      refine ⟨_,done ++ [t.data.toList.take n],f,rfl,?_,?_,?_,?_,hbw2⟩
      ·show World.ownsRowF _ _ _ _ _ _ _
       have:=Hown'.out
       rw [<- Hsv.out] at this
       simpa using this
      ·show _ = _
       rw [Hed.out,<- Hfin.out,Option.map_map]
       congr 1
       funext x
       simp
      ·show _ <= _
       rw [(ext_size t n hw2).2]; have:=Hf.out; omega
      ·show _ <= _
       rw [(ext_size t n hw2).2,List.length_append,List.length_singleton]; omega
     case measure =>
      show (t.extract n t.size).size < t.size
      rw [(ext_size t n hw2).2]; omega
  ·have ht0 : t.data.toList = []:=List.eq_nil_of_length_eq_zero (by rw [size_data]; omega)
   have hsg:=Hsig.out
   rw [ht0,sigs_nil] at hsg
   have Hsg:=hid hsg
   clear hsg ht0 Hsig
   go_wp2
   go_ret2
   exact ⟨Or.inr ⟨done,_,by rw [<- Hsg.out]; simp,by rw [size_data]; have:=Hlen.out; omega,rfl,Hown.out⟩,hbw⟩
def textOk (s : ByteArray) : Bool:=(sigAll s.data.toList).isSome && !(s.data.toList.any (· == 13)) && decide (s.size <= 400)
theorem liesWr : liesAt Tryz.prog Tryz.prog.depth 56 (2 / Tryz.prog.cellsOf 56) 0 54 1 = true:=by kernel_rfl
theorem cellsByteW : Tryz.prog.cellsOf 5 = 1:=by kernel_rfl
set_option maxHeartbeats 1000000 in
set_option maxRecDepth 100000 in
theorem wr_copyCheck_fresh (b : Nat) (w : World) (h0 : w.cell? ⟨b,0,none⟩ = some (.pointer none)) (hsh : w.shape? b = some (56,2)) (hfz : w.frozen? ⟨b,0,none⟩ = false) :
  Calls Tryz.prog 85 #[.pointer (some ⟨b,0,none⟩)] w fun e w'=>e = .returned (.tuple #[]) /\ w' = w.setCell ⟨b,0,none⟩ (.pointer (some ⟨b,0,none⟩)):=by
 obtain ⟨j,hj,hjs⟩:=Option.map_eq_some_iff.1 sizeBld
 go_enter Tryz.func85,Tryz.ntmps85
 go_wp2
 rw [Lib.run_to_unsafe w ⟨b,0,none⟩ Tryz.underlying52 Tryz.underlying227 hj (by rw [hjs]; decide) hsh (Nat.zero_lt_succ 1)]
 simp only [Result.andThen]
 rw [Oper.upon_value]
 go_wp2
 rw [run_callFunc_extern Tryz.func114 (by kernel_rfl) (by kernel_rfl) (by kernel_rfl) (e:=Extern.AbiNoEscape.same) (by kernel_rfl)]
 rw [Lib.run_noEscape]
 simp only [Result.andThen]
 rw [Oper.upon_value]
 go_wp2
 rw [Lib.run_from_unsafe w ⟨b,0,none⟩ Tryz.underlying227 Tryz.underlying52 hj hsh liesWr]
 simp only [Result.andThen]
 rw [Oper.upon_value]
 go_wp2
 go_end0
 exact ⟨rfl,rfl⟩
abbrev WrB (B b : Nat) (bs : List UInt8) (W : World) : Prop:=Lib.IsBuilderF 56 5 B b (Lib.byteCells bs) W
theorem wr_copyCheck (B b : Nat) (bs : List Value) (w : World) (h : Lib.IsBuilderF 56 5 B b bs w) :
  Calls Tryz.prog 85 #[.pointer (some ⟨b,0,none⟩)] w fun e w'=>e = .returned (.tuple #[]) /\ (Lib.BuilderAtF 56 5 B b (.pointer (some ⟨b,0,none⟩)) bs w' /\ Below B w w' /\ Lib.OthersKept 5 (some b) w w'):=by
 rcases h with h | h
 ·refine (wr_copyCheck_fresh b w h.cell0 h.shape h.frozen0).mono ?_
  rintro e w' ⟨rfl,rfl⟩
  exact ⟨rfl,h.used _,(Below.refl B w).setCell (p:=⟨b,0,none⟩) h.1 _,(Lib.OthersKept.refl _ _ w).setCell ⟨b,0,none⟩ rfl _⟩
 ·refine (bld_copyCheck_used b w h.cell0).mono ?_
  rintro e w' ⟨rfl,rfl⟩
  exact ⟨rfl,h,Below.refl B _,Lib.OthersKept.refl _ _ _⟩
set_option maxHeartbeats 2000000 in
set_option maxRecDepth 100000 in
theorem wr_WriteString (B b : Nat) (bs : List Value) (s : ByteArray) (w : World) (h : Lib.IsBuilderF 56 5 B b bs w) (hlen : bs.length + s.size <= 140737488355328) (hBw : B <= w.heap.size) :
  Calls Tryz.prog 57 #[.pointer (some ⟨b,0,none⟩),.string s] w fun e w'=>e = .returned (.tuple #[.int .i64 s.size,.nilIface]) /\ (Lib.BuilderAtF 56 5 B b (.pointer (some ⟨b,0,none⟩)) (bs ++ Lib.strCells s) w' /\ Below B w w' /\ Lib.OthersKept 5 (some b) w w'):=by
 obtain ⟨i0,hi,hz0,hz1,hz2⟩:=info_parts infoByte
 go_enter Tryz.func57,Tryz.ntmps57
 go_wp2_with (go_at_call 85; refine (wr_copyCheck B b bs _ h).mono ?_)
 rintro e w1 ⟨rfl,h1,hb1,hk1⟩
 obtain ⟨hB,v,hbk,hown,hne⟩:=h1
 have c0 : w1.cell? ⟨b,0,none⟩ = some (.pointer (some ⟨b,0,none⟩)):=by rw [Lib.cell_of_heap hbk]; rfl
 have c1 : w1.cell? ⟨b,1,none⟩ = some v:=by rw [Lib.cell_of_heap hbk]; rfl
 go_wp2_with (at_builtin; refine Lib.wpList_append_own_stringF _ rfl _ _ 41 9 rfl B 5 i0 Tryz.underlying41 Tryz.underlying9 hi hz0 hz1 hz2 _ _ _ rfl hown s rfl ?c3 ?c4 ?c5 ?_)
 case c3=>unfold maxLen; omega
 case c4=>omega
 case c5=>have:=hb1.size; omega
 intro v' w2 hown' hgrow _
 have hlt : b < w1.heap.size:=by
  rcases Nat.lt_or_ge b w1.heap.size with h' | h'
  ·exact h'
  ·simp [Array.getElem?_eq_none h'] at hbk
 have hb2 : w2.heap[b]? = some (.cells #[.pointer (some ⟨b,0,none⟩),v] 56 (0,0)):=by
  rw [hgrow.block b hlt (fun e=>hne e.symm)]
  exact hbk
 have d0 : w2.cell? ⟨b,0,none⟩ = some (.pointer (some ⟨b,0,none⟩)):=by rw [Lib.cell_of_heap hb2]; rfl
 have d1 : w2.cell? ⟨b,1,none⟩ = some v:=by rw [Lib.cell_of_heap hb2]; rfl
 have f1 : w2.frozen? ⟨b,1,none⟩ = false:=Lib.frozen_of_heap hb2 1
 obtain ⟨ao,n',cap,rfl⟩ : ∃ ao n' cap,v' = .slice ao n' cap:=by
  rcases hown'.2 with ⟨hv,_⟩ | ⟨g,cap,cur,fz,hv,_⟩
  ·exact ⟨_,_,_,hv⟩
  ·exact ⟨_,_,_,hv⟩
 go_wp2
 go_ret2
 refine ⟨rfl,?_,?_,(hk1.grown hgrow (Lib.ownsRowF_kind hown)).setCell ⟨b,1,none⟩ rfl _⟩
 ·exact Lib.BuilderAtF.put (T:=56) (e:=5) hB hb2 (bs':=bs ++ Lib.strCells s) (by simpa [Lib.strCells_length] using hown') (by decide)
 ·exact (hb1.grown hgrow (by have:=hb1.size; omega) (fun k hk=>(hown.lt k hk).1)).setCell (p:=⟨b,1,none⟩) hB _
set_option maxHeartbeats 1000000 in
set_option maxRecDepth 100000 in
theorem wr_String (B b : Nat) (l : List UInt8) (w : World) (h : WrB B b l w) (h0 : l ≠ []) :
  Calls Tryz.prog 22 #[.pointer (some ⟨b,0,none⟩)] w fun e w'=>e = .returned (.string ⟨l.toArray⟩) /\ Below B w w':=by
 obtain ⟨p,hAt⟩ : ∃ p,Lib.BuilderAtF 56 5 B b p (Lib.byteCells l) w:=by
  rcases h with h | h
  ·exact ⟨_,h⟩
  ·exact ⟨_,h⟩
 obtain ⟨hB,v,hbk,hown,hne⟩:=hAt
 have hl0 : l.length ≠ 0:=by simpa using h0
 rw [Lib.byteCells_length] at hown
 obtain ⟨g,cap,cur,fz,rfl,hbg,hg,hfz,hnc,hcm,hcs,htake⟩ : ∃ g cap cur fz,v = .slice (some ⟨g,0,none⟩) l.length cap /\ B <= g /\ w.heap[g]? = some (.cells cur 5 fz) /\ fz.2 <= l.length * 1 /\ l.length <= cap /\ cap <= maxLen /\ cur.size = cap * 1 /\ cur.toList.take (l.length * 1) = Lib.byteCells l:=by
  rcases hown.2 with ⟨_,hz⟩ | ⟨g,cap,cur,fz,hv,r⟩
  ·exact absurd hz hl0
  ·exact ⟨g,cap,cur,fz,hv,r⟩
 have c1 : w.drew.cell? ⟨b,1,none⟩ = some (.slice (some ⟨g,0,none⟩) l.length cap):=by
  have : w.drew.heap[b]? = some (.cells #[p,.slice (some ⟨g,0,none⟩) l.length cap] 56 (0,0)):=hbk
  rw [Lib.cell_of_heap this]; rfl
 have hSD : (Builtin.unsafeSliceData_ #[41] 89 #[.slice (some ⟨g,0,none⟩) l.length cap]).run Tryz.prog w.drew = .ok (.pointer (some ⟨g,0,none⟩)) w.drew :=
  Lib.run_unsafeSliceData_row _ _ _ _ _ _ (by omega)
 have hUS : (Builtin.unsafeString_ #[89,3] 9 #[.pointer (some ⟨g,0,none⟩),.int .i64 l.length]).run Tryz.prog w.drew = .ok (.string ⟨l.toArray⟩) (w.drew.freeze ⟨g,0,none⟩ l.length):=by
  refine Lib.run_unsafeString_row w.drew 89 3 9 5 Tryz.underlying89 cellsByteW g cur.size (by have hg' : w.drew.heap[g]? = some (.cells cur 5 fz):=hg; simp [World.shape?,hg']) l h0 (by omega) (by unfold maxLen at hcm; omega) ?_
  intro j x hx
  have:=hown.cells (g:=g) rfl j (.int .u8 x.toNat) (by simp [Lib.byteCells,hx])
  exact this
 have mixed : Tryz.prog.follows Departure.mixedOrders = true:=by kernel_rfl
 go_enter Tryz.func22,Tryz.ntmps22
 go_wp2
 go_region_o
 all_goals (go_wp2; go_ret; exact ⟨rfl,Lib.below_freeze (Below.drew (Below.refl B w)) (p:=⟨g,0,none⟩) hbg _⟩)
structure Wk (B b : Nat) (w w' : World) : Prop where
 below : Below B w w'
 kept : Lib.OthersKept 5 (some b) w w'
theorem Wk.refl (B b : Nat) (w : World) : Wk B b w w:=⟨Below.refl _ _,Lib.OthersKept.refl _ _ _⟩
theorem Wk.trans {B b : Nat} {u v w : World} (h : Wk B b u v) (k : Wk B b v w) : Wk B b u w:=⟨h.below.trans k.below,h.kept.trans k.kept⟩
theorem Wk.size {B b : Nat} {w w' : World} (h : Wk B b w w') : w.heap.size <= w'.heap.size:=h.below.size
theorem Wk.alloc {B b : Nat} {w w' : World} (h : Wk B b w w') (hB : B <= w'.heap.size) (o : Obj) : Wk B b w (w'.alloc o):=⟨h.below.alloc hB o,h.kept.alloc o⟩
theorem Wk.drew {B b : Nat} {w w' : World} (h : Wk B b w w') : Wk B b w w'.drew:=⟨h.below.drew,h.kept.drew⟩
theorem BoxAt.wk {B b : Nat} {w w' : World} {k : Nat} {cs : Array Value} {t : TypeId} (h : BoxAt w k cs t) (g : Wk B b w w') (hk : k ≠ b) (ht : t ≠ 5) : BoxAt w' k cs t :=
 g.kept k _ h (fun e=>hk (Option.some.inj e)) (fun c fz e=>by simp at e; exact ht e.2.1)
structure WrAt (B b : Nat) (bs : List UInt8) (W : World) : Prop where
 bld : WrB B b bs W
 le : B <= W.heap.size
theorem WrAt.lt {B b : Nat} {bs : List UInt8} {W : World} (h : WrAt B b bs W) : b < W.heap.size:=by
 rcases h.bld with ⟨_,v,hb,_⟩ | ⟨_,v,hb,_⟩ <;> exact (Array.getElem?_eq_some_iff.1 hb).1
theorem WrAt.alloc {B b : Nat} {bs : List UInt8} {W : World} (h : WrAt B b bs W) (o : Obj) : WrAt B b bs (W.alloc o):=⟨h.bld.alloc o,by rw [World.size_alloc]; have:=h.le; omega⟩
theorem WrAt.drew {B b : Nat} {bs : List UInt8} {W : World} (h : WrAt B b bs W) : WrAt B b bs W.drew:=⟨h.bld,h.le⟩
theorem WrAt.box_ne {B b : Nat} {bs : List UInt8} {W : World} (h : WrAt B b bs W) {k : Nat} {cs : Array Value} {t : TypeId} (hk : BoxAt W k cs t) (ht : t ≠ 56) : k ≠ b:=by
 intro e
 subst e
 unfold BoxAt at hk
 rcases h.bld with ⟨_,v,hb,_⟩ | ⟨_,v,hb,_⟩ <;> rw [hb] at hk <;> simp at hk <;> exact ht hk.2.symm
theorem WrAt.start (w : World) : WrAt w.heap.size w.heap.size [] (w.alloc (.cells #[.pointer none,.slice none 0 0] 56)) :=
 ⟨.inl ⟨Nat.le_refl _,.slice none 0 0,BoxAt.new w _ _,World.ownsRowF_nil _ _ _ _,by simp [Value.ownBlock]⟩,by simp⟩
def catL (ps : List ByteArray) : List UInt8:=ps.flatMap fun p=>p.data.toList
theorem catL_take (ps : List ByteArray) (j : Nat) (p : ByteArray) (h : ps[j]? = some p) : catL (ps.take (j + 1)) = catL (ps.take j) ++ p.data.toList:=by
 rw [take_snoc ps j p h]; simp [catL]
theorem catL_take_le (ps : List ByteArray) (j : Nat) : (catL (ps.take j)).length <= (catL ps).length:=by
 have e : catL ps = catL (ps.take j) ++ catL (ps.drop j):=by
  unfold catL
  rw [<- List.flatMap_append,List.take_append_drop]
 rw [e,List.length_append]; omega
theorem strCells_bytes (p : ByteArray) : Lib.strCells p = Lib.byteCells p.data.toList:=by
 rfl
theorem byteCells_app (a b : List UInt8) : Lib.byteCells (a ++ b) = Lib.byteCells a ++ Lib.byteCells b:=by simp [Lib.byteCells]
theorem writeS_any {B b : Nat} {bs : List UInt8} (s : ByteArray) (w : World) (h : WrAt B b bs w) (hn : bs.length + s.size <= 140737488355328) :
  Calls Tryz.prog 57 #[.pointer (some ⟨b,0,none⟩),.string s] w fun e w'=>e = .returned (.tuple #[.int .i64 s.size,.nilIface]) /\ WrAt B b (bs ++ s.data.toList) w' /\ Wk B b w w':=by
 refine (wr_WriteString B b (Lib.byteCells bs) s w h.bld (by rw [Lib.byteCells_length]; exact hn) h.le).mono ?_
 rintro e w' ⟨he,h1,h2,h3⟩
 refine ⟨he,⟨.inr ?_,Nat.le_trans h.le h2.size⟩,h2,h3⟩
 rw [byteCells_app,<- strCells_bytes]
 exact h1
set_option maxHeartbeats 2000000 in
set_option maxRecDepth 100000 in
theorem write_any {B b : Nat} {bs : List UInt8} (ps : List ByteArray) (a n : Nat) (w : World) (h : WrAt B b bs w) (hbx : BoxAt w a (ps.map Value.string).toArray 9) (hn : bs.length + (catL ps).length <= 140737488355328) (hp : ps.length <= 100) :
  Calls Tryz.prog 37 #[.pointer (some ⟨b,0,none⟩),.slice (some ⟨a,0,none⟩) ps.length n] w fun e w'=>e = .returned (.tuple #[]) /\ WrAt B b (bs ++ catL ps) w' /\ Wk B b w w':=by
 have HW:=hid (fun (cs : List UInt8) (s : ByteArray) (W : World) (g : WrAt B b cs W) (hz : cs.length + s.size <= 140737488355328)=>writeS_any s W g hz)
 have H:=hid h
 have HX:=hid hbx
 have HN:=hid hn
 have hp0 : (ps.length : Int) <= 100:=by omega
 have hne:=h.box_ne hbx (by decide)
 clear h hbx hn
 go_enter Tryz.func37,Tryz.ntmps37
 go_wp2
 go_loopw [8] (fun t8 wr=>∃ j : Nat,t8 = .int .i64 j /\ j <= ps.length /\ Hid (WrAt B b (bs ++ catL (ps.take j)) wr) /\ Hid (Wk B b w wr)) (fun t8 _=>ps.length - (intOf t8).toNat)
 case atStart=>exact ⟨0,rfl,Nat.zero_le _,hid (by rw [List.take_zero]; show WrAt B b (bs ++ []) w; rw [List.append_nil]; exact H.out),hid (Wk.refl _ _ _)⟩
 case round =>
  obtain ⟨j,rfl,hj,HA,HK⟩:=hrel
  have hj0 : (j : Int) <= 100:=by omega
  by_cases hlt : j < ps.length
  ·have d1 : decide ((j : Int) < (ps.length : Int)) = true:=decide_eq_true (by omega)
   have d2 : (j : Int) < (ps.length : Int):=by omega
   obtain ⟨p,hp1⟩ : ∃ p,ps[j]? = some p:=⟨_,List.getElem?_eq_getElem hlt⟩
   have hb2:=HX.out.wk HK.out hne (by decide)
   have c0 : wr.cell? ⟨a,j,none⟩ = some (.string p):=by rw [hb2.cell]; simp [hp1]
   have hal:=hb2.lt
   have hlen : (bs ++ catL (ps.take j)).length + p.size <= 140737488355328:=by
    have:=catL_take_le ps (j + 1)
    rw [catL_take ps j p hp1,List.length_append,size_data] at this
    have:=HN.out
    rw [List.length_append]; omega
   have HL:=hid hlen
   have HT:=hid (catL_take ps j p hp1)
   have hbl:=HA.out.lt
   clear hb2 hlen hp1
   go_wp2_with fail
   go_at_call 57
   refine (HW.out _ _ _ HA.out HL.out).mono ?_
   rintro e w1 ⟨rfl,h1,h2⟩
   have HA1:=hid h1
   have HK1:=hid (HK.out.trans h2)
   clear h1 h2
   go_wp2
   go_roundw
   case rel=>exact ⟨j + 1,by go_num,hlt,hid (by rw [HT.out,<- List.append_assoc]; exact HA1.out),HK1⟩
   case measure=>simp [intOf]; omega
  ·obtain rfl : j = ps.length:=by omega
   have d1 : decide ((ps.length : Int) < (ps.length : Int)) = false:=decide_eq_false (by omega)
   have hA:=HA.out
   rw [List.take_of_length_le (Nat.le_refl _)] at hA
   have HA2:=hid hA
   clear hA
   go_wp2
   go_end0
   exact ⟨rfl,HA2.out,HK.out⟩
set_option maxHeartbeats 4000000 in
set_option maxRecDepth 1000000 in
theorem signs_big (s : ByteArray) (w : World) (hT : TabU w) (hs : s.size <= 4000000000) :
  Calls Tryz.prog 11 #[.string s] w fun e w'=>SignsEnd s.data.toList w.heap.size w' e /\ Below w.heap.size w w':=by
 obtain ⟨i0,hi,hz0,hz1,hz2⟩:=info_parts infoStr
 have hTw:=hid hT
 clear hT
 go_enter Tryz.func11,Tryz.ntmps11
 go_wp2
 go_loopw [0,4] (fun st ot wr=>∃ (t : ByteArray) (done : List (List UInt8)) (f : Nat),st = .string t /\ Hid (wr.ownsRowF w.heap.size 9 1 ot done.length (done.map strV)) /\ Hid ((sigs f t.data.toList).map (done ++ ·) = sigAll s.data.toList) /\ Hid (t.size <= f) /\ Hid (done.length + t.size <= s.size) /\ Below w.heap.size w wr) (fun st _ _=>strSize st)
 case atStart =>
  refine ⟨s,[],s.size,rfl,?_,?_,by show s.size <= s.size; omega,by show 0 + s.size <= s.size; omega,(Below.refl _ w).alloc (Nat.le_refl _) _⟩
  ·exact owns_empty w 9
  ·show _ = _
   unfold sigAll
   rw [size_data]
   cases sigs s.size s.data.toList <;> simp
 case round =>
  obtain ⟨t,done,f,rfl,Hown,Hsig,Hf,Hlen,hbw⟩:=hrel
  by_cases h0 : 0 < t.size
  ·have hne : t.data.toList ≠ []:=by
    intro e
    have h1:=size_data t
    rw [e,List.length_nil] at h1
    omega
   obtain ⟨f,rfl⟩ : ∃ f',f = f' + 1:=⟨f - 1,by have:=Hf.out; omega⟩
   have hsg:=Hsig.out
   rw [sigs_step f _ hne] at hsg
   have hw1:=decodeL_pos t.data.toList
   have hw2:=Lib.decodeL_le t.data.toList hne
   have hcall':=runeIn_any t wr (hTw.out.below hbw) h0
   have hsv:=strV_extract t (Lib.decodeL t.data.toList).2
   have hed:=extract_drop t (Lib.decodeL t.data.toList).2
   rw [size_data] at hw2
   generalize Lib.decodeL t.data.toList = rn at *
   obtain ⟨r,n⟩:=rn
   dsimp only at *
   have Hsv:=hid hsv
   have Hed:=hid hed
   have Hsg:=hid hsg
   have hflen:=Hlen.out
   clear hsv hed hsg hne Hsig
   have hn1 : (1 : Int) <= n:=by omega
   have hn2 : (n : Int) <= t.size:=by omega
   by_cases hbad : r = 65533 /\ n <= 1
   ·obtain ⟨hr,hn⟩:=hbad
    obtain rfl : n = 1:=by omega
    subst hr
    have hfin:=Hsg.out
    rw [if_pos ⟨rfl,Nat.le_refl _⟩] at hfin
    have Hfin:=hid hfin
    clear hfin Hsg
    go_wp2_with fail
    go_at_call 25
    refine hcall'.mono ?_
    rintro e W1 ⟨rfl,b1⟩
    go_wp2
    go_ret2
    exact ⟨Or.inl ⟨Hfin.out.symm,rfl⟩,hbw.trans (b1.mono hbw.size)⟩
   ·have hpart : (((r : Int) == 65533) = true /\ ¬ ((n : Int) <= 1)) ∨ ((r : Int) == 65533) = false:=by
     by_cases h : r = 65533
     ·left; exact ⟨by rw [h]; rfl,by intro e; exact hbad ⟨h,by omega⟩⟩
     ·right; rw [beq_eq_false_iff_ne]; omega
    have hfin:=Hsg.out
    rw [if_neg hbad] at hfin
    have Hfin:=hid hfin
    clear hfin Hsg hbad
    rcases hpart with ⟨hq1,hq2⟩ | hq1
    all_goals
     go_wp2_with fail
     go_at_call 25
     refine hcall'.mono ?_
     rintro e W1 ⟨rfl,b1⟩
     have hown1:=ownsRowF_below Hown.out b1
     go_wp2_with (at_builtin; refine wpList_append_ownF _ rfl _ _ 27 rfl w.heap.size 9 i0 (.string ⟨#[]⟩) 1 16 Tryz.underlying27 hi hz0 hz1 hz2 rfl (by decide) _ _ _ rfl (hown1.alloc _) ⟨W1.heap.size,0,none⟩ 1 1 [.string (t.extract 0 n)] rfl rfl ?c1 ?c2 ?c3 ?c4 ?c5 ?_)
     case c1 =>
      intro j u hj
      match j,hj with
      | 0,hj=>simp at hj; subst hj; simp [Addr.add]
     case c2=>intro u hu; simp at hu; subst hu; rfl
     case c3=>unfold maxLen; omega
     case c4=>omega
     case c5=>have:=hbw.size; have:=b1.size; simp; omega
     intro v' w2 hown' hgrow _
     have hbw2 : Below w.heap.size w w2:=((hbw.trans (b1.mono hbw.size)).alloc (by have:=hbw.size; have:=b1.size; omega) _).grown hgrow (by have:=hbw.size; have:=b1.size; simp; omega) (fun k hk=>((hown1.alloc (.cells #[.string (t.extract 0 n)] 9)).lt k hk).1)
     have Hown':=hid hown'
     clear hown' hgrow hown1
     go_wp2
     go_roundw
     case rel =>
      refine ⟨_,done ++ [t.data.toList.take n],f,rfl,?_,?_,?_,?_,hbw2⟩
      ·show World.ownsRowF _ _ _ _ _ _ _
       have:=Hown'.out
       rw [<- Hsv.out] at this
       simpa using this
      ·show _ = _
       rw [Hed.out,<- Hfin.out,Option.map_map]
       congr 1
       funext x
       simp
      ·show _ <= _
       rw [(ext_size t n hw2).2]; have:=Hf.out; omega
      ·show _ <= _
       rw [(ext_size t n hw2).2,List.length_append,List.length_singleton]; omega
     case measure =>
      show (t.extract n t.size).size < t.size
      rw [(ext_size t n hw2).2]; omega
  ·have ht0 : t.data.toList = []:=List.eq_nil_of_length_eq_zero (by rw [size_data]; omega)
   have hsg:=Hsig.out
   rw [ht0,sigs_nil] at hsg
   have Hsg:=hid hsg
   clear hsg ht0 Hsig
   go_wp2
   go_ret2
   exact ⟨Or.inr ⟨done,_,by rw [<- Hsg.out]; simp,by rw [size_data]; have:=Hlen.out; omega,rfl,Hown.out⟩,hbw⟩
end Go.Proofs.YtgdkpamlkpncgaaGreatDoor
