/-
  Several texts put together (part 28): what the law and the program call, walked; their contracts.
-/
import Derived.Test.YtgdkpamlkpncgaaGreatDoorR19
import Derived.Test.YtgdkpamlkpncgaaGreatDoorR13
namespace Go.Proofs.YtgdkpamlkpncgaaGreatDoor
open Go.RowKit
set_option linter.unusedVariables false
set_option linter.unusedSimpArgs false
structure Fr where
 e : EX
 xs : List AR
 want : Bool
def upS (P : Nat -> Res) (s : ByteArray) : List Fr -> EX -> Nat -> Res
 | [],e,m=>some (e,m)
 | f :: r,e,m=>if addOk f.xs E0 e = true then (match argsS P s (f.xs ++ [.mk E0 e]) true m with
   | none=>none
   | some (xs,q)=>upS P s r (withArgs f.e xs) q) else none
def runS (P : Nat -> Res) (s : ByteArray) (f : Fr) (r : List Fr) (i : Nat) : Res:=match argsS P s f.xs f.want i with
 | none=>none
 | some (xs,q)=>upS P s r (withArgs f.e xs) q
section
variable {P : Nat -> Res} {s : ByteArray} {f g : Fr} {r : List Fr} {i j : Nat} {n : ByteArray} {e : EX}
theorem upS_cons : upS P s (g :: r) e i = if addOk g.xs E0 e = true then runS P s ⟨g.e,g.xs ++ [.mk E0 e],true⟩ r i else none:=by
 rw [upS]
 rfl
theorem runS_close (hc : isAt s (bl s i) 41 = true) : runS P s f r i = upS P s r (withArgs f.e f.xs) (bl s i + 1):=by
 unfold runS
 rw [argsS,if_pos hc]
theorem runS_comma (hc : isAt s (bl s i) 41 = false) (hw : f.want = true) : runS P s f r i = if isAt s (bl s i) 44 = true then runS P s ⟨f.e,f.xs,false⟩ r (bl s i + 1) else none:=by
 unfold runS
 rw [argsS,hc,hw]
 by_cases h : isAt s (bl s i) 44 = true
 ·simp [h]
 ·simp [h]
theorem runS_none (hc : isAt s (bl s i) 41 = false) (hw : f.want = false) (ha : argS P s (bl s i) = none) : runS P s f r i = none:=by
 unfold runS
 rw [argsS,hc,hw,ha]
 simp
theorem runS_open (hP : PosOk s P) (hi : i <= s.size) (hc : isAt s (bl s i) 41 = false) (hw : f.want = false) (ha : argS P s (bl s i) = some (n,e,j)) (ho : (emp n && (opnS s e j).1) = true) :
  runS P s f r i = runS P s ⟨opnE e,[],false⟩ (f :: r) (opnS s e j).2:=by
 have h1:=bl_ok s i hi
 have h2:=arg_pos hP h1.2 ha
 have h3:=opn_pos e h2.2
 rw [runS,argsS,hc,hw,ha]
 dsimp only
 rw [if_neg (by simp),if_neg (by simp),if_pos ho,dif_pos ⟨by omega,h3.2⟩]
 unfold runS
 dsimp only
 cases hh : argsS P s [] false (opnS s e j).2 with
 | none=>rfl
 | some p =>
  obtain ⟨xs',m⟩:=p
  have h4:=args_pos hP _ _ _ _ (Nat.le_refl _) h3.2 _ _ hh
  dsimp only
  rw [dif_pos ⟨by omega,h4.2⟩,upS]
  by_cases hk : addOk f.xs E0 (withArgs (opnE e) xs') = true
  ·rw [if_pos hk,if_pos hk]
  ·rw [if_neg hk,if_neg hk]
theorem runS_add (hP : PosOk s P) (hi : i <= s.size) (hc : isAt s (bl s i) 41 = false) (hw : f.want = false) (ha : argS P s (bl s i) = some (n,e,j)) (ho : (emp n && (opnS s e j).1) = false) :
  runS P s f r i = if addOk f.xs n e = true then runS P s ⟨f.e,f.xs ++ [.mk n e],true⟩ r (if emp n = true then (opnS s e j).2 else j) else none:=by
 have h1:=bl_ok s i hi
 have h2:=arg_pos hP h1.2 ha
 have h3:=opn_pos e h2.2
 have h4 : i < (if emp n = true then (opnS s e j).2 else j) /\ (if emp n = true then (opnS s e j).2 else j) <= s.size:=by
  split <;> omega
 rw [runS,argsS,hc,hw,ha]
 dsimp only
 rw [if_neg (by simp),if_neg (by simp),if_neg (by rw [ho]; simp),dif_pos h4]
 by_cases hk : addOk f.xs n e = true
 ·rw [if_pos hk,if_pos hk]; rfl
 ·rw [if_neg hk,if_neg hk]
theorem inl_run {e : EX} (hh : headS P s i = some (e,j)) : inlS P s i = if (opnS s e j).1 = true then runS P s ⟨opnE e,[],false⟩ [] (opnS s e j).2 else some (e,(opnS s e j).2):=by
 unfold inlS
 rw [hh]
 dsimp only
 split
 ·unfold runS
  dsimp only
  cases argsS P s [] false (opnS s e j).2 with
  | none=>rfl
  | some p=>rfl
 ·rfl
theorem inl_none (hh : headS P s i = none) : inlS P s i = none:=by
 unfold inlS
 rw [hh]
end
def seenOf (xs : List AR) : List ByteArray:=((xs.filter fun x=>!emp (arName x)).map arName).reverse
theorem seenOf_snoc (xs : List AR) (n : ByteArray) (e : EX) : seenOf (xs ++ [.mk n e]) = if emp n = true then seenOf xs else n :: seenOf xs:=by
 unfold seenOf
 rw [List.filter_append]
 by_cases h : emp n = true
 ·simp [arName,h]
 ·simp [arName,h]
theorem seenOf_empty (xs : List AR) : (xs.all fun x=>emp (arName x)) = decide ((seenOf xs).length = 0):=by
 unfold seenOf
 rw [List.length_reverse,List.length_map,Bool.eq_iff_iff,List.all_eq_true,decide_eq_true_iff,List.length_eq_zero_iff,List.filter_eq_nil_iff]
 simp
theorem seenOf_mem (xs : List AR) (n : ByteArray) (hn : emp n = false) : (xs.any fun x=>decide (arName x = n)) = memB n (seenOf xs):=by
 unfold seenOf memB
 rw [List.any_reverse,List.any_map,List.any_filter]
 congr 1
 funext x
 by_cases h : arName x = n
 ·subst h
  simp [hn]
 ·have h' : ¬ n = arName x:=fun e=>h e.symm
  simp [h,h']
def AZip (W : World) (F : Nat -> Prop) : List AR -> List Value -> Prop
 | [],xs=>xs = []
 | .mk n e :: r,xs=>∃ c ys,xs = .string n :: c.k :: c.t :: c.n :: c.a :: c.al :: c.i :: c.vs :: ys /\ ExF W F e c /\ AZip W F r ys
theorem AZip.snoc {W : World} {F : Nat -> Prop} {n : ByteArray} {e : EX} {c : C7} (he : ExF W F e c) : ∀ (acc : List AR) (xs : List Value),AZip W F acc xs -> AZip W F (acc ++ [.mk n e]) (xs ++ [.string n,c.k,c.t,c.n,c.a,c.al,c.i,c.vs])
 | [],xs,h=>by
  rw [AZip] at h
  subst h
  exact ⟨c,[],rfl,he,rfl⟩
 | .mk n' e' :: r,xs,h=>by
  rw [AZip] at h
  obtain ⟨c',ys,rfl,h2,h3⟩:=h
  exact ⟨c',_,rfl,h2,AZip.snoc he r ys h3⟩
theorem AZip.carry {W W' : World} {F F' : Nat -> Prop} (g : ∀ b,F b -> F' b /\ W'.heap[b]? = W.heap[b]?) : ∀ (acc : List AR) (xs : List Value),AZip W F acc xs -> AZip W' F' acc xs
 | [],xs,h=>by rw [AZip] at h ⊢; exact h
 | .mk t' p' :: r,xs,h=>by
  rw [AZip] at h
  obtain ⟨c',ys,rfl,h2,h3⟩:=h
  exact ⟨c',ys,rfl,h2.carry g,AZip.carry g r ys h3⟩
theorem AZip.as {W : World} {F : Nat -> Prop} {g : Nat} (hg : F g) : ∀ (acc : List AR) (xs : List Value) (o : Nat),(∀ j x,xs[j]? = some x -> W.cell? ⟨g,o + j,none⟩ = some x) -> AZip W F acc xs -> AsF W F acc g o
 | [],xs,o,hc,h=>by rw [AsF]; trivial
 | .mk n e :: r,xs,o,hc,h=>by
  rw [AZip] at h
  obtain ⟨c,ys,rfl,h2,h3⟩:=h
  rw [AsF]
  refine ⟨hg,hc 0 _ rfl,⟨c,⟨?_,?_,?_,?_,?_,?_,?_⟩,h2⟩,AZip.as hg r ys (o + 8) (fun j x hx=>?_) h3⟩
  ·exact hc 1 _ rfl
  ·have:=hc 2 _ rfl; rwa [show o + 1 + 1 = o + 2 by omega]
  ·have:=hc 3 _ rfl; rwa [show o + 1 + 2 = o + 3 by omega]
  ·have:=hc 4 _ rfl; rwa [show o + 1 + 3 = o + 4 by omega]
  ·have:=hc 5 _ rfl; rwa [show o + 1 + 4 = o + 5 by omega]
  ·have:=hc 6 _ rfl; rwa [show o + 1 + 5 = o + 6 by omega]
  ·have:=hc 7 _ rfl; rwa [show o + 1 + 6 = o + 7 by omega]
  ·have:=hc (j + 8) x (by simpa using hx)
   rw [show o + 8 + j = o + (j + 8) by omega]
   exact this
def OwnA (B : Nat) (W : World) (F : Nat -> Prop) (v : Value) (acc : List AR) : Prop:=∃ xs,W.ownsRow B 127 8 v acc.length xs /\ AZip W F acc xs
theorem OwnA.nil (B : Nat) (W : World) (F : Nat -> Prop) : OwnA B W F (.slice none 0 0) []:=⟨[],World.ownsRow_nil _ _ _ _,rfl⟩
def NmOk (B : Nat) (W : World) (v : Value) (seen : List ByteArray) (n : Nat) : Prop:=(v = .map none /\ seen = []) ∨ ∃ b,v = .map (some b) /\ B <= b /\ 0 < seen.length /\ NamesAt W b n seen
def mapBlockOf : Value -> Option Nat
 | .map b=>b
 | _=>none
end Go.Proofs.YtgdkpamlkpncgaaGreatDoor
