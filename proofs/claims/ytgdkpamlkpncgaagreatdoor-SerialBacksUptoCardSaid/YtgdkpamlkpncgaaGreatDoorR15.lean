/-
  Several texts put together (part 15): what the law and the program call, walked; their contracts.
-/
import Derived.Test.YtgdkpamlkpncgaaGreatDoorR14
namespace Go.Proofs.YtgdkpamlkpncgaaGreatDoor
open Go.RowKit
open _root_.Go.Lib (hid)
set_option linter.unusedVariables false
set_option linter.unusedSimpArgs false
theorem valid_sig (s : ByteArray) : validB s = (sigAll s.data.toList).isSome:=valid_sigs _ _
set_option maxHeartbeats 2000000 in
set_option maxRecDepth 100000 in
theorem plain_any (s : ByteArray) (w : World) (hT : TabU w) (hs : s.size <= 4000000) :
  Calls Tryz.prog 33 #[.string s] w fun e w'=>e = .returned (.bool (validB s)) /\ Below w.heap.size w w':=by
 rw [valid_sig]
 obtain ⟨R,hR⟩ : ∃ R,(sigAll s.data.toList).isSome = R:=⟨_,rfl⟩
 rw [hR]
 have HR:=hid hR
 have H:=hid (signs_any s w hT hs)
 clear hT hs hR
 go_enter Tryz.func33,Tryz.ntmps33
 go_wp2_with fail
 go_at_call 11
 refine H.out.mono ?_
 rintro e w' ⟨h,hb⟩
 rcases h with ⟨hn,rfl⟩ | ⟨xs,v,hn,_,rfl,_⟩
 ·have hf:=HR.out
  rw [hn] at hf
  have HF:=hid (show false = R from hf)
  clear hf
  go_wp2
  go_ret
  exact ⟨ret_bool HF.out,hb⟩
 ·have hf:=HR.out
  rw [hn] at hf
  have HF:=hid (show true = R from hf)
  clear hf
  go_wp2
  go_ret
  exact ⟨ret_bool HF.out,hb⟩
-- from Alp
def sortB (c : UInt8) : Bool × Bool × Bool × Bool:=(c == 10,spB c,isMarkB c,blB c)
def Sim (a b : List UInt8) : Prop:=a.length = b.length /\ ∀ m,sortB (at0 a m) = sortB (at0 b m)
theorem Sim.lf {a b : List UInt8} (h : Sim a b) (m : Nat) : (at0 a m == 10) = (at0 b m == 10):=congrArg (·.1) (h.2 m)
theorem Sim.sp {a b : List UInt8} (h : Sim a b) (m : Nat) : spB (at0 a m) = spB (at0 b m):=congrArg (·.2.1) (h.2 m)
theorem Sim.mark {a b : List UInt8} (h : Sim a b) (m : Nat) : isMarkB (at0 a m) = isMarkB (at0 b m):=congrArg (·.2.2.1) (h.2 m)
theorem Sim.bl {a b : List UInt8} (h : Sim a b) (m : Nat) : blB (at0 a m) = blB (at0 b m):=congrArg (·.2.2.2) (h.2 m)
theorem Sim.beh {a b : List UInt8} (h : Sim a b) : ∀ (n k : Nat),a.length - k <= n -> behN spB a k = behN spB b k:=by
 intro n
 induction n with
 | zero =>
  intro k hk
  rw [behN_end spB a k (by omega),behN_end spB b k (by have:=h.1; omega)]
 | succ n ih =>
  intro k hk
  by_cases hlt : k < a.length
  ·have hb : k < b.length:=by have:=h.1; omega
   have hs:=h.sp k
   rw [at0_get a k hlt,at0_get b k hb] at hs
   cases hv : spB a[k]
   ·rw [behN_no spB a k hlt hv,behN_no spB b k hb (by rw [<- hs,hv])]
   ·rw [<- behN_yes spB a k hlt hv,<- behN_yes spB b k hb (by rw [<- hs,hv])]
    exact ih (k + 1) (by omega)
  ·rw [behN_end spB a k (by omega),behN_end spB b k (by have:=h.1; omega)]
theorem anyTo_congr {p q : Nat -> Bool} (h : ∀ m,p m = q m) : ∀ n,anyTo p n = anyTo q n
 | 0=>rfl
 | n + 1=>by rw [anyTo,anyTo,anyTo_congr h n,h n]
theorem Sim.lines {a b : List UInt8} (h : Sim a b) : linesB a = linesB b:=by
 have hn : ∀ i,newAt a i = newAt b i:=fun i=>by unfold newAt; rw [h.lf i,h.lf (i + 1),h.1]
 have hb : ∀ i,badAt a i = badAt b i:=fun i=>by
  unfold badAt; rw [hn i,h.beh _ (i + 1) (Nat.le_refl _),h.lf,h.mark]
 have hf : ∀ i,flushAt a i = flushAt b i:=fun i=>by unfold flushAt; rw [hn i,h.sp]
 unfold linesB
 rw [h.bl,h.bl,h.mark,h.1,anyTo_congr hn,anyTo_congr hb,anyTo_congr hf]
theorem at0_cons (c : UInt8) (l : List UInt8) (m : Nat) : at0 (c :: l) (m + 1) = at0 l m:=by unfold at0; simp
theorem at0_cons0 (c : UInt8) (l : List UInt8) : at0 (c :: l) 0 = c:=by unfold at0; simp
theorem Sim.cons {a b : List UInt8} {x y : UInt8} (hxy : sortB x = sortB y) (h : Sim a b) : Sim (x :: a) (y :: b):=by
 refine ⟨by rw [List.length_cons,List.length_cons,h.1],fun m=>?_⟩
 cases m with
 | zero=>rw [at0_cons0,at0_cons0,hxy]
 | succ m=>rw [at0_cons,at0_cons,h.2]
theorem Sim.pre {a b : List UInt8} (h : Sim a b) : ∀ t : List UInt8,Sim (t ++ a) (t ++ b)
 | []=>h
 | x :: t=>(h.pre t).cons rfl
theorem sim_lines : ∀ l : List EL,Sim (linesOf 88 l) (linesOf 123 l)
 | []=>⟨rfl,fun _=>rfl⟩
 | .mk t none :: r=>by rw [linesOf,linesOf]; exact (sim_lines r).pre _
 | .mk t (some e) :: r=>by rw [linesOf,linesOf]; exact (sim_lines r).cons (by decide)
theorem lines_88 (l : List EL) : linesB (linesOf 123 l) = linesB (linesOf 88 l):=(sim_lines l).lines.symm
def offB (c : UInt8) : Bool:=decide ((c.toNat : Int) = 123 ∨ (c.toNat : Int) = 125 ∨ (c.toNat : Int) = 13)
theorem off_any (t : ByteArray) (v : Bool) : (v && !t.data.toList.contains 13 && !(t.data.toList.contains 123 || t.data.toList.contains 125)) = (v && !t.data.toList.any offB):=by
 generalize t.data.toList = l
 have hx : ∀ c : UInt8,∀ n : Nat,n < 256 -> ((c.toNat : Int) = n ↔ c = UInt8.ofNat n):=by
  intro c n hn
  rw [<- UInt8.toNat_inj,UInt8.toNat_ofNat']
  omega
 have e : l.any offB = (l.contains 13 || (l.contains 123 || l.contains 125)):=by
  rw [Bool.eq_iff_iff]
  simp only [List.any_eq_true,Bool.or_eq_true,List.contains_iff_mem]
  constructor
  ·rintro ⟨c,hc,ho⟩
   unfold offB at ho
   rw [decide_eq_true_iff] at ho
   rcases ho with ho | ho | ho
   ·rw [show c = 123 from (hx c 123 (by decide)).1 ho] at hc; exact .inr (.inl hc)
   ·rw [show c = 125 from (hx c 125 (by decide)).1 ho] at hc; exact .inr (.inr hc)
   ·rw [show c = 13 from (hx c 13 (by decide)).1 ho] at hc; exact .inl hc
  ·rintro (h | h | h)
   ·exact ⟨_,h,by decide⟩
   ·exact ⟨_,h,by decide⟩
   ·exact ⟨_,h,by decide⟩
 rw [e]
 cases v <;> cases l.contains 13 <;> simp
theorem off_or (c : UInt8) : offB c = ((c.toNat : Int) == 123 || (c.toNat : Int) == 125 || (c.toNat : Int) == 13):=by
 unfold offB
 rw [Bool.eq_iff_iff]
 simp [or_assoc]
theorem mark_or (c : UInt8) : isMarkB c = ((c.toNat : Int) == 46 || (c.toNat : Int) == 42 || (c.toNat : Int) == 91):=by
 unfold isMarkB
 rw [Bool.eq_iff_iff]
 simp [or_assoc]
theorem bytes_app (a b : ByteArray) : (a ++ b).data.toList = a.data.toList ++ b.data.toList:=by simp
theorem anyTake (t : ByteArray) (j : Nat) (h : j < t.size) : (t.data.toList.take (j + 1)).any offB = ((t.data.toList.take j).any offB || offB t[j]):=by
 rw [take_succ t j h,List.any_append]
 simp
theorem anyTake_true (l : List UInt8) (j : Nat) (h : (l.take j).any offB = true) : l.any offB = true:=by
 rw [List.any_eq_true] at h ⊢
 obtain ⟨x,hx,h2⟩:=h
 exact ⟨x,List.mem_of_mem_take hx,h2⟩
-- from Ail
def CellsOf (w : World) (k : Nat) (t : TypeId) : Prop:=∃ cs fz,w.heap[k]? = some (.cells cs t fz)
theorem CellsOf.alloc {w : World} {k : Nat} {t : TypeId} (h : CellsOf w k t) (o : Obj) : CellsOf (w.alloc o) k t:=by
 obtain ⟨cs,fz,h⟩:=h
 exact ⟨cs,fz,(Lib.alloc_old w o k (Array.getElem?_eq_some_iff.1 h).1).trans h⟩
theorem CellsOf.setCell {w : World} {k : Nat} {t : TypeId} (h : CellsOf w k t) (p : Addr) (v : Value) : CellsOf (w.setCell p v) k t:=by
 obtain ⟨cs,fz,h⟩:=h
 by_cases e : k = p.block
 ·subst e
  exact ⟨_,fz,by simp only [World.setCell,Array.getElem?_modify,h]; rfl⟩
 ·exact ⟨cs,fz,(Below.heap_setCell w p v k e).trans h⟩
theorem StepQ.cell {B qb : Nat} {w w' : World} (hs : StepQ B qb w w') {k : Nat} {t : TypeId} (hsh : CellsOf w k t) (ht : t ≠ 23) (hk : k ≠ qb) (o : Nat) : w'.cell? ⟨k,o,none⟩ = w.cell? ⟨k,o,none⟩:=by
 apply World.cell?_of_block
 obtain ⟨cs,fz,h⟩:=hsh
 exact (hs.kept k _ h (by intro e2; exact hk (Option.some.inj e2)) (by intro c2 fz2 e2; cases e2; exact ht rfl)).trans h.symm
-- from Alb
def bareF (ft fn fa fA fi fv : Bool) (t n a : ByteArray) (n1 : Nat) (i : Option Addr) (n2 : Nat) : Bool :=
 (ft || emp t) && ((fn || emp n) && ((fa || emp a) && ((fA || decide (n1 = 0)) && ((fi || i.isNone) && (fv || decide (n2 = 0))))))
set_option maxHeartbeats 4000000 in
set_option maxRecDepth 100000 in
theorem lbare_100000 (k : Int) (t n a : ByteArray) (A1 : Option Addr) (n1 c1 : Nat) (i : Option Addr) (A2 : Option Addr) (n2 c2 : Nat) (w : World) :
  Calls Tryz.prog 83 #[exV k t n a A1 n1 c1 i A2 n2 c2,.bool true,.bool false,.bool false,.bool false,.bool false,.bool false] w fun e w'=>e = .returned (.bool (bareF true false false false false false t n a n1 i n2)) /\ Below w.heap.size w w':=by
 unfold exV bareF emp
 cases hn : n.toList.isEmpty
 case false =>
  go_enter Tryz.func83,Tryz.ntmps83
  go_wp2
  go_ret
  exact ⟨ret_bool (by simp),(Below.refl _ _).alloc (Nat.le_refl _) _⟩
 cases ha : a.toList.isEmpty
 case false =>
  go_enter Tryz.func83,Tryz.ntmps83
  go_wp2
  go_ret
  exact ⟨ret_bool (by simp),(Below.refl _ _).alloc (Nat.le_refl _) _⟩
 by_cases h1 : n1 = 0
 case neg =>
  have z1 : ((n1 : Int) == 0) = false:=beq_eq_false_iff_ne.2 (by omega)
  rw [decide_eq_false h1]
  go_enter Tryz.func83,Tryz.ntmps83
  go_wp2
  go_ret
  exact ⟨ret_bool (by simp),(Below.refl _ _).alloc (Nat.le_refl _) _⟩
 have z1 : ((n1 : Int) == 0) = true:=beq_iff_eq.2 (by omega)
 rw [decide_eq_true h1]
 clear h1
 cases i
 case some q =>
  go_enter Tryz.func83,Tryz.ntmps83
  go_wp2
  go_ret
  exact ⟨ret_bool (by simp),(Below.refl _ _).alloc (Nat.le_refl _) _⟩
 by_cases h2 : n2 = 0
 case neg =>
  have z2 : ((n2 : Int) == 0) = false:=beq_eq_false_iff_ne.2 (by omega)
  rw [decide_eq_false h2]
  go_enter Tryz.func83,Tryz.ntmps83
  go_wp2
  go_ret
  exact ⟨ret_bool (by simp),(Below.refl _ _).alloc (Nat.le_refl _) _⟩
 have z2 : ((n2 : Int) == 0) = true:=beq_iff_eq.2 (by omega)
 rw [decide_eq_true h2]
 clear h2
 ·go_enter Tryz.func83,Tryz.ntmps83
  go_wp2
  go_ret
  exact ⟨ret_bool (by simp),(Below.refl _ _).alloc (Nat.le_refl _) _⟩
set_option maxHeartbeats 4000000 in
set_option maxRecDepth 100000 in
theorem lbare_010000 (k : Int) (t n a : ByteArray) (A1 : Option Addr) (n1 c1 : Nat) (i : Option Addr) (A2 : Option Addr) (n2 c2 : Nat) (w : World) :
  Calls Tryz.prog 83 #[exV k t n a A1 n1 c1 i A2 n2 c2,.bool false,.bool true,.bool false,.bool false,.bool false,.bool false] w fun e w'=>e = .returned (.bool (bareF false true false false false false t n a n1 i n2)) /\ Below w.heap.size w w':=by
 unfold exV bareF emp
 cases ht : t.toList.isEmpty
 case false =>
  go_enter Tryz.func83,Tryz.ntmps83
  go_wp2
  go_ret
  exact ⟨ret_bool (by simp),(Below.refl _ _).alloc (Nat.le_refl _) _⟩
 cases ha : a.toList.isEmpty
 case false =>
  go_enter Tryz.func83,Tryz.ntmps83
  go_wp2
  go_ret
  exact ⟨ret_bool (by simp),(Below.refl _ _).alloc (Nat.le_refl _) _⟩
 by_cases h1 : n1 = 0
 case neg =>
  have z1 : ((n1 : Int) == 0) = false:=beq_eq_false_iff_ne.2 (by omega)
  rw [decide_eq_false h1]
  go_enter Tryz.func83,Tryz.ntmps83
  go_wp2
  go_ret
  exact ⟨ret_bool (by simp),(Below.refl _ _).alloc (Nat.le_refl _) _⟩
 have z1 : ((n1 : Int) == 0) = true:=beq_iff_eq.2 (by omega)
 rw [decide_eq_true h1]
 clear h1
 cases i
 case some q =>
  go_enter Tryz.func83,Tryz.ntmps83
  go_wp2
  go_ret
  exact ⟨ret_bool (by simp),(Below.refl _ _).alloc (Nat.le_refl _) _⟩
 by_cases h2 : n2 = 0
 case neg =>
  have z2 : ((n2 : Int) == 0) = false:=beq_eq_false_iff_ne.2 (by omega)
  rw [decide_eq_false h2]
  go_enter Tryz.func83,Tryz.ntmps83
  go_wp2
  go_ret
  exact ⟨ret_bool (by simp),(Below.refl _ _).alloc (Nat.le_refl _) _⟩
 have z2 : ((n2 : Int) == 0) = true:=beq_iff_eq.2 (by omega)
 rw [decide_eq_true h2]
 clear h2
 ·go_enter Tryz.func83,Tryz.ntmps83
  go_wp2
  go_ret
  exact ⟨ret_bool (by simp),(Below.refl _ _).alloc (Nat.le_refl _) _⟩
set_option maxHeartbeats 4000000 in
set_option maxRecDepth 100000 in
theorem lbare_011000 (k : Int) (t n a : ByteArray) (A1 : Option Addr) (n1 c1 : Nat) (i : Option Addr) (A2 : Option Addr) (n2 c2 : Nat) (w : World) :
  Calls Tryz.prog 83 #[exV k t n a A1 n1 c1 i A2 n2 c2,.bool false,.bool true,.bool true,.bool false,.bool false,.bool false] w fun e w'=>e = .returned (.bool (bareF false true true false false false t n a n1 i n2)) /\ Below w.heap.size w w':=by
 unfold exV bareF emp
 cases ht : t.toList.isEmpty
 case false =>
  go_enter Tryz.func83,Tryz.ntmps83
  go_wp2
  go_ret
  exact ⟨ret_bool (by simp),(Below.refl _ _).alloc (Nat.le_refl _) _⟩
 by_cases h1 : n1 = 0
 case neg =>
  have z1 : ((n1 : Int) == 0) = false:=beq_eq_false_iff_ne.2 (by omega)
  rw [decide_eq_false h1]
  go_enter Tryz.func83,Tryz.ntmps83
  go_wp2
  go_ret
  exact ⟨ret_bool (by simp),(Below.refl _ _).alloc (Nat.le_refl _) _⟩
 have z1 : ((n1 : Int) == 0) = true:=beq_iff_eq.2 (by omega)
 rw [decide_eq_true h1]
 clear h1
 cases i
 case some q =>
  go_enter Tryz.func83,Tryz.ntmps83
  go_wp2
  go_ret
  exact ⟨ret_bool (by simp),(Below.refl _ _).alloc (Nat.le_refl _) _⟩
 by_cases h2 : n2 = 0
 case neg =>
  have z2 : ((n2 : Int) == 0) = false:=beq_eq_false_iff_ne.2 (by omega)
  rw [decide_eq_false h2]
  go_enter Tryz.func83,Tryz.ntmps83
  go_wp2
  go_ret
  exact ⟨ret_bool (by simp),(Below.refl _ _).alloc (Nat.le_refl _) _⟩
 have z2 : ((n2 : Int) == 0) = true:=beq_iff_eq.2 (by omega)
 rw [decide_eq_true h2]
 clear h2
 ·go_enter Tryz.func83,Tryz.ntmps83
  go_wp2
  go_ret
  exact ⟨ret_bool (by simp),(Below.refl _ _).alloc (Nat.le_refl _) _⟩
set_option maxHeartbeats 4000000 in
set_option maxRecDepth 100000 in
theorem lbare_000010 (k : Int) (t n a : ByteArray) (A1 : Option Addr) (n1 c1 : Nat) (i : Option Addr) (A2 : Option Addr) (n2 c2 : Nat) (w : World) :
  Calls Tryz.prog 83 #[exV k t n a A1 n1 c1 i A2 n2 c2,.bool false,.bool false,.bool false,.bool false,.bool true,.bool false] w fun e w'=>e = .returned (.bool (bareF false false false false true false t n a n1 i n2)) /\ Below w.heap.size w w':=by
 unfold exV bareF emp
 cases ht : t.toList.isEmpty
 case false =>
  go_enter Tryz.func83,Tryz.ntmps83
  go_wp2
  go_ret
  exact ⟨ret_bool (by simp),(Below.refl _ _).alloc (Nat.le_refl _) _⟩
 cases hn : n.toList.isEmpty
 case false =>
  go_enter Tryz.func83,Tryz.ntmps83
  go_wp2
  go_ret
  exact ⟨ret_bool (by simp),(Below.refl _ _).alloc (Nat.le_refl _) _⟩
 cases ha : a.toList.isEmpty
 case false =>
  go_enter Tryz.func83,Tryz.ntmps83
  go_wp2
  go_ret
  exact ⟨ret_bool (by simp),(Below.refl _ _).alloc (Nat.le_refl _) _⟩
 by_cases h1 : n1 = 0
 case neg =>
  have z1 : ((n1 : Int) == 0) = false:=beq_eq_false_iff_ne.2 (by omega)
  rw [decide_eq_false h1]
  go_enter Tryz.func83,Tryz.ntmps83
  go_wp2
  go_ret
  exact ⟨ret_bool (by simp),(Below.refl _ _).alloc (Nat.le_refl _) _⟩
 have z1 : ((n1 : Int) == 0) = true:=beq_iff_eq.2 (by omega)
 rw [decide_eq_true h1]
 clear h1
 by_cases h2 : n2 = 0
 case neg =>
  have z2 : ((n2 : Int) == 0) = false:=beq_eq_false_iff_ne.2 (by omega)
  rw [decide_eq_false h2]
  go_enter Tryz.func83,Tryz.ntmps83
  go_wp2
  go_ret
  exact ⟨ret_bool (by simp),(Below.refl _ _).alloc (Nat.le_refl _) _⟩
 have z2 : ((n2 : Int) == 0) = true:=beq_iff_eq.2 (by omega)
 rw [decide_eq_true h2]
 clear h2
 ·go_enter Tryz.func83,Tryz.ntmps83
  go_wp2
  go_ret
  exact ⟨ret_bool (by simp),(Below.refl _ _).alloc (Nat.le_refl _) _⟩
set_option maxHeartbeats 4000000 in
set_option maxRecDepth 100000 in
theorem lbare_010100 (k : Int) (t n a : ByteArray) (A1 : Option Addr) (n1 c1 : Nat) (i : Option Addr) (A2 : Option Addr) (n2 c2 : Nat) (w : World) :
  Calls Tryz.prog 83 #[exV k t n a A1 n1 c1 i A2 n2 c2,.bool false,.bool true,.bool false,.bool true,.bool false,.bool false] w fun e w'=>e = .returned (.bool (bareF false true false true false false t n a n1 i n2)) /\ Below w.heap.size w w':=by
 unfold exV bareF emp
 cases ht : t.toList.isEmpty
 case false =>
  go_enter Tryz.func83,Tryz.ntmps83
  go_wp2
  go_ret
  exact ⟨ret_bool (by simp),(Below.refl _ _).alloc (Nat.le_refl _) _⟩
 cases ha : a.toList.isEmpty
 case false =>
  go_enter Tryz.func83,Tryz.ntmps83
  go_wp2
  go_ret
  exact ⟨ret_bool (by simp),(Below.refl _ _).alloc (Nat.le_refl _) _⟩
 cases i
 case some q =>
  go_enter Tryz.func83,Tryz.ntmps83
  go_wp2
  go_ret
  exact ⟨ret_bool (by simp),(Below.refl _ _).alloc (Nat.le_refl _) _⟩
 by_cases h2 : n2 = 0
 case neg =>
  have z2 : ((n2 : Int) == 0) = false:=beq_eq_false_iff_ne.2 (by omega)
  rw [decide_eq_false h2]
  go_enter Tryz.func83,Tryz.ntmps83
  go_wp2
  go_ret
  exact ⟨ret_bool (by simp),(Below.refl _ _).alloc (Nat.le_refl _) _⟩
 have z2 : ((n2 : Int) == 0) = true:=beq_iff_eq.2 (by omega)
 rw [decide_eq_true h2]
 clear h2
 ·go_enter Tryz.func83,Tryz.ntmps83
  go_wp2
  go_ret
  exact ⟨ret_bool (by simp),(Below.refl _ _).alloc (Nat.le_refl _) _⟩
set_option maxHeartbeats 4000000 in
set_option maxRecDepth 100000 in
theorem lbare_000011 (k : Int) (t n a : ByteArray) (A1 : Option Addr) (n1 c1 : Nat) (i : Option Addr) (A2 : Option Addr) (n2 c2 : Nat) (w : World) :
  Calls Tryz.prog 83 #[exV k t n a A1 n1 c1 i A2 n2 c2,.bool false,.bool false,.bool false,.bool false,.bool true,.bool true] w fun e w'=>e = .returned (.bool (bareF false false false false true true t n a n1 i n2)) /\ Below w.heap.size w w':=by
 unfold exV bareF emp
 cases ht : t.toList.isEmpty
 case false =>
  go_enter Tryz.func83,Tryz.ntmps83
  go_wp2
  go_ret
  exact ⟨ret_bool (by simp),(Below.refl _ _).alloc (Nat.le_refl _) _⟩
 cases hn : n.toList.isEmpty
 case false =>
  go_enter Tryz.func83,Tryz.ntmps83
  go_wp2
  go_ret
  exact ⟨ret_bool (by simp),(Below.refl _ _).alloc (Nat.le_refl _) _⟩
 cases ha : a.toList.isEmpty
 case false =>
  go_enter Tryz.func83,Tryz.ntmps83
  go_wp2
  go_ret
  exact ⟨ret_bool (by simp),(Below.refl _ _).alloc (Nat.le_refl _) _⟩
 by_cases h1 : n1 = 0
 case neg =>
  have z1 : ((n1 : Int) == 0) = false:=beq_eq_false_iff_ne.2 (by omega)
  rw [decide_eq_false h1]
  go_enter Tryz.func83,Tryz.ntmps83
  go_wp2
  go_ret
  exact ⟨ret_bool (by simp),(Below.refl _ _).alloc (Nat.le_refl _) _⟩
 have z1 : ((n1 : Int) == 0) = true:=beq_iff_eq.2 (by omega)
 rw [decide_eq_true h1]
 clear h1
 ·go_enter Tryz.func83,Tryz.ntmps83
  go_wp2
  go_ret
  exact ⟨ret_bool (by simp),(Below.refl _ _).alloc (Nat.le_refl _) _⟩
-- from Aar
theorem args_get {W0 : World} {l : List AR} {v : Value} (h : LieAt (AsAt W0 l) v l.length) {i : Nat} (hi : i < l.length) : ∃ b o c,v = .slice (some ⟨b,o,none⟩) l.length c /\ b < W0.heap.size /\
  ∀ j t e,l[j]? = some (.mk t e) -> W0.cell? ⟨b,o + j * 8,none⟩ = some (.string t) /\ ∃ c7,CellsAt W0 b (o + j * 8 + 1) c7 /\ ExAt W0 e c7:=by
 obtain ⟨A,c,rfl,_,_,h2⟩:=h
 obtain ⟨b,o,rfl,h3⟩:=h2 (by omega)
 have h0 : l[0]? = some l[0]:=List.getElem?_eq_getElem (by omega)
 refine ⟨b,o,c,rfl,?_,fun j t d hj=>⟨(h3.get j hj).2.1,(h3.get j hj).2.2⟩⟩
 cases e : l[0]'(by omega) with
 | mk t d=>rw [e] at h0; exact (h3.get 0 h0).1
theorem sizeAs_length : ∀ l : List AR,l.length <= sizeAs l
 | []=>Nat.zero_le _
 | .mk n e :: r=>by have:=sizeAs_length r; have:=e.size_pos; rw [sizeAs,List.length_cons]; omega
theorem sizeAs_append : ∀ a b : List AR,sizeAs (a ++ b) = sizeAs a + sizeAs b
 | [],b=>by rw [List.nil_append,sizeAs]; omega
 | .mk n e :: r,b=>by rw [List.cons_append,sizeAs,sizeAs,sizeAs_append r b]; omega
theorem sizeAs_take (l : List AR) (i : Nat) : sizeAs (l.take i) <= sizeAs l:=by
 have:=sizeAs_append (l.take i) (l.drop i)
 rw [List.take_append_drop] at this
 omega
theorem isNone_of {W : World} {i : Option EX} {p : Option Addr} (h : OAt W i (.pointer p)) : p.isNone = i.isNone:=by
 cases i with
 | none=>simp only [OAt] at h; cases h; rfl
 | some e=>simp only [OAt] at h; obtain ⟨_,_,_,e,_⟩:=h; cases e; rfl
theorem len0R {α : Type} (l : List α) : decide (l.length = 0) = l.isEmpty:=by cases l <;> simp
-- from Asl
def varOk (d : Nat) : VA -> Bool | .mk k _ v=>(isNameV k || isNum k) && (!v.isEmpty && patB v d)
theorem vars_all : ∀ (vs : List VA) (d : Nat),(vs.all (fun v=>(isNameV (vaKey v) || isNum (vaKey v)) && !(vaVal v).isEmpty && patL (vaVal v)) && okVs vs d) = vs.all (varOk d)
 | [],d=>by simp [okVs]
 | .mk k b v :: r,d=>by
  rw [List.all_cons,List.all_cons,okVs,<- vars_all r d]
  show _ = ((isNameV k || isNum k) && (!v.isEmpty && (patL v && okEs v (d + 1))) && _)
  simp only [vaKey,vaVal]
  generalize (isNameV k || isNum k) = A
  cases A <;> cases v.isEmpty <;> cases patL v <;> cases okEs v (d + 1) <;> simp
theorem vars_get {W0 : World} {l : List VA} {v : Value} (h : LieAt (VsAt W0 l) v l.length) {i : Nat} (hi : i < l.length) : ∃ b o c,v = .slice (some ⟨b,o,none⟩) l.length c /\ b < W0.heap.size /\
  ∀ j t d p,l[j]? = some (.mk t d p) -> W0.cell? ⟨b,o + j * 3,none⟩ = some (.string t) /\ W0.cell? ⟨b,o + j * 3 + 1,none⟩ = some (.bool d) /\ ∃ u,W0.cell? ⟨b,o + j * 3 + 2,none⟩ = some u /\ PatAt W0 p u:=by
 obtain ⟨A,c,rfl,_,_,h2⟩:=h
 obtain ⟨b,o,rfl,h3⟩:=h2 (by omega)
 have h0 : l[0]? = some l[0]:=List.getElem?_eq_getElem (by omega)
 refine ⟨b,o,c,rfl,?_,fun j t d p hj=>⟨(h3.get j hj).2.1,(h3.get j hj).2.2.1,(h3.get j hj).2.2.2⟩⟩
 cases e : l[0]'(by omega) with
 | mk t d p=>rw [e] at h0; exact (h3.get 0 h0).1
theorem sizeVs_length : ∀ l : List VA,l.length <= sizeVs l
 | []=>Nat.zero_le _
 | .mk k d v :: r=>by have:=sizeVs_length r; rw [sizeVs,List.length_cons]; omega
theorem sizeVs_append : ∀ a b : List VA,sizeVs (a ++ b) = sizeVs a + sizeVs b
 | [],b=>by rw [List.nil_append,sizeVs]; omega
 | .mk k d v :: r,b=>by rw [List.cons_append,sizeVs,sizeVs,sizeVs_append r b]; omega
theorem sizeVs_take (l : List VA) (i : Nat) : sizeVs (l.take i) <= sizeVs l:=by
 have:=sizeVs_append (l.take i) (l.drop i)
 rw [List.take_append_drop] at this
 omega
-- from Aqc
theorem ar_size {l : List AR} {n : ByteArray} {e : EX} (h : AR.mk n e ∈ l) : e.size <= sizeAs l:=by
 induction l with
 | nil=>cases h
 | cons x r ih =>
  cases x with
  | mk n' e' =>
   rw [sizeAs]
   rcases List.mem_cons.1 h with h | h
   ·cases h; omega
   ·have:=ih h; omega
theorem va_size {l : List VA} {k : ByteArray} {d : Bool} {v : List EL} (h : VA.mk k d v ∈ l) : sizeEs v <= sizeVs l:=by
 induction l with
 | nil=>cases h
 | cons x r ih =>
  cases x with
  | mk k' d' v' =>
   rw [sizeVs]
   rcases List.mem_cons.1 h with h | h
   ·cases h; omega
   ·have:=ih h; omega
-- from Ams
def attrOk : AT -> Bool | .mk n v=>isNameV n && (!v.isEmpty && patB v 0)
def msgB (ty level : Int) (text name : ByteArray) (val : List EL) (ats : List AT) : Bool :=
 (level == 0) && emp text && isNameV name && patB val 0 && ats.all attrOk && (!val.isEmpty || (ty == 1) && !ats.isEmpty)
-- from Arr
def comB (level : Int) (text name : ByteArray) (n1 n2 : Nat) : Bool:=decide (1 <= level) && decide (level <= 3) && textB text && emp name && decide (n1 = 0) && decide (n2 = 0)
def rightB (ty level : Int) (text name : ByteArray) (val : List EL) (ats : List AT) : Bool :=
 if ty = 0 then comB level text name val.length ats.length else if ty = 1 ∨ ty = 2 then msgB ty level text name val ats else false
-- from Alq
def PlaceTo (W0 : World) (e : EX) (d : Nat) : Prop:=∀ (w : World) (c : C7),ExAt W0 e c -> Below W0.heap.size W0 w ->
 Calls Tryz.prog 56 #[.agg c.arr,.int .i64 d] w fun r w'=>r = .returned (.bool (okE .brc e d)) /\ Below w.heap.size w w'
set_option maxHeartbeats 8000000 in
set_option maxRecDepth 1000000 in
theorem lpat_any {W0 : World} (hT : TabU W0) (l : List EL) {v : Value} (hv : PatAt W0 l v) (d : Nat) (hd : d <= 4000000) (hsz : sizeEs l <= 4000000) (hP : ∀ t e,EL.mk t (some e) ∈ l -> PlaceTo W0 e (d + 1)) (w : World) (hW : Below W0.heap.size W0 w) :
  Calls Tryz.prog 35 #[v,.int .i64 d] w fun e w'=>e = .returned (.bool (patB l d)) /\ Below w.heap.size w w':=by
 have hv':=hv
 obtain ⟨A,c,rfl,hc1,hc2,_⟩:=hv'
 have HV:=hid hv
 have hlen : (l.length : Int) <= 4000000:=by have:=sizeEs_length l; omega
 have Hd:=hid hd
 have HT:=hid hT
 have HP:=hid hP
 have HW:=hid hW
 have hWs:=hW.size
 have Hsz:=hid hsz
 clear hv hd hT hP hW hsz
 go_enter Tryz.func35,Tryz.ntmps35
 go_wp2
 go_loopw [5,17] (fun s5 t17 wr=>∃ (i : Nat) (T : ByteArray),t17 = .int .i64 i /\ i <= l.length /\ s5 = .string T /\ Hid (T.data.toList = linesOf 88 (l.take i)) /\ Hid (0 < i -> linesOf 88 (l.take i) ≠ []) /\
   Hid (patB l d = (textsB (besideAt l i) (l.drop i) && (l.isEmpty || linesB (linesOf 88 l)) && okEs (l.drop i) (d + 1))) /\ Hid (Below w.heap.size w wr)) (fun _ t17 _=>l.length - (intOf t17).toNat)
 case atStart =>
  refine ⟨0,⟨#[]⟩,rfl,Nat.zero_le _,rfl,?_,?_,?_,Below.refl _ _⟩
  ·unfold Hid; simp [linesOf]
  ·unfold Hid; intro h; omega
  ·unfold Hid; simp [patB,patL,besideAt,lines_88]
 case round =>
  obtain ⟨i,T,rfl,hi,rfl,HTt,Hne,Hans,HB⟩:=hrel
  have hi0 : (i : Int) <= 4000000:=by omega
  have hbw0:=HB.out.size
  have hbel : Below W0.heap.size W0 wr:=HW.out.trans (HB.out.mono hWs)
  have hTr:=HT.out.below hbel
  have HTr:=hid hTr
  have Hbel:=hid hbel
  clear hTr
  by_cases hlt : i < l.length
  ·obtain ⟨b,o,c',e,hb,hcs⟩:=pat_get HV.out hlt
   cases e
   obtain ⟨t,p,hel⟩ : ∃ t p,l[i]? = some (.mk t p):=by
    cases e : l[i] with
    | mk t p=>exact ⟨t,p,by rw [List.getElem?_eq_getElem hlt,e]⟩
   obtain ⟨c0,u,c1,hu⟩:=hcs i t p hel
   rw [<- hbel.cell (p:=⟨b,o + i * 2,none⟩) hb] at c0
   rw [<- hbel.cell (p:=⟨b,o + i * 2 + 1,none⟩) hb] at c1
   have hbw : b < wr.heap.size:=by omega
   have hbw1 : b < wr.heap.size + 1:=by omega
   have hlt' : decide ((i : Int) < (l.length : Int)) = true:=decide_eq_true (by omega)
   have hlt3 : ((i : Nat) : Int) < (l.length : Int):=by omega
   have htk:=take_snoc l i _ hel
   have hdr:=drop_cons l i _ hel
   have hans:=Hans.out
   rw [hdr] at hans
   have hszt : sizeEs (l.take (i + 1)) = sizeEs (l.take i) + (1 + t.size + sizeO p):=by
    rw [htk,sizeEs_append,sizeEs,sizeEs,Nat.add_zero]
   have hszl:=sizeEs_take l (i + 1)
   have hln : T.size <= 4000000:=by
    have h1:=linesOf_length 88 (l.take i)
    have h2:=sizeEs_take l i
    rw [<- HTt.out,size_data] at h1
    have:=Hsz.out
    omega
   have hts : t.size <= 4000000:=by have:=Hsz.out; omega
   have Htk:=hid htk
   have Hdr:=hid hdr
   have Hel:=hid hel
   have Hszt:=hid hszt
   have Hszl:=hid hszl
   clear htk hdr hel hszt hszl Hans hbel
   cases p with
   | some e =>
    simp only [OAt] at hu
    obtain ⟨b',o',c7,rfl,hb',hca,hex⟩:=hu
    rw [textsB,okEs] at hans
    obtain ⟨z,hz⟩ : ∃ z,okE .brc e (d + 1) = z:=⟨_,rfl⟩
    rw [hz] at hans
    have Hans:=hid hans
    clear hans hcs
    cases he : t.toList.isEmpty
    case false =>
     go_wp2
     go_ret
     exact ⟨ret_bool (by rw [Hans.out]; simp [emp,he]),HB.out.alloc hbw0 _⟩
    obtain ⟨k0,k1,k2,k3,k4,k5,k6⟩:=hca
    rw [<- Hbel.out.cell (p:=⟨b',o',none⟩) hb'] at k0
    rw [<- Hbel.out.cell (p:=⟨b',o' + 1,none⟩) hb'] at k1
    rw [<- Hbel.out.cell (p:=⟨b',o' + 2,none⟩) hb'] at k2
    rw [<- Hbel.out.cell (p:=⟨b',o' + 3,none⟩) hb'] at k3
    rw [<- Hbel.out.cell (p:=⟨b',o' + 4,none⟩) hb'] at k4
    rw [<- Hbel.out.cell (p:=⟨b',o' + 5,none⟩) hb'] at k5
    rw [<- Hbel.out.cell (p:=⟨b',o' + 6,none⟩) hb'] at k6
    have hbs:=Hbel.out.size
    have hbw' : b' < wr.heap.size:=by omega
    have hPl:=fun W h=>HP.out t e (List.mem_of_getElem? Hel.out) W c7 hex h
    rw [show ((d + 1 : Nat) : Int) = (d : Int) + 1 by omega] at hPl
    rw [hz] at hPl
    have HPl:=hid hPl
    have hd0 : (d : Int) <= 4000000:=by have:=Hd.out; omega
    clear hPl hz hex
    unfold C7.arr at HPl
    go_wp2_with fail
    go_at_call 56
    refine (HPl.out _ ((Hbel.out.alloc hbs _))).mono ?_
    rintro e3 w3 ⟨rfl,hb3⟩
    have hbb:=(HB.out.alloc hbw0 _).trans (hb3.mono (by simp; omega))
    have HBB:=hid hbb
    clear hb3 hbb
    cases z
    case false =>
     go_wp2
     go_ret
     exact ⟨ret_bool (by rw [Hans.out]; simp),HBB.out⟩
    go_wp2
    go_roundw
    case rel =>
     have hlo : linesOf 88 (l.take (i + 1)) = linesOf 88 (l.take i) ++ [88]:=by
      rw [Htk.out,linesOf_append,linesOf,linesOf]
     refine ⟨i + 1,T ++ ⟨#[88]⟩,by go_num,hlt,rfl,?_,?_,?_,HBB.out⟩
     ·unfold Hid
      rw [hlo,bytes_app,HTt.out]
     ·intro _ h
      rw [hlo] at h
      exact absurd (List.append_eq_nil_iff.1 h).2 (by simp)
     ·unfold Hid
      rw [Hans.out]
      have hb' : besideAt l (i + 1) = false:=by
       rw [besideAt,Hel.out]
      have he' : emp t = true:=he
      rw [hb',he']; simp
    case measure=>simp [intOf]; omega
   | none =>
    simp only [OAt] at hu
    subst hu
    obtain ⟨bs,hbs⟩ : ∃ bs,besideAt l i = bs:=⟨_,rfl⟩
    have hprev : 0 < i -> ∃ a : Option Addr,wr.cell? ⟨b,o + (i - 1) * 2 + 1,none⟩ = some (.pointer a) /\ bs = a.isNone:=by
     intro h0
     obtain ⟨j,rfl⟩ : ∃ j,i = j + 1:=⟨i - 1,by omega⟩
     rw [Nat.add_sub_cancel]
     have hj : j < l.length:=by omega
     obtain ⟨t',p',hel'⟩ : ∃ t p,l[j]? = some (.mk t p):=by
      cases e : l[j] with
      | mk t p=>exact ⟨t,p,by rw [List.getElem?_eq_getElem hj,e]⟩
     obtain ⟨_,u',c1',hu'⟩:=hcs j t' p' hel'
     rw [<- Hbel.out.cell (p:=⟨b,o + j * 2 + 1,none⟩) hb] at c1'
     have hbb : besideAt l (j + 1) = p'.isNone:=by
      rw [besideAt,hel']
      cases p' <;> rfl
     rw [hbb] at hbs
     subst hbs
     cases p' with
     | none=>simp only [OAt] at hu'; subst hu'; exact ⟨none,c1',rfl⟩
     | some e'=>simp only [OAt] at hu'; obtain ⟨_,_,_,rfl,_⟩:=hu'; exact ⟨_,c1',rfl⟩
    rw [textsB,okEs,hbs,Bool.and_assoc (!emp t),show (textB t && !(t.data.toList.contains 123 || t.data.toList.contains 125)) = (validB t && !t.data.toList.any offB) from off_any t (validB t)] at hans
    have Hbs:=hid hbs
    have Hpl:=hid (fun W h=>plain_any t W h hts)
    obtain ⟨q,hq⟩ : ∃ q,validB t = q:=⟨_,rfl⟩
    rw [hq] at hans Hpl
    have Hans:=hid hans
    clear hans hbs hcs hq
    by_cases h0 : 0 < i
    ·obtain ⟨a,c2,hbn⟩:=hprev h0
     have Hbn:=hid hbn
     have h0' : decide ((0 : Int) < (i : Int)) = true:=decide_eq_true (by omega)
     have h0'' : decide (0 < i) = true:=decide_eq_true h0
     have h03 : (0 : Int) < (i : Int):=by omega
     have h04 : (1 : Int) <= (i : Int):=by omega
     clear hprev hbn
     cases he : t.toList.isEmpty
     case true =>
      go_wp2
      go_ret
      exact ⟨ret_bool (by rw [Hans.out]; simp [emp,he]),HB.out.alloc hbw0 _⟩
     go_wp2_with fail
     go_at_call 33
     refine (Hpl.out _ (HTr.out.below ((Below.refl _ _).alloc (Nat.le_refl _) _))).mono ?_
     rintro e3 w3 ⟨rfl,hb3⟩
     have hbr : Below wr.heap.size wr w3:=((Below.refl wr.heap.size wr).alloc (Nat.le_refl _) _).trans (hb3.mono (by simp))
     have HBB:=hid (HB.out.trans (hbr.mono hbw0))
     have hE3 : BoxAt w3 wr.heap.size #[.string t,.pointer none] 50:=(BoxAt.new wr _ _).later hb3
     have d0 : w3.cell? ⟨wr.heap.size,0,none⟩ = some (.string t):=hE3.cell 0
     have c3:=(hbr.cell (p:=⟨b,o + (i - 1) * 2 + 1,none⟩) hbw).trans c2
     have hs3:=hbr.size
     have hbw3 : b < w3.heap.size:=by omega
     clear hb3 hbr hE3
     cases q
     case false =>
      go_wp2
      go_ret
      exact ⟨ret_bool (by rw [Hans.out]; simp),HBB.out⟩
     cases a with
     | none =>
      go_wp2
      go_ret
      exact ⟨ret_bool (by rw [Hans.out,Hbn.out]; simp),HBB.out⟩
     | some a0 =>
     have hb0 : bs = false:=Hbn.out
     subst hb0
     go_wp2
     go_loop [8] (fun s8=>∃ j : Nat,s8 = .int .i64 j /\ j <= t.size /\ Hid ((t.data.toList.take j).any offB = false)) (fun s8=>t.size - (intOf s8).toNat)
     case atStart=>exact ⟨0,rfl,Nat.zero_le _,by unfold Hid; simp⟩
     case round =>
      obtain ⟨j,rfl,hj,Hoff⟩:=hrel
      have hts0 : (t.size : Int) <= 4000000:=by omega
      by_cases hjl : j < t.size
      ·have hj' : decide ((j : Int) < (t.size : Int)) = true:=decide_eq_true (by omega)
       have hj3 : (j : Int) < (t.size : Int):=by omega
       have hj4 : decide (j < t.size) = true:=decide_eq_true hjl
       have hjo:=anyTake t j hjl
       rw [Hoff.out,Bool.false_or,off_or] at hjo
       obtain ⟨x1,hx1⟩ : ∃ x,((t[j].toNat : Int) == 123) = x:=⟨_,rfl⟩
       obtain ⟨x2,hx2⟩ : ∃ x,((t[j].toNat : Int) == 125) = x:=⟨_,rfl⟩
       obtain ⟨x3,hx3⟩ : ∃ x,((t[j].toNat : Int) == 13) = x:=⟨_,rfl⟩
       rw [hx1,hx2,hx3] at hjo
       have Hjo:=hid hjo
       clear hjo Hoff
       cases x1
       case true =>
        go_wp2
        go_ret
        exact ⟨ret_bool (by rw [Hans.out,anyTake_true _ _ (by rw [Hjo.out]; rfl)]; simp),HBB.out⟩
       cases x2
       case true =>
        go_wp2
        go_ret
        exact ⟨ret_bool (by rw [Hans.out,anyTake_true _ _ (by rw [Hjo.out]; rfl)]; simp),HBB.out⟩
       cases x3
       case true =>
        go_wp2
        go_ret
        exact ⟨ret_bool (by rw [Hans.out,anyTake_true _ _ (by rw [Hjo.out]; rfl)]; simp),HBB.out⟩
       go_wp2
       go_round
       case rel=>exact ⟨j + 1,by go_num,hjl,by rw [Hjo.out]; rfl⟩
       case measure=>simp [intOf]; omega
      ·have hj' : decide ((j : Int) < (t.size : Int)) = false:=decide_eq_false (by omega)
       have hj3 : ¬ (j : Int) < (t.size : Int):=by omega
       have hoff:=Hoff.out
       rw [show j = t.data.toList.length by rw [size_data]; omega,List.take_length] at hoff
       have Hof:=hid hoff
       clear hoff Hoff
       go_wp2
       go_roundw
       case rel =>
        have hlo : linesOf 88 (l.take (i + 1)) = linesOf 88 (l.take i) ++ t.data.toList:=by
         rw [Htk.out,linesOf_append,linesOf,linesOf,List.append_nil]
        refine ⟨i + 1,T ++ t,by go_num,hlt,rfl,?_,?_,?_,HBB.out⟩
        ·unfold Hid
         rw [hlo,bytes_app,HTt.out]
        ·intro _ h
         rw [hlo] at h
         have e2:=(List.append_eq_nil_iff.1 h).2
         have:=Lib.toList_data t
         rw [this,e2] at he
         cases he
        ·unfold Hid
         have hb' : besideAt l (i + 1) = true:=by
          rw [besideAt,Hel.out]
         have he' : emp t = false:=he
         rw [Hans.out,Hof.out,hb',he']; simp
       case measure=>simp [intOf]; omega
    ·clear hprev
     have hb0 : besideAt l i = false:=by
      obtain rfl : i = 0:=by omega
      rfl
     have h0' : decide ((0 : Int) < (i : Int)) = false:=decide_eq_false (by omega)
     have h0'' : decide (0 < i) = false:=decide_eq_false h0
     have h03 : ¬ (0 : Int) < (i : Int):=by omega
     rw [Hbs.out] at hb0
     subst hb0
     cases he : t.toList.isEmpty
     case true =>
      go_wp2
      go_ret
      exact ⟨ret_bool (by rw [Hans.out]; simp [emp,he]),HB.out.alloc hbw0 _⟩
     go_wp2_with fail
     go_at_call 33
     refine (Hpl.out _ (HTr.out.below ((Below.refl _ _).alloc (Nat.le_refl _) _))).mono ?_
     rintro e3 w3 ⟨rfl,hb3⟩
     have hbr : Below wr.heap.size wr w3:=((Below.refl wr.heap.size wr).alloc (Nat.le_refl _) _).trans (hb3.mono (by simp))
     have HBB:=hid (HB.out.trans (hbr.mono hbw0))
     have hE3 : BoxAt w3 wr.heap.size #[.string t,.pointer none] 50:=(BoxAt.new wr _ _).later hb3
     have d0 : w3.cell? ⟨wr.heap.size,0,none⟩ = some (.string t):=hE3.cell 0
     clear hb3 hbr hE3
     cases q
     case false =>
      go_wp2
      go_ret
      exact ⟨ret_bool (by rw [Hans.out]; simp),HBB.out⟩
     go_wp2
     go_loop [8] (fun s8=>∃ j : Nat,s8 = .int .i64 j /\ j <= t.size /\ Hid ((t.data.toList.take j).any offB = false)) (fun s8=>t.size - (intOf s8).toNat)
     case atStart=>exact ⟨0,rfl,Nat.zero_le _,by unfold Hid; simp⟩
     case round =>
      obtain ⟨j,rfl,hj,Hoff⟩:=hrel
      have hts0 : (t.size : Int) <= 4000000:=by omega
      by_cases hjl : j < t.size
      ·have hj' : decide ((j : Int) < (t.size : Int)) = true:=decide_eq_true (by omega)
       have hj3 : (j : Int) < (t.size : Int):=by omega
       have hj4 : decide (j < t.size) = true:=decide_eq_true hjl
       have hjo:=anyTake t j hjl
       rw [Hoff.out,Bool.false_or,off_or] at hjo
       obtain ⟨x1,hx1⟩ : ∃ x,((t[j].toNat : Int) == 123) = x:=⟨_,rfl⟩
       obtain ⟨x2,hx2⟩ : ∃ x,((t[j].toNat : Int) == 125) = x:=⟨_,rfl⟩
       obtain ⟨x3,hx3⟩ : ∃ x,((t[j].toNat : Int) == 13) = x:=⟨_,rfl⟩
       rw [hx1,hx2,hx3] at hjo
       have Hjo:=hid hjo
       clear hjo Hoff
       cases x1
       case true =>
        go_wp2
        go_ret
        exact ⟨ret_bool (by rw [Hans.out,anyTake_true _ _ (by rw [Hjo.out]; rfl)]; simp),HBB.out⟩
       cases x2
       case true =>
        go_wp2
        go_ret
        exact ⟨ret_bool (by rw [Hans.out,anyTake_true _ _ (by rw [Hjo.out]; rfl)]; simp),HBB.out⟩
       cases x3
       case true =>
        go_wp2
        go_ret
        exact ⟨ret_bool (by rw [Hans.out,anyTake_true _ _ (by rw [Hjo.out]; rfl)]; simp),HBB.out⟩
       go_wp2
       go_round
       case rel=>exact ⟨j + 1,by go_num,hjl,by rw [Hjo.out]; rfl⟩
       case measure=>simp [intOf]; omega
      ·have hj' : decide ((j : Int) < (t.size : Int)) = false:=decide_eq_false (by omega)
       have hj3 : ¬ (j : Int) < (t.size : Int):=by omega
       have hoff:=Hoff.out
       rw [show j = t.data.toList.length by rw [size_data]; omega,List.take_length] at hoff
       have Hof:=hid hoff
       clear hoff Hoff
       go_wp2
       go_roundw
       case rel =>
        have hlo : linesOf 88 (l.take (i + 1)) = linesOf 88 (l.take i) ++ t.data.toList:=by
         rw [Htk.out,linesOf_append,linesOf,linesOf,List.append_nil]
        refine ⟨i + 1,T ++ t,by go_num,hlt,rfl,?_,?_,?_,HBB.out⟩
        ·unfold Hid
         rw [hlo,bytes_app,HTt.out]
        ·intro _ h
         rw [hlo] at h
         have e2:=(List.append_eq_nil_iff.1 h).2
         have:=Lib.toList_data t
         rw [this,e2] at he
         cases he
        ·unfold Hid
         have hb' : besideAt l (i + 1) = true:=by
          rw [besideAt,Hel.out]
         have he' : emp t = false:=he
         rw [Hans.out,Hof.out,hb',he']; simp
       case measure=>simp [intOf]; omega
  ·obtain rfl : i = l.length:=by omega
   have hT2:=HTt.out
   rw [List.take_length] at hT2
   have hans:=Hans.out
   rw [List.drop_length,textsB,okEs,Bool.true_and,Bool.and_true,<- hT2] at hans
   have hne:=Hne.out
   rw [List.take_length,<- hT2] at hne
   have hTs : T.size <= 4000000:=by
    have h1:=linesOf_length 88 l
    rw [<- hT2,size_data] at h1
    have:=Hsz.out
    omega
   have hTz:=size_data T
   have hlt' : decide ((l.length : Int) < (l.length : Int)) = false:=decide_eq_false (by omega)
   have hat : ∀ k (h : k < T.size),T[k] = at0 T.data.toList k:=fun k h=>(at0_data T k h).symm
   have hts0 : (T.size : Int) <= 4000000:=by omega
   have htd:=Lib.toList_data T
   have HT2:=hid hT2
   have Hans2:=hid hans
   have Hne2:=hid hne
   have HAt:=hid hat
   have HTz:=hid hTz
   have Htd:=hid htd
   clear Hans Hne HTt hT2 hans hne hat hTz htd
   cases he : T.toList.isEmpty
   case true =>
    go_wp2
    go_ret
    refine ⟨ret_bool ?_,HB.out⟩
    rw [Hans2.out]
    have h0 : l = []:=by
     rcases Nat.eq_zero_or_pos l.length with h | h
     ·exact List.length_eq_zero_iff.1 h
     ·have:=Hne2.out h
      rw [Htd.out] at he
      rw [List.isEmpty_iff] at he
      exact absurd he this
    rw [h0]; rfl
   have h0 : 0 < T.size:=by
    rw [Htd.out] at he
    rw [<- HTz.out]
    exact List.length_pos_iff.2 (by intro h; rw [h] at he; cases he)
   have h01 : (0 : Int) < (T.size : Int):=by omega
   have hl0 : l.isEmpty = false:=by
    cases l with
    | nil =>
     have h:=HTz.out
     rw [HT2.out] at h
     simp [linesOf] at h
     omega
    | cons=>rfl
   have hans:=Hans2.out
   rw [hl0,Bool.false_or] at hans
   have Hans:=hid hans
   obtain ⟨L,hL⟩ : ∃ L,T.data.toList = L:=⟨_,rfl⟩
   rw [hL] at Hans HAt HTz
   have HL:=hid hL
   have hi1 : (T.size : Int) - 1 < (T.size : Int):=by omega
   have hi2 : (0 : Int) <= (T.size : Int) - 1:=by omega
   have hi3 : T.size - 1 < T.size:=by omega
   have hi5 : (1 : Int) <= (T.size : Int):=by omega
   have hi6 : 1 <= T.size:=by omega
   have hi7 : IntKind.i64.wrap ((T.size : Int) - 1) = (T.size : Int) - 1:=IntWalk.i64_in _ (by omega)
   have hi4 : ((T.size : Int) - 1).toNat = T.size - 1:=by omega
   have hbb0 : blB (at0 L 0) = ((T[0].toNat : Int) == 32 || (T[0].toNat : Int) == 10):=by
    rw [<- HAt.out 0 h0]; unfold blB; rw [Bool.eq_iff_iff]; simp
   have hbb1 : blB (at0 L (L.length - 1)) = ((T[T.size - 1].toNat : Int) == 32 || (T[T.size - 1].toNat : Int) == 10):=by
    rw [HTz.out,<- HAt.out (T.size - 1) hi3]; unfold blB; rw [Bool.eq_iff_iff]; simp
   have Hbb0:=hid hbb0
   have Hbb1:=hid hbb1
   clear Hans2 Hne2 hans hbb0 hbb1 hL hl0 HT2
   go_wp2
   go_region
   go_wp2
   go_loop [104] (fun s=>∃ j : Nat,s = .int .i64 j /\ j <= 2 /\ Hid (0 < j -> blB (at0 L 0) = false) /\ Hid (1 < j -> blB (at0 L (L.length - 1)) = false)) (fun s=>2 - (intOf s).toNat)
   case atStart=>exact ⟨0,rfl,by omega,fun h=>by omega,fun h=>by omega⟩
   case round =>
    obtain ⟨j,rfl,hj,hj0,hj1⟩:=hrel
    obtain rfl | rfl | rfl : j = 0 ∨ j = 1 ∨ j = 2:=by omega
    ·clear hj0 hj1
     obtain ⟨x,hx⟩ : ∃ x,((T[0].toNat : Int) == 32) = x:=⟨_,rfl⟩
     obtain ⟨y,hy⟩ : ∃ y,((T[0].toNat : Int) == 10) = y:=⟨_,rfl⟩
     have hq:=Hbb0.out
     rw [hx,hy] at hq
     have Hq:=hid hq
     clear hq
     cases x
     case true =>
      go_wp2
      go_ret
      exact ⟨ret_bool (by rw [Hans.out]; unfold linesB; rw [Hq.out]; simp),(HB.out.alloc hbw0 _).drew⟩
     cases y
     case true =>
      go_wp2
      go_ret
      exact ⟨ret_bool (by rw [Hans.out]; unfold linesB; rw [Hq.out]; simp),(HB.out.alloc hbw0 _).drew⟩
     go_wp2
     go_round
     case rel=>exact ⟨1,by go_num,by omega,fun _=>by rw [Hq.out]; rfl,fun h=>by omega⟩
     case measure=>simp [intOf]
    ·clear hj1
     obtain ⟨x,hx⟩ : ∃ x,((T[T.size - 1].toNat : Int) == 32) = x:=⟨_,rfl⟩
     obtain ⟨y,hy⟩ : ∃ y,((T[T.size - 1].toNat : Int) == 10) = y:=⟨_,rfl⟩
     have hq:=Hbb1.out
     rw [hx,hy] at hq
     have Hq:=hid hq
     clear hq
     cases x
     case true =>
      go_wp2
      go_ret
      exact ⟨ret_bool (by rw [Hans.out]; unfold linesB; rw [Hq.out]; simp),(HB.out.alloc hbw0 _).drew⟩
     cases y
     case true =>
      go_wp2
      go_ret
      exact ⟨ret_bool (by rw [Hans.out]; unfold linesB; rw [Hq.out]; simp),(HB.out.alloc hbw0 _).drew⟩
     go_wp2
     go_round
     case rel=>exact ⟨2,by go_num,by omega,fun _=>hj0.out (by omega),fun _=>by rw [Hq.out]; rfl⟩
     case measure=>simp [intOf]
    ·have hbl0:=hj0 (by omega)
     have hbl1:=hj1 (by omega)
     have Hbl0:=hid hbl0
     have Hbl1:=hid hbl1
     clear hj0 hj1 hbl0 hbl1 Hbb0 Hbb1
     go_wp2
     go_loop [11,12,13] (fun sf fl at_=>∃ i : Nat,at_ = .int .i64 i /\ i <= T.size /\ sf = .bool (anyTo (newAt L) i) /\ fl = .bool (anyTo (flushAt L) i) /\ Hid (anyTo (badAt L) i = false)) (fun _ _ at_=>T.size - (intOf at_).toNat)
     case atStart=>exact ⟨0,rfl,Nat.zero_le _,rfl,rfl,rfl⟩
     case round =>
      obtain ⟨i,rfl,hi,rfl,rfl,Hbad⟩:=hrel
      have hB':=(HB.out.alloc (o:=.cells #[.int .u8 (T[0].toNat : Int),.int .u8 (T[T.size - 1].toNat : Int)] 5) hbw0).drew
      have HB':=hid hB'
      clear hB'
      obtain ⟨n,hn⟩ : ∃ z,anyTo (newAt L) i = z:=⟨_,rfl⟩
      obtain ⟨f,hf⟩ : ∃ z,anyTo (flushAt L) i = z:=⟨_,rfl⟩
      rw [hn,hf]
      have Hn:=hid hn
      have Hf:=hid hf
      clear hn hf
      have hii0 : (i : Int) <= 4000000:=by omega
      by_cases hil : i < T.size
      ·have hi' : decide ((i : Int) < (T.size : Int)) = true:=decide_eq_true (by omega)
       have hil3 : (i : Int) < (T.size : Int):=by omega
       have hci:=HAt.out i hil
       obtain ⟨x,hx⟩ : ∃ x,((T[i].toNat : Int) == 10) = x:=⟨_,rfl⟩
       have hx2 : (at0 L i == 10) = x:=by
        rw [<- hci,<- hx]
        by_cases e : T[i] = 10
        ·rw [e]; rfl
        ·rw [beq_eq_false_iff_ne.2 e]
         have : T[i].toNat ≠ 10:=fun e2=>e (UInt8.toNat_inj.1 e2)
         symm; simp; omega
       have Hx2:=hid hx2
       clear hx2 hci
       cases x
       case false =>
        have hxn : ((T[i].toNat : Int) != 10) = true:=by rw [bne,hx]; rfl
        have hnew : newAt L i = false:=by unfold newAt; rw [Hx2.out]; rfl
        have Hnew:=hid hnew
        clear hnew
        go_wp2
        go_round
        case rel=>exact ⟨i + 1,by go_num,hil,by rw [anyTo,Hn.out,Hnew.out,Bool.or_false],by rw [anyTo,Hf.out,flushAt_no Hnew.out,Bool.or_false],by unfold Hid; rw [anyTo,Hbad.out,badAt_no Hnew.out]; rfl⟩
        case measure=>simp [intOf]; omega
       have hxn : ((T[i].toNat : Int) != 10) = false:=by rw [bne,hx]; rfl
       have Hx:=hid hx
       clear hx
       have hi1 : i + 1 < T.size:=by
        rcases Nat.lt_or_ge (i + 1) T.size with h | h
        ·exact h
        ·have h1:=Hbl1.out
         have h2:=Hx2.out
         rw [HTz.out,show T.size - 1 = i by omega] at h1
         rw [beq_iff_eq] at h2
         rw [h2] at h1
         exact absurd h1 (by decide)
       have hi13 : (i : Int) + 1 < (T.size : Int):=by omega
       have hi10 : (0 : Int) <= (i : Int) + 1:=by omega
       have hi1t : ((i : Int) + 1).toNat = i + 1:=by omega
       have hci:=HAt.out (i + 1) hi1
       obtain ⟨y,hy⟩ : ∃ y,((T[i + 1].toNat : Int) == 10) = y:=⟨_,rfl⟩
       have hy2 : (at0 L (i + 1) == 10) = y:=by
        rw [<- hci,<- hy]
        by_cases e : T[i + 1] = 10
        ·rw [e]; rfl
        ·rw [beq_eq_false_iff_ne.2 e]
         have : T[i + 1].toNat ≠ 10:=fun e2=>e (UInt8.toNat_inj.1 e2)
         symm; simp; omega
       have hnew : newAt L i = !y:=by
        unfold newAt
        rw [Hx2.out,hy2,HTz.out,decide_eq_true hi1]; rfl
       have Hnew:=hid hnew
       clear hnew hy2 hci
       cases y
       case true =>
        go_wp2
        go_round
        case rel=>exact ⟨i + 1,by go_num,hil,by rw [anyTo,Hn.out,Hnew.out]; simp,by rw [anyTo,Hf.out,flushAt_no Hnew.out,Bool.or_false],by unfold Hid; rw [anyTo,Hbad.out,badAt_no Hnew.out]; rfl⟩
        case measure=>simp [intOf]; omega
       obtain ⟨B,hBe⟩ : ∃ B,behN spB L (i + 1) = B:=⟨_,rfl⟩
       have hBlt:=sp_lt L (i + 1) (by rw [HTz.out]; exact hi1) Hbl1.out
       have hBge:=behN_ge spB L (i + 1)
       rw [hBe,HTz.out] at hBlt
       rw [hBe] at hBge
       have hbd : badAt L i = (at0 L B == 10 || isMarkB (at0 L B)):=by unfold badAt; rw [Hnew.out,hBe]; rfl
       have hsp:=sp_at L (i + 1) (by rw [HTz.out]; exact hi1)
       have hfl : flushAt L i = decide (B = i + 1):=by
        unfold flushAt
        rw [Hnew.out,<- hsp,hBe]
        rw [Bool.eq_iff_iff]; simp; omega
       have Hbd:=hid hbd
       have Hfl:=hid hfl
       have HBe:=hid hBe
       clear hbd hfl hBe hsp
       go_wp2
       go_loop [14] (fun s14=>∃ k : Nat,s14 = .int .i64 k /\ i + 1 <= k /\ k <= B /\ Hid (behN spB L k = B)) (fun s14=>B - (intOf s14).toNat)
       case atStart=>exact ⟨i + 1,by go_num,Nat.le_refl _,hBge,HBe.out⟩
       case round =>
        obtain ⟨k,rfl,hk1,hk2,Hk⟩:=hrel
        have hks : k < T.size:=by omega
        have hk3 : (k : Int) < (T.size : Int):=by omega
        have hk4 : (k : Int) <= 4000000:=by omega
        have hck:=HAt.out k hks
        obtain ⟨z,hz⟩ : ∃ z,((T[k].toNat : Int) == 32) = z:=⟨_,rfl⟩
        have hkL : k < L.length:=by rw [HTz.out]; exact hks
        have hz2 : spB L[k] = z:=by
         rw [<- at0_get L k hkL,<- hck,<- hz]
         unfold spB
         rw [Bool.eq_iff_iff]; simp
        cases z
        case true =>
         have hy:=behN_yes spB L k hkL hz2
         rw [Hk.out] at hy
         have hg:=behN_ge spB L (k + 1)
         have Hy:=hid hy
         clear hy hz2 hck
         go_wp2
         go_round
         case rel=>exact ⟨k + 1,by go_num,by omega,by have:=Hy.out; omega,Hy.out⟩
         case measure=>have:=Hy.out; simp [intOf]; omega
        have hkB:=behN_no spB L k hkL hz2
        rw [Hk.out] at hkB
        have hBk : B = k:=hkB
        subst hBk
        clear hkB hz2
        obtain ⟨m0,hm0⟩ : ∃ x,((T[B].toNat : Int) == 10) = x:=⟨_,rfl⟩
        obtain ⟨m1,hm1⟩ : ∃ x,((T[B].toNat : Int) == 46) = x:=⟨_,rfl⟩
        obtain ⟨m2,hm2⟩ : ∃ x,((T[B].toNat : Int) == 42) = x:=⟨_,rfl⟩
        obtain ⟨m3,hm3⟩ : ∃ x,((T[B].toNat : Int) == 91) = x:=⟨_,rfl⟩
        have hb2:=Hbd.out
        have hx10 : (at0 L B == 10) = m0:=by
         rw [<- hck,<- hm0]
         by_cases e : T[B] = 10
         ·rw [e]; rfl
         ·rw [beq_eq_false_iff_ne.2 e]
          have : T[B].toNat ≠ 10:=fun e2=>e (UInt8.toNat_inj.1 e2)
          symm; simp; omega
        rw [hx10,<- hck,mark_or,hm1,hm2,hm3] at hb2
        have Hb2:=hid hb2
        have hbad : ∀ x,badAt L i = x -> x = true -> linesB L = false:=by
         rintro x h rfl
         unfold linesB
         rw [anyTo_true (badAt L) i h L.length (by rw [HTz.out]; exact hil)]
         simp
        have Hbd3:=hid hbad
        clear hb2 hx10 hck Hbd hbad
        cases m0
        case true =>
         go_wp2
         go_ret
         exact ⟨ret_bool (by rw [Hans.out,Hbd3.out _ Hb2.out rfl]),HB'.out⟩
        cases m1
        case true =>
         go_wp2
         go_ret
         exact ⟨ret_bool (by rw [Hans.out,Hbd3.out _ Hb2.out rfl]),HB'.out⟩
        cases m2
        case true =>
         go_wp2
         go_ret
         exact ⟨ret_bool (by rw [Hans.out,Hbd3.out _ Hb2.out rfl]),HB'.out⟩
        cases m3
        case true =>
         go_wp2
         go_ret
         exact ⟨ret_bool (by rw [Hans.out,Hbd3.out _ Hb2.out rfl]),HB'.out⟩
        have hfl:=Hfl.out
        obtain ⟨g,hg⟩ : ∃ g,((B : Int) == (i : Int) + 1) = g:=⟨_,rfl⟩
        have hg2 : decide (B = i + 1) = g:=by
         rw [<- hg,Bool.eq_iff_iff]; simp; omega
        rw [hg2] at hfl
        have Hfl2:=hid hfl
        clear hfl hg2 Hfl
        cases f <;> cases g <;>
        ·go_wp2
         go_round
         case rel=>exact ⟨i + 1,by go_num,hil,by rw [anyTo,Hn.out,Hnew.out]; simp,by rw [anyTo,Hf.out,Hfl2.out]; rfl,by unfold Hid; rw [anyTo,Hbad.out,Hb2.out]; rfl⟩
         case measure=>simp [intOf]; omega
      ·obtain rfl : i = T.size:=by omega
       have hi' : decide ((T.size : Int) < (T.size : Int)) = false:=decide_eq_false (by omega)
       have hmk:=mark_or T[0]
       rw [HAt.out 0 h0] at hmk
       obtain ⟨m1,hm1⟩ : ∃ x,((T[0].toNat : Int) == 46) = x:=⟨_,rfl⟩
       obtain ⟨m2,hm2⟩ : ∃ x,((T[0].toNat : Int) == 42) = x:=⟨_,rfl⟩
       obtain ⟨m3,hm3⟩ : ∃ x,((T[0].toNat : Int) == 91) = x:=⟨_,rfl⟩
       rw [<- HAt.out 0 h0,hm1,hm2,hm3,HAt.out 0 h0] at hmk
       have hend : linesB L = (!isMarkB (at0 L 0) || !n || f):=by
        unfold linesB
        rw [Hbl0.out,Hbl1.out,HTz.out,Hbad.out,Hn.out,Hf.out]; rfl
       rw [hmk] at hend
       have Hend:=hid hend
       have hn1 : ((T[0].toNat : Int) != 46) = !m1:=by rw [bne,hm1]
       have hn2 : ((T[0].toNat : Int) != 42) = !m2:=by rw [bne,hm2]
       have hn3 : ((T[0].toNat : Int) != 91) = !m3:=by rw [bne,hm3]
       clear hend hmk hm1 hm2 hm3
       cases n <;> cases f <;> cases m1 <;> cases m2 <;> cases m3 <;>
       ·simp only [Bool.not_true,Bool.not_false] at hn1 hn2 hn3
        go_wp2
        go_ret
        exact ⟨ret_bool (by rw [Hans.out,Hend.out]; rfl),HB'.out⟩
end Go.Proofs.YtgdkpamlkpncgaaGreatDoor
