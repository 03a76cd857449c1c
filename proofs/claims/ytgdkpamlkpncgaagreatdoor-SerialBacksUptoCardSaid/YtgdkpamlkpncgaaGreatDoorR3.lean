/-
  Several texts put together (part 3): what the law and the program call, walked; their contracts.
-/
import Derived.WalkKit
namespace Go.Proofs.YtgdkpamlkpncgaaGreatDoor
set_option linter.unusedVariables false
set_option linter.unusedSimpArgs false
def behN (p : UInt8 -> Bool) (l : List UInt8) (k : Nat) : Nat:=k + ((l.drop k).takeWhile p).length
theorem behN_end (p : UInt8 -> Bool) (l : List UInt8) (k : Nat) (h : l.length <= k) : behN p l k = k:=by
 unfold behN; rw [List.drop_eq_nil_of_le h]; rfl
theorem behN_yes (p : UInt8 -> Bool) (l : List UInt8) (k : Nat) (h : k < l.length) (hp : p l[k] = true) : behN p l (k + 1) = behN p l k:=by
 unfold behN
 rw [List.drop_eq_getElem_cons h,List.takeWhile_cons,if_pos hp,List.length_cons]
 omega
theorem behN_no (p : UInt8 -> Bool) (l : List UInt8) (k : Nat) (h : k < l.length) (hp : p l[k] = false) : behN p l k = k:=by
 unfold behN
 rw [List.drop_eq_getElem_cons h,List.takeWhile_cons,if_neg (by simp [hp])]
 rfl
theorem behN_ge (p : UInt8 -> Bool) (l : List UInt8) (k : Nat) : k <= behN p l k:=by unfold behN; omega
theorem takeWhile_le (p : UInt8 -> Bool) : ∀ l : List UInt8,(l.takeWhile p).length <= l.length
 | []=>Nat.le_refl _
 | c :: l=>by
  rw [List.takeWhile_cons]
  split
  ·have:=takeWhile_le p l; simp only [List.length_cons]; omega
  ·simp
theorem behN_le (p : UInt8 -> Bool) (l : List UInt8) (k : Nat) (h : k <= l.length) : behN p l k <= l.length:=by
 unfold behN
 have:=takeWhile_le p (l.drop k)
 rw [List.length_drop] at this
 omega
def behI (p : UInt8 -> Bool) (l : List UInt8) (i : Int) : Int:=if i < 0 then i else (behN p l i.toNat : Int)
def spB (c : UInt8) : Bool:=decide ((c.toNat : Int) = 32)
def blB (c : UInt8) : Bool:=decide ((c.toNat : Int) = 32 ∨ (c.toNat : Int) = 10)
def dgB (c : UInt8) : Bool:=decide (48 <= (c.toNat : Int) /\ (c.toNat : Int) <= 57)
def caB (c : UInt8) : Bool:=decide (65 <= (c.toNat : Int) /\ (c.toNat : Int) <= 90)
def leB (c : UInt8) : Bool:=decide ((97 <= (c.toNat : Int) /\ (c.toNat : Int) <= 122) ∨ (65 <= (c.toNat : Int) /\ (c.toNat : Int) <= 90))
def joB (c : UInt8) : Bool:=decide ((c.toNat : Int) = 95 ∨ (c.toNat : Int) = 45)
def naB (c : UInt8) : Bool:=leB c || dgB c || joB c
def biB (c : UInt8) : Bool:=caB c || dgB c || joB c
def at0 (l : List UInt8) (m : Nat) : UInt8:=l.getD m 0
def pc (l : List UInt8) (i k : Nat) : List UInt8:=(l.take k).drop i
theorem pc_length (l : List UInt8) (i k : Nat) (hk : k <= l.length) : (pc l i k).length = k - i:=by
 unfold pc; rw [List.length_drop,List.length_take]; omega
theorem pc_at (l : List UInt8) (i k m : Nat) (h : i + m < k) : at0 (pc l i k) m = at0 l (i + m):=by
 unfold at0 pc
 rw [List.getD_eq_getElem?_getD,List.getD_eq_getElem?_getD,List.getElem?_drop,List.getElem?_take_of_lt h]
theorem at0_get (l : List UInt8) (m : Nat) (h : m < l.length) : at0 l m = l[m]:=by
 unfold at0; rw [List.getD_eq_getElem?_getD,List.getElem?_eq_getElem h]; rfl
theorem all_at (p : UInt8 -> Bool) (l : List UInt8) : l.all p = true ↔ ∀ m,m < l.length -> p (at0 l m) = true:=by
 rw [List.all_eq_true]
 constructor
 ·intro h m hm
  rw [at0_get l m hm]
  exact h _ (List.getElem_mem hm)
 ·intro h x hx
  obtain ⟨m,hm,rfl⟩:=List.getElem_of_mem hx
  rw [<- at0_get l m hm]
  exact h m hm
theorem behN_in (p : UInt8 -> Bool) (l : List UInt8) : ∀ (n k : Nat),l.length - k <= n -> (∀ m,k <= m -> m < behN p l k -> p (at0 l m) = true) /\ (behN p l k < l.length -> p (at0 l (behN p l k)) = false)
 | 0,k,h=>by
  have e:=behN_end p l k (by omega)
  rw [e]
  exact ⟨fun m h1 h2=>by omega,fun h1=>by omega⟩
 | n + 1,k,h=>by
  by_cases hk : k < l.length
  ·cases hp : p l[k]
   ·have e:=behN_no p l k hk hp
    rw [e]
    exact ⟨fun m h1 h2=>by omega,fun _=>by rw [at0_get l k hk]; exact hp⟩
   ·have e:=behN_yes p l k hk hp
    obtain ⟨a,b⟩:=behN_in p l n (k + 1) (by omega)
    rw [e] at a b
    refine ⟨fun m h1 h2=>?_,b⟩
    by_cases hm : m = k
    ·subst hm; rw [at0_get l m hk]; exact hp
    ·exact a m (by omega) h2
  ·have e:=behN_end p l k (by omega)
   rw [e]
   exact ⟨fun m h1 h2=>by omega,fun h1=>by omega⟩
theorem behN_so (p : UInt8 -> Bool) (l : List UInt8) (k m : Nat) (h1 : k <= m) (h2 : m < behN p l k) : p (at0 l m) = true:=(behN_in p l _ k (Nat.le_refl _)).1 m h1 h2
theorem behN_stop (p : UInt8 -> Bool) (l : List UInt8) (k : Nat) (h : behN p l k < l.length) : p (at0 l (behN p l k)) = false:=(behN_in p l _ k (Nat.le_refl _)).2 h
def longN (Q : List UInt8 -> Bool) (l : List UInt8) (i : Nat) : Nat -> Nat
 | 0=>i
 | k + 1=>if i < k + 1 /\ Q (pc l i (k + 1)) = true then k + 1 else longN Q l i k
theorem longN_eq (Q : List UInt8 -> Bool) (l : List UInt8) (i r : Nat) (hr : r = i ∨ (i < r /\ Q (pc l i r) = true)) : ∀ n,(r <= n ∨ r = i) -> (∀ k,r < k -> k <= n -> Q (pc l i k) = false) -> longN Q l i n = r
 | 0,hn,h=>by
  unfold longN
  omega
 | n + 1,hn,h=>by
  unfold longN
  by_cases e : r = n + 1
  ·subst e
   rcases hr with hr | ⟨h1,h2⟩
   ·rw [if_neg (by omega)]
    exact longN_eq Q l i (n + 1) (.inl hr) n (.inr hr) (fun k a b=>by omega)
   ·rw [if_pos ⟨h1,h2⟩]
  ·by_cases hlt : r < n + 1
   ·rw [if_neg]
    ·exact longN_eq Q l i r hr n (by omega) (fun k a b=>h k a (by omega))
    ·rintro ⟨_,hq⟩
     rw [h (n + 1) hlt (Nat.le_refl _)] at hq
     cases hq
   ·have hi : r = i:=by omega
    rw [if_neg (by omega)]
    exact longN_eq Q l i r hr n (.inr hi) (fun k a b=>by omega)
def goodAt (l : List UInt8) (k : Nat) : Bool:=leB (at0 l k) || (decide (0 < k) && (dgB (at0 l k) || joB (at0 l k)))
def lnameB (l : List UInt8) : Bool:=decide (0 < l.length /\ ∀ k,k < l.length -> goodAt l k = true)
theorem good_na {l : List UInt8} {k : Nat} (h : goodAt l k = true) : naB (at0 l k) = true:=by
 unfold goodAt at h; unfold naB
 cases h1 : leB (at0 l k) <;> cases h2 : dgB (at0 l k) <;> cases h3 : joB (at0 l k) <;> simp_all
theorem na_good {l : List UInt8} {k : Nat} (hk : 0 < k) (h : naB (at0 l k) = true) : goodAt l k = true:=by
 unfold naB at h; unfold goodAt
 cases h1 : leB (at0 l k) <;> cases h2 : dgB (at0 l k) <;> cases h3 : joB (at0 l k) <;> simp_all
theorem le_good {l : List UInt8} {k : Nat} (h : leB (at0 l k) = true) : goodAt l k = true:=by
 unfold goodAt; rw [h]; rfl
theorem good_zero {l : List UInt8} (h : goodAt l 0 = true) : leB (at0 l 0) = true:=by
 unfold goodAt at h; simpa using h
theorem lname_iff (l : List UInt8) (i k : Nat) (hk : k <= l.length) : lnameB (pc l i k) = true ↔ (i < k /\ leB (at0 l i) = true /\ ∀ m,i <= m -> m < k -> naB (at0 l m) = true):=by
 unfold lnameB
 rw [decide_eq_true_iff,pc_length l i k hk]
 constructor
 ·rintro ⟨h1,h2⟩
  refine ⟨by omega,?_,?_⟩
  ·have:=good_zero (h2 0 h1)
   rw [pc_at l i k 0 (by omega)] at this
   exact this
  ·intro m hm hmk
   have:=good_na (h2 (m - i) (by omega))
   rw [pc_at l i k _ (by omega),show i + (m - i) = m by omega] at this
   exact this
 ·rintro ⟨h1,h2,h3⟩
  refine ⟨by omega,fun m hm=>?_⟩
  by_cases e : m = 0
  ·subst e
   apply le_good
   rw [pc_at l i k 0 (by omega)]
   exact h2
  ·apply na_good (by omega)
   rw [pc_at l i k m (by omega)]
   exact h3 _ (by omega) (by omega)
end Go.Proofs.YtgdkpamlkpncgaaGreatDoor
