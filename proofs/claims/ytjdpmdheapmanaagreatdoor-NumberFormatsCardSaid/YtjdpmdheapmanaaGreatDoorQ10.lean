/-
  Several texts put together (part 10): what the law and the program call, walked; their contracts.
-/
import Derived.Test.YtjdpmdheapmanaaGreatDoorQ9
import Derived.Test.YtjdpmdheapmanaaGreatDoorQ3
import Derived.Lib.Repeat
import Derived.IntWalk
import Derived.Deep.RegionWith
namespace Go.Proofs.YtjdpmdheapmanaaGreatDoor
open Go.RowKit
def rhe (x d : Nat) : Nat := x / d + if d < 2 * (x % d) ∨ (2 * (x % d) = d ∧ x / d % 2 = 1) then 1 else 0
theorem rhe_zero (d : Nat) : rhe 0 d = 0 := by
  unfold rhe
  rw [Nat.zero_div, Nat.zero_mod, if_neg (by omega)]
theorem rhe_mul (x d c : Nat) (hc : 0 < c) : rhe (x * c) (d * c) = rhe x d := by
  unfold rhe
  rw [Nat.mul_div_mul_right _ _ hc, Nat.mul_mod_mul_right, ← Nat.mul_assoc]
  simp only [Nat.mul_lt_mul_right hc, Nat.mul_left_inj (Nat.pos_iff_ne_zero.1 hc)]
theorem rhe_whole (x d : Nat) (hd : 0 < d) : rhe (x * d) d = x := by
  unfold rhe
  rw [Nat.mul_mod_left, Nat.mul_div_cancel _ hd, if_neg (by omega)]
  rfl
theorem rhe_mono (x y d : Nat) (h : x ≤ y) : rhe x d ≤ rhe y d := by
  have h1 : x / d ≤ y / d := Nat.div_le_div_right h
  have h2 := Nat.div_add_mod x d
  have h3 := Nat.div_add_mod y d
  unfold rhe
  by_cases hq : x / d = y / d
  · rw [hq] at h2
    rw [hq]
    have : x % d ≤ y % d := by omega
    split <;> split <;> omega
  · split <;> split <;> omega
theorem rhe_frac (x d y e : Nat) (hd : 0 < d) (he : 0 < e) (h : x * e ≤ y * d) : rhe x d ≤ rhe y e := by
  rw [← rhe_mul x d e he, ← rhe_mul y e d hd, Nat.mul_comm e d]
  exact rhe_mono _ _ _ h
theorem dig_succ {c : UInt8} (h : digB c = true) (h9 : c ≠ 57) : digB (c + 1) = true ∧ (c + 1).toNat = c.toNat + 1 := by
  have h1 := inc_add h
  have h2 := dig_le h
  have h3 : c.toNat ≠ 57 := fun e => h9 (UInt8.toNat_inj.1 e)
  have h4 : (c + 1).toNat = c.toNat + 1 := by omega
  refine ⟨?_, h4⟩
  simp only [digB, Bool.and_eq_true, decide_eq_true_eq]
  omega
theorem incR_num : ∀ r : List UInt8, r.all digB = true → numL (incR r).reverse = numL r.reverse + 1 ∧ (incR r).all digB = true
  | [], _ => ⟨rfl, rfl⟩
  | c :: r, h => by
    rw [List.all_cons, Bool.and_eq_true] at h
    obtain ⟨ih, id⟩ := incR_num r h.2
    by_cases h9 : c = 57
    · subst h9
      rw [incR, if_pos rfl, List.reverse_cons, List.reverse_cons, numL_append, numL_append, ih]
      refine ⟨?_, ?_⟩
      · simp [numL]
        omega
      · rw [List.all_cons, id]
        rfl
    · obtain ⟨hs, ha⟩ := dig_succ h.1 h9
      have hc := dig_le h.1
      rw [incR, if_neg h9, List.reverse_cons, List.reverse_cons, numL_append, numL_append]
      refine ⟨?_, ?_⟩
      · simp only [numL, List.length_nil, Nat.pow_zero, Nat.mul_one, Nat.add_zero, List.length_cons, Nat.zero_add, Nat.pow_one]
        omega
      · rw [List.all_cons, hs, h.2]
        rfl
theorem all_reverse {l : List UInt8} (h : l.all digB = true) : l.reverse.all digB = true := by
  rw [List.all_reverse]
  exact h
theorem incL_num (l : List UInt8) (h : l.all digB = true) : numL (incL l) = numL l + 1 := by
  have := (incR_num l.reverse (all_reverse h)).1
  rw [List.reverse_reverse] at this
  exact this
theorem incL_digs (l : List UInt8) (h : l.all digB = true) : (incL l).all digB = true :=
  all_reverse (incR_num l.reverse (all_reverse h)).2
theorem lastOdd_num (l : List UInt8) (h : l.all digB = true) : lastOdd l = decide (numL l % 2 = 1) := by
  rcases List.eq_nil_or_concat l with rfl | ⟨a, c, rfl⟩
  · rfl
  · rw [List.concat_eq_append] at h ⊢
    rw [List.all_append, Bool.and_eq_true] at h
    have hc := dig_le (by simpa using h.2 : digB c = true)
    have e : numL (a ++ [c]) = numL a * 10 + (c.toNat - 48) := by
      rw [numL_append]
      simp [numL]
    unfold lastOdd
    rw [List.getLast?_append, e]
    simp only [List.getLast?_singleton, Option.some_or]
    apply decide_eq_decide.2
    omega
theorem upB_num (kept others : List UInt8) (hk : kept.all digB = true) (ho : others.all digB = true) :
    upB kept others = decide (10 ^ others.length < 2 * numL others ∨ (2 * numL others = 10 ^ others.length ∧ numL kept % 2 = 1)) := by
  have h := parts_num others [53] ho (by decide)
  have e : Lib.trimRightB [53] 48 = [53] := by decide
  have e5 : numL [53] = 5 := by decide
  rw [e, e5] at h
  unfold upB upC
  rw [h, lastOdd_num kept hk]
  simp only [List.length_cons, List.length_nil, Nat.zero_add, Nat.pow_one]
  unfold cmpN
  generalize numL others = r
  generalize 10 ^ others.length = d
  by_cases h1 : r * 10 < 5 * d
  · rw [if_pos h1, if_neg (by decide)]
    apply decide_eq_decide.2
    exact iff_of_false (by decide) (by omega)
  · rw [if_neg h1]
    by_cases h2 : r * 10 = 5 * d
    · rw [if_pos h2, if_pos rfl]
      apply decide_eq_decide.2
      omega
    · rw [if_neg h2, if_neg (by decide)]
      apply decide_eq_decide.2
      exact iff_of_true rfl (by omega)
theorem roundL_num (l : List UInt8) (k m : Nat) (h : l.all digB = true) (hk : k ≤ l.length) (hm : m < k) : numL (roundL l k m) = rhe (numL l) (10 ^ (k - m)) := by
  have hcut := numL_cut l (k - m) (by omega)
  have hlen : l.length - (k - m) = l.length - k + m := by omega
  rw [hlen] at hcut
  have hkd := all_take h (l.length - k + m)
  have hod := all_drop h (l.length - k + m)
  have hlt := numL_lt _ hod
  have hol : (l.drop (l.length - k + m)).length = k - m := by rw [List.length_drop]; omega
  have hup := upB_num _ _ hkd hod
  rw [hol] at hlt hup
  have hin := incL_num _ hkd
  unfold roundL
  rw [if_pos hm, hup, hcut]
  generalize l.take (l.length - k + m) = kept at *
  generalize l.drop (l.length - k + m) = others at *
  unfold rhe
  have hdiv : (numL kept * 10 ^ (k - m) + numL others) / 10 ^ (k - m) = numL kept := by
    rw [Nat.mul_comm, Nat.mul_add_div (ten_pos _), Nat.div_eq_of_lt hlt, Nat.add_zero]
  have hmod : (numL kept * 10 ^ (k - m) + numL others) % 10 ^ (k - m) = numL others := by
    rw [Nat.mul_comm, Nat.mul_add_mod, Nat.mod_eq_of_lt hlt]
  rw [hdiv, hmod]
  simp only [decide_eq_true_eq]
  split
  · exact hin
  · rfl
theorem roundL_digs (l : List UInt8) (k m : Nat) (h : l.all digB = true) : (roundL l k m).all digB = true := by
  unfold roundL
  split
  · split
    · exact incL_digs _ (all_take h _)
    · exact all_take h _
  · exact h
theorem roundL_over (l : List UInt8) (k m : Nat) (h : l.all digB = true) (hk : k ≤ l.length) : numL (roundL l k m) * 10 ^ (m - min k m) = rhe (numL l * 10 ^ m) (10 ^ k) := by
  by_cases hm : m < k
  · rw [roundL_num l k m h hk hm]
    have e1 : m - min k m = 0 := by omega
    have e2 : 10 ^ k = 10 ^ (k - m) * 10 ^ m := by rw [← Nat.pow_add]; congr 1; omega
    rw [e1, e2, rhe_mul _ _ _ (ten_pos _), Nat.pow_zero, Nat.mul_one]
  · have e1 : min k m = k := by omega
    have e2 : 10 ^ m = 10 ^ (m - k) * 10 ^ k := by rw [← Nat.pow_add]; congr 1; omega
    have e3 : roundL l k m = l := by unfold roundL; rw [if_neg hm]
    rw [e1, e2, ← Nat.mul_assoc, rhe_whole _ _ (ten_pos _), e3]
theorem decC_round (n1 n2 : Bool) (l1 l2 : List UInt8) (k1 k2 m : Nat) (h1 : l1.all digB = true) (h2 : l2.all digB = true) (hk1 : k1 ≤ l1.length) (hk2 : k2 ≤ l2.length)
    (a : decC n1 l1 k1 n2 l2 k2 ≤ 0) : decC n1 (roundL l1 k1 m) (min k1 m) n2 (roundL l2 k2 m) (min k2 m) ≤ 0 := by
  rw [decC_num _ _ _ _ _ _ h1 h2 hk1 hk2, cmpZ_le] at a
  rw [decC_num _ _ _ _ _ _ (roundL_digs _ _ _ h1) (roundL_digs _ _ _ h2) (roundL_length _ _ _ hk1).1 (roundL_length _ _ _ hk2).1, cmpZ_le,
    ← sv_le_mul _ _ _ _ (10 ^ (m - min k1 m) * 10 ^ (m - min k2 m)) (Nat.mul_pos (ten_pos _) (ten_pos _))]
  have p1 : 10 ^ min k1 m * 10 ^ (m - min k1 m) = 10 ^ m := by rw [← Nat.pow_add]; congr 1; omega
  have p2 : 10 ^ min k2 m * 10 ^ (m - min k2 m) = 10 ^ m := by rw [← Nat.pow_add]; congr 1; omega
  have e1 : numL (roundL l1 k1 m) * 10 ^ min k2 m * (10 ^ (m - min k1 m) * 10 ^ (m - min k2 m)) = rhe (numL l1 * 10 ^ m) (10 ^ k1) * 10 ^ m := by
    rw [← roundL_over l1 k1 m h1 hk1, ← p2]
    ac_rfl
  have e2 : numL (roundL l2 k2 m) * 10 ^ min k1 m * (10 ^ (m - min k1 m) * 10 ^ (m - min k2 m)) = rhe (numL l2 * 10 ^ m) (10 ^ k2) * 10 ^ m := by
    rw [← roundL_over l2 k2 m h2 hk2, ← p1]
    ac_rfl
  rw [e1, e2, sv_le_mul _ _ _ _ _ (ten_pos _)]
  have up : ∀ x y i j : Nat, x * 10 ^ j ≤ y * 10 ^ i → rhe (x * 10 ^ m) (10 ^ i) ≤ rhe (y * 10 ^ m) (10 ^ j) := by
    intro x y i j h
    apply rhe_frac _ _ _ _ (ten_pos _) (ten_pos _)
    have := Nat.mul_le_mul_right (10 ^ m) h
    have f1 : x * 10 ^ m * 10 ^ j = x * 10 ^ j * 10 ^ m := by ac_rfl
    have f2 : y * 10 ^ m * 10 ^ i = y * 10 ^ i * 10 ^ m := by ac_rfl
    rw [f1, f2]
    exact this
  have hz : ∀ x i j : Nat, x * 10 ^ j = 0 → rhe (x * 10 ^ m) (10 ^ i) = 0 := by
    intro x i j h
    rcases Nat.mul_eq_zero.1 h with e | e
    · rw [e, Nat.zero_mul, rhe_zero]
    · exact absurd e (Nat.pos_iff_ne_zero.1 (ten_pos _))
  have u1 := up (numL l1) (numL l2) k1 k2
  have u2 := up (numL l2) (numL l1) k2 k1
  have z1 := hz (numL l1) k1 k2
  have z2 := hz (numL l2) k2 k1
  generalize rhe (numL l1 * 10 ^ m) (10 ^ k1) = H1 at *
  generalize rhe (numL l2 * 10 ^ m) (10 ^ k2) = H2 at *
  generalize numL l1 * 10 ^ k2 = x at *
  generalize numL l2 * 10 ^ k1 = y at *
  unfold sv at *
  cases n1 <;> cases n2
  · simp at a ⊢
    exact u1 (by omega)
  · simp at a ⊢
    have := z1 (by omega)
    have := z2 (by omega)
    omega
  · simp <;> omega
  · simp at a ⊢
    exact u2 (by omega)
end Go.Proofs.YtjdpmdheapmanaaGreatDoor

namespace Go.Proofs.YtjdpmdheapmanaaGreatDoor
open Go.RowKit
def hor (A : Nat → Int) : Nat → Int
  | 0 => 0
  | n + 1 => 10 * hor A n + A n
def lexF (A B : Nat → Int) : Nat → Nat → Int
  | _, 0 => 0
  | i, f + 1 => if A i < B i then -1 else if B i < A i then 1 else lexF A B (i + 1) f
theorem hor_less {A B : Nat → Int} (hA : DigF A) (hB : DigF B) {i : Nat} (h : hor A i < hor B i) : ∀ f, hor A (i + f) < hor B (i + f)
  | 0 => h
  | f + 1 => by
    have ih := hor_less hA hB h f
    have a := hA (i + f)
    have b := hB (i + f)
    show 10 * hor A (i + f) + A (i + f) < 10 * hor B (i + f) + B (i + f)
    omega
theorem lexF_hor {A B : Nat → Int} (hA : DigF A) (hB : DigF B) : ∀ (f i : Nat), hor A i = hor B i → lexF A B i f = cmpZ (hor A (i + f)) (hor B (i + f))
  | 0, i, h => by
    unfold lexF cmpZ
    simp [h]
  | f + 1, i, h => by
    have e : i + (f + 1) = i + 1 + f := by omega
    have s1 : hor A (i + 1) = 10 * hor A i + A i := rfl
    have s2 : hor B (i + 1) = 10 * hor B i + B i := rfl
    unfold lexF
    by_cases h1 : A i < B i
    · rw [if_pos h1]
      have := hor_less hA hB (i := i + 1) (by omega) f
      rw [e]
      unfold cmpZ
      rw [if_pos this]
    · rw [if_neg h1]
      by_cases h2 : B i < A i
      · rw [if_pos h2]
        have := hor_less hB hA (i := i + 1) (by omega) f
        rw [e]
        unfold cmpZ
        rw [if_neg (by omega), if_neg (by omega)]
      · rw [if_neg h2, lexF_hor hA hB f (i + 1) (by omega), e]
theorem lexF_num {A B : Nat → Int} (hA : DigF A) (hB : DigF B) : lexF A B 0 200 = cmpZ (hor A 200) (hor B 200) := by
  have := lexF_hor hA hB 200 0 rfl
  simpa using this
theorem eqF_iff (A B : Nat → Int) (n : Nat) : eqF A B n = true ↔ ∀ p, p < n → A p = B p := by
  simp [eqF]
theorem hor_congr {A B : Nat → Int} : ∀ n, (∀ p, p < n → A p = B p) → hor A n = hor B n
  | 0, _ => rfl
  | n + 1, h => by
    show 10 * hor A n + A n = 10 * hor B n + B n
    rw [hor_congr n (fun p hp => h p (by omega)), h n (by omega)]
theorem hor_inj {A B : Nat → Int} (hA : DigF A) (hB : DigF B) : ∀ n, hor A n = hor B n → ∀ p, p < n → A p = B p
  | 0, _, p, hp => by omega
  | n + 1, h, p, hp => by
    have a := hA n
    have b := hB n
    have h' : 10 * hor A n + A n = 10 * hor B n + B n := h
    by_cases e : p = n
    · subst e; omega
    · exact hor_inj hA hB n (by omega) p (by omega)
theorem eqF_num {A B : Nat → Int} (hA : DigF A) (hB : DigF B) (n : Nat) : eqF A B n = decide (hor A n = hor B n) := by
  rw [Bool.eq_iff_iff, eqF_iff, decide_eq_true_iff]
  exact ⟨hor_congr n, hor_inj hA hB n⟩
theorem hor_zero (A : Nat → Int) : ∀ n, (∀ p, p < n → A p = 0) → hor A n = 0
  | 0, _ => rfl
  | n + 1, h => by
    show 10 * hor A n + A n = 0
    rw [hor_zero A n (fun p hp => h p (by omega)), h n (by omega)]; rfl
theorem hor_behind (A : Nat → Int) (i : Nat) : ∀ f, (∀ p, i ≤ p → p < i + f → A p = 0) → hor A (i + f) = hor A i * (10 ^ f : Nat)
  | 0, _ => by simp
  | f + 1, h => by
    show 10 * hor A (i + f) + A (i + f) = _
    rw [hor_behind A i f (fun p h1 h2 => h p h1 (by omega)), h (i + f) (by omega) (by omega), Nat.pow_succ, Int.natCast_mul, Int.add_zero]
    show 10 * (hor A i * ((10 ^ f : Nat) : Int)) = hor A i * (((10 ^ f : Nat) : Int) * 10)
    rw [← Int.mul_assoc (hor A i), Int.mul_comm 10]
theorem numL_snoc (l : List UInt8) (c : UInt8) : numL (l ++ [c]) = 10 * numL l + (c.toNat - 48) := by
  rw [numL_append]
  simp [numL, Nat.mul_comm]
theorem hor_fix (l : List UInt8) (k : Nat) (h : l.all digB = true) : ∀ j, j ≤ l.length → hor (fixF l k) (100 - (l.length - k) + j) = numL (l.take j)
  | 0, _ => by
    rw [hor_zero _ _ (fun p hp => by unfold fixF fixJ; rw [if_neg (by omega)])]
    rfl
  | j + 1, hj => by
    have ih := hor_fix l k h j (by omega)
    have hm := dig_le (List.all_eq_true.1 h (l[j]'(by omega)) (List.getElem_mem (by omega)))
    show 10 * hor (fixF l k) (100 - (l.length - k) + j) + fixF l k (100 - (l.length - k) + j) = _
    rw [ih, List.take_succ_eq_append_getElem (by omega), numL_snoc]
    unfold fixF fixJ
    rw [if_pos (by omega), Nat.add_sub_cancel_left, List.getD_eq_getElem?_getD, List.getElem?_eq_getElem (by omega), Option.getD_some]
    omega
theorem hor_fixF (l : List UInt8) (k : Nat) (h : l.all digB = true) (hk : k ≤ l.length) (h1 : l.length - k ≤ 100) (h2 : k ≤ 100) : hor (fixF l k) 200 = ((numL l * 10 ^ (100 - k) : Nat) : Int) := by
  have e : 200 = 100 - (l.length - k) + l.length + (100 - k) := by omega
  have := hor_behind (fixF l k) (100 - (l.length - k) + l.length) (100 - k) (fun p h1 h2 => by unfold fixF fixJ; rw [if_neg (by omega)])
  rw [← e, hor_fix l k h _ (Nat.le_refl _), List.take_length] at this
  rw [this]
  simp
theorem nought_hor (n : Nat) : hor (fun _ => 0) n = 0 := hor_zero _ n (fun _ _ => rfl)
theorem nought_digs : DigF (fun _ => 0) := fun _ => ⟨Int.le_refl _, (by decide : (0 : Int) ≤ 9)⟩
end Go.Proofs.YtjdpmdheapmanaaGreatDoor

namespace Go.Proofs.YtjdpmdheapmanaaGreatDoor
open Go.RowKit
theorem fixF_pad (a : List UInt8) (k j : Nat) : fixF (a ++ List.replicate j 48) (k + j) = fixF a k := by
  funext p
  unfold fixF fixJ
  have e : (a ++ List.replicate j 48).length - (k + j) = a.length - k := by rw [List.length_append, List.length_replicate]; omega
  rw [e]
  generalize 100 - (a.length - k) = o
  by_cases h1 : o ≤ p ∧ p < o + a.length
  · rw [if_pos h1, if_pos ⟨h1.1, by rw [List.length_append]; omega⟩, List.getD_eq_getElem?_getD, List.getD_eq_getElem?_getD, List.getElem?_append_left (by omega)]
  · rw [if_neg h1]
    by_cases h2 : o ≤ p ∧ p < o + (a ++ List.replicate j 48).length
    · rw [if_pos h2, List.getD_eq_getElem?_getD, List.getElem?_append_right (by omega)]
      rw [List.length_append, List.length_replicate] at h2
      rw [List.getElem?_replicate_of_lt (by omega)]
      rfl
    · rw [if_neg h2]
theorem head_take (l : List UInt8) (n : Nat) (hn : 0 < n) : (l.take n).head? = l.head? := by
  cases l with
  | nil => simp
  | cons a b =>
    obtain ⟨j, rfl⟩ : ∃ j, n = j + 1 := ⟨n - 1, by omega⟩
    rfl
theorem trim_fix (l : List UInt8) (k m : Nat) (hk : k ≤ l.length) (hm : m < k) : fixF (l.take (l.length - trimZ l k m)) (k - trimZ l k m) = fixF l k := by
  have h := (trim_split l k m hk hm).1
  have hz := trimZ_le l k m
  have e := fixF_pad (l.take (l.length - trimZ l k m)) (k - trimZ l k m) (trimZ l k m)
  rw [← h, Nat.sub_add_cancel (by omega)] at e
  exact e.symm
theorem trim_last (l : List UInt8) (k m : Nat) (hk : k ≤ l.length) (hm : m < k) (h : m < k - trimZ l k m) : (l.take (l.length - trimZ l k m)).getLast? ≠ some 48 := by
  obtain ⟨-, h2, h3⟩ := trim_split l k m hk hm
  rw [h2, List.getLast?_append]
  have hne : Lib.trimRightB (l.drop (l.length - k + m)) 48 ≠ [] := by
    intro e
    rw [e] at h3
    simp at h3
    omega
  have he := trimR_ends (l.drop (l.length - k + m))
  unfold endsWell at he
  obtain ⟨x, hx⟩ := Option.ne_none_iff_exists'.1 (fun e => hne (List.getLast?_eq_none_iff.1 e))
  rw [hx] at he ⊢
  exact he
end Go.Proofs.YtjdpmdheapmanaaGreatDoor

namespace Go.Proofs.YtjdpmdheapmanaaGreatDoor
open Go.RowKit
theorem incR_last : ∀ r : List UInt8, r.all digB = true → (incR r).getLast? = some 48 → r.getLast? = some 48 ∧ (incR r).length = r.length
  | [], _, h => by simp [incR] at h
  | c :: r, hd, h => by
    rw [List.all_cons, Bool.and_eq_true] at hd
    rw [incR] at h ⊢
    by_cases hc : c = 57
    · rw [if_pos hc] at h ⊢
      have hne : incR r ≠ [] := by
        intro e
        have := (incR_length r).1
        cases r with
        | nil => simp [incR] at e
        | cons a b => rw [e] at this; simp at this
      obtain ⟨a, b, e⟩ := List.exists_cons_of_ne_nil hne
      rw [e, List.getLast?_cons_cons, ← e] at h
      obtain ⟨i1, i2⟩ := incR_last r hd.2 h
      cases r with
      | nil => simp at i1
      | cons x y => exact ⟨by rw [List.getLast?_cons_cons]; exact i1, by rw [List.length_cons, i2]; rfl⟩
    · rw [if_neg hc] at h ⊢
      cases r with
      | nil =>
        exfalso
        have h2 := dig_succ hd.1 hc
        simp at h
        rw [h] at h2
        have h3 := dig_le hd.1
        have : (48 : UInt8).toNat = 48 := rfl
        omega
      | cons x y =>
        rw [List.getLast?_cons_cons] at h
        exact ⟨by rw [List.getLast?_cons_cons]; exact h, rfl⟩
theorem incL_head (l : List UInt8) (h : l.all digB = true) (h48 : (incL l).head? = some 48) : l.head? = some 48 ∧ (incL l).length = l.length := by
  unfold incL at h48 ⊢
  rw [List.head?_reverse] at h48
  obtain ⟨a, b⟩ := incR_last l.reverse (all_reverse h) h48
  rw [List.getLast?_reverse] at a
  exact ⟨a, by rw [List.length_reverse, b, List.length_reverse]⟩
theorem roundL_len (l : List UInt8) (k m : Nat) (hk : k ≤ l.length) (hm : m < k) : l.length - k + m ≤ (roundL l k m).length := by
  have hl : (l.take (l.length - k + m)).length = l.length - k + m := by rw [List.length_take]; omega
  unfold roundL
  rw [if_pos hm]
  split
  · have := (incL_length (l.take (l.length - k + m))).1
    omega
  · omega
theorem round_head (l : List UInt8) (k m : Nat) (hN : Num l k) (hm : m < k) : (roundL l k m).head? ≠ some 48 ∨ (roundL l k m).length = m + 1 := by
  have hlt := hN.lt
  have h60 := hN.le
  have hlen := roundL_len l k m (by omega) hm
  have hdg := roundL_digs l k m hN.digs
  have hhead : (roundL l k m).head? ≠ some 48 ∨ (roundL l k m).length = m + 1 := by
    have hl : (l.take (l.length - k + m)).length = l.length - k + m := by rw [List.length_take]; omega
    have hh : (l.take (l.length - k + m)).head? = l.head? := by
      cases l with
      | nil => simp at hlt
      | cons a b =>
        obtain ⟨j, hj⟩ : ∃ j, (a :: b).length - k + m = j + 1 := ⟨(a :: b).length - k + m - 1, by omega⟩
        rw [hj]; rfl
    have hkd := all_take hN.digs (l.length - k + m)
    unfold roundL
    rw [if_pos hm]
    split
    · by_cases h48 : (incL (l.take (l.length - k + m))).head? = some 48
      · obtain ⟨a, b⟩ := incL_head _ hkd h48
        rw [hh] at a
        rcases hN.head with h | h
        · exact absurd a h
        · right; rw [b, hl]; omega
      · exact Or.inl h48
    · rcases hN.head with h | h
      · left; rw [hh]; exact h
      · right; rw [hl]; omega
  exact hhead
end Go.Proofs.YtjdpmdheapmanaaGreatDoor

namespace Go.Proofs.YtjdpmdheapmanaaGreatDoor
open Go.RowKit
set_option linter.unusedVariables false
set_option linter.unusedSimpArgs false
theorem w64in (n : Int) (h0 : -9223372036854775808 ≤ n) (h1 : n ≤ 9223372036854775807) : wrap64 n = n := by unfold wrap64; omega
set_option maxHeartbeats 1000000 in
set_option maxRecDepth 100000 in
theorem trim_same (neg : Bool) (s p : ByteArray) (k m : Nat) (x : Int) (w : World) (hp : PartTo neg s p k) (hps : p.size = k) (hx : max x 0 = (m : Int)) (hkm : k ≤ m) :
    Calls Tryz.prog 36 #[.agg #[.bool neg, .string s, .int .i64 k], .int .i64 x] w fun e w' => e = .returned (.agg #[.bool neg, .string s, .int .i64 k]) ∧ Below w.heap.size w w' := by
  have hle : (p.size : Int) ≤ (m : Int) := by omega
  clear hps
  go_enter Tryz.func36, Tryz.ntmps36
  go_wp2_with (go_at_call 24; refine (hp _).mono ?_; rintro e w1 ⟨rfl, hb1⟩; obtain ⟨hc1, hf1⟩ := bcell hb1)
  exact bodyPost_ret (v := .agg #[.bool neg, .string s, .int .i64 k]) (by simp [results, Tryz.results36, go_sem, hc1]) rfl ⟨rfl, Below.set3 (below_box2 hb1) (by omega) _ _ _⟩
set_option maxHeartbeats 1000000 in
set_option maxRecDepth 100000 in
theorem trim_less (neg : Bool) (s p T : ByteArray) (k m z : Nat) (x : Int) (w : World) (hs : s.size ≤ 1000000) (hk : k ≤ s.size) (hp : PartTo neg s p k) (hps : p.size = k) (hx : max x 0 = (m : Int)) (hm : m < k) (hT : TrimRTo (p.extract m p.size) T) (hz : T.size + z = k - m) :
    Calls Tryz.prog 36 #[.agg #[.bool neg, .string s, .int .i64 k], .int .i64 x] w fun e w' => e = .returned (.agg #[.bool neg, .string (s.extract 0 (s.size - z)), .int .i64 (k - z : Nat)]) ∧ Below w.heap.size w w' := by
  have Hps := Lib.hid hps
  have hpm : m < p.size := by omega
  have hle : ¬ (p.size : Int) ≤ (m : Int) := by omega
  have hzi : (p.size : Int) - (m : Int) - (T.size : Int) = (z : Int) := by omega
  have hsi : (s.size : Int) - (z : Int) = ((s.size - z : Nat) : Int) := by omega
  have hpi : (p.size : Int) - (z : Int) = ((k - z : Nat) : Int) := by omega
  have Hzi := Lib.hid hzi
  have Hsi := Lib.hid hsi
  have Hpi := Lib.hid hpi
  clear hps hzi hsi hpi
  go_enter Tryz.func36, Tryz.ntmps36
  go_wp2_with (go_at_call 24; refine (hp _).mono ?_; rintro e w1 ⟨rfl, hb1⟩; obtain ⟨hc1, hf1⟩ := bcell hb1)
  go_at_call 40
  refine (hT _).mono ?_
  rintro e w2 ⟨rfl, rfl⟩
  have hzi := Hzi.out
  have hpb : p.size ≤ 1000000 := by have := Hps.out; omega
  have hTb : T.size ≤ 1000000 := by omega
  have hmb : m ≤ 1000000 := by omega
  have hz0 : (0 : Int) ≤ z := by omega
  have hz1 : (z : Int) ≤ s.size := by omega
  have hz2 : (z : Int) ≤ p.size := by have := Hps.out; omega
  have hi0 : (0 : Int) ≤ (s.size : Int) - (z : Int) := by omega
  have hi1 : (s.size : Int) - (z : Int) ≤ s.size := by omega
  have hi2 : ((s.size : Int) - (z : Int)).toNat = s.size - z := by omega
  have hw1 : wrap64 ((p.size : Int) - (m : Int)) = (p.size : Int) - (m : Int) := w64in _ (by omega) (by omega)
  have hw2 : wrap64 ((p.size : Int) - (m : Int) - (T.size : Int)) = (z : Int) := (w64in _ (by omega) (by omega)).trans hzi
  have hw3 : wrap64 ((s.size : Int) - (z : Int)) = (s.size : Int) - (z : Int) := w64in _ (by omega) (by omega)
  have hw4 : IntKind.i64.wrap ((s.size : Int) - (z : Int)) = (s.size : Int) - (z : Int) := IntWalk.i64_in _ (by omega)
  have hw5 : wrap64 ((p.size : Int) - (z : Int)) = (p.size : Int) - (z : Int) := w64in _ (by omega) (by omega)
  have hw6 : IntKind.i64.wrap ((p.size : Int) - (m : Int)) = (p.size : Int) - (m : Int) := IntWalk.i64_in _ (by omega)
  have hw7 : IntKind.i64.wrap ((p.size : Int) - (m : Int) - (T.size : Int)) = (z : Int) := (IntWalk.i64_in _ (by omega)).trans hzi
  go_wp2_with fail
  go_region
  go_wp2
  have hpi := Hpi.out
  exact bodyPost_ret (v := .agg #[.bool neg, .string (s.extract 0 (s.size - z)), .int .i64 (k - z : Nat)]) (by simp [results, Tryz.results36, go_sem, hc1, hpi]) rfl ⟨rfl, (Below.set3 (below_box2 hb1) (by omega) _ _ _).drew⟩
set_option maxHeartbeats 1000000 in
set_option maxRecDepth 100000 in
theorem pad_same (neg : Bool) (s p : ByteArray) (k : Nat) (y x : Int) (w : World) (hp : PartTo neg s p k) (hps : p.size = k) (hx : min x 40 = y) (hky : y ≤ (k : Int)) :
    Calls Tryz.prog 37 #[.agg #[.bool neg, .string s, .int .i64 k], .int .i64 x] w fun e w' => e = .returned (.agg #[.bool neg, .string s, .int .i64 k]) ∧ Below w.heap.size w w' := by
  have hle : y ≤ (p.size : Int) := by omega
  clear hps
  go_enter Tryz.func37, Tryz.ntmps37
  go_wp2_with (go_at_call 24; refine (hp _).mono ?_; rintro e w1 ⟨rfl, hb1⟩; obtain ⟨hc1, hf1⟩ := bcell hb1)
  exact bodyPost_ret (v := .agg #[.bool neg, .string s, .int .i64 k]) (by simp [results, Tryz.results37, go_sem, hc1]) rfl ⟨rfl, Below.set3 (below_box2 hb1) (by omega) _ _ _⟩
def RepTo (j : Nat) (r : ByteArray) : Prop := ∀ W : World, Calls Tryz.prog 38 #[.string ⟨#[48]⟩, .int .i64 j] W fun e w' => e = .returned (.string r) ∧ Below W.heap.size W w'
theorem RepTo.at_ {j : Nat} {r : ByteArray} (h : RepTo j r) (W : World) : Calls Tryz.prog 38 #[.string ⟨#[48]⟩, .int .i64 j] W fun e w' => e = .returned (.string r) ∧ Below W.heap.size W w' := h W
theorem repeat_noughts (j : Nat) : Lib.repeatL [48] j = List.replicate j 48 := by
  induction j with
  | zero => rfl
  | succ j ih => rw [Lib.repeatL, ih, List.replicate_succ]; rfl
theorem repTo (j : Nat) (h1 : 1 ≤ j) (h2 : j ≤ 1000) : RepTo j ⟨(List.replicate j 48).toArray⟩ := by
  intro W
  by_cases hj : j = 1
  · subst hj
    refine (Tryz.strings_Repeat_one _ W).mono ?_
    rintro e w' ⟨rfl, rfl⟩
    exact ⟨rfl, Below.refl _ _⟩
  · have h := Tryz.strings_Repeat_main ⟨#[48]⟩ j W (by omega) (by omega) (by show 1 * j ≤ _; omega) (by decide)
    have e : (⟨#[48]⟩ : ByteArray).data.toList = [48] := rfl
    rw [e, repeat_noughts] at h
    exact h
theorem boxR {b : Nat} {w W w1 : World} {a0 a1 a2 r0 r1 r2 : Value} (hb : Below W.heap.size W w1) (h : W.cell? ⟨b, 0, none⟩ = some a0 ∧ W.cell? ⟨b, 1, none⟩ = some a1 ∧ W.cell? ⟨b, 2, none⟩ = some a2 ∧ W.cell? ⟨b + 1, 0, none⟩ = some r0 ∧ W.cell? ⟨b + 1, 1, none⟩ = some r1 ∧ W.cell? ⟨b + 1, 2, none⟩ = some r2 ∧ W.frozen? ⟨b + 1, 0, none⟩ = false ∧ W.frozen? ⟨b + 1, 1, none⟩ = false ∧ W.frozen? ⟨b + 1, 2, none⟩ = false ∧ b + 1 + 1 ≤ W.heap.size ∧ Below b w W) : w1.cell? ⟨b, 0, none⟩ = some a0 ∧ w1.cell? ⟨b, 1, none⟩ = some a1 ∧ w1.cell? ⟨b, 2, none⟩ = some a2 ∧ w1.cell? ⟨b + 1, 0, none⟩ = some r0 ∧ w1.cell? ⟨b + 1, 1, none⟩ = some r1 ∧ w1.cell? ⟨b + 1, 2, none⟩ = some r2 ∧ w1.frozen? ⟨b + 1, 0, none⟩ = false ∧ w1.frozen? ⟨b + 1, 1, none⟩ = false ∧ w1.frozen? ⟨b + 1, 2, none⟩ = false ∧ b + 1 + 1 ≤ w1.heap.size ∧ Below b w w1 := by
  obtain ⟨x0, x1, x2, x3, x4, x5, f0, f1, f2, z, hB⟩ := h
  have hz := hb.size
  have c := bcell hb
  exact ⟨(c.1 b 0 (by omega)).trans x0, (c.1 b 1 (by omega)).trans x1, (c.1 b 2 (by omega)).trans x2, (c.1 (b + 1) 0 (by omega)).trans x3, (c.1 (b + 1) 1 (by omega)).trans x4, (c.1 (b + 1) 2 (by omega)).trans x5, (c.2 (b + 1) 0 (by omega)).trans f0, (c.2 (b + 1) 1 (by omega)).trans f1, (c.2 (b + 1) 2 (by omega)).trans f2, by omega, hB.trans (hb.mono (by omega))⟩
theorem boxR_start {w w1 : World} {t1 t2 : TypeId} {a0 a1 a2 r0 r1 r2 : Value} (hb : Below ((w.alloc (.cells #[a0, a1, a2] t1)).alloc (.cells #[r0, r1, r2] t2)).heap.size ((w.alloc (.cells #[a0, a1, a2] t1)).alloc (.cells #[r0, r1, r2] t2)) w1) : w1.cell? ⟨w.heap.size, 0, none⟩ = some a0 ∧ w1.cell? ⟨w.heap.size, 1, none⟩ = some a1 ∧ w1.cell? ⟨w.heap.size, 2, none⟩ = some a2 ∧ w1.cell? ⟨w.heap.size + 1, 0, none⟩ = some r0 ∧ w1.cell? ⟨w.heap.size + 1, 1, none⟩ = some r1 ∧ w1.cell? ⟨w.heap.size + 1, 2, none⟩ = some r2 ∧ w1.frozen? ⟨w.heap.size + 1, 0, none⟩ = false ∧ w1.frozen? ⟨w.heap.size + 1, 1, none⟩ = false ∧ w1.frozen? ⟨w.heap.size + 1, 2, none⟩ = false ∧ w.heap.size + 1 + 1 ≤ w1.heap.size ∧ Below w.heap.size w w1 := by
  refine boxR hb ⟨?_, ?_, ?_, ?_, ?_, ?_, ?_, ?_, ?_, by simp, ((Below.refl _ _).alloc (Nat.le_refl _) _).alloc (by simp) _⟩
  all_goals go_simp
theorem boxR_drew {b : Nat} {w W : World} {a0 a1 a2 r0 r1 r2 : Value} (h : W.cell? ⟨b, 0, none⟩ = some a0 ∧ W.cell? ⟨b, 1, none⟩ = some a1 ∧ W.cell? ⟨b, 2, none⟩ = some a2 ∧ W.cell? ⟨b + 1, 0, none⟩ = some r0 ∧ W.cell? ⟨b + 1, 1, none⟩ = some r1 ∧ W.cell? ⟨b + 1, 2, none⟩ = some r2 ∧ W.frozen? ⟨b + 1, 0, none⟩ = false ∧ W.frozen? ⟨b + 1, 1, none⟩ = false ∧ W.frozen? ⟨b + 1, 2, none⟩ = false ∧ b + 1 + 1 ≤ W.heap.size ∧ Below b w W) : W.drew.cell? ⟨b, 0, none⟩ = some a0 ∧ W.drew.cell? ⟨b, 1, none⟩ = some a1 ∧ W.drew.cell? ⟨b, 2, none⟩ = some a2 ∧ W.drew.cell? ⟨b + 1, 0, none⟩ = some r0 ∧ W.drew.cell? ⟨b + 1, 1, none⟩ = some r1 ∧ W.drew.cell? ⟨b + 1, 2, none⟩ = some r2 ∧ W.drew.frozen? ⟨b + 1, 0, none⟩ = false ∧ W.drew.frozen? ⟨b + 1, 1, none⟩ = false ∧ W.drew.frozen? ⟨b + 1, 2, none⟩ = false ∧ b + 1 + 1 ≤ W.drew.heap.size ∧ Below b w W.drew := boxR (Below.refl _ _).drew h
set_option maxHeartbeats 1000000 in
set_option maxRecDepth 100000 in
theorem pad_more (neg : Bool) (s p r : ByteArray) (k m : Nat) (x : Int) (w : World) (hs : s.size ≤ 1000000) (hp : PartTo neg s p k) (hps : p.size = k) (hx : min x 40 = (m : Int)) (hm : k < m) (hr : RepTo (m - k) r) (hrs : r.size ≤ 1000000) :
    Calls Tryz.prog 37 #[.agg #[.bool neg, .string s, .int .i64 k], .int .i64 x] w fun e w' => e = .returned (.agg #[.bool neg, .string (s ++ r), .int .i64 m]) ∧ Below w.heap.size w w' := by
  have hle : ¬ (m : Int) ≤ (p.size : Int) := by omega
  have hsub : (m : Int) - (p.size : Int) = ((m - k : Nat) : Int) := by omega
  have Hsub := Lib.hid hsub
  clear hps hsub
  have hcat : ¬ 9223372036854775807 < s.size + r.size := by omega
  go_enter Tryz.func37, Tryz.ntmps37
  go_wp2_with (go_at_call 24; refine (hp _).mono ?_; rintro e w1 ⟨rfl, hb1⟩; obtain ⟨hc1, hf1⟩ := bcell hb1)
  have hsub := Hsub.out
  have hw1 : wrap64 ((m : Int) - (p.size : Int)) = ((m - k : Nat) : Int) := (w64in _ (by omega) (by omega)).trans hsub
  have hw2 : IntKind.i64.wrap ((m : Int) - (p.size : Int)) = ((m - k : Nat) : Int) := (IntWalk.i64_in _ (by omega)).trans hsub
  have hw3 : IntKind.i64.wrap ((m - k : Nat) : Int) = ((m - k : Nat) : Int) := IntWalk.i64_in _ (by omega)
  have hw4 : wrap64 ((m - k : Nat) : Int) = ((m - k : Nat) : Int) := w64in _ (by omega) (by omega)
  have hb1' := below_box2 hb1
  have hz1 := hb1.size
  have KS0 := Lib.hid (boxR_start hb1)
  obtain ⟨c0, c1, c2, c3, c4, c5, g0, g1, g2, zz, hBB⟩ := boxR_start hb1
  have zz1 : w.heap.size + 1 < w1.heap.size := zz
  have zz0 : w.heap.size < w1.heap.size := by omega
  clear hz1 hc1 hf1 hb1
  (go_region_with (first | (go_at_call 38; (with_reducible refine (hr.at_ _).mono ?_); rintro e w2 ⟨rfl, hb2⟩; obtain ⟨c0', c1', c2', c3', c4', c5', g0', g1', g2', zz', hBB'⟩ := boxR hb2 (boxR_drew KS0.out))))
  all_goals
    go_wp2
    exact bodyPost_ret (v := .agg #[.bool neg, .string (s ++ r), .int .i64 m]) (by simp [results, Tryz.results37, go_sem, c3', c4', c5']) rfl ⟨rfl, Below.set3 hBB' (by omega) _ _ _⟩
theorem trim_any (n : Bool) (s : ByteArray) (k m : Nat) (x : Int) (w : World) (hs : s.size ≤ 1000) (hk : k ≤ s.size) (hx : max x 0 = (m : Int)) :
    Calls Tryz.prog 36 #[.agg #[.bool n, .string s, .int .i64 k], .int .i64 x] w fun e w' => e = .returned (if m < k then .agg #[.bool n, .string (s.extract 0 (s.size - trimZ s.data.toList k m)), .int .i64 (k - trimZ s.data.toList k m : Nat)] else .agg #[.bool n, .string s, .int .i64 k]) ∧ Below w.heap.size w w' := by
  have hp := partTo n s k (by unfold maxLen; omega) hk
  have hps : (s.extract (s.size - k) s.size).size = k := by simp; omega
  by_cases hm : m < k
  · rw [if_pos hm]
    have hl : ((s.extract (s.size - k) s.size).extract m (s.extract (s.size - k) s.size).size).data.toList = s.data.toList.drop (s.data.toList.length - k + m) := by
      rw [extract_drop, extract_drop, List.drop_drop, size_data]
    have hT := trimRTo ((s.extract (s.size - k) s.size).extract m (s.extract (s.size - k) s.size).size) (by simp; omega)
    rw [hl] at hT
    have hz := (trim_split s.data.toList k m (by rw [size_data]; exact hk) hm).2.2
    exact trim_less n s _ _ k m _ x w (by omega) hk hp hps hx hm hT (by rw [size_mk]; exact hz)
  · rw [if_neg hm]
    exact trim_same n s _ k m x w hp hps hx (by omega)
theorem pad_any (n : Bool) (s : ByteArray) (k : Nat) (x : Int) (w : World) (hs : s.size ≤ 1000) (hk : k ≤ s.size) :
    Calls Tryz.prog 37 #[.agg #[.bool n, .string s, .int .i64 k], .int .i64 x] w fun e w' => e = .returned (.agg #[.bool n, .string (s ++ ⟨(List.replicate ((min x 40).toNat - k) 48).toArray⟩), .int .i64 (k + ((min x 40).toNat - k) : Nat)]) ∧ Below w.heap.size w w' := by
  have hp := partTo n s k (by unfold maxLen; omega) hk
  have hps : (s.extract (s.size - k) s.size).size = k := by simp; omega
  by_cases hm : (k : Int) < min x 40
  · have hmn : min x 40 = (((min x 40).toNat : Nat) : Int) := by omega
    have h := pad_more n s _ ⟨(List.replicate ((min x 40).toNat - k) 48).toArray⟩ k (min x 40).toNat x w (by omega) hp hps hmn (by omega) (repTo _ (by omega) (by omega)) (by rw [size_mk, List.length_replicate]; omega)
    have e : k + ((min x 40).toNat - k) = (min x 40).toNat := by omega
    rw [e]
    exact h
  · have e : (min x 40).toNat - k = 0 := by omega
    have e2 : s ++ (⟨([] : List UInt8).toArray⟩ : ByteArray) = s := by
      apply bytes_eq
      simp
    rw [e, List.replicate_zero, Nat.add_zero, e2]
    exact pad_same n s _ k _ x w hp hps rfl (by omega)
end Go.Proofs.YtjdpmdheapmanaaGreatDoor
