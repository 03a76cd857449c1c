/-
  Several texts put together (part 29): what the law and the program call, walked; their contracts.
-/
import Derived.Test.YtglennfjeacpoaaGreatDoorQ14
namespace Go.Proofs.YtglennfjeacpoaaGreatDoor
open Go.RowKit
def rhe (x d : Nat) : Nat := x / d + if d < 2 * (x % d) ∨ (2 * (x % d) = d ∧ x / d % 2 = 1) then 1 else 0
theorem rhe_zero (d : Nat) : rhe 0 d = 0 := by
  unfold rhe
  rw [Nat.zero_div, Nat.zero_mod, if_neg (by omega)]
theorem rhe_mul (x d c : Nat) (hc : 0 < c) : rhe (x * c) (d * c) = rhe x d := by
  unfold rhe
  rw [Nat.mul_div_mul_right _ _ hc, Nat.mul_mod_mul_right, ← Nat.mul_assoc]
  simp only [Nat.mul_lt_mul_right hc, Nat.mul_left_inj (Nat.pos_iff_ne_zero.1 hc)]
theorem rhe_whole (x d : Nat) (hd : 0 < d) : rhe (x * d) d = x := by
  unfold rhe
  rw [Nat.mul_mod_left, Nat.mul_div_cancel _ hd, if_neg (by omega)]
  rfl
theorem rhe_mono (x y d : Nat) (h : x ≤ y) : rhe x d ≤ rhe y d := by
  have h1 : x / d ≤ y / d := Nat.div_le_div_right h
  have h2 := Nat.div_add_mod x d
  have h3 := Nat.div_add_mod y d
  unfold rhe
  by_cases hq : x / d = y / d
  · rw [hq] at h2
    rw [hq]
    have : x % d ≤ y % d := by omega
    split <;> split <;> omega
  · split <;> split <;> omega
theorem rhe_frac (x d y e : Nat) (hd : 0 < d) (he : 0 < e) (h : x * e ≤ y * d) : rhe x d ≤ rhe y e := by
  rw [← rhe_mul x d e he, ← rhe_mul y e d hd, Nat.mul_comm e d]
  exact rhe_mono _ _ _ h
theorem dig_succ {c : UInt8} (h : digB c = true) (h9 : c ≠ 57) : digB (c + 1) = true ∧ (c + 1).toNat = c.toNat + 1 := by
  have h1 := inc_add h
  have h2 := dig_le h
  have h3 : c.toNat ≠ 57 := fun e => h9 (UInt8.toNat_inj.1 e)
  have h4 : (c + 1).toNat = c.toNat + 1 := by omega
  refine ⟨?_, h4⟩
  simp only [digB, Bool.and_eq_true, decide_eq_true_eq]
  omega
theorem incR_num : ∀ r : List UInt8, r.all digB = true → numL (incR r).reverse = numL r.reverse + 1 ∧ (incR r).all digB = true
  | [], _ => ⟨rfl, rfl⟩
  | c :: r, h => by
    rw [List.all_cons, Bool.and_eq_true] at h
    obtain ⟨ih, id⟩ := incR_num r h.2
    by_cases h9 : c = 57
    · subst h9
      rw [incR, if_pos rfl, List.reverse_cons, List.reverse_cons, numL_append, numL_append, ih]
      refine ⟨?_, ?_⟩
      · simp [numL]
        omega
      · rw [List.all_cons, id]
        rfl
    · obtain ⟨hs, ha⟩ := dig_succ h.1 h9
      have hc := dig_le h.1
      rw [incR, if_neg h9, List.reverse_cons, List.reverse_cons, numL_append, numL_append]
      refine ⟨?_, ?_⟩
      · simp only [numL, List.length_nil, Nat.pow_zero, Nat.mul_one, Nat.add_zero, List.length_cons, Nat.zero_add, Nat.pow_one]
        omega
      · rw [List.all_cons, hs, h.2]
        rfl
theorem all_reverse {l : List UInt8} (h : l.all digB = true) : l.reverse.all digB = true := by
  rw [List.all_reverse]
  exact h
theorem incL_num (l : List UInt8) (h : l.all digB = true) : numL (incL l) = numL l + 1 := by
  have := (incR_num l.reverse (all_reverse h)).1
  rw [List.reverse_reverse] at this
  exact this
theorem incL_digs (l : List UInt8) (h : l.all digB = true) : (incL l).all digB = true :=
  all_reverse (incR_num l.reverse (all_reverse h)).2
theorem lastOdd_num (l : List UInt8) (h : l.all digB = true) : lastOdd l = decide (numL l % 2 = 1) := by
  rcases List.eq_nil_or_concat l with rfl | ⟨a, c, rfl⟩
  · rfl
  · rw [List.concat_eq_append] at h ⊢
    rw [List.all_append, Bool.and_eq_true] at h
    have hc := dig_le (by simpa using h.2 : digB c = true)
    have e : numL (a ++ [c]) = numL a * 10 + (c.toNat - 48) := by
      rw [numL_append]
      simp [numL]
    unfold lastOdd
    rw [List.getLast?_append, e]
    simp only [List.getLast?_singleton, Option.some_or]
    apply decide_eq_decide.2
    omega
theorem upB_num (kept others : List UInt8) (hk : kept.all digB = true) (ho : others.all digB = true) :
    upB kept others = decide (10 ^ others.length < 2 * numL others ∨ (2 * numL others = 10 ^ others.length ∧ numL kept % 2 = 1)) := by
  have h := parts_num others [53] ho (by decide)
  have e : Lib.trimRightB [53] 48 = [53] := by decide
  have e5 : numL [53] = 5 := by decide
  rw [e, e5] at h
  unfold upB upC
  rw [h, lastOdd_num kept hk]
  simp only [List.length_cons, List.length_nil, Nat.zero_add, Nat.pow_one]
  unfold cmpN
  generalize numL others = r
  generalize 10 ^ others.length = d
  by_cases h1 : r * 10 < 5 * d
  · rw [if_pos h1, if_neg (by decide)]
    apply decide_eq_decide.2
    exact iff_of_false (by decide) (by omega)
  · rw [if_neg h1]
    by_cases h2 : r * 10 = 5 * d
    · rw [if_pos h2, if_pos rfl]
      apply decide_eq_decide.2
      omega
    · rw [if_neg h2, if_neg (by decide)]
      apply decide_eq_decide.2
      exact iff_of_true rfl (by omega)
theorem roundL_num (l : List UInt8) (k m : Nat) (h : l.all digB = true) (hk : k ≤ l.length) (hm : m < k) : numL (roundL l k m) = rhe (numL l) (10 ^ (k - m)) := by
  have hcut := numL_cut l (k - m) (by omega)
  have hlen : l.length - (k - m) = l.length - k + m := by omega
  rw [hlen] at hcut
  have hkd := all_take h (l.length - k + m)
  have hod := all_drop h (l.length - k + m)
  have hlt := numL_lt _ hod
  have hol : (l.drop (l.length - k + m)).length = k - m := by rw [List.length_drop]; omega
  have hup := upB_num _ _ hkd hod
  rw [hol] at hlt hup
  have hin := incL_num _ hkd
  unfold roundL
  rw [if_pos hm, hup, hcut]
  generalize l.take (l.length - k + m) = kept at *
  generalize l.drop (l.length - k + m) = others at *
  unfold rhe
  have hdiv : (numL kept * 10 ^ (k - m) + numL others) / 10 ^ (k - m) = numL kept := by
    rw [Nat.mul_comm, Nat.mul_add_div (ten_pos _), Nat.div_eq_of_lt hlt, Nat.add_zero]
  have hmod : (numL kept * 10 ^ (k - m) + numL others) % 10 ^ (k - m) = numL others := by
    rw [Nat.mul_comm, Nat.mul_add_mod, Nat.mod_eq_of_lt hlt]
  rw [hdiv, hmod]
  simp only [decide_eq_true_eq]
  split
  · exact hin
  · rfl
theorem roundL_digs (l : List UInt8) (k m : Nat) (h : l.all digB = true) : (roundL l k m).all digB = true := by
  unfold roundL
  split
  · split
    · exact incL_digs _ (all_take h _)
    · exact all_take h _
  · exact h
theorem roundL_over (l : List UInt8) (k m : Nat) (h : l.all digB = true) (hk : k ≤ l.length) : numL (roundL l k m) * 10 ^ (m - min k m) = rhe (numL l * 10 ^ m) (10 ^ k) := by
  by_cases hm : m < k
  · rw [roundL_num l k m h hk hm]
    have e1 : m - min k m = 0 := by omega
    have e2 : 10 ^ k = 10 ^ (k - m) * 10 ^ m := by rw [← Nat.pow_add]; congr 1; omega
    rw [e1, e2, rhe_mul _ _ _ (ten_pos _), Nat.pow_zero, Nat.mul_one]
  · have e1 : min k m = k := by omega
    have e2 : 10 ^ m = 10 ^ (m - k) * 10 ^ k := by rw [← Nat.pow_add]; congr 1; omega
    have e3 : roundL l k m = l := by unfold roundL; rw [if_neg hm]
    rw [e1, e2, ← Nat.mul_assoc, rhe_whole _ _ (ten_pos _), e3]
theorem decC_round (n1 n2 : Bool) (l1 l2 : List UInt8) (k1 k2 m : Nat) (h1 : l1.all digB = true) (h2 : l2.all digB = true) (hk1 : k1 ≤ l1.length) (hk2 : k2 ≤ l2.length)
    (a : decC n1 l1 k1 n2 l2 k2 ≤ 0) : decC n1 (roundL l1 k1 m) (min k1 m) n2 (roundL l2 k2 m) (min k2 m) ≤ 0 := by
  rw [decC_num _ _ _ _ _ _ h1 h2 hk1 hk2, cmpZ_le] at a
  rw [decC_num _ _ _ _ _ _ (roundL_digs _ _ _ h1) (roundL_digs _ _ _ h2) (roundL_length _ _ _ hk1).1 (roundL_length _ _ _ hk2).1, cmpZ_le,
    ← sv_le_mul _ _ _ _ (10 ^ (m - min k1 m) * 10 ^ (m - min k2 m)) (Nat.mul_pos (ten_pos _) (ten_pos _))]
  have p1 : 10 ^ min k1 m * 10 ^ (m - min k1 m) = 10 ^ m := by rw [← Nat.pow_add]; congr 1; omega
  have p2 : 10 ^ min k2 m * 10 ^ (m - min k2 m) = 10 ^ m := by rw [← Nat.pow_add]; congr 1; omega
  have e1 : numL (roundL l1 k1 m) * 10 ^ min k2 m * (10 ^ (m - min k1 m) * 10 ^ (m - min k2 m)) = rhe (numL l1 * 10 ^ m) (10 ^ k1) * 10 ^ m := by
    rw [← roundL_over l1 k1 m h1 hk1, ← p2]
    ac_rfl
  have e2 : numL (roundL l2 k2 m) * 10 ^ min k1 m * (10 ^ (m - min k1 m) * 10 ^ (m - min k2 m)) = rhe (numL l2 * 10 ^ m) (10 ^ k2) * 10 ^ m := by
    rw [← roundL_over l2 k2 m h2 hk2, ← p1]
    ac_rfl
  rw [e1, e2, sv_le_mul _ _ _ _ _ (ten_pos _)]
  have up : ∀ x y i j : Nat, x * 10 ^ j ≤ y * 10 ^ i → rhe (x * 10 ^ m) (10 ^ i) ≤ rhe (y * 10 ^ m) (10 ^ j) := by
    intro x y i j h
    apply rhe_frac _ _ _ _ (ten_pos _) (ten_pos _)
    have := Nat.mul_le_mul_right (10 ^ m) h
    have f1 : x * 10 ^ m * 10 ^ j = x * 10 ^ j * 10 ^ m := by ac_rfl
    have f2 : y * 10 ^ m * 10 ^ i = y * 10 ^ i * 10 ^ m := by ac_rfl
    rw [f1, f2]
    exact this
  have hz : ∀ x i j : Nat, x * 10 ^ j = 0 → rhe (x * 10 ^ m) (10 ^ i) = 0 := by
    intro x i j h
    rcases Nat.mul_eq_zero.1 h with e | e
    · rw [e, Nat.zero_mul, rhe_zero]
    · exact absurd e (Nat.pos_iff_ne_zero.1 (ten_pos _))
  have u1 := up (numL l1) (numL l2) k1 k2
  have u2 := up (numL l2) (numL l1) k2 k1
  have z1 := hz (numL l1) k1 k2
  have z2 := hz (numL l2) k2 k1
  generalize rhe (numL l1 * 10 ^ m) (10 ^ k1) = H1 at *
  generalize rhe (numL l2 * 10 ^ m) (10 ^ k2) = H2 at *
  generalize numL l1 * 10 ^ k2 = x at *
  generalize numL l2 * 10 ^ k1 = y at *
  unfold sv at *
  cases n1 <;> cases n2
  · simp at a ⊢
    exact u1 (by omega)
  · simp at a ⊢
    have := z1 (by omega)
    have := z2 (by omega)
    omega
  · simp <;> omega
  · simp at a ⊢
    exact u2 (by omega)
end Go.Proofs.YtglennfjeacpoaaGreatDoor
