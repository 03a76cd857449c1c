import Derived.Test.YtjgfijpgoffmlabDoorFixMath2
import Derived.Test.YtjgfijpgoffmlabDoorLawRight
import Derived.Test.YtjgfijpgoffmlabDoorA3r
namespace Go.Proofs.YtjgfijpgoffmlabDoor
open Go.RowKit

theorem rhe_near (n D : Nat) (hD : 0 < D) : 2 * (n - rhe n D * D) ≤ D ∧ 2 * (rhe n D * D - n) ≤ D ∧ ((2 * (n - rhe n D * D) = D ∨ 2 * (rhe n D * D - n) = D) → rhe n D % 2 = 0) := by
  have hq : n / D * D + n % D = n := by rw [Nat.mul_comm]; exact Nat.div_add_mod n D
  have hr : n % D < D := Nat.mod_lt _ hD
  unfold rhe
  by_cases h : D < 2 * (n % D) ∨ (2 * (n % D) = D ∧ n / D % 2 = 1)
  · rw [if_pos h, Nat.add_mul, Nat.one_mul]
    generalize n / D * D = qD at *
    omega
  · rw [if_neg h, Nat.add_zero]
    generalize n / D * D = qD at *
    omega

/-- One in its place. -/
def unitF (m p : Nat) : Int := if p = 99 + m then 1 else 0
theorem unit_digs (m : Nat) : DigF (unitF m) := by
  intro p
  unfold unitF
  by_cases h : p = 99 + m
  · rw [if_pos h]; omega
  · rw [if_neg h]; omega
theorem unit_hor (m : Nat) (hm : m ≤ 100) : hor (unitF m) 200 = ((10 ^ (100 - m) : Nat) : Int) := by
  have h0 : hor (unitF m) (99 + m) = 0 := hor_zero _ _ (fun p hp => by unfold unitF; rw [if_neg (by omega)])
  have h1 : hor (unitF m) (99 + m + 1) = 1 := by
    show 10 * hor (unitF m) (99 + m) + unitF m (99 + m) = 1
    rw [h0]
    unfold unitF
    rw [if_pos rfl]
    rfl
  have h2 := hor_behind (unitF m) (99 + m + 1) (100 - m) (fun p a b => by unfold unitF; rw [if_neg (by omega)])
  have e : 99 + m + 1 + (100 - m) = 200 := by omega
  rw [e, h1, Int.one_mul] at h2
  exact h2
theorem last_fix (l : List UInt8) (m : Nat) (h : l.all digB = true) (hm : m < l.length) (h1 : l.length - m ≤ 100) : (numL l : Int) = 10 * hor (fixF l m) (99 + m) + fixF l m (99 + m) := by
  have := hor_fix l m h l.length (Nat.le_refl _)
  have e : 100 - (l.length - m) + l.length = 99 + m + 1 := by omega
  rw [e, List.take_length] at this
  rw [← this]
  rfl

theorem incR_last : ∀ r : List UInt8, r.all digB = true → (incR r).getLast? = some 48 → r.getLast? = some 48 ∧ (incR r).length = r.length
  | [], _, h => by simp [incR] at h
  | c :: r, hd, h => by
    rw [List.all_cons, Bool.and_eq_true] at hd
    rw [incR] at h ⊢
    by_cases hc : c = 57
    · rw [if_pos hc] at h ⊢
      have hne : incR r ≠ [] := by
        intro e
        have := (incR_length r).1
        cases r with
        | nil => simp [incR] at e
        | cons a b => rw [e] at this; simp at this
      obtain ⟨a, b, e⟩ := List.exists_cons_of_ne_nil hne
      rw [e, List.getLast?_cons_cons, ← e] at h
      obtain ⟨i1, i2⟩ := incR_last r hd.2 h
      cases r with
      | nil => simp at i1
      | cons x y => exact ⟨by rw [List.getLast?_cons_cons]; exact i1, by rw [List.length_cons, i2]; rfl⟩
    · rw [if_neg hc] at h ⊢
      cases r with
      | nil =>
        exfalso
        have h2 := dig_succ hd.1 hc
        simp at h
        rw [h] at h2
        have h3 := dig_le hd.1
        have : (48 : UInt8).toNat = 48 := rfl
        omega
      | cons x y =>
        rw [List.getLast?_cons_cons] at h
        exact ⟨by rw [List.getLast?_cons_cons]; exact h, rfl⟩
theorem incL_head (l : List UInt8) (h : l.all digB = true) (h48 : (incL l).head? = some 48) : l.head? = some 48 ∧ (incL l).length = l.length := by
  unfold incL at h48 ⊢
  rw [List.head?_reverse] at h48
  obtain ⟨a, b⟩ := incR_last l.reverse (all_reverse h) h48
  rw [List.getLast?_reverse] at a
  exact ⟨a, by rw [List.length_reverse, b, List.length_reverse]⟩
theorem roundL_len (l : List UInt8) (k m : Nat) (hk : k ≤ l.length) (hm : m < k) : l.length - k + m ≤ (roundL l k m).length := by
  have hl : (l.take (l.length - k + m)).length = l.length - k + m := by rw [List.length_take]; omega
  unfold roundL
  rw [if_pos hm]
  split
  · have := (incL_length (l.take (l.length - k + m))).1
    omega
  · omega
theorem round_right (l : List UInt8) (k m : Nat) (hN : Num l k) (hm : m < k) : decRightB (roundL l k m) (m : Int) = true := by
  have hlt := hN.lt
  have h60 := hN.le
  have hlen := roundL_len l k m (by omega) hm
  have hdg := roundL_digs l k m hN.digs
  have hhead : (roundL l k m).head? ≠ some 48 ∨ (roundL l k m).length = m + 1 := by
    have hl : (l.take (l.length - k + m)).length = l.length - k + m := by rw [List.length_take]; omega
    have hh : (l.take (l.length - k + m)).head? = l.head? := by
      cases l with
      | nil => simp at hlt
      | cons a b =>
        obtain ⟨j, hj⟩ : ∃ j, (a :: b).length - k + m = j + 1 := ⟨(a :: b).length - k + m - 1, by omega⟩
        rw [hj]; rfl
    have hkd := all_take hN.digs (l.length - k + m)
    unfold roundL
    rw [if_pos hm]
    split
    · by_cases h48 : (incL (l.take (l.length - k + m))).head? = some 48
      · obtain ⟨a, b⟩ := incL_head _ hkd h48
        rw [hh] at a
        rcases hN.head with h | h
        · exact absurd a h
        · right; rw [b, hl]; omega
      · exact Or.inl h48
    · rcases hN.head with h | h
      · left; rw [hh]; exact h
      · right; rw [hl]; omega
  have hne : roundL l k m ≠ [] := by
    intro e
    rw [e] at hlen
    simp at hlen
    omega
  unfold decRightB digsB
  rw [hdg]
  have e1 : (roundL l k m).isEmpty = false := by simpa using hne
  have e2 : decide ((m : Int) < ((roundL l k m).length : Int)) = true := by simp; omega
  have e3 : decide ((0 : Int) ≤ (m : Int)) = true := by simp
  rw [e1, e2, e3]
  rcases hhead with h | h
  · have : ((roundL l k m).head? == some 48) = false := by simpa using h
    rw [this]; rfl
  · have : decide (((roundL l k m).length : Int) - (m : Int) = 1) = true := by simp; omega
    rw [this]; simp

/-- What DecRounds asks of the rows. -/
theorem rounds_rows (l : List UInt8) (k m : Nat) (hN : Num l k) (hm : m < k) :
    2 * (hor (fixF l k) 200 - hor (fixF (roundL l k m) m) 200) ≤ ((10 ^ (100 - m) : Nat) : Int) ∧ 2 * (hor (fixF (roundL l k m) m) 200 - hor (fixF l k) 200) ≤ ((10 ^ (100 - m) : Nat) : Int) ∧
    ((2 * (hor (fixF l k) 200 - hor (fixF (roundL l k m) m) 200) = ((10 ^ (100 - m) : Nat) : Int) ∨ 2 * (hor (fixF (roundL l k m) m) 200 - hor (fixF l k) 200) = ((10 ^ (100 - m) : Nat) : Int)) → fixF (roundL l k m) m (99 + m) % 2 = 0) := by
  have hlt := hN.lt
  have h60 := hN.le
  have hlen := roundL_len l k m (by omega) hm
  have hlen2 := (roundL_length l k m (by omega)).2
  have hdg := roundL_digs l k m hN.digs
  rw [hor_fixF l k hN.digs (by omega) (by omega) (by omega), hor_fixF _ m hdg (by omega) (by omega) (by omega)]
  have hlast := last_fix _ m hdg (by omega) (by omega)
  have hR := roundL_num l k m hN.digs (by omega) hm
  rw [hR] at hlast ⊢
  obtain ⟨n1, n2, n3⟩ := rhe_near (numL l) (10 ^ (k - m)) (ten_pos _)
  have ep : 10 ^ (100 - m) = 10 ^ (k - m) * 10 ^ (100 - k) := by rw [← Nat.pow_add]; congr 1; omega
  have epR : rhe (numL l) (10 ^ (k - m)) * 10 ^ (100 - m) = rhe (numL l) (10 ^ (k - m)) * 10 ^ (k - m) * 10 ^ (100 - k) := by rw [ep, Nat.mul_assoc]
  have hT := ten_pos (100 - k)
  rw [epR, ep]
  generalize rhe (numL l) (10 ^ (k - m)) * 10 ^ (k - m) = y at *
  generalize numL l = x at *
  generalize 10 ^ (k - m) = D at *
  generalize 10 ^ (100 - k) = T at *
  generalize rhe x D = r at *
  generalize hor (fixF (roundL l k m) m) (99 + m) = z at *
  generalize fixF (roundL l k m) m (99 + m) = d at *
  have m1 : 2 * (x - y) * T ≤ D * T := Nat.mul_le_mul_right _ n1
  have m2 : 2 * (y - x) * T ≤ D * T := Nat.mul_le_mul_right _ n2
  rw [Nat.mul_assoc, Nat.sub_mul] at m1 m2
  have k1 : 2 * (x * T - y * T) = D * T → 2 * (x - y) = D := fun h => by
    rw [← Nat.sub_mul, ← Nat.mul_assoc] at h
    exact Nat.eq_of_mul_eq_mul_right hT h
  have k2 : 2 * (y * T - x * T) = D * T → 2 * (y - x) = D := fun h => by
    rw [← Nat.sub_mul, ← Nat.mul_assoc] at h
    exact Nat.eq_of_mul_eq_mul_right hT h
  have hD : 0 < D ∨ D = 0 := by omega
  generalize x * T = xT at *
  generalize y * T = yT at *
  generalize hDT : D * T = DT at *
  refine ⟨by omega, by omega, ?_⟩
  intro h
  have hpos : 0 < DT ∨ DT = 0 := by omega
  have he : r % 2 = 0 := by
    rcases h with h | h
    · by_cases hz : DT = 0
      · have hD0 : D = 0 := by
          rcases Nat.mul_eq_zero.1 (hDT.trans hz) with e | e
          · exact e
          · omega
        exact n3 (by omega)
      · exact n3 (Or.inl (k1 (by omega)))
    · by_cases hz : DT = 0
      · have hD0 : D = 0 := by
          rcases Nat.mul_eq_zero.1 (hDT.trans hz) with e | e
          · exact e
          · omega
        exact n3 (by omega)
      · exact n3 (Or.inr (k2 (by omega)))
  omega
end Go.Proofs.YtjgfijpgoffmlabDoor
