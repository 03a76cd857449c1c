import Derived.Test.YtjgfijpgoffmlabDoorFixMath
namespace Go.Proofs.YtjgfijpgoffmlabDoor
open Go.RowKit

/-- The last m digits' number. -/
def suf (A : Nat → Int) : Nat → Int
  | 0 => 0
  | m + 1 => A (199 - m) * (10 ^ m : Nat) + suf A m
theorem suf_hor (A : Nat → Int) : ∀ m, m ≤ 200 → hor A (200 - m) * (10 ^ m : Nat) + suf A m = hor A 200
  | 0, _ => by simp [suf]
  | m + 1, hm => by
    have ih := suf_hor A m (by omega)
    have e : 200 - m = (200 - (m + 1)) + 1 := by omega
    have e2 : 200 - (m + 1) = 199 - m := by omega
    rw [e] at ih
    have s : hor A (200 - (m + 1) + 1) = 10 * hor A (199 - m) + A (199 - m) := by rw [e2]; rfl
    rw [s] at ih
    rw [← ih, e2, suf, Nat.pow_succ, Int.natCast_mul, Int.add_mul, ← Int.add_assoc]
    congr 2
    rw [Int.mul_comm 10 (hor A _), Int.mul_assoc, Int.mul_comm ((10 ^ m : Nat) : Int)]
    rfl
theorem suf_all (A : Nat → Int) : suf A 200 = hor A 200 := by
  have := suf_hor A 200 (Nat.le_refl _)
  have e : hor A (200 - 200) = 0 := rfl
  rw [e, Int.zero_mul, Int.zero_add] at this
  exact this
theorem suf_congr {A B : Nat → Int} : ∀ m, m ≤ 200 → (∀ p, 200 - m ≤ p → A p = B p) → suf A m = suf B m
  | 0, _, _ => rfl
  | m + 1, hm, h => by
    rw [suf, suf, suf_congr m (by omega) (fun p hp => h p (by omega)), h (199 - m) (by omega)]
theorem suf_lt {A : Nat → Int} : ∀ m, (∀ p, 200 - m ≤ p → p < 200 → 0 ≤ A p ∧ A p ≤ 9) → m ≤ 200 → 0 ≤ suf A m ∧ suf A m < (10 ^ m : Nat)
  | 0, _, _ => ⟨Int.le_refl _, by simp [suf]⟩
  | m + 1, h, hm => by
    have ih := suf_lt (A := A) m (fun p h1 h2 => h p (by omega) h2) (by omega)
    have hd := h (199 - m) (by omega) (by omega)
    have p0 : (0 : Int) ≤ (10 ^ m : Nat) := Int.natCast_nonneg _
    have h1 : 0 ≤ A (199 - m) * (10 ^ m : Nat) := Int.mul_nonneg hd.1 p0
    have h2 : A (199 - m) * (10 ^ m : Nat) ≤ 9 * (10 ^ m : Nat) := Int.mul_le_mul_of_nonneg_right hd.2 p0
    have e : ((10 ^ (m + 1) : Nat) : Int) = 10 * (10 ^ m : Nat) := by rw [Nat.pow_succ]; omega
    rw [suf, e]
    omega

/-- Twice a row, from its end on: the row, and what is carried. -/
def twS (A : Nat → Int) : Nat → (Nat → Int) × Int
  | 0 => (A, 0)
  | m + 1 => (fun q => if q = 199 - m then (2 * (twS A m).1 (199 - m) + (twS A m).2) % 10 else (twS A m).1 q, (2 * (twS A m).1 (199 - m) + (twS A m).2) / 10)
theorem twS_inv {A : Nat → Int} (h : DigF A) : ∀ m, m ≤ 200 → DigF (twS A m).1 ∧ (∀ q, q < 200 - m → (twS A m).1 q = A q) ∧ 0 ≤ (twS A m).2 ∧ (twS A m).2 ≤ 1 ∧ suf (twS A m).1 m + (twS A m).2 * (10 ^ m : Nat) = 2 * suf A m
  | 0, _ => ⟨h, fun _ _ => rfl, Int.le_refl _, by simp [twS], by simp [suf, twS]⟩
  | m + 1, hm => by
    obtain ⟨hd, hu, c0, c1, hs⟩ := twS_inv h m (by omega)
    have hx := hd (199 - m)
    have hq := hu (199 - m) (by omega)
    have x0 : 0 ≤ 2 * (twS A m).1 (199 - m) + (twS A m).2 := by omega
    refine ⟨?_, ?_, ?_, ?_, ?_⟩
    · intro p
      show 0 ≤ (if p = 199 - m then _ else _) ∧ (if p = 199 - m then _ else _) ≤ 9
      by_cases hp : p = 199 - m
      · rw [if_pos hp]; omega
      · rw [if_neg hp]; exact hd p
    · intro q hq'
      show (if q = 199 - m then _ else _) = _
      rw [if_neg (by omega)]
      exact hu q (by omega)
    · show 0 ≤ (2 * (twS A m).1 (199 - m) + (twS A m).2) / 10
      omega
    · show (2 * (twS A m).1 (199 - m) + (twS A m).2) / 10 ≤ 1
      omega
    · have es : suf (twS A (m + 1)).1 m = suf (twS A m).1 m := suf_congr m (by omega) (fun p hp => by
        show (if p = 199 - m then _ else _) = _
        rw [if_neg (by omega)])
      have ev : (twS A (m + 1)).1 (199 - m) = (2 * (twS A m).1 (199 - m) + (twS A m).2) % 10 := by
        show (if 199 - m = 199 - m then _ else _) = _
        rw [if_pos rfl]
      have ec : (twS A (m + 1)).2 = (2 * (twS A m).1 (199 - m) + (twS A m).2) / 10 := rfl
      have ep : ((10 ^ (m + 1) : Nat) : Int) = (10 ^ m : Nat) * 10 := by rw [Nat.pow_succ]; omega
      rw [suf, suf, es, ev, ec, ep, ← hq]
      have hdm := Int.emod_add_mul_ediv (2 * (twS A m).1 (199 - m) + (twS A m).2) 10
      generalize (twS A m).1 (199 - m) = a at *
      generalize (twS A m).2 = c at *
      generalize ((10 ^ m : Nat) : Int) = T at *
      generalize hy : (2 * a + c) / 10 = y at *
      generalize hz : (2 * a + c) % 10 = z at *
      have e1 : z = 2 * a + c - 10 * y := by omega
      subst e1
      have e2 : (2 * a + c - 10 * y) * T = 2 * (a * T) + c * T - 10 * (y * T) := by
        rw [Int.sub_mul, Int.add_mul, Int.mul_assoc, Int.mul_assoc]
      have e3 : y * (T * 10) = 10 * (y * T) := by rw [← Int.mul_assoc, Int.mul_comm]
      rw [e2, e3]
      omega
theorem twice_num {A : Nat → Int} (h : DigF A) (hb : 2 * hor A 200 < (10 ^ 200 : Nat)) : DigF (twS A 200).1 ∧ hor (twS A 200).1 200 = 2 * hor A 200 := by
  obtain ⟨hd, -, c0, c1, hs⟩ := twS_inv h 200 (Nat.le_refl _)
  refine ⟨hd, ?_⟩
  rw [suf_all, suf_all] at hs
  have hp := suf_lt (A := (twS A 200).1) 200 (fun p _ _ => hd p) (Nat.le_refl _)
  rw [suf_all] at hp
  generalize ((10 ^ 200 : Nat) : Int) = T at *
  have hc : (twS A 200).2 = 0 ∨ (twS A 200).2 = 1 := by omega
  rcases hc with e | e <;> rw [e] at hs <;> omega

/-- One row less another one, from its end on. -/
def leS (A B : Nat → Int) : Nat → (Nat → Int)
  | 0 => A
  | m + 1 => if leS A B m (199 - m) - B (199 - m) < 0 then (fun q => if q = 199 - m - 1 then leS A B m (199 - m - 1) - 1 else if q = 199 - m then leS A B m (199 - m) - B (199 - m) + 10 else leS A B m q)
    else (fun q => if q = 199 - m then leS A B m (199 - m) - B (199 - m) else leS A B m q)
def LeInv (A B C : Nat → Int) (m : Nat) (c : Int) : Prop :=
  (c = 0 ∨ c = 1) ∧ (∀ q, q + 1 < 200 - m → C q = A q) ∧ (∀ q, q + 1 = 200 - m → C q = A q - c) ∧ (∀ q, 200 - m ≤ q → 0 ≤ C q ∧ C q ≤ 9) ∧ suf C m = suf A m - suf B m + c * (10 ^ m : Nat)
theorem le_first {A B : Nat → Int} (_hA : DigF A) (_hB : DigF B) (hle : hor B 200 ≤ hor A 200) {C : Nat → Int} {m : Nat} {c : Int} (h : LeInv A B C m c) (hm : m < 200) (hy : C (199 - m) - B (199 - m) < 0) : m < 199 := by
  rcases Nat.lt_or_ge m 199 with hlt | hge
  · exact hlt
  · exfalso
    obtain ⟨hc, h1, h2, h3, h4⟩ := h
    obtain rfl : m = 199 := by omega
    have sA := suf_hor A 199 (by omega)
    have sB := suf_hor B 199 (by omega)
    have lt := suf_lt (A := C) 199 (fun p hp _ => h3 p hp) (by omega)
    have f1 : hor A (200 - 199) = A 0 := by show 10 * 0 + A 0 = A 0; omega
    have f2 : hor B (200 - 199) = B 0 := by show 10 * 0 + B 0 = B 0; omega
    rw [f1] at sA
    rw [f2] at sB
    have ev' : C 0 = A 0 - c := h2 0 (by omega)
    have hy' : C 0 - B 0 < 0 := hy
    rw [h4] at lt
    generalize ((10 ^ 199 : Nat) : Int) = T at *
    have g1 : (A 0 - c - B 0) * T ≤ (-1) * T := Int.mul_le_mul_of_nonneg_right (by omega) (by omega)
    rw [Int.sub_mul, Int.sub_mul] at g1
    omega
theorem leS_inv {A B : Nat → Int} (hA : DigF A) (hB : DigF B) (hle : hor B 200 ≤ hor A 200) : ∀ m, m ≤ 200 → ∃ c, LeInv A B (leS A B m) m c ∧ (m = 200 → c = 0)
  | 0, _ => ⟨0, ⟨Or.inl rfl, fun _ _ => rfl, fun q _ => by simp [leS], fun q _ => hA q, by simp [suf]⟩, fun h => absurd h (by omega)⟩
  | m + 1, hm => by
    obtain ⟨c, ⟨hc, h1, h2, h3, h4⟩, -⟩ := leS_inv hA hB hle m (by omega)
    have a := hA (199 - m)
    have b := hB (199 - m)
    have ev := h2 (199 - m) (by omega)
    have ep : ((10 ^ (m + 1) : Nat) : Int) = 10 * (10 ^ m : Nat) := by rw [Nat.pow_succ]; omega
    by_cases hy : leS A B m (199 - m) - B (199 - m) < 0
    · have e0 : leS A B (m + 1) = (fun q => if q = 199 - m - 1 then leS A B m (199 - m - 1) - 1 else if q = 199 - m then leS A B m (199 - m) - B (199 - m) + 10 else leS A B m q) := by
        show (if _ then _ else _) = _
        rw [if_pos hy]
      have hm1 : m < 199 := le_first hA hB hle ⟨hc, h1, h2, h3, h4⟩ (by omega) hy
      refine ⟨1, ⟨Or.inr rfl, ?_, ?_, ?_, ?_⟩, fun h => absurd h (by omega)⟩
      · intro q hq
        rw [e0]
        show (if q = 199 - m - 1 then _ else if q = 199 - m then _ else _) = _
        rw [if_neg (by omega), if_neg (by omega)]
        exact h1 q (by omega)
      · intro q hq
        rw [e0]
        show (if q = 199 - m - 1 then _ else if q = 199 - m then _ else _) = _
        rw [if_pos (by omega), h1 (199 - m - 1) (by omega)]
        have : q = 199 - m - 1 := by omega
        rw [this]
      · intro q hq
        rw [e0]
        show 0 ≤ (if q = 199 - m - 1 then _ else if q = 199 - m then _ else _) ∧ (if q = 199 - m - 1 then _ else if q = 199 - m then _ else _) ≤ 9
        by_cases hq2 : q = 199 - m
        · rw [if_neg (by omega), if_pos hq2]; omega
        · rw [if_neg (by omega), if_neg hq2]; exact h3 q (by omega)
      · have es : suf (leS A B (m + 1)) m = suf (leS A B m) m := suf_congr m (by omega) (fun p hp => by
          rw [e0]
          show (if p = 199 - m - 1 then _ else if p = 199 - m then _ else _) = _
          rw [if_neg (by omega), if_neg (by omega)])
        have ew : leS A B (m + 1) (199 - m) = A (199 - m) - c - B (199 - m) + 10 := by
          rw [e0]
          show (if 199 - m = 199 - m - 1 then _ else if 199 - m = 199 - m then _ else _) = _
          rw [if_neg (by omega), if_pos rfl, ev]
        rw [suf, suf, suf, es, ew, h4, ep]
        generalize ((10 ^ m : Nat) : Int) = T at *
        rw [Int.add_mul, Int.sub_mul, Int.sub_mul]
        omega
    · have e0 : leS A B (m + 1) = (fun q => if q = 199 - m then leS A B m (199 - m) - B (199 - m) else leS A B m q) := by
        show (if _ then _ else _) = _
        rw [if_neg hy]
      refine ⟨0, ⟨Or.inl rfl, ?_, ?_, ?_, ?_⟩, fun _ => rfl⟩
      · intro q hq
        rw [e0]
        show (if q = 199 - m then _ else _) = _
        rw [if_neg (by omega)]
        exact h1 q (by omega)
      · intro q hq
        rw [e0]
        show (if q = 199 - m then _ else _) = _
        rw [if_neg (by omega), h1 q (by omega)]
        omega
      · intro q hq
        rw [e0]
        show 0 ≤ (if q = 199 - m then _ else _) ∧ (if q = 199 - m then _ else _) ≤ 9
        by_cases hq2 : q = 199 - m
        · rw [if_pos hq2]; omega
        · rw [if_neg hq2]; exact h3 q (by omega)
      · have es : suf (leS A B (m + 1)) m = suf (leS A B m) m := suf_congr m (by omega) (fun p hp => by
          rw [e0]
          show (if p = 199 - m then _ else _) = _
          rw [if_neg (by omega)])
        have ew : leS A B (m + 1) (199 - m) = A (199 - m) - c - B (199 - m) := by
          rw [e0]
          show (if 199 - m = 199 - m then _ else _) = _
          rw [if_pos rfl, ev]
        rw [suf, suf, suf, es, ew, h4]
        generalize ((10 ^ m : Nat) : Int) = T at *
        rw [Int.sub_mul, Int.sub_mul]
        omega
theorem less_num {A B : Nat → Int} (hA : DigF A) (hB : DigF B) (hle : hor B 200 ≤ hor A 200) : DigF (leS A B 200) ∧ hor (leS A B 200) 200 = hor A 200 - hor B 200 := by
  obtain ⟨c, ⟨-, -, -, h3, h4⟩, hc⟩ := leS_inv hA hB hle 200 (Nat.le_refl _)
  rw [hc rfl, suf_all, suf_all, suf_all] at h4
  exact ⟨fun p => h3 p (by omega), by omega⟩
end Go.Proofs.YtjgfijpgoffmlabDoor
