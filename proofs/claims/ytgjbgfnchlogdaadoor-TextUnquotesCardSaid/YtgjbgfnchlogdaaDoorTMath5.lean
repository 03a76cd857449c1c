/-
  The digits' values as the statement's number tells them, and the text's: the same. The statement's Unquote as a recursion over signs.
-/
import Derived.Test.YtgjbgfnchlogdaaDoorTNumber
namespace Go.Proofs.YtgjbgfnchlogdaaDoor
open Go.RowKit
set_option linter.unusedVariables false
set_option linter.unusedSimpArgs false

theorem digV_all : ∀ i : Fin 256, digV [UInt8.ofNat i.val] = if (hexV (UInt8.ofNat i.val)).2 = true then (hexV (UInt8.ofNat i.val)).1 else -1 := by decide +kernel
theorem digV_one (c : UInt8) : digV [c] = if (hexV c).2 = true then (hexV c).1 else -1 := by
  have h := digV_all ⟨c.toNat, c.toNat_lt⟩
  have hc : UInt8.ofNat c.toNat = c := UInt8.ofNat_toNat
  rw [show (⟨c.toNat, c.toNat_lt⟩ : Fin 256).val = c.toNat from rfl, hc] at h
  exact h
theorem digV_long (q : List UInt8) (h : q.length ≠ 1) : digV q = -1 := by
  have hne : ∀ c : UInt8, (q == [c]) = false := fun c => by
    apply beq_eq_false_iff_ne.2
    rintro rfl
    exact h rfl
  unfold digV
  simp only [hne, Bool.false_eq_true, if_false]
theorem digV_range (q : List UInt8) : -1 ≤ digV q ∧ digV q ≤ 15 := by
  by_cases h : q.length = 1
  · obtain ⟨c, rfl⟩ := List.length_eq_one_iff.1 h
    rw [digV_one]
    have := hexV_range c
    split <;> omega
  · rw [digV_long q h]; omega

/-- Digits, sign by sign: the number and what is left, if all of them are digits. -/
def lawDigits : Nat → List (List UInt8) → Int → Option (Int × List (List UInt8))
  | 0, xs, v => some (v, xs)
  | n + 1, [], v => none
  | n + 1, x :: xs, v => if digV x < 0 then none else lawDigits n xs (16 * v + digV x)
/-- The statement's Unquote, behind the first quote. -/
def lawUnq : Nat → List (List UInt8) → Nat → List UInt8 → Option (List UInt8 × Nat)
  | 0, _, _, _ => none
  | f + 1, [], _, _ => none
  | f + 1, x :: xs, pos, acc =>
    if x = [34] then some (acc, pos + x.length)
    else if x = [10] then none
    else if x = [92] then
      match xs with
      | [] => none
      | y :: ys =>
        if y = [34] ∨ y = [92] then lawUnq f ys (pos + x.length + y.length) (acc ++ y)
        else if y = [117] ∨ y = [85] then
          match lawDigits (if y = [117] then 4 else 6) ys 0 with
          | none => none
          | some (v, zs) => lawUnq f zs (pos + x.length + y.length + (if y = [117] then 4 else 6)) (acc ++ Lib.encodeRune (runeOk v))
        else none
    else lawUnq f xs (pos + x.length) (acc ++ x)
theorem lawDigits_take : ∀ (n : Nat) (xs : List (List UInt8)) (v : Int) (r : Int) (zs : List (List UInt8)), lawDigits n xs v = some (r, zs) → n ≤ xs.length ∧ zs = xs.drop n
  | 0, xs, v, r, zs, h => by
    injection h with h; injection h with _ h
    exact ⟨Nat.zero_le _, h.symm⟩
  | n + 1, [], v, r, zs, h => by cases h
  | n + 1, x :: xs, v, r, zs, h => by
    rw [lawDigits] at h
    split at h
    · cases h
    · have := lawDigits_take n xs _ r zs h
      exact ⟨by rw [List.length_cons]; omega, by rw [this.2]; rfl⟩
/-- Digits sign by sign are digits byte by byte. -/
theorem lawDigits_bytes : ∀ (n : Nat) (xs : List (List UInt8)) (m : List UInt8) (v : Int) (r : Int) (zs : List (List UInt8)), (∀ q ∈ xs, 1 ≤ q.length) → lawDigits n xs v = some (r, zs) →
    ∃ ds : List UInt8, ds.length = n ∧ xs.flatten = ds ++ zs.flatten ∧ ds.all (fun c => (hexV c).2) = true ∧ r = ds.foldl (fun a c => 16 * a + (hexV c).1) v
  | 0, xs, m, v, r, zs, _, h => by
    injection h with h; injection h with h1 h2
    exact ⟨[], rfl, by rw [h2]; rfl, rfl, h1.symm⟩
  | n + 1, [], m, v, r, zs, _, h => by cases h
  | n + 1, x :: xs, m, v, r, zs, hq, h => by
    rw [lawDigits] at h
    split at h
    · cases h
    · rename_i hd
      by_cases hl : x.length = 1
      · obtain ⟨c, rfl⟩ := List.length_eq_one_iff.1 hl
        rw [digV_one] at hd h
        by_cases hc : (hexV c).2 = true
        · rw [if_pos hc] at h
          obtain ⟨ds, h1, h2, h3, h4⟩ := lawDigits_bytes n xs m _ r zs (fun q hm => hq q (by simp [hm])) h
          refine ⟨c :: ds, by simp [h1], by simp [h2], by simp [hc, h3], ?_⟩
          rw [h4]; rfl
        · rw [if_neg hc] at hd
          omega
      · rw [digV_long x hl] at hd
        omega
end Go.Proofs.YtgjbgfnchlogdaaDoor
