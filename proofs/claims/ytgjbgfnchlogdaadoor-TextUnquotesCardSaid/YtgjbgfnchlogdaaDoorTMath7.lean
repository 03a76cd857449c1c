/-
  A text that is signs: what the text's Unquote answers, by the statement's recursion over its signs.
-/
import Derived.Test.YtgjbgfnchlogdaaDoorTMath6
namespace Go.Proofs.YtgjbgfnchlogdaaDoor
open Go.RowKit
set_option linter.unusedVariables false
set_option linter.unusedSimpArgs false

theorem sigs_sign : ∀ (k : Nat) (l : List UInt8) (xs : List (List UInt8)), l.length ≤ k → sigs k l = some xs → (∀ q ∈ xs, IsSign q) ∧ xs.flatten = l
  | 0, l, xs, hk, h => by
    injection h with h; subst h
    have : l = [] := List.eq_nil_of_length_eq_zero (by omega)
    subst this
    exact ⟨fun q hq => (by cases hq), rfl⟩
  | k + 1, l, xs, hk, h => by
    by_cases hne : l = []
    · subst hne
      have h2 : sigs (k + 1) ([] : List UInt8) = some [] := rfl
      rw [h2] at h
      injection h with h; subst h
      exact ⟨fun q hq => (by cases hq), rfl⟩
    · have hw := decodeL_pos l
      rw [sigs_step k l hne] at h
      by_cases hbad : (Lib.decodeL l).1 = 65533 ∧ (Lib.decodeL l).2 ≤ 1
      · rw [if_pos hbad] at h; cases h
      · rw [if_neg hbad] at h
        have he := Lib.encode_decode l hne (fun e => hbad ⟨e.1, by omega⟩)
        have hl0 : 0 < l.length := List.length_pos_iff.2 hne
        cases hr : sigs k (l.drop (Lib.decodeL l).2) with
        | none => rw [hr] at h; cases h
        | some ys =>
          rw [hr] at h
          injection h with h
          subst h
          obtain ⟨a, b⟩ := sigs_sign k _ ys (by rw [List.length_drop]; omega) hr
          refine ⟨?_, ?_⟩
          · intro q hq
            rcases List.mem_cons.1 hq with rfl | hq
            · exact ⟨(Lib.decodeL l).1, decodeL_ok l, he.symm⟩
            · exact a q hq
          · rw [List.flatten_cons, b, List.take_append_drop]
/-- The statement's Unquote over signs. -/
def lawUnqAll : List (List UInt8) → Option (List UInt8 × Nat)
  | [] => none
  | x :: ys => if x = [34] then lawUnq ys.length ys 1 [] else none
theorem unqAll_law (s : ByteArray) (xs : List (List UInt8)) (h : sigAll s.data.toList = some xs) : unqAll s = lawUnqAll xs := by
  obtain ⟨hs, hf⟩ := sigs_sign _ _ xs (Nat.le_refl _) h
  unfold unqAll
  rw [unqFrom_L, List.drop_zero, ← size_data, ← hf]
  cases xs with
  | nil => rfl
  | cons x ys =>
    obtain ⟨c, m, rfl, hm⟩ := sign_first x (hs x (by simp))
    rw [lawUnqAll]
    by_cases hc : c = 34
    · subst hc
      obtain rfl := hm (by decide)
      rw [if_pos rfl, if_pos (by simp [Lib.hasPrefix])]
      show unqL (([34] ++ ys.flatten : List UInt8).length) (34 :: ys.flatten) 0 1 [] = _
      rw [List.length_append, List.length_singleton, Nat.add_comm, unq_skip _ 34 _ (by decide) 0 1 [] (by decide)]
      exact unq_law _ ys (fun q hq => hs q (by simp [hq])) (Nat.le_refl _) _ _ _ _ (Nat.le_refl _) (Nat.le_refl _)
    · rw [if_neg, if_neg]
      · intro e; injection e with e _; exact hc e
      · simp [Lib.hasPrefix]
        exact fun e => hc e.symm
end Go.Proofs.YtgjbgfnchlogdaaDoor
