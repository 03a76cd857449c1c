import Derived.Test.YtgjbgfnchlogdaaDoorTMath3
namespace Go.Proofs.YtgjbgfnchlogdaaDoor
open Go.RowKit
set_option linter.unusedVariables false
set_option linter.unusedSimpArgs false

/-- A sign, as the statement quotes it. -/
def quoteX (q : List UInt8) : List UInt8 :=
  if q = [34] ∨ q = [92] then 92 :: q else if Op.bytesLess q [32] = true ∨ q = [127] then [92, 117, 48, 48, hexC ((q.getD 0 0).toNat / 16), hexC ((q.getD 0 0).toNat % 16)] else q
theorem enc_ascii (r : Nat) (h : r < 128) : Lib.encodeRune (r : Int) = [UInt8.ofNat r] := by
  rw [enc1 r (by omega)]
  congr 1
theorem rune_of_enc (r : Nat) (hok : okRune r) (c : UInt8) (m : List UInt8) (hc : c.toNat < 128) (h : Lib.encodeRune (r : Int) = c :: m) : r = c.toNat := by
  have h1 := dec_enc r hok []
  rw [h, List.append_nil, dec_ascii c m hc] at h1
  exact (congrArg Prod.fst h1).symm
theorem less32 (c : UInt8) (m : List UInt8) : Op.bytesLess (c :: m) [32] = decide (c.toNat < 32) := by
  simp only [Op.bytesLess]
  have h32 : (32 : UInt8).toNat = 32 := rfl
  by_cases h : c.toNat < 32
  · have h1 : c < 32 := UInt8.lt_iff_toNat_lt.2 (by rw [h32]; exact h)
    simp [h1, h]
  · by_cases he : c = 32
    · subst he
      cases m <;> simp [Op.bytesLess]
    · have h1 : ¬ c < 32 := fun hh => h (by have := UInt8.lt_iff_toNat_lt.1 hh; rw [h32] at this; exact this)
      have h2 : 32 < c := by
        rw [UInt8.lt_iff_toNat_lt, h32]
        have : c.toNat ≠ 32 := fun e => he (UInt8.toNat_inj.mp e)
        omega
      simp [h1, h, h2]
theorem quote_sign (r : Nat) (hok : okRune r) : quoteR r = quoteX (Lib.encodeRune (r : Int)) := by
  by_cases h128 : r < 128
  · have he := enc_ascii r h128
    have hn : (UInt8.ofNat r).toNat = r := by rw [UInt8.toNat_ofNat']; omega
    unfold quoteR quoteX
    rw [he]
    have i34 : ([UInt8.ofNat r] = [34]) ↔ r = 34 := by
      constructor
      · intro h; injection h with h _; rw [← hn, h]; rfl
      · rintro rfl; rfl
    have i92 : ([UInt8.ofNat r] = [92]) ↔ r = 92 := by
      constructor
      · intro h; injection h with h _; rw [← hn, h]; rfl
      · rintro rfl; rfl
    have i127 : ([UInt8.ofNat r] = [127]) ↔ r = 127 := by
      constructor
      · intro h; injection h with h _; rw [← hn, h]; rfl
      · rintro rfl; rfl
    rw [less32, hn]
    simp only [i34, i92, i127, decide_eq_true_eq, List.getD_cons_zero, hn]
  · have hl := enc_len (r : Int)
    obtain ⟨c, m, hcm⟩ := List.exists_cons_of_ne_nil (fun e => by rw [e] at hl; simp at hl : Lib.encodeRune (r : Int) ≠ [])
    have hc : ¬ c.toNat < 128 := fun h => h128 (by rw [rune_of_enc r hok c m h hcm]; exact h)
    unfold quoteR quoteX
    rw [if_neg (by omega), if_neg (by omega), hcm, less32]
    have hd : decide (c.toNat < 32) = false := by simp; omega
    have n1 : ¬ (c :: m = [34] ∨ c :: m = [92]) := by
      rintro (h | h) <;> (injection h with h _; subst h; exact hc (by decide))
    have n2 : ¬ (decide (c.toNat < 32) = true ∨ c :: m = [127]) := by
      rintro (h | h)
      · rw [hd] at h; cases h
      · injection h with h _; subst h; exact hc (by decide)
    rw [if_neg n1, if_neg n2]
theorem quoteL_signs : ∀ (k : Nat) (l : List UInt8) (xs : List (List UInt8)), sigs k l = some xs → quoteL k l = (xs.map quoteX).flatten
  | 0, l, xs, h => by
    injection h with h; subst h; rfl
  | k + 1, l, xs, h => by
    by_cases hne : l = []
    · subst hne
      have h2 : sigs (k + 1) ([] : List UInt8) = some [] := rfl
      rw [h2] at h
      injection h with h; subst h
      rw [quoteL, if_pos rfl]; rfl
    · have hw := decodeL_pos l
      rw [sigs_step k l hne] at h
      by_cases hbad : (Lib.decodeL l).1 = 65533 ∧ (Lib.decodeL l).2 ≤ 1
      · rw [if_pos hbad] at h; cases h
      · rw [if_neg hbad] at h
        have he := Lib.encode_decode l hne (fun e => hbad ⟨e.1, by omega⟩)
        cases hr : sigs k (l.drop (Lib.decodeL l).2) with
        | none => rw [hr] at h; cases h
        | some ys =>
          rw [hr] at h
          injection h with h
          subst h
          rw [quoteL, if_neg hne, quoteL_signs k _ ys hr, quote_sign _ (decodeL_ok l), he]
          rfl
theorem sigs_ne : ∀ (k : Nat) (l : List UInt8) (xs : List (List UInt8)), sigs k l = some xs → ∀ q ∈ xs, 1 ≤ q.length ∧ q.length ≤ 4
  | 0, l, xs, h => by
    injection h with h; subst h; intro q hq; cases hq
  | k + 1, l, xs, h => by
    by_cases hne : l = []
    · subst hne
      have h2 : sigs (k + 1) ([] : List UInt8) = some [] := rfl
      rw [h2] at h
      injection h with h; subst h
      intro q hq; cases hq
    · have hw := decodeL_pos l
      rw [sigs_step k l hne] at h
      by_cases hbad : (Lib.decodeL l).1 = 65533 ∧ (Lib.decodeL l).2 ≤ 1
      · rw [if_pos hbad] at h; cases h
      · rw [if_neg hbad] at h
        have he := Lib.encode_decode l hne (fun e => hbad ⟨e.1, by omega⟩)
        cases hr : sigs k (l.drop (Lib.decodeL l).2) with
        | none => rw [hr] at h; cases h
        | some ys =>
          rw [hr] at h
          injection h with h
          subst h
          intro q hq
          rcases List.mem_cons.1 hq with rfl | hq
          · rw [← he]
            have := Lib.runeCells_le ((Lib.decodeL l).1 : Int)
            rw [Lib.runeCells_length] at this
            exact this
          · exact sigs_ne k _ ys hr q hq
theorem quoteX_len (q : List UInt8) (h : q.length ≤ 4) : (quoteX q).length ≤ 6 := by
  unfold quoteX
  split
  · rw [List.length_cons]; omega
  · split
    · exact Nat.le_refl _
    · omega
end Go.Proofs.YtgjbgfnchlogdaaDoor
