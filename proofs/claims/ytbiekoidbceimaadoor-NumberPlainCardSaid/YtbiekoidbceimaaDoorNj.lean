/-
  NumberPlain: the sums.
-/
import Derived.Test.YtbiekoidbceimaaDoorNi
namespace Go.Proofs.YtbiekoidbceimaaDoor
open Go.RowKit
set_option linter.unusedVariables false
set_option linter.unusedSimpArgs false

theorem roundL_lt (l : List UInt8) (k m : Nat) (hk : k < l.length) : min k m < (roundL l k m).length := by
  unfold roundL
  split
  · have h1 : (l.take (l.length - k + m)).length = l.length - k + m := by rw [List.length_take]; omega
    split
    · have := incL_length (l.take (l.length - k + m))
      omega
    · omega
  · omega
theorem rnd_lt (l : List UInt8) (k mf xf : Nat) (hk : k < l.length) : rndK l k mf xf < (rndL l k mf xf).length := by
  have h1 := roundL_lt l k xf hk
  unfold rndK rndL
  rw [List.length_append, List.length_replicate]
  unfold rnd2K rnd2L
  split
  · have := trimZ_le (roundL l k xf) (min k xf) mf
    rw [List.length_take]
    omega
  · omega
theorem grp_len (l q : List UInt8) : ∀ k, 1 ≤ k → k ≤ l.length → (grpTo l q k).length = k + ((l.length - 1) / 3 - (l.length - k) / 3) * q.length
  | 0, h, _ => by omega
  | 1, _, h => by
    rw [grpTo_no l q 0 (by omega), Nat.sub_self]
    simp [grpTo]
  | k + 2, _, h => by
    have ih := grp_len l q (k + 1) (by omega) (by omega)
    by_cases h3 : (l.length - (k + 1)) % 3 = 0
    · rw [grpTo_yes l q (k + 1) (by omega) h3, List.length_append, List.length_append, ih, List.length_singleton]
      have e : (l.length - 1) / 3 - (l.length - (k + 2)) / 3 = ((l.length - 1) / 3 - (l.length - (k + 1)) / 3) + 1 := by omega
      rw [e, Nat.add_mul]
      omega
    · rw [grpTo_no l q (k + 1) (fun h => h3 h.2), List.length_append, ih, List.length_singleton]
      have e : (l.length - 1) / 3 - (l.length - (k + 2)) / 3 = ((l.length - 1) / 3 - (l.length - (k + 1)) / 3) := by omega
      rw [e]
      omega
/-- What is written without groups; how much longer it is with them. -/
theorem fmt_plain (n : Bool) (l : List UInt8) (k : Nat) (p q : List UInt8) (hk : k < l.length) :
    bL (fmtL n true l k 1 p q) = (let a := (bL l).extract 0 ((bL l).size - k); let c := if k = 0 then a else (a ++ bL p) ++ (bL l).extract ((bL l).size - k) (bL l).size; if (n && !zeroD l) = true then ⟨#[45]⟩ ++ c else c) := by
  unfold fmtL
  rw [ahd_none hk]
  apply bytes_eq
  rw [bL_list]
  have e1 : ((bL l).extract 0 ((bL l).size - k)).data.toList = l.take (l.length - k) := by rw [extract_take, bL_list, bL_size]
  have e2 : ((bL l).extract ((bL l).size - k) (bL l).size).data.toList = l.drop (l.length - k) := by rw [extract_drop, bL_list, bL_size]
  by_cases h0 : k = 0
  · cases n <;> cases zeroD l <;> simp only [h0, if_true, Bool.false_and, Bool.true_and, Bool.false_eq_true, if_false, Bool.not_true, Bool.not_false, List.nil_append] <;> (subst h0; first | (rw [e1]; done) | (rw [ByteArray.data_append, Array.toList_append, e1]; rfl))
  · cases n <;> cases zeroD l <;> simp only [h0, if_true, Bool.false_and, Bool.true_and, Bool.false_eq_true, if_false, Bool.not_true, Bool.not_false, List.nil_append, ByteArray.data_append, Array.toList_append, e1, e2, bL_list, List.append_assoc, List.cons_append]
theorem fmt_longer (n : Bool) (l : List UInt8) (k : Nat) (p q : List UInt8) (hk : k < l.length) : (bL (fmtL n false l k 1 p q)).size = (bL (fmtL n true l k 1 p q)).size + ((l.length - k - 1) / 3) * q.length := by
  rw [bL_size, bL_size]
  unfold fmtL
  rw [ahd_none hk, List.nil_append]
  have hl : (l.take (l.length - k)).length = l.length - k := by rw [List.length_take]; omega
  have hg := grp_len (l.take (l.length - k)) q (l.take (l.length - k)).length (by omega) (Nat.le_refl _)
  rw [Nat.sub_self, hl] at hg
  dsimp only
  rw [hl]
  have e0 : (l.length - k - 1) / 3 - 0 / 3 = (l.length - k - 1) / 3 := by simp
  rw [e0] at hg
  obtain ⟨Z, hZ⟩ : ∃ Z, ((l.length - k - 1) / 3) * q.length = Z := ⟨_, rfl⟩
  rw [hZ] at hg ⊢
  by_cases h0 : k = 0
  · cases n <;> cases zeroD l <;> simp only [h0, if_true, Bool.false_and, Bool.true_and, Bool.false_eq_true, if_false, Bool.not_true, Bool.not_false, List.length_cons] <;> (subst h0; omega)
  · cases n <;> cases zeroD l <;> simp only [h0, if_true, Bool.false_and, Bool.true_and, Bool.false_eq_true, if_false, Bool.not_true, Bool.not_false, List.length_cons, List.length_append] <;> omega
end Go.Proofs.YtbiekoidbceimaaDoor
