import Derived.Test.YtgjbgfnchlogdaaDoorTLRight
namespace Go.Proofs.YtgjbgfnchlogdaaDoor
open Go.RowKit
set_option linter.unusedVariables false
set_option linter.unusedSimpArgs false

def okRune (r : Nat) : Prop := r < 55296 ∨ (57343 < r ∧ r ≤ 1114111)
theorem decodeL_ok (l : List UInt8) : okRune (Lib.decodeL l).1 := by
  rw [Lib.decodeL_N]
  have k0 := (l.getD 0 0).toNat_lt
  have k1 := (l.getD 1 0).toNat_lt
  unfold okRune
  rcases Lib.decodeN_shape l.length (l.getD 0 0).toNat (l.getD 1 0).toNat (l.getD 2 0).toNat (l.getD 3 0).toNat with ⟨c, e⟩ | ⟨c1, c2, c3, cv, e⟩ | ⟨c1, c2, c3, c4, cv, cs, e⟩ | ⟨c1, c2, c3, c4, c5, cv, cw, e⟩ | e
  all_goals (rw [e]; dsimp only; omega)
theorem byte_z (z : Nat) (h : z < 256) : ((z : Int).toNat.toUInt8).toNat = z := by
  have : (z : Int).toNat = z := by omega
  rw [this]
  simp [UInt8.toNat_ofNat', Nat.toUInt8]
  omega
theorem enc1 (r : Nat) (h : r ≤ 127) : Lib.encodeRune (r : Int) = [(r : Int).toNat.toUInt8] := by
  unfold Lib.encodeRune
  rw [Lib.encodeRuneZ_one (by omega) (by omega)]
  rfl
theorem enc2 (r : Nat) (h0 : 128 ≤ r) (h1 : r ≤ 2047) : Lib.encodeRune (r : Int) = [((192 + r / 64 : Nat) : Int).toNat.toUInt8, ((128 + r % 64 : Nat) : Int).toNat.toUInt8] := by
  unfold Lib.encodeRune
  rw [Lib.encodeRuneZ_two (by omega) (by omega)]
  have e1 : 192 + (r : Int) / 64 = ((192 + r / 64 : Nat) : Int) := by omega
  have e2 : 128 + (r : Int) % 64 = ((128 + r % 64 : Nat) : Int) := by omega
  rw [e1, e2]
  rfl
theorem enc3 (r : Nat) (h0 : (2048 ≤ r ∧ r < 55296) ∨ (57343 < r ∧ r ≤ 65535)) : Lib.encodeRune (r : Int) = [((224 + r / 4096 : Nat) : Int).toNat.toUInt8, ((128 + r / 64 % 64 : Nat) : Int).toNat.toUInt8, ((128 + r % 64 : Nat) : Int).toNat.toUInt8] := by
  unfold Lib.encodeRune
  rw [Lib.encodeRuneZ_three (by omega)]
  have e1 : 224 + (r : Int) / 4096 = ((224 + r / 4096 : Nat) : Int) := by omega
  have e2 : 128 + (r : Int) / 64 % 64 = ((128 + r / 64 % 64 : Nat) : Int) := by omega
  have e3 : 128 + (r : Int) % 64 = ((128 + r % 64 : Nat) : Int) := by omega
  rw [e1, e2, e3]
  rfl
theorem enc4 (r : Nat) (h0 : 65536 ≤ r) (h1 : r ≤ 1114111) : Lib.encodeRune (r : Int) = [((240 + r / 262144 : Nat) : Int).toNat.toUInt8, ((128 + r / 4096 % 64 : Nat) : Int).toNat.toUInt8, ((128 + r / 64 % 64 : Nat) : Int).toNat.toUInt8, ((128 + r % 64 : Nat) : Int).toNat.toUInt8] := by
  unfold Lib.encodeRune
  rw [Lib.encodeRuneZ_four (by omega) (by omega)]
  have e1 : 240 + (r : Int) / 262144 = ((240 + r / 262144 : Nat) : Int) := by omega
  have e2 : 128 + (r : Int) / 4096 % 64 = ((128 + r / 4096 % 64 : Nat) : Int) := by omega
  have e3 : 128 + (r : Int) / 64 % 64 = ((128 + r / 64 % 64 : Nat) : Int) := by omega
  have e4 : 128 + (r : Int) % 64 = ((128 + r % 64 : Nat) : Int) := by omega
  rw [e1, e2, e3, e4]
  rfl
/-- A sign that was encoded is decoded again, whatever stands behind it. -/
theorem dec_enc (r : Nat) (h : okRune r) (m : List UInt8) : Lib.decodeL (Lib.encodeRune (r : Int) ++ m) = (r, (Lib.encodeRune (r : Int)).length) := by
  rw [Lib.decodeL_N]
  by_cases c1 : r ≤ 127
  · rw [enc1 r c1]
    simp only [List.cons_append, List.nil_append, List.getD_cons_zero, List.length_cons, List.length_nil]
    rw [byte_z r (by omega)]
    unfold Lib.decodeN
    rw [if_pos (by omega)]
  by_cases c2 : r ≤ 2047
  · rw [enc2 r (by omega) c2]
    simp only [List.cons_append, List.nil_append, List.getD_cons_zero, List.getD_cons_succ, List.length_cons, List.length_nil]
    rw [byte_z _ (by omega), byte_z _ (by omega)]
    unfold Lib.decodeN
    rw [if_neg (by omega), if_pos ⟨by omega, by omega, by omega⟩, if_pos (by omega)]
    congr 1
    omega
  by_cases c3 : r ≤ 65535
  · have h3 : (2048 ≤ r ∧ r < 55296) ∨ (57343 < r ∧ r ≤ 65535) := by
      unfold okRune at h; omega
    rw [enc3 r h3]
    simp only [List.cons_append, List.nil_append, List.getD_cons_zero, List.getD_cons_succ, List.length_cons, List.length_nil]
    rw [byte_z _ (by omega), byte_z _ (by omega), byte_z _ (by omega)]
    unfold Lib.decodeN
    have hv : (224 + r / 4096) % 16 * 4096 + (128 + r / 64 % 64) % 64 * 64 + (128 + r % 64) % 64 = r := by omega
    rw [if_neg (by omega), if_neg (by omega), if_pos ⟨by omega, ⟨by omega, by omega⟩, by omega, by omega⟩, hv, if_pos (by omega)]
  · have h4 : 65536 ≤ r ∧ r ≤ 1114111 := by
      unfold okRune at h; omega
    rw [enc4 r h4.1 h4.2]
    simp only [List.cons_append, List.nil_append, List.getD_cons_zero, List.getD_cons_succ, List.length_cons, List.length_nil]
    rw [byte_z _ (by omega), byte_z _ (by omega), byte_z _ (by omega), byte_z _ (by omega)]
    unfold Lib.decodeN
    have hv : (240 + r / 262144) % 8 * 262144 + (128 + r / 4096 % 64) % 64 * 4096 + (128 + r / 64 % 64) % 64 * 64 + (128 + r % 64) % 64 = r := by omega
    rw [if_neg (by omega), if_neg (by omega), if_neg (by omega), if_pos ⟨by omega, ⟨by omega, by omega⟩, ⟨by omega, by omega⟩, by omega, by omega⟩, hv, if_pos (by omega)]
theorem enc_len (r : Int) : 1 ≤ (Lib.encodeRune r).length := by
  have := (Lib.runeCells_le r).1
  rw [Lib.runeCells_length] at this
  exact this
theorem enc_ne (r : Int) (m : List UInt8) : Lib.encodeRune r ++ m ≠ [] := by
  intro e
  have h1 := enc_len r
  have h2 := congrArg List.length e
  rw [List.length_append, List.length_nil] at h2
  omega
theorem decB_nil : decB [] = [] := rfl
theorem decB_enc (r : Nat) (h : okRune r) (m : List UInt8) : decB (Lib.encodeRune (r : Int) ++ m) = (if r = 13 then [] else Lib.encodeRune (r : Int)) ++ decB m := by
  rw [decB_step _ (enc_ne _ _), dec_enc r h m, List.drop_left]

/-- Such a text as Decode tells, sign by sign. -/
def rightD : Nat → List UInt8 → Bool
  | 0, _ => true
  | f + 1, l => if l = [] then true else if (Lib.decodeL l).1 = 13 ∨ ((Lib.decodeL l).1 = 65533 ∧ (Lib.decodeL l).2 ≤ 1) then false else rightD f (l.drop (Lib.decodeL l).2)
theorem rightD_nil (f : Nat) : rightD f [] = true := by cases f <;> rfl
theorem drop_len (l : List UInt8) (hne : l ≠ []) : (l.drop (Lib.decodeL l).2).length < l.length := by
  have h1 := decodeL_pos l
  have h2 : 0 < l.length := List.length_pos_iff.2 hne
  rw [List.length_drop]; omega
theorem rightD_decB : ∀ (k : Nat) (l : List UInt8), l.length ≤ k → ∀ f, rightD f (decB l) = true
  | 0, l, hk, f => by
    have : l = [] := List.eq_nil_of_length_eq_zero (by omega)
    subst this
    exact rightD_nil f
  | k + 1, l, hk, f => by
    by_cases hne : l = []
    · subst hne; exact rightD_nil f
    · have hd := drop_len l hne
      rw [decB_step l hne]
      by_cases h13 : (Lib.decodeL l).1 = 13
      · rw [if_pos h13, List.nil_append]
        exact rightD_decB k _ (by omega) f
      · rw [if_neg h13]
        cases f with
        | zero => rfl
        | succ f =>
          have hok := decodeL_ok l
          rw [rightD, if_neg (enc_ne _ _), dec_enc _ hok, List.drop_left, if_neg ?_]
          · exact rightD_decB k _ (by omega) f
          · rintro (h | ⟨h, h2⟩)
            · exact h13 h
            · dsimp only at h h2
              rw [h] at h2
              exact absurd h2 (by decide)
theorem decB_idem : ∀ (k : Nat) (l : List UInt8), l.length ≤ k → decB (decB l) = decB l
  | 0, l, hk => by
    have : l = [] := List.eq_nil_of_length_eq_zero (by omega)
    subst this
    rfl
  | k + 1, l, hk => by
    by_cases hne : l = []
    · subst hne; rfl
    · have hd := drop_len l hne
      have ih := decB_idem k (l.drop (Lib.decodeL l).2) (by omega)
      rw [decB_step l hne]
      by_cases h13 : (Lib.decodeL l).1 = 13
      · rw [if_pos h13, List.nil_append]
        exact ih
      · rw [if_neg h13, decB_enc _ (decodeL_ok l), if_neg h13, ih]
theorem decB_right : ∀ (f : Nat) (l : List UInt8), l.length ≤ f → rightD f l = true → decB l = l
  | 0, l, hk, _ => by
    have : l = [] := List.eq_nil_of_length_eq_zero (by omega)
    subst this
    rfl
  | f + 1, l, hk, h => by
    by_cases hne : l = []
    · subst hne; rfl
    · have hd := drop_len l hne
      rw [rightD, if_neg hne] at h
      by_cases hbad : (Lib.decodeL l).1 = 13 ∨ ((Lib.decodeL l).1 = 65533 ∧ (Lib.decodeL l).2 ≤ 1)
      · rw [if_pos hbad] at h; cases h
      · rw [if_neg hbad] at h
        have hw := decodeL_pos l
        have h13 : ¬ (Lib.decodeL l).1 = 13 := fun e => hbad (Or.inl e)
        rw [decB_step l hne, if_neg h13, decB_right f _ (by omega) h, Lib.encode_decode l hne (fun e => hbad (Or.inr ⟨e.1, by omega⟩)), List.take_append_drop]
theorem rightS_D : ∀ (f : Nat) (l : List UInt8), (match sigs f l with | none => false | some xs => xs.all noCr) = rightD f l
  | 0, l => rfl
  | f + 1, l => by
    by_cases hne : l = []
    · subst hne; rfl
    · rw [sigs_step f l hne, rightD, if_neg hne, ← rightS_D f]
      have hw := decodeL_pos l
      by_cases hbad : (Lib.decodeL l).1 = 65533 ∧ (Lib.decodeL l).2 ≤ 1
      · rw [if_pos hbad, if_pos (Or.inr hbad)]
      · rw [if_neg hbad]
        by_cases h13 : (Lib.decodeL l).1 = 13
        · rw [if_pos (Or.inl h13)]
          have ht : l.take (Lib.decodeL l).2 = [13] := by
            rw [← Lib.encode_decode l hne (fun e => hbad ⟨e.1, by omega⟩), h13]; kernel_rfl
          cases sigs f (l.drop (Lib.decodeL l).2) with
          | none => rfl
          | some xs => rw [Option.map_some, ht]; rfl
        · rw [if_neg (by rintro (h | h); exact h13 h; exact hbad h)]
          have ht : noCr (l.take (Lib.decodeL l).2) = true := by
            unfold noCr
            rw [Bool.not_eq_true', beq_eq_false_iff_ne]
            exact fun e => h13 (take_cr l hne e)
          cases sigs f (l.drop (Lib.decodeL l).2) with
          | none => rfl
          | some xs => rw [Option.map_some]; dsimp only; rw [List.all_cons, ht, Bool.true_and]
theorem rightS_eq (l : List UInt8) : rightS l = rightD l.length l := by
  rw [← rightS_D]; rfl
/-- U+FFFD: the sign itself has its three bytes; what is no sign hasn't. -/
theorem fffd_prefix (l : List UInt8) (hne : l ≠ []) (h : (Lib.decodeL l).1 = 65533) : (Lib.hasPrefix l [239, 191, 189] = false) ↔ (Lib.decodeL l).2 ≤ 1 := by
  have hw := decodeL_pos l
  constructor
  · intro hp
    rcases Nat.lt_or_ge 1 (Lib.decodeL l).2 with h1 | h1
    · exfalso
      have he := Lib.encode_decode l hne (fun e => by omega)
      rw [h] at he
      have hx : Lib.encodeRune ((65533 : Nat) : Int) = [239, 191, 189] := by kernel_rfl
      rw [hx] at he
      have : l = [239, 191, 189] ++ l.drop (Lib.decodeL l).2 := by
        rw [he, List.take_append_drop]
      rw [this] at hp
      unfold Lib.hasPrefix at hp
      simp [List.isPrefixOf] at hp
    · exact h1
  · intro h1
    cases hp : Lib.hasPrefix l [239, 191, 189]
    · rfl
    · exfalso
      unfold Lib.hasPrefix at hp
      rw [List.isPrefixOf_iff_prefix] at hp
      obtain ⟨m, rfl⟩ := hp
      have := dec_enc 65533 (by unfold okRune; omega) m
      have hx : Lib.encodeRune ((65533 : Nat) : Int) = [239, 191, 189] := by kernel_rfl
      rw [hx] at this
      rw [this] at h1
      exact absurd h1 (by decide)
theorem rightFrom_D (s : ByteArray) : ∀ f pos, rightFrom s f pos = rightD f (s.data.toList.drop pos)
  | 0, pos => rfl
  | f + 1, pos => by
    by_cases hp : pos < s.size
    · have hne : s.data.toList.drop pos ≠ [] := by
        intro e
        have h1 := congrArg List.length e
        rw [List.length_drop, size_data, List.length_nil] at h1
        omega
      have hdl := decodeL_drop s pos hp
      rw [rightFrom, if_pos hp, rightD, if_neg hne, rightFrom_D s f, hdl, List.drop_drop]
      have hf := fffd_prefix _ hne
      rw [hdl] at hf
      by_cases h13 : (Utf8.decode s pos).1 = 13
      · rw [if_pos (Or.inl h13), if_pos (Or.inl h13)]
      · by_cases hE : (Utf8.decode s pos).1 = 65533
        · by_cases h1 : (Utf8.decode s pos).2 ≤ 1
          · rw [if_pos (Or.inr ⟨hE, (hf hE).2 h1⟩), if_pos (Or.inr ⟨hE, h1⟩)]
          · rw [if_neg (by rintro (h | h); exact h13 h; exact h1 ((hf hE).1 h.2)), if_neg (by rintro (h | h); exact h13 h; exact h1 h.2)]
        · rw [if_neg (by rintro (h | h); exact h13 h; exact hE h.1), if_neg (by rintro (h | h); exact h13 h; exact hE h.1)]
    · rw [rightFrom_end s _ pos hp, List.drop_eq_nil_of_le (by rw [size_data]; omega), rightD_nil]
theorem rightAll_eq (s : ByteArray) : rightFrom s s.size 0 = rightS s.data.toList := by
  rw [rightFrom_D, List.drop_zero, rightS_eq, size_data]
theorem decB_length (l : List UInt8) : ∀ k, l.length ≤ k → (decB l).length ≤ 4 * l.length := by
  intro k
  induction k generalizing l with
  | zero =>
    intro hk
    have : l = [] := List.eq_nil_of_length_eq_zero (by omega)
    subst this
    exact Nat.le_refl _
  | succ k ih =>
    intro hk
    by_cases hne : l = []
    · subst hne; exact Nat.le_refl _
    · have hd := drop_len l hne
      have i := ih (l.drop (Lib.decodeL l).2) (by omega)
      have hp := decodeL_pos l
      have h4 : (if (Lib.decodeL l).1 = 13 then [] else Lib.encodeRune ((Lib.decodeL l).1 : Int)).length ≤ 4 := by
        split
        · simp
        · have := (Lib.runeCells_le ((Lib.decodeL l).1 : Int)).2
          rw [Lib.runeCells_length] at this
          exact this
      rw [decB_step l hne, List.length_append]
      omega
end Go.Proofs.YtgjbgfnchlogdaaDoor
