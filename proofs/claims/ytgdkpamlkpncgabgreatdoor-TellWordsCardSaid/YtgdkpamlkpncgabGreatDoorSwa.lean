/-
  Package script: numerals and texts as bytes.
-/
import Derived.Test.YtgdkpamlkpncgabGreatDoorBase
import Derived.Lib.ParseIntBTie
import Derived.Lib.ItoaMem
import Derived.Lib.IndexMore
namespace Go.Proofs.YtgdkpamlkpncgabGreatDoor
open Go.RowKit
set_option linter.unusedVariables false

def dgB (c : UInt8) : Bool := decide (48 ≤ c.toNat) && decide (c.toNat ≤ 57)
theorem dgB_iff {c : UInt8} : dgB c = true ↔ 48 ≤ c.toNat ∧ c.toNat ≤ 57 := by simp [dgB]
def numA (acc : Nat) (l : List UInt8) : Nat := l.foldl (fun a c => a * 10 + (c.toNat - 48)) acc
theorem numA_nil (acc : Nat) : numA acc [] = acc := by unfold numA; rw [List.foldl_nil]
theorem numA_cons (acc : Nat) (c : UInt8) (r : List UInt8) : numA acc (c :: r) = numA (acc * 10 + (c.toNat - 48)) r := by unfold numA; rw [List.foldl_cons]
theorem numA_snoc (c : UInt8) : ∀ (l : List UInt8) (acc : Nat), numA acc (l ++ [c]) = numA acc l * 10 + (c.toNat - 48)
  | [], acc => by rw [List.nil_append, numA_cons, numA_nil, numA_nil]
  | d :: l, acc => by rw [List.cons_append, numA_cons, numA_cons]; exact numA_snoc c l _
theorem numA_ge : ∀ (l : List UInt8) (acc : Nat), acc ≤ numA acc l
  | [], acc => by rw [numA_nil]; exact Nat.le_refl _
  | c :: l, acc => by
    have := numA_ge l (acc * 10 + (c.toNat - 48))
    rw [numA_cons]
    omega
theorem parseM_ok {M : Nat} (hM : M < 18446744073709551616) : ∀ (l : List UInt8) (acc : Nat), l.all dgB = true → numA acc l ≤ M → Lib.parseUintM M acc l = .ok (numA acc l)
  | [], acc, _, _ => by rw [numA_nil]; rfl
  | c :: l, acc, h, hn => by
    rw [List.all_cons, Bool.and_eq_true, dgB_iff] at h
    rw [numA_cons] at hn
    have hg := numA_ge l (acc * 10 + (c.toNat - 48))
    rw [Lib.parseUintM, if_pos h.1, if_neg (by omega), if_neg (by omega), numA_cons]
    exact parseM_ok hM l _ h.2 hn
theorem parseM_digs {M u : Nat} : ∀ (l : List UInt8) (acc : Nat), Lib.parseUintM M acc l = .ok u → l.all dgB = true ∧ u = numA acc l
  | [], acc, h => by
    rw [Lib.parseUintM] at h
    injection h with h
    exact ⟨rfl, by rw [numA_nil]; exact h.symm⟩
  | c :: l, acc, h => by
    rw [Lib.parseUintM] at h
    split at h
    · next hc =>
      split at h
      · cases h
      · split at h
        · cases h
        · have := parseM_digs l _ h
          exact ⟨by rw [List.all_cons, this.1, Bool.and_true]; exact dgB_iff.2 hc, by rw [numA_cons]; exact this.2⟩
    · cases h
theorem head_app {l m : List UInt8} (h : l ≠ []) : (l ++ m).head? = l.head? := by
  cases l with
  | nil => exact absurd rfl h
  | cons a l => rfl
theorem toNat48 {i : Nat} (h : i < 10) : (UInt8.ofNat (48 + i)).toNat = 48 + i := by
  rw [UInt8.toNat_ofNat']; omega
theorem dec_facts : ∀ (n u : Nat), u ≤ n → (Lib.decDigits u).all dgB = true ∧ numA 0 (Lib.decDigits u) = u ∧ Lib.decDigits u ≠ [] ∧ (u ≠ 0 → (Lib.decDigits u).head? ≠ some 48)
  | n, u, hn => by
    by_cases h : u < 10
    · rw [Lib.decDigits_one h]
      refine ⟨by rw [List.all_cons, List.all_nil, Bool.and_true]; exact dgB_iff.2 (by rw [toNat48 h]; omega), by rw [numA_cons, numA_nil, toNat48 h]; omega, by simp, fun h0 e => ?_⟩
      rw [List.head?_cons] at e
      have := congrArg UInt8.toNat (Option.some.inj e)
      rw [toNat48 h] at this
      exact h0 (by have e48 : (48 : UInt8).toNat = 48 := rfl; omega)
    · cases n with
      | zero => omega
      | succ n =>
        obtain ⟨h1, h2, h3, h4⟩ := dec_facts n (u / 10) (by omega)
        rw [Lib.decDigits, dif_neg h]
        have hm : u % 10 < 10 := Nat.mod_lt _ (by decide)
        refine ⟨by rw [List.all_append, h1, Bool.true_and, List.all_cons, List.all_nil, Bool.and_true]; exact dgB_iff.2 (by rw [toNat48 hm]; omega), by rw [numA_snoc, h2, toNat48 hm]; omega, by simp, fun _ => ?_⟩
        rw [head_app h3]
        exact h4 (by omega)
theorem dec_all (u : Nat) : (Lib.decDigits u).all dgB = true := (dec_facts u u (Nat.le_refl _)).1
theorem dec_num (u : Nat) : numA 0 (Lib.decDigits u) = u := (dec_facts u u (Nat.le_refl _)).2.1
theorem dec_ne (u : Nat) : Lib.decDigits u ≠ [] := (dec_facts u u (Nat.le_refl _)).2.2.1
theorem dec_head {u : Nat} (h : u ≠ 0) : (Lib.decDigits u).head? ≠ some 48 := (dec_facts u u (Nat.le_refl _)).2.2.2 h
/-- Digits without noughts ahead are the digits of their number. -/
theorem num_dec : ∀ (n : Nat) (l : List UInt8), l.length ≤ n → l.all dgB = true → l ≠ [] → (l.length = 1 ∨ l.head? ≠ some 48) → Lib.decDigits (numA 0 l) = l
  | n, l, hn, h, hne, hh => by
    obtain ⟨i, c, rfl⟩ : ∃ i c, l = i ++ [c] := ⟨l.dropLast, l.getLast hne, (List.dropLast_concat_getLast hne).symm⟩
    rw [List.all_append, Bool.and_eq_true, List.all_cons, List.all_nil, Bool.and_true, dgB_iff] at h
    rw [numA_snoc]
    have hc : UInt8.ofNat (48 + (c.toNat - 48)) = c := by rw [show 48 + (c.toNat - 48) = c.toNat by omega]; exact UInt8.ofNat_toNat
    by_cases hi : i = []
    · subst hi
      rw [numA_nil, Nat.zero_mul, Nat.zero_add, Lib.decDigits_one (by omega), hc]
      rfl
    · cases n with
      | zero => rw [List.length_append] at hn; simp at hn
      | succ n =>
        have hl : i.length ≠ 0 := fun e => hi (List.eq_nil_of_length_eq_zero e)
        have hh2 : i.head? ≠ some 48 := by
          rcases hh with h1 | h1
          · rw [List.length_append, List.length_singleton] at h1; omega
          · rw [head_app hi] at h1; exact h1
        have ih := num_dec n i (by rw [List.length_append, List.length_singleton] at hn; omega) h.1 hi (.inr hh2)
        have hpos : numA 0 i ≠ 0 := by
          intro e
          rw [e, Lib.decDigits_one (by decide)] at ih
          rw [← ih] at hh2
          exact hh2 rfl
        rw [Lib.decDigits, dif_neg (by omega), show (numA 0 i * 10 + (c.toNat - 48)) / 10 = numA 0 i by omega, show (numA 0 i * 10 + (c.toNat - 48)) % 10 = c.toNat - 48 by omega, ih, hc]
theorem dec_inj {u v : Nat} (h : Lib.decDigits u = Lib.decDigits v) : u = v := by
  have := congrArg (numA 0) h
  rwa [dec_num, dec_num] at this
theorem parseU_dec {u : Nat} (h : u < 18446744073709551616) : Lib.parseUintB 64 (Lib.decDigits u) = .ok u := by
  unfold Lib.parseUintB
  rw [if_neg (dec_ne u), parseM_ok (by decide) _ 0 (dec_all u) (by rw [dec_num]; show u ≤ 2 ^ 64 - 1; omega), dec_num]
theorem dec_cons (u : Nat) : ∃ c r, Lib.decDigits u = c :: r ∧ dgB c = true := by
  have h := dec_all u
  cases hd : Lib.decDigits u with
  | nil => exact absurd hd (dec_ne u)
  | cons c r => rw [hd, List.all_cons, Bool.and_eq_true] at h; exact ⟨c, r, rfl, h.1⟩
theorem parse_itoa {v : Int} (h0 : -9223372036854775808 ≤ v) (h1 : v ≤ 9223372036854775807) : Lib.parseIntB 64 (Lib.itoa v) = .ok v := by
  unfold Lib.itoa
  have e63 : (2 : Nat) ^ (64 - 1) = 9223372036854775808 := by decide
  split
  · rw [Lib.parseIntB_minus, parseU_dec (by omega), Lib.signedC, e63, if_neg (by omega)]
    congr 1
    omega
  · obtain ⟨c, r, e, hc⟩ := dec_cons v.toNat
    have hc := dgB_iff.1 hc
    rw [e, Lib.parseIntB_plain _ _ _ (by omega) (by omega), ← e, parseU_dec (by omega), Lib.signlessC, e63, if_neg (by omega)]
    congr 1
    omega
theorem itoa_nat (n : Nat) : Lib.itoa (n : Int) = Lib.decDigits n := by
  unfold Lib.itoa
  rw [if_neg (by omega), Int.toNat_natCast]

/-- The whole number that a text tells in the one way in which it may be written. -/
def wholeS (s : List UInt8) (lo hi : Int) : Option Int :=
  match Lib.parseIntB 64 s with
  | .ok v => if lo ≤ v ∧ v ≤ hi ∧ Lib.itoa v = s then some v else none
  | _ => none
theorem wholeS_iff {s : List UInt8} {lo hi v : Int} (h0 : -9223372036854775808 ≤ lo) (h1 : hi ≤ 9223372036854775807) : wholeS s lo hi = some v ↔ lo ≤ v ∧ v ≤ hi ∧ Lib.itoa v = s := by
  unfold wholeS
  constructor
  · intro h
    split at h
    · split at h
      · next h2 => injection h with h; subst h; exact h2
      · cases h
    · cases h
  · rintro ⟨g0, g1, rfl⟩
    rw [parse_itoa (by omega) (by omega)]
    dsimp only
    rw [if_pos ⟨g0, g1, rfl⟩]
theorem wholeS_none {s : List UInt8} {lo hi : Int} (h0 : -9223372036854775808 ≤ lo) (h1 : hi ≤ 9223372036854775807) : wholeS s lo hi = none ↔ ∀ v, lo ≤ v → v ≤ hi → Lib.itoa v ≠ s := by
  constructor
  · intro h v g0 g1 e
    rw [(wholeS_iff h0 h1).2 ⟨g0, g1, e⟩] at h
    cases h
  · intro h
    cases e : wholeS s lo hi with
    | none => rfl
    | some v => have := (wholeS_iff h0 h1).1 e; exact absurd this.2.2 (h v this.1 this.2.1)

theorem ix_not (c : UInt8) : ∀ l : List UInt8, (∀ x ∈ l, x ≠ c) → Lib.index l [c] = -1
  | [], _ => rfl
  | b :: l, h => by
    have hb : (c == b) = false := by rw [beq_eq_false_iff_ne]; exact fun e => h b (List.mem_cons_self ..) e.symm
    rw [Lib.index]
    simp only [List.isPrefixOf, hb, Bool.false_and, Bool.false_eq_true, if_false]
    rw [ix_not c l fun x hx => h x (List.mem_cons_of_mem _ hx)]
    rfl
theorem ix_mid (c : UInt8) (y : List UInt8) : ∀ x : List UInt8, (∀ b ∈ x, b ≠ c) → Lib.index (x ++ c :: y) [c] = x.length
  | [], _ => by
    show Lib.index (c :: y) [c] = _
    rw [Lib.index]
    simp [List.isPrefixOf]
  | b :: x, h => by
    have hb : (c == b) = false := by rw [beq_eq_false_iff_ne]; exact fun e => h b (List.mem_cons_self ..) e.symm
    show Lib.index (b :: (x ++ c :: y)) [c] = _
    rw [Lib.index]
    simp only [List.isPrefixOf, hb, Bool.false_and, Bool.false_eq_true, if_false]
    rw [ix_mid c y x fun z hz => h z (List.mem_cons_of_mem _ hz), List.length_cons]
    split
    · next e => rw [beq_iff_eq] at e; omega
    · omega
theorem cutN (c : UInt8) (l : List UInt8) (h : ∀ x ∈ l, x ≠ c) : Lib.cut l [c] = (l, [], false) := by
  unfold Lib.cut
  rw [ix_not c l h]
  rfl
theorem cutM (c : UInt8) (x y : List UInt8) (h : ∀ b ∈ x, b ≠ c) : Lib.cut (x ++ c :: y) [c] = (x, y, true) := by
  unfold Lib.cut
  rw [ix_mid c y x h, if_pos (by omega), Int.toNat_natCast, List.length_singleton, List.take_left, show x ++ c :: y = (x ++ [c]) ++ y by simp, List.drop_left' (by simp)]
theorem cut_cases (c : UInt8) : ∀ l : List UInt8, (∀ x ∈ l, x ≠ c) ∨ ∃ x y, l = x ++ c :: y ∧ ∀ b ∈ x, b ≠ c
  | [] => .inl (fun x h => by cases h)
  | b :: l => by
    by_cases hb : b = c
    · exact .inr ⟨[], l, by rw [hb]; rfl, fun x h => by cases h⟩
    · rcases cut_cases c l with h | ⟨x, y, rfl, h⟩
      · refine .inl fun x hx => ?_
        rcases List.mem_cons.1 hx with rfl | hx
        · exact hb
        · exact h x hx
      · refine .inr ⟨b :: x, y, rfl, fun z hz => ?_⟩
        rcases List.mem_cons.1 hz with rfl | hz
        · exact hb
        · exact h z hz
theorem dec_no58 (u : Nat) : ∀ b ∈ Lib.decDigits u, b ≠ 58 := fun b hb e => by
  have := dgB_iff.1 (List.all_eq_true.1 (dec_all u) b hb)
  rw [e] at this
  exact absurd this.2 (by decide)

/-- A text's bytes. -/
def encT (t : List UInt8) : List UInt8 := Lib.decDigits t.length ++ 58 :: (t ++ [44])
theorem encT_len (t : List UInt8) : t.length + 2 < (encT t).length := by
  unfold encT
  have := List.length_pos_iff.2 (dec_ne t.length)
  simp only [List.length_append, List.length_cons, List.length_nil]
  omega
/-- The text that begins here, and what is behind it. -/
def textR (r : ByteArray) : Option (ByteArray × ByteArray) :=
  match wholeS (Lib.cut r.data.toList [58]).1 0 262144 with
  | none => none
  | some n => if n.toNat < (Lib.cut r.data.toList [58]).2.1.length ∧ (Lib.cut r.data.toList [58]).2.1[n.toNat]? = some 44 then
      some (⟨((Lib.cut r.data.toList [58]).2.1.take n.toNat).toArray⟩, ⟨((Lib.cut r.data.toList [58]).2.1.drop (n.toNat + 1)).toArray⟩) else none
theorem textR_iff {r t r' : ByteArray} : textR r = some (t, r') ↔ r.data.toList = encT t.data.toList ++ r'.data.toList ∧ t.size ≤ 262144 := by
  unfold textR
  constructor
  · intro h
    rcases cut_cases 58 r.data.toList with hc | ⟨x, y, e, hx⟩
    · rw [cutN _ _ hc] at h
      split at h
      · cases h
      · rw [if_neg (by simp)] at h
        cases h
    · rw [e, cutM _ _ _ hx] at h
      split at h
      · cases h
      · next n hn =>
        obtain ⟨g0, g1, g2⟩ := (wholeS_iff (by decide) (by decide)).1 hn
        split at h
        · next hq =>
          obtain ⟨q1, q2⟩ := hq
          injection h with h
          injection h with ht hr
          subst ht hr
          have hl : (y.take n.toNat).length = n.toNat := by rw [List.length_take]; exact Nat.min_eq_left (Nat.le_of_lt q1)
          refine ⟨?_, by rw [size_mk, hl]; omega⟩
          rw [e]
          show _ = encT (y.take n.toNat) ++ y.drop (n.toNat + 1)
          unfold encT
          rw [hl, ← itoa_nat, Int.toNat_of_nonneg g0, g2]
          obtain ⟨hlt, q3⟩ := List.getElem?_eq_some_iff.1 q2
          have hy : y = y.take n.toNat ++ 44 :: y.drop (n.toNat + 1) := by
            rw [← q3, ← List.drop_eq_getElem_cons hlt, List.take_append_drop]
          rw [List.append_assoc, List.cons_append, List.append_assoc]
          congr 2
        · cases h
  · rintro ⟨e, ht⟩
    rw [e]
    unfold encT
    rw [List.append_assoc, List.cons_append, List.append_assoc, cutM _ _ _ (dec_no58 _)]
    dsimp only
    have hn : wholeS (Lib.decDigits t.data.toList.length) 0 262144 = some (t.data.toList.length : Int) := (wholeS_iff (by decide) (by decide)).2 ⟨by omega, by rw [size_data]; omega, itoa_nat _⟩
    rw [hn]
    dsimp only
    rw [Int.toNat_natCast, if_pos ⟨by simp, by simp⟩]
    congr 1
    refine Prod.ext ?_ ?_
    · apply bytes_eq
      simp
    · apply bytes_eq
      show (List.drop (t.data.toList.length + 1) (t.data.toList ++ ([44] ++ r'.data.toList))) = _
      rw [← List.append_assoc, List.drop_left' (by simp)]
end Go.Proofs.YtgdkpamlkpncgabGreatDoor
