/-
  Several texts put together (part 31): what the law and the program call, walked; their contracts.
-/
import Derived.Test.YtdoambpiafkmmaaGreatDoorQ30
import Derived.Lib.ValidLaws
import Derived.Lib.MapLaws
import Derived.Test.YtdoambpiafkmmaaGreatDoorQ17
import Derived.Shelf.Strings.MapAny
namespace Go.Proofs.YtdoambpiafkmmaaGreatDoor
open Go.RowKit
set_option linter.unusedVariables false
set_option linter.unusedSimpArgs false
def okRune (r : Nat) : Prop := r < 55296 ∨ (57343 < r ∧ r ≤ 1114111)
theorem decodeL_ok (l : List UInt8) : okRune (Lib.decodeL l).1 := by
  rw [Lib.decodeL_N]
  have k0 := (l.getD 0 0).toNat_lt
  have k1 := (l.getD 1 0).toNat_lt
  unfold okRune
  rcases Lib.decodeN_shape l.length (l.getD 0 0).toNat (l.getD 1 0).toNat (l.getD 2 0).toNat (l.getD 3 0).toNat with ⟨c, e⟩ | ⟨c1, c2, c3, cv, e⟩ | ⟨c1, c2, c3, c4, cv, cs, e⟩ | ⟨c1, c2, c3, c4, c5, cv, cw, e⟩ | e
  all_goals (rw [e]; dsimp only; omega)
theorem byte_z (z : Nat) (h : z < 256) : ((z : Int).toNat.toUInt8).toNat = z := by
  have : (z : Int).toNat = z := by omega
  rw [this]
  simp [UInt8.toNat_ofNat', Nat.toUInt8]
  omega
theorem enc1 (r : Nat) (h : r ≤ 127) : Lib.encodeRune (r : Int) = [(r : Int).toNat.toUInt8] := by
  unfold Lib.encodeRune
  rw [Lib.encodeRuneZ_one (by omega) (by omega)]
  rfl
theorem enc2 (r : Nat) (h0 : 128 ≤ r) (h1 : r ≤ 2047) : Lib.encodeRune (r : Int) = [((192 + r / 64 : Nat) : Int).toNat.toUInt8, ((128 + r % 64 : Nat) : Int).toNat.toUInt8] := by
  unfold Lib.encodeRune
  rw [Lib.encodeRuneZ_two (by omega) (by omega)]
  have e1 : 192 + (r : Int) / 64 = ((192 + r / 64 : Nat) : Int) := by omega
  have e2 : 128 + (r : Int) % 64 = ((128 + r % 64 : Nat) : Int) := by omega
  rw [e1, e2]
  rfl
theorem enc3 (r : Nat) (h0 : (2048 ≤ r ∧ r < 55296) ∨ (57343 < r ∧ r ≤ 65535)) : Lib.encodeRune (r : Int) = [((224 + r / 4096 : Nat) : Int).toNat.toUInt8, ((128 + r / 64 % 64 : Nat) : Int).toNat.toUInt8, ((128 + r % 64 : Nat) : Int).toNat.toUInt8] := by
  unfold Lib.encodeRune
  rw [Lib.encodeRuneZ_three (by omega)]
  have e1 : 224 + (r : Int) / 4096 = ((224 + r / 4096 : Nat) : Int) := by omega
  have e2 : 128 + (r : Int) / 64 % 64 = ((128 + r / 64 % 64 : Nat) : Int) := by omega
  have e3 : 128 + (r : Int) % 64 = ((128 + r % 64 : Nat) : Int) := by omega
  rw [e1, e2, e3]
  rfl
theorem enc4 (r : Nat) (h0 : 65536 ≤ r) (h1 : r ≤ 1114111) : Lib.encodeRune (r : Int) = [((240 + r / 262144 : Nat) : Int).toNat.toUInt8, ((128 + r / 4096 % 64 : Nat) : Int).toNat.toUInt8, ((128 + r / 64 % 64 : Nat) : Int).toNat.toUInt8, ((128 + r % 64 : Nat) : Int).toNat.toUInt8] := by
  unfold Lib.encodeRune
  rw [Lib.encodeRuneZ_four (by omega) (by omega)]
  have e1 : 240 + (r : Int) / 262144 = ((240 + r / 262144 : Nat) : Int) := by omega
  have e2 : 128 + (r : Int) / 4096 % 64 = ((128 + r / 4096 % 64 : Nat) : Int) := by omega
  have e3 : 128 + (r : Int) / 64 % 64 = ((128 + r / 64 % 64 : Nat) : Int) := by omega
  have e4 : 128 + (r : Int) % 64 = ((128 + r % 64 : Nat) : Int) := by omega
  rw [e1, e2, e3, e4]
  rfl
theorem dec_enc (r : Nat) (h : okRune r) (m : List UInt8) : Lib.decodeL (Lib.encodeRune (r : Int) ++ m) = (r, (Lib.encodeRune (r : Int)).length) := by
  rw [Lib.decodeL_N]
  by_cases c1 : r ≤ 127
  · rw [enc1 r c1]
    simp only [List.cons_append, List.nil_append, List.getD_cons_zero, List.length_cons, List.length_nil]
    rw [byte_z r (by omega)]
    unfold Lib.decodeN
    rw [if_pos (by omega)]
  by_cases c2 : r ≤ 2047
  · rw [enc2 r (by omega) c2]
    simp only [List.cons_append, List.nil_append, List.getD_cons_zero, List.getD_cons_succ, List.length_cons, List.length_nil]
    rw [byte_z _ (by omega), byte_z _ (by omega)]
    unfold Lib.decodeN
    rw [if_neg (by omega), if_pos ⟨by omega, by omega, by omega⟩, if_pos (by omega)]
    congr 1
    omega
  by_cases c3 : r ≤ 65535
  · have h3 : (2048 ≤ r ∧ r < 55296) ∨ (57343 < r ∧ r ≤ 65535) := by
      unfold okRune at h; omega
    rw [enc3 r h3]
    simp only [List.cons_append, List.nil_append, List.getD_cons_zero, List.getD_cons_succ, List.length_cons, List.length_nil]
    rw [byte_z _ (by omega), byte_z _ (by omega), byte_z _ (by omega)]
    unfold Lib.decodeN
    have hv : (224 + r / 4096) % 16 * 4096 + (128 + r / 64 % 64) % 64 * 64 + (128 + r % 64) % 64 = r := by omega
    rw [if_neg (by omega), if_neg (by omega), if_pos ⟨by omega, ⟨by omega, by omega⟩, by omega, by omega⟩, hv, if_pos (by omega)]
  · have h4 : 65536 ≤ r ∧ r ≤ 1114111 := by
      unfold okRune at h; omega
    rw [enc4 r h4.1 h4.2]
    simp only [List.cons_append, List.nil_append, List.getD_cons_zero, List.getD_cons_succ, List.length_cons, List.length_nil]
    rw [byte_z _ (by omega), byte_z _ (by omega), byte_z _ (by omega), byte_z _ (by omega)]
    unfold Lib.decodeN
    have hv : (240 + r / 262144) % 8 * 262144 + (128 + r / 4096 % 64) % 64 * 4096 + (128 + r / 64 % 64) % 64 * 64 + (128 + r % 64) % 64 = r := by omega
    rw [if_neg (by omega), if_neg (by omega), if_neg (by omega), if_pos ⟨by omega, ⟨by omega, by omega⟩, ⟨by omega, by omega⟩, by omega, by omega⟩, hv, if_pos (by omega)]
theorem enc_len (r : Int) : 1 ≤ (Lib.encodeRune r).length := by
  have := (Lib.runeCells_le r).1
  rw [Lib.runeCells_length] at this
  exact this
theorem enc_ne (r : Int) (m : List UInt8) : Lib.encodeRune r ++ m ≠ [] := by
  intro e
  have h1 := enc_len r
  have h2 := congrArg List.length e
  rw [List.length_append, List.length_nil] at h2
  omega
theorem valid_enc (r : Nat) (h : okRune r) (m : List UInt8) : Lib.validD (Lib.encodeRune (r : Int) ++ m) = Lib.validD m := by
  rw [Lib.validD_step _ (enc_ne _ _), dec_enc r h m]
  have hl : ¬ (r = 65533 ∧ (Lib.encodeRune (r : Int)).length = 1) := by
    rintro ⟨rfl, h1⟩
    rw [enc3 65533 (by omega)] at h1
    simp at h1
  rw [if_neg hl]
  dsimp only
  rw [List.drop_left]
theorem valid_encZ (r : Int) (m : List UInt8) : Lib.validD (Lib.encodeRune r ++ m) = Lib.validD m := by
  by_cases h : r < 0 ∨ (55296 ≤ r ∧ r ≤ 57343) ∨ 1114111 < r
  · have e : Lib.encodeRune r = Lib.encodeRune ((65533 : Nat) : Int) := by
      rw [enc3 65533 (by omega)]
      unfold Lib.encodeRune
      rw [Lib.encodeRuneZ_bad h]
      rfl
    rw [e]
    exact valid_enc 65533 (Or.inr (by omega)) m
  · obtain ⟨n, rfl⟩ : ∃ n : Nat, r = n := ⟨r.toNat, by omega⟩
    exact valid_enc n (by unfold okRune; omega) m
theorem valid_one (r : Int) : Lib.validD (Lib.encodeRune r) = true := by
  have := valid_encZ r []
  rw [List.append_nil] at this
  rw [this]; rfl
theorem valid_app : ∀ (k : Nat) (a b : List UInt8), a.length ≤ k → Lib.validD a = true → Lib.validD (a ++ b) = Lib.validD b
  | _, [], b, _, _ => rfl
  | 0, c :: a, b, h, _ => by simp at h
  | k + 1, c :: a, b, h, hv => by
    rw [Lib.validD_step _ (by simp)] at hv
    split at hv
    · cases hv
    · next hn =>
      have hd := Lib.encode_decode (c :: a) (by simp) hn
      have hw := Lib.decodeL_width (c :: a)
      have hr := decodeL_ok (c :: a)
      have e : c :: a ++ b = Lib.encodeRune ((Lib.decodeL (c :: a)).1 : Int) ++ ((c :: a).drop (Lib.decodeL (c :: a)).2 ++ b) := by rw [hd, ← List.append_assoc, List.take_append_drop]
      rw [e, valid_enc _ hr]
      exact valid_app k _ b (by rw [List.length_drop]; simp only [List.length_cons] at h ⊢; omega) hv
theorem valid_two {a b : List UInt8} (ha : Lib.validD a = true) (hb : Lib.validD b = true) : Lib.validD (a ++ b) = true := by
  rw [valid_app a.length a b (Nat.le_refl _) ha]; exact hb
theorem enc_high (r : Nat) (h : okRune r) (h1 : 1 < (Lib.encodeRune (r : Int)).length) : ∀ c ∈ Lib.encodeRune (r : Int), 128 ≤ c.toNat := by
  intro c hc
  by_cases c1 : r ≤ 127
  · rw [enc1 r c1] at h1
    simp at h1
  by_cases c2 : r ≤ 2047
  · rw [enc2 r (by omega) c2] at hc
    simp only [List.mem_cons, List.not_mem_nil, or_false] at hc
    rcases hc with rfl | rfl <;> (rw [byte_z _ (by omega)]; omega)
  by_cases c3 : r ≤ 65535
  · have h3 : (2048 ≤ r ∧ r < 55296) ∨ (57343 < r ∧ r ≤ 65535) := by
      unfold okRune at h; omega
    rw [enc3 r h3] at hc
    simp only [List.mem_cons, List.not_mem_nil, or_false] at hc
    rcases hc with rfl | rfl | rfl <;> (rw [byte_z _ (by omega)]; omega)
  · have h4 : 65536 ≤ r ∧ r ≤ 1114111 := by
      unfold okRune at h; omega
    rw [enc4 r h4.1 h4.2] at hc
    simp only [List.mem_cons, List.not_mem_nil, or_false] at hc
    rcases hc with rfl | rfl | rfl | rfl <;> (rw [byte_z _ (by omega)]; omega)
theorem valid_split : ∀ (k : Nat) (a : List UInt8) (c : UInt8) (b : List UInt8), a.length ≤ k → c.toNat < 128 → Lib.validD (a ++ c :: b) = true → Lib.validD a = true ∧ Lib.validD b = true
  | _, [], c, b, _, hc, hv => by
    rw [List.nil_append, Lib.validD_cons c b hc] at hv
    exact ⟨rfl, hv⟩
  | 0, x :: a, c, b, h, _, _ => by simp at h
  | k + 1, x :: a, c, b, h, hc, hv => by
    rw [Lib.validD_step _ (by simp)] at hv
    split at hv
    · cases hv
    · next hn =>
      have hd := Lib.encode_decode (x :: a ++ c :: b) (by simp) hn
      have hw := Lib.decodeL_width (x :: a ++ c :: b)
      have hr := decodeL_ok (x :: a ++ c :: b)
      obtain ⟨n, hnn⟩ : ∃ n, (Lib.decodeL (x :: a ++ c :: b)).2 = n := ⟨_, rfl⟩
      obtain ⟨r, hrr⟩ : ∃ r, (Lib.decodeL (x :: a ++ c :: b)).1 = r := ⟨_, rfl⟩
      rw [hnn] at hd hw hv
      rw [hrr] at hd hr
      have hle : n ≤ (x :: a).length := by
        refine Nat.le_of_not_lt fun hlt => ?_
        have hlen : (Lib.encodeRune (r : Int)).length = min n (x :: a ++ c :: b).length := by rw [hd, List.length_take]
        have h2 : 1 < (Lib.encodeRune (r : Int)).length := by
          rw [hlen, List.length_append]
          simp only [List.length_cons] at hlt ⊢
          omega
        have hm : c ∈ (x :: a ++ c :: b).take n := by
          have : (x :: a ++ c :: b).take n = x :: a ++ (c :: b).take (n - (x :: a).length) := by
            rw [List.take_append, List.take_of_length_le (by omega)]
          rw [this]
          obtain ⟨m, hm⟩ : ∃ m, n - (x :: a).length = m + 1 := ⟨n - (x :: a).length - 1, by omega⟩
          rw [hm, List.take_succ_cons]
          simp
        have := enc_high r hr h2 c (by rw [hd]; exact hm)
        omega
      rw [List.drop_append_of_le_length hle] at hv
      rw [List.take_append_of_le_length hle] at hd
      have ih := valid_split k _ c b (by rw [List.length_drop]; simp only [List.length_cons] at h ⊢; omega) hc hv
      refine ⟨?_, ih.2⟩
      have e : x :: a = Lib.encodeRune (r : Int) ++ (x :: a).drop n := by rw [hd, List.take_append_drop]
      rw [e, valid_enc r hr]
      exact ih.1
theorem unq_valid (s : ByteArray) : ∀ (f pos next : Nat) (acc t : List UInt8) (n : Nat), Lib.validD acc = true → unqFrom s f pos next acc = some (t, n) → Lib.validD t = true
  | 0, _, _, _, _, _, _, h => by rw [unqFrom] at h; cases h
  | f + 1, pos, next, acc, t, n, ha, h => by
    rw [unqFrom] at h
    split at h
    · split at h
      · exact unq_valid s f _ _ _ t n ha h
      · split at h
        · cases h; exact ha
        · split at h
          · cases h
          · split at h
            · split at h
              · cases h
              · exact unq_valid s f _ _ _ t n (valid_two ha (valid_one _)) h
            · exact unq_valid s f _ _ _ t n (valid_two ha (valid_one _)) h
    · cases h
theorem hStr_ok (s : ByteArray) : ∀ i t n, unqAll (s.extract i s.size) = some (t, n) → validB (mkB t) = true := by
  intro i t n h
  unfold unqAll at h
  split at h
  · exact unq_valid _ _ _ _ _ t n rfl h
  · cases h
structure Sn (s : ByteArray) : Prop where
  ok : Lib.validD s.data.toList = true
  cr : ∀ c ∈ s.data.toList, c ≠ 13
theorem Sn.of {s : ByteArray} (h : textOk s = true) : Sn s := by
  unfold textOk at h
  rw [Bool.and_eq_true, Bool.and_eq_true, Bool.not_eq_true'] at h
  obtain ⟨⟨h1, h2⟩, _⟩ := h
  rw [← valid_sig] at h1
  refine ⟨h1, fun c hc e => ?_⟩
  rw [List.any_eq_false] at h2
  exact h2 c hc (by rw [e]; rfl)
def Bd (s : ByteArray) (i : Nat) : Prop := Lib.validD (s.data.toList.drop i) = true
theorem drop_at {s : ByteArray} {i : Nat} (hi : i < s.size) : s.data.toList.drop i = at0 s.data.toList i :: s.data.toList.drop (i + 1) := by
  rw [List.drop_eq_getElem_cons (by rw [size_data]; exact hi), at0_get _ _ (by rw [size_data]; exact hi)]
theorem bd_next {s : ByteArray} (hs : Sn s) {i : Nat} (hi : i < s.size) (hc : (at0 s.data.toList i).toNat < 128) : Bd s (i + 1) := by
  have h := hs.ok
  rw [← List.take_append_drop i s.data.toList, drop_at hi] at h
  exact (valid_split _ _ _ _ (Nat.le_refl _) hc h).2
theorem bd_here {s : ByteArray} (hs : Sn s) {i : Nat} (hi : i < s.size) (hc : (at0 s.data.toList i).toNat < 128) : Bd s i := by
  unfold Bd
  rw [drop_at hi, Lib.validD_cons _ _ hc]
  exact bd_next hs hi hc
theorem isAt_eq {s : ByteArray} {i : Nat} {c : UInt8} (h : isAt s i c = true) : at0 s.data.toList i = c := by
  unfold isAt at h
  rw [Bool.and_eq_true, beq_iff_eq] at h
  exact h.2
theorem bd_behind {s : ByteArray} (hs : Sn s) {i : Nat} {c : UInt8} (h : isAt s i c = true) (hc : c.toNat < 128) : Bd s (i + 1) := bd_next hs (isAt_lt h) (by rw [isAt_eq h]; exact hc)
theorem bd_end (s : ByteArray) {i : Nat} (h : s.size ≤ i) : Bd s i := by
  unfold Bd
  rw [List.drop_eq_nil_of_le (by rw [size_data]; exact h)]
  rfl
theorem piece_valid {s : ByteArray} {i j : Nat} (hb : Bd s i) (hij : i ≤ j) (hj : s.size ≤ j ∨ (j < s.size ∧ (at0 s.data.toList j).toNat < 128)) : Lib.validD (s.extract i j).data.toList = true := by
  rw [extract_list]
  rcases hj with hj | ⟨hj, hc⟩
  · rw [List.take_of_length_le (by rw [size_data]; exact hj)]
    exact hb
  · unfold Bd at hb
    have e : s.data.toList.drop i = (s.data.toList.take j).drop i ++ at0 s.data.toList j :: s.data.toList.drop (j + 1) := by
      rw [← drop_at hj]
      have := List.take_append_drop j s.data.toList
      conv => lhs; rw [← this]
      rw [List.drop_append_of_le_length (by rw [List.length_take, size_data]; omega)]
    rw [e] at hb
    exact (valid_split _ _ _ _ (Nat.le_refl _) hc hb).1
theorem mem_extract {s : ByteArray} {i j : Nat} {c : UInt8} (h : c ∈ (s.extract i j).data.toList) : ∃ k, i ≤ k ∧ k < j ∧ k < s.size ∧ at0 s.data.toList k = c := by
  rw [extract_list] at h
  obtain ⟨m, hm, e⟩ := List.mem_iff_getElem.1 h
  rw [List.length_drop, List.length_take, size_data] at hm
  refine ⟨i + m, by omega, by omega, by omega, ?_⟩
  rw [← e, List.getElem_drop, List.getElem_take, at0_get _ _ (by rw [size_data]; omega)]
theorem bd_sp {s : ByteArray} (hs : Sn s) {i : Nat} (hb : Bd s i) : Bd s (sp s i) := by
  by_cases h : sp s i = i
  · rw [h]; exact hb
  · have h1 := sp_ge s i
    have h2 := behN_so spB s.data.toList i (sp s i - 1) (by omega) (by unfold sp at *; omega)
    have h3 : sp s i - 1 < s.size := by
      refine Nat.lt_of_not_le fun hle => h ?_
      unfold sp
      refine behN_end _ _ _ ?_
      rw [size_data]
      refine Nat.le_of_not_lt fun hlt => ?_
      have := (sp_ok s i (Nat.le_of_lt hlt)).2
      omega
    have h4 := bd_next hs h3 (by
      unfold spB at h2
      rw [decide_eq_true_iff] at h2
      omega)
    rw [show sp s i - 1 + 1 = sp s i by omega] at h4
    exact h4
end Go.Proofs.YtdoambpiafkmmaaGreatDoor

namespace Go.Proofs.YtdoambpiafkmmaaGreatDoor
open Go.RowKit
set_option linter.unusedVariables false
set_option linter.unusedSimpArgs false
structure Pre (u s : ByteArray) : Prop where
  lt : u.size < s.size
  tk : s.data.toList.take u.size = u.data.toList
  two : 2 ≤ u.size
  l1 : at0 u.data.toList (u.size - 1) = 10
  l2 : at0 u.data.toList (u.size - 2) = 10
  nx : at0 s.data.toList u.size = 120
section
variable {u s : ByteArray}
theorem Pre.get (h : Pre u s) {i : Nat} (hi : i < u.size) : s.data.toList[i]? = u.data.toList[i]? := by
  rw [← h.tk, List.getElem?_take_of_lt hi]
theorem Pre.at_ (h : Pre u s) {i : Nat} (hi : i < u.size) : at0 s.data.toList i = at0 u.data.toList i := by
  unfold at0
  rw [List.getD_eq_getElem?_getD, List.getD_eq_getElem?_getD, h.get hi]
theorem Pre.ext (h : Pre u s) (i : Nat) {j : Nat} (hj : j ≤ u.size) : s.extract i j = u.extract i j := by
  apply bytes_eq
  rw [extract_list, extract_list, ← h.tk, List.take_take, Nat.min_eq_left hj]
theorem Pre.is (h : Pre u s) {i : Nat} (hi : i ≤ u.size) {c : UInt8} (hc : c ≠ 120) : isAt s i c = isAt u i c := by
  unfold isAt
  by_cases hl : i < u.size
  · rw [h.at_ hl, decide_eq_true hl, decide_eq_true (by have := h.lt; omega)]
  · obtain rfl : i = u.size := by omega
    rw [h.nx, decide_eq_false hl, beq_eq_false_iff_ne.2 (fun e => hc e.symm), Bool.and_false, Bool.false_and]
theorem beh_go (p : UInt8 → Bool) (l : List UInt8) {k : Nat} (hk : k < l.length) : behN p l k = if p (at0 l k) = true then behN p l (k + 1) else k := by
  rw [at0_get l k hk]
  split
  · next h => exact (behN_yes p l k hk h).symm
  · next h => exact behN_no p l k hk (by simpa using h)
theorem Pre.beh10 (h : Pre u s) (p : UInt8 → Bool) (hp : p 10 = false) : ∀ (m i : Nat), u.size - i ≤ m → i < u.size → behN p s.data.toList i = behN p u.data.toList i ∧ behN p u.data.toList i < u.size
  | m, i, hm, hi => by
    have hl := h.lt
    rw [beh_go p s.data.toList (by rw [size_data]; omega), beh_go p u.data.toList (by rw [size_data]; exact hi), h.at_ hi]
    split
    · next hy =>
      have hne : i ≠ u.size - 1 := fun e => by rw [e, h.l1, hp] at hy; cases hy
      cases m with
      | zero => omega
      | succ m => exact h.beh10 p hp m (i + 1) (by omega) (by omega)
    · exact ⟨rfl, hi⟩
theorem Pre.behx (h : Pre u s) (p : UInt8 → Bool) (hp : p 120 = false) : ∀ (m i : Nat), u.size - i ≤ m → i ≤ u.size → behN p s.data.toList i = behN p u.data.toList i ∧ behN p u.data.toList i ≤ u.size
  | m, i, hm, hi => by
    have hl := h.lt
    by_cases hlt : i < u.size
    · rw [beh_go p s.data.toList (by rw [size_data]; omega), beh_go p u.data.toList (by rw [size_data]; exact hlt), h.at_ hlt]
      split
      · cases m with
        | zero => omega
        | succ m => exact h.behx p hp m (i + 1) (by omega) (by omega)
      · exact ⟨rfl, hi⟩
    · obtain rfl : i = u.size := by omega
      rw [beh_go p s.data.toList (by rw [size_data]; omega), h.nx, hp, behN_end p u.data.toList _ (by rw [size_data]; exact Nat.le_refl _)]
      exact ⟨rfl, Nat.le_refl _⟩
theorem Pre.bl_ (h : Pre u s) {i : Nat} (hi : i ≤ u.size) : bl s i = bl u i := (h.behx blB (by decide) u.size i (by omega) hi).1
theorem Pre.sp_ (h : Pre u s) {i : Nat} (hi : i ≤ u.size) : sp s i = sp u i := (h.behx spB (by decide) u.size i (by omega) hi).1
theorem Pre.tx_ (h : Pre u s) {i : Nat} (hi : i < u.size) : tx s i = tx u i ∧ tx u i < u.size := h.beh10 txB (by decide) u.size i (by omega) hi
theorem Pre.li_ (h : Pre u s) {i : Nat} (hi : i < u.size) : li s i = li u i ∧ li u i < u.size := h.beh10 nlB (by decide) u.size i (by omega) hi
theorem Pre.hs_ (h : Pre u s) {i : Nat} (hi : i < u.size) : hs s i = hs u i ∧ hs u i < u.size := h.beh10 hsB (by decide) u.size i (by omega) hi
theorem Pre.nm_ (h : Pre u s) {i : Nat} (hi : i < u.size) : nm s i = nm u i ∧ nm u i < u.size := by
  unfold nm
  rw [h.at_ hi]
  by_cases hc : leB (at0 u.data.toList i) = true
  · rw [if_pos ⟨by have := h.lt; omega, hc⟩, if_pos ⟨hi, hc⟩]
    exact h.beh10 naB (by decide) u.size i (by omega) hi
  · rw [if_neg (fun g => hc g.2), if_neg (fun g => hc g.2)]
    exact ⟨rfl, hi⟩
theorem Pre.opt (h : Pre u s) {c : UInt8} (hc : c ≠ 10) {i : Nat} (hi : i < u.size) : (if i < s.data.toList.length ∧ at0 s.data.toList i = c then i + 1 else i) = (if i < u.data.toList.length ∧ at0 u.data.toList i = c then i + 1 else i) ∧ (if i < u.data.toList.length ∧ at0 u.data.toList i = c then i + 1 else i) < u.size := by
  rw [h.at_ hi, size_data, size_data]
  by_cases hg : at0 u.data.toList i = c
  · rw [if_pos ⟨by have := h.lt; omega, hg⟩, if_pos ⟨hi, hg⟩]
    have hne : i ≠ u.size - 1 := fun e => by rw [e, h.l1] at hg; exact hc hg.symm
    exact ⟨rfl, by omega⟩
  · rw [if_neg (fun g => hg g.2), if_neg (fun g => hg g.2)]
    exact ⟨rfl, hi⟩
theorem Pre.nu_ (h : Pre u s) {i : Nat} (hi : i < u.size) : nu s i = nu u i ∧ nu u i < u.size := by
  unfold nu numN
  dsimp only
  obtain ⟨e1, q1⟩ := h.opt (c := 45) (by decide) hi
  rw [e1]
  obtain ⟨a, ha⟩ : ∃ a, (if i < u.data.toList.length ∧ at0 u.data.toList i = 45 then i + 1 else i) = a := ⟨_, rfl⟩
  rw [ha] at q1 ⊢
  obtain ⟨e2, q2⟩ := h.beh10 dgB (by decide) u.size a (by omega) q1
  rw [e2]
  obtain ⟨e, he⟩ : ∃ e, behN dgB u.data.toList a = e := ⟨_, rfl⟩
  rw [he] at q2 ⊢
  obtain ⟨e3, q3⟩ := h.opt (c := 46) (by decide) q2
  rw [e3]
  obtain ⟨b, hb⟩ : ∃ b, (if e < u.data.toList.length ∧ at0 u.data.toList e = 46 then e + 1 else e) = b := ⟨_, rfl⟩
  rw [hb] at q3 ⊢
  obtain ⟨e4, q4⟩ := h.beh10 dgB (by decide) u.size b (by omega) q3
  rw [e4]
  refine ⟨rfl, ?_⟩
  split
  · split
    · exact q4
    · exact q2
  · exact hi
theorem Pre.behl (h : Pre u s) {i : Nat} (hi : i < u.size) : beh s i = beh u i ∧ beh u i ≤ u.size := by
  obtain ⟨e1, q1⟩ := h.li_ hi
  unfold beh
  rw [e1, if_pos (by have := h.lt; omega), if_pos q1]
  exact ⟨rfl, q1⟩
end
theorem dec_app {l : List UInt8} (hv : Lib.validD l = true) (hne : l ≠ []) (T : List UInt8) : Lib.decodeL (l ++ T) = Lib.decodeL l ∧ (Lib.decodeL l).2 ≤ l.length ∧ Lib.validD (l.drop (Lib.decodeL l).2) = true ∧ 1 ≤ (Lib.decodeL l).2 := by
  have hv2 := hv
  rw [Lib.validD_step _ hne] at hv
  split at hv
  · cases hv
  · next hn =>
    have hd := Lib.encode_decode l hne hn
    have hw := Lib.decodeL_width l
    have hr := decodeL_ok l
    obtain ⟨r, hrr⟩ : ∃ r, (Lib.decodeL l).1 = r := ⟨_, rfl⟩
    obtain ⟨q, hq⟩ : ∃ q, (Lib.decodeL l).2 = q := ⟨_, rfl⟩
    rw [hrr, hq] at hd
    rw [hrr] at hr
    rw [hq] at hw hv ⊢
    have hl1 : l = Lib.encodeRune (r : Int) ++ l.drop q := by rw [hd, List.take_append_drop]
    have h1 := dec_enc r hr (l.drop q)
    rw [← hl1] at h1
    have h2 := dec_enc r hr (l.drop q ++ T)
    rw [← List.append_assoc, ← hl1] at h2
    refine ⟨by rw [h1, h2], ?_, hv, hw⟩
    have h3 : q = (Lib.encodeRune (r : Int)).length := by rw [← hq, h1]
    rw [h3]
    have := congrArg List.length hl1
    rw [List.length_append] at this
    omega
theorem esc_no10 (l : List UInt8) : ∀ j, j < (escV l).2 → l.getD j 0 ≠ 10 ∨ j = 0 := by
  intro j hj
  by_cases h0 : j = 0
  · exact Or.inr h0
  left
  unfold escV at hj
  split at hj
  · omega
  · split at hj
    · next h34 =>
      have hj' : j < 2 := hj
      obtain rfl : j = 1 := by omega
      rcases h34 with h | h <;> (rw [h]; decide)
    · have hnum : ∀ d, (l.getD 1 0 = 117 ∨ l.getD 1 0 = 85) → j < (numV l d).2 → l.getD j 0 ≠ 10 := by
        intro d h1 hj
        unfold numV at hj
        split at hj
        · next hc =>
          have hj' : j < 2 + d := hj
          by_cases hj1 : j = 1
          · rw [hj1]; rcases h1 with h | h <;> (rw [h]; decide)
          · have hm : l.getD j 0 ∈ (l.drop 2).take d := by
              rw [List.getD_eq_getElem?_getD, List.getElem?_eq_getElem (by omega), Option.getD_some]
              rw [List.mem_iff_getElem]
              refine ⟨j - 2, by rw [List.length_take, List.length_drop]; omega, ?_⟩
              rw [List.getElem_take, List.getElem_drop]
              congr 1
              omega
            have := List.all_eq_true.1 hc.2 _ hm
            intro e
            rw [e] at this
            exact absurd this (by decide)
        · exact absurd hj (Nat.not_lt_zero _)
      split at hj
      · next h => exact hnum 4 (Or.inl h) hj
      · split at hj
        · next h => exact hnum 6 (Or.inr h) hj
        · exact absurd hj (Nat.not_lt_zero _)
theorem esc_app (A : List UInt8) (T : List UInt8) (hA : A ≠ []) : escV (A ++ 10 :: T) = escV (A ++ [10]) := by
  have hAl : 0 < A.length := List.length_pos_iff.2 hA
  have c1 : ∀ B : List UInt8, ¬ (A ++ 10 :: B).length < 2 := fun B => by rw [List.length_append, List.length_cons]; omega
  by_cases hA1 : A.length = 1
  · have hg : ∀ B : List UInt8, (A ++ 10 :: B).getD 1 0 = 10 := fun B => by
      rw [List.getD_eq_getElem?_getD, List.getElem?_append_right (by omega), hA1]
      rfl
    have h0 : ∀ B : List UInt8, escV (A ++ 10 :: B) = (0, 0) := fun B => by
      unfold escV
      rw [if_neg (c1 B), hg B, if_neg (by decide), if_neg (by decide), if_neg (by decide)]
    rw [h0 T, h0 []]
  have hA2 : 2 ≤ A.length := by omega
  have hg : ∀ B : List UInt8, (A ++ 10 :: B).getD 1 0 = A.getD 1 0 := fun B => by
    rw [List.getD_eq_getElem?_getD, List.getD_eq_getElem?_getD, List.getElem?_append_left (by omega)]
  have hnum : ∀ d, numV (A ++ 10 :: T) d = numV (A ++ [10]) d := by
    intro d
    unfold numV
    by_cases hd : 2 + d ≤ A.length
    · have e1 : ((A ++ 10 :: T).drop 2).take d = ((A ++ [10]).drop 2).take d := by
        rw [List.drop_append_of_le_length (by omega), List.drop_append_of_le_length (by omega), List.take_append_of_le_length (by rw [List.length_drop]; omega), List.take_append_of_le_length (by rw [List.length_drop]; omega)]
      rw [e1]
      have a1 : 2 + d ≤ (A ++ 10 :: T).length := by rw [List.length_append]; omega
      have a2 : 2 + d ≤ (A ++ [10]).length := by rw [List.length_append]; omega
      simp only [a1, a2, true_and]
    · have no : ∀ B : List UInt8, ¬ (2 + d ≤ (A ++ 10 :: B).length ∧ (((A ++ 10 :: B).drop 2).take d).all (fun c => (hexV c).2) = true) := by
        rintro B ⟨b1, b2⟩
        have hm : (10 : UInt8) ∈ ((A ++ 10 :: B).drop 2).take d := by
          rw [List.drop_append_of_le_length hA2, List.take_append, List.length_drop]
          refine List.mem_append_right _ ?_
          obtain ⟨q, hq⟩ : ∃ q, d - (A.length - 2) = q + 1 := ⟨d - (A.length - 2) - 1, by omega⟩
          rw [hq, List.take_succ_cons]
          exact List.mem_cons_self ..
        exact absurd (List.all_eq_true.1 b2 _ hm) (by decide)
      rw [if_neg (no T), if_neg (no [])]
  unfold escV
  rw [if_neg (c1 T), if_neg (c1 []), hg T, hg [], hnum, hnum]
theorem decodeL_at (s : ByteArray) (pos : Nat) (h : pos < s.size) : Lib.decodeL (s.data.toList.drop pos) = Utf8.decode s pos := by
  have h1 := Lib.decodeGo_extract s pos h
  rw [← extract_drop s pos]
  have hz : (s.extract pos s.size).size ≠ 0 := by simp; omega
  unfold Lib.decodeGo at h1
  rw [if_neg hz] at h1
  unfold Lib.decodeL
  rw [← h1]
theorem last_ten {l A : List UInt8} (hv : Lib.validD l = true) (hl : l = A ++ [10]) (hw : l.length ≤ (Lib.decodeL l).2) : l = [10] := by
  have hne : l ≠ [] := by rw [hl]; simp
  have hv2 := hv
  rw [Lib.validD_step _ hne] at hv
  split at hv
  · cases hv
  · next hn =>
    have hd := Lib.encode_decode l hne hn
    have hr := decodeL_ok l
    rw [List.take_of_length_le hw] at hd
    by_cases h1 : 1 < (Lib.encodeRune ((Lib.decodeL l).1 : Int)).length
    · have := enc_high _ hr h1 10 (by rw [hd, hl]; simp)
      exact absurd this (by decide)
    · rw [hd, hl, List.length_append, List.length_singleton] at h1
      have : A = [] := List.eq_nil_of_length_eq_zero (by omega)
      rw [hl, this]
      rfl
theorem first_of {l : List UInt8} (hv : Lib.validD l = true) (hne : l ≠ []) (c : UInt8) (hc : c.toNat < 128) (h : (Lib.decodeL l).1 = c.toNat) : l.getD 0 0 = c := by
  have hv2 := hv
  rw [Lib.validD_step _ hne] at hv
  split at hv
  · cases hv
  · next hn =>
    have hd := Lib.encode_decode l hne hn
    have hw := Lib.decodeL_width l
    rw [h, enc1 _ (by omega)] at hd
    cases l with
    | nil => exact absurd rfl hne
    | cons x l =>
      obtain ⟨w, hw2⟩ : ∃ w, (Lib.decodeL (x :: l)).2 = w + 1 := ⟨(Lib.decodeL (x :: l)).2 - 1, by omega⟩
      rw [hw2, List.take_succ_cons] at hd
      injection hd with h1 _
      show x = c
      rw [← h1]
      apply UInt8.toNat_inj.1
      exact byte_z _ (by omega)
theorem unq_pre {U S : ByteArray} {T A : List UInt8} (hST : S.data.toList = U.data.toList ++ T) (hA : U.data.toList = A ++ [10]) : ∀ (m pos next : Nat) (acc : List UInt8) (fu fs : Nat), U.size - pos ≤ m → pos < U.size → Bd U pos →
    (∀ j, pos ≤ j → j < next → at0 U.data.toList j ≠ 10 ∧ j < U.size) → U.size - pos ≤ fu → U.size - pos ≤ fs → unqFrom S fs pos next acc = unqFrom U fu pos next acc
  | m, pos, next, acc, fu, fs, hm, hp, hb, hN, hfu, hfs => by
    obtain ⟨fu, rfl⟩ : ∃ f, fu = f + 1 := ⟨fu - 1, by omega⟩
    obtain ⟨fs, rfl⟩ : ∃ f, fs = f + 1 := ⟨fs - 1, by omega⟩
    have hSz : S.size = U.size + T.length := by rw [← size_data, hST, List.length_append, size_data]
    have hdr : S.data.toList.drop pos = U.data.toList.drop pos ++ T := by rw [hST, List.drop_append_of_le_length (by rw [size_data]; omega)]
    have hne : U.data.toList.drop pos ≠ [] := by
      intro e
      have := congrArg List.length e
      rw [List.length_drop, size_data, List.length_nil] at this
      omega
    obtain ⟨g1, g2, g3, g4⟩ := dec_app hb hne T
    have d1 := decodeL_at U pos hp
    have d2 := decodeL_at S pos (by omega)
    rw [hdr, g1, d1] at d2
    have hlast : U.data.toList.drop pos = A.drop pos ++ [10] ∧ pos ≤ A.length := by
      have hAl : A.length + 1 = U.size := by rw [← size_data, hA, List.length_append]; rfl
      refine ⟨by rw [hA, List.drop_append_of_le_length (by omega)], by omega⟩
    have hnext : (Utf8.decode U pos).1 ≠ 10 → pos + (Utf8.decode U pos).2 < U.size := by
      intro h10
      refine Nat.lt_of_not_le fun hle => ?_
      have h1 := last_ten hb hlast.1 (by rw [d1, List.length_drop, size_data]; omega)
      rw [← d1, h1] at h10
      exact h10 (by decide)
    rw [d1] at g2 g3 g4
    rw [List.drop_drop] at g3
    rw [unqFrom, unqFrom, if_pos hp, if_pos (by omega), ← d2]
    by_cases h1 : pos < next
    · rw [if_pos h1, if_pos h1]
      have h10 : (Utf8.decode U pos).1 ≠ 10 := by
        intro e
        have := first_of hb hne 10 (by decide) (by rw [d1, e]; rfl)
        have h2 : at0 U.data.toList pos = 10 := by
          unfold at0
          rw [List.getD_eq_getElem?_getD] at this ⊢
          rw [List.getElem?_drop, Nat.add_zero] at this
          exact this
        exact (hN pos (Nat.le_refl _) h1).1 h2
      cases m with
      | zero => omega
      | succ m => exact unq_pre hST hA m _ next acc fu fs (by omega) (hnext h10) g3 (fun j a b => hN j (by omega) b) (by omega) (by omega)
    rw [if_neg h1, if_neg h1]
    by_cases h2 : (Utf8.decode U pos).1 = 34
    · rw [if_pos h2, if_pos h2]
    rw [if_neg h2, if_neg h2]
    by_cases h3 : (Utf8.decode U pos).1 = 10
    · rw [if_pos h3, if_pos h3]
    rw [if_neg h3, if_neg h3]
    by_cases h4 : (Utf8.decode U pos).1 = 92
    · rw [if_pos h4, if_pos h4]
      have hA0 : A.drop pos ≠ [] := by
        intro e
        rw [hlast.1, e] at d1
        rw [← d1] at h4
        exact absurd h4 (by decide)
      have he : escV (S.data.toList.drop pos) = escV (U.data.toList.drop pos) := by
        rw [hdr, hlast.1, List.append_assoc]
        exact esc_app _ T hA0
      rw [he]
      by_cases h5 : (escV (U.data.toList.drop pos)).2 = 0
      · rw [if_pos h5, if_pos h5]
      rw [if_neg h5, if_neg h5]
      cases m with
      | zero => omega
      | succ m =>
        refine unq_pre hST hA m _ _ _ fu fs (by omega) (hnext h3) g3 (fun j a b => ?_) (by omega) (by omega)
        have hr := (escV_range (U.data.toList.drop pos)).2.2
        rw [List.length_drop, size_data] at hr
        refine ⟨?_, by omega⟩
        have := esc_no10 (U.data.toList.drop pos) (j - pos) (by omega)
        rcases this with h | h
        · intro e
          apply h
          unfold at0 at e
          rw [List.getD_eq_getElem?_getD] at e ⊢
          rw [List.getElem?_drop, show pos + (j - pos) = j by omega]
          exact e
        · omega
    rw [if_neg h4, if_neg h4]
    cases m with
    | zero => omega
    | succ m => exact unq_pre hST hA m _ next _ fu fs (by omega) (hnext h3) g3 (fun j a b => absurd b (by omega)) (by omega) (by omega)
section
variable {u s : ByteArray}
theorem Pre.quo (h : Pre u s) (hs : Sn u) {i : Nat} (hi : i < u.size) : quoS s i = quoS u i := by
  have e1 : (s.extract i s.size).data.toList = s.data.toList.drop i := by rw [extract_list, List.take_of_length_le (by rw [size_data]; exact Nat.le_refl _)]
  have e2 : (u.extract i u.size).data.toList = u.data.toList.drop i := by rw [extract_list, List.take_of_length_le (by rw [size_data]; exact Nat.le_refl _)]
  have e3 : s.data.toList.drop i = u.data.toList.drop i ++ s.data.toList.drop u.size := by
    have h1 := List.take_append_drop u.size s.data.toList
    rw [h.tk] at h1
    conv => lhs; rw [← h1]
    rw [List.drop_append_of_le_length (by rw [size_data]; omega)]
  have hq : unqAll (s.extract i s.size) = unqAll (u.extract i u.size) := by
    unfold unqAll
    have hl := h.lt
    have p1 : Lib.hasPrefix (s.extract i s.size).data.toList [34] = (at0 u.data.toList i == 34) := by
      rw [e1, drop_at (by omega), h.at_ hi]
      unfold Lib.hasPrefix
      simp [List.isPrefixOf, Bool.beq_comm]
    have p2 : Lib.hasPrefix (u.extract i u.size).data.toList [34] = (at0 u.data.toList i == 34) := by
      rw [e2, drop_at hi]
      unfold Lib.hasPrefix
      simp [List.isPrefixOf, Bool.beq_comm]
    rw [p1, p2]
    by_cases h34 : at0 u.data.toList i = 34
    · rw [if_pos (beq_iff_eq.2 h34), if_pos (beq_iff_eq.2 h34)]
      have zU : (u.extract i u.size).size = u.size - i := by rw [ByteArray.size_extract]; omega
      have zS : (s.extract i s.size).size = s.size - i := by rw [ByteArray.size_extract]; omega
      have hlast : ∃ A, (u.extract i u.size).data.toList = A ++ [10] := by
        refine ⟨(u.data.toList.drop i).take (u.size - 1 - i), ?_⟩
        rw [e2]
        have h1 := List.take_append_drop (u.size - 1 - i) (u.data.toList.drop i)
        conv => lhs; rw [← h1]
        congr 1
        rw [List.drop_drop, show i + (u.size - 1 - i) = u.size - 1 by omega, drop_at (by omega), h.l1, show u.size - 1 + 1 = u.size by omega, List.drop_eq_nil_of_le (by rw [size_data]; exact Nat.le_refl _)]
      obtain ⟨A, hA⟩ := hlast
      have hb : Bd (u.extract i u.size) 0 := by
        unfold Bd
        rw [e2, List.drop_zero]
        exact bd_here hs hi (by rw [h34]; decide)
      refine unq_pre (T := s.data.toList.drop u.size) (by rw [e1, e2, e3]) hA (u.size - i) 0 1 [] _ _ (by omega) (by omega) hb (fun j a b => ?_) (by omega) (by omega)
      obtain rfl : j = 0 := by omega
      refine ⟨?_, by omega⟩
      have : at0 (u.extract i u.size).data.toList 0 = 34 := by
        rw [ext_at0 u i u.size 0 (Nat.le_refl _) (by omega), Nat.add_zero, h34]
      rw [this]
      decide
    · rw [if_neg (fun e => h34 (beq_iff_eq.1 e)), if_neg (fun e => h34 (beq_iff_eq.1 e))]
  unfold quoS
  rw [hq]
end
end Go.Proofs.YtdoambpiafkmmaaGreatDoor
