/-
  Several texts put together (part 32): what the law and the program call, walked; their contracts.
-/
import Derived.Test.YtpgiboblonlddaaGreatDoorQ16
import Derived.Test.YtpgiboblonlddaaGreatDoorQ28
namespace Go.Proofs.YtpgiboblonlddaaGreatDoor
open Go.RowKit
set_option linter.unusedVariables false
set_option linter.unusedSimpArgs false
theorem ext_first (s : ByteArray) (i j : Nat) (hj : j ≤ s.size) (hk : i < j) : at0 (s.extract i j).data.toList 0 = at0 s.data.toList i := by
  unfold at0
  rw [extract_list, List.getD_eq_getElem?_getD, List.getD_eq_getElem?_getD, List.getElem?_drop, List.getElem?_take_of_lt (by omega), Nat.add_zero]
theorem named_sz {s : ByteArray} {i : Nat} (hi : i ≤ s.size) {x : ByteArray} {l : List EL} {e : Nat} (h : namedS s i = some (x, l, e)) : i ≤ e ∧ x.size + sizeEs l ≤ 1 + 8 * (e - i) ∧ leB (at0 x.data.toList 0) = true := by
  have h1 := nm_ok s i hi
  unfold namedS at h
  split at h
  · cases h
  · next hn =>
    split at h
    · next h61 =>
      have h2 := isAt_lt h61
      have h3 := sp_ge s (nm s i)
      split at h
      · cases h
      · next l' e' hp =>
        split at h
        · cases h
          have h4 := pat_sz (place_pos s 20) (place_sz s 20) (i := sp s (nm s i) + 1) h2 hp
          have h5 := ext_le9 s i (nm s i)
          have h0 : i < s.size ∧ leB (at0 s.data.toList i) = true := by
            by_cases hc : i < s.size ∧ leB (at0 s.data.toList i) = true
            · exact hc
            · unfold nm at hn; rw [if_neg hc] at hn; exact absurd rfl hn
          exact ⟨by omega, by omega, by rw [ext_first s i (nm s i) h1.2 (by omega)]; exact h0.2⟩
        · cases h
    · cases h
theorem ts_app1 (n : ByteArray) (v : List EL) : ∀ l : List AT, sizeTs (l ++ [.mk n v]) = sizeTs l + (1 + n.size + sizeEs v)
  | [] => by rw [List.nil_append, sizeTs, sizeTs, sizeTs]; omega
  | .mk m w :: r => by rw [List.cons_append, sizeTs, sizeTs, ts_app1 n v r]; omega
theorem ats_sz {s : ByteArray} : ∀ (m : Nat) (acc : List AT) (i : Nat), s.size - i ≤ m → i ≤ s.size → sizeTs (atsS s acc i).1 ≤ sizeTs acc + 10 * (s.size - i)
  | m, acc, i, hm, hi => by
    rw [atsS]
    split
    · show sizeTs acc ≤ _; omega
    · next x l e hx =>
      split
      · next hl =>
        unfold attrS at hx
        split at hx
        · next hc =>
          rw [Bool.and_eq_true] at hc
          have h1 := isAt_lt hc.1
          have h0 := bl_ge s i
          split at hx
          · cases hx
          · next x' l' e' hn =>
            split at hx
            · cases hx
            · next hne =>
              cases hx
              obtain ⟨g3, g4, _⟩ := named_sz (i := bl s i + 1) h1 hn
              cases m with
              | zero => omega
              | succ m =>
                have k2 := ats_sz m (acc ++ [.mk x l]) e (by omega) hl.2
                rw [ts_app1] at k2
                omega
        · cases hx
      · show sizeTs acc ≤ _; omega
structure GoodE (s : ByteArray) (x : EN) : Prop where
  nm : x.nm.size ≤ 1 + 8 * s.size
  sz : sizeEs x.val + sizeTs x.ats ≤ 1 + 18 * s.size
  le : x.ty = 1 ∨ x.ty = 2 → leB (at0 x.nm.data.toList 0) = true ∧ 0 < x.nm.size
  ty : 0 ≤ x.ty ∧ x.ty ≤ 3
theorem lt_size {x : ByteArray} (h : leB (at0 x.data.toList 0) = true) : 0 < x.size := by
  rcases Nat.eq_zero_or_pos x.size with h0 | h0
  · rw [← size_data] at h0
    rw [List.eq_nil_of_length_eq_zero h0] at h
    exact absurd h (by decide)
  · exact h0
theorem read_good {s : ByteArray} {i : Nat} (hi : i < s.size) : GoodE s (readS s i) := by
  unfold readS
  cases hc : comS s i with
  | some x =>
    dsimp only
    unfold comS at hc
    split at hc
    · cases hc
    · cases hc
      exact ⟨Nat.zero_le _, by show sizeEs [] + sizeTs [] ≤ _; rw [sizeEs, sizeTs]; omega, fun h => by rcases h with h | h <;> exact absurd h (by show ¬ (0 : Int) = _; decide), by show (0 : Int) ≤ 0 ∧ (0 : Int) ≤ 3; decide⟩
  | none =>
    dsimp only
    cases hm : msgS s i with
    | some x =>
      dsimp only
      unfold msgS at hm
      split at hm
      · cases hm
      · next x' l e hn =>
        split at hm
        · next hcond =>
          cases hm
          have hq : (if isAt s i 45 = true then i + 1 else i) ≤ s.size := by split <;> omega
          obtain ⟨g3, g4, g5⟩ := named_sz hq hn
          have he : e ≤ s.size := (named_pos hq hn).2
          have k2 := ats_sz (s := s) s.size [] e (by omega) he
          rw [sizeTs] at k2
          refine ⟨by show x'.size ≤ _; omega, by show sizeEs l + sizeTs (atsS s [] e).1 ≤ _; omega, fun _ => ⟨g5, lt_size g5⟩, ?_⟩
          show 0 ≤ (if isAt s i 45 = true then (2 : Int) else 1) ∧ (if isAt s i 45 = true then (2 : Int) else 1) ≤ 3
          split <;> decide
        · cases hm
    | none =>
      dsimp only
      exact ⟨Nat.zero_le _, by show sizeEs [] + sizeTs [] ≤ _; rw [sizeEs, sizeTs]; omega, fun h => by rcases h with h | h <;> exact absurd h (by show ¬ (3 : Int) = _; decide), by show (0 : Int) ≤ 3 ∧ (3 : Int) ≤ 3; decide⟩
theorem go_good {s : ByteArray} : ∀ (m : Nat) (acc : List EN) (i : Nat), s.size - i ≤ m → (∀ x ∈ acc, GoodE s x) → acc.length ≤ i → (∀ x ∈ parseGo s acc i, GoodE s x) ∧ (parseGo s acc i).length ≤ max acc.length s.size
  | m, acc, i, hm, ha, hl => by
    rw [parseGo]
    split
    · next h =>
      cases m with
      | zero => omega
      | succ m =>
        obtain ⟨h1, h2⟩ := go_good (s := s) m (acc ++ [readS s i]) (passE s (readS s i).tu) (by omega) (fun x hx => by
          rcases List.mem_append.1 hx with hx | hx
          · exact ha x hx
          · rw [List.mem_singleton] at hx; rw [hx]; exact read_good h.1) (by rw [List.length_append]; simp; omega)
        refine ⟨h1, ?_⟩
        rw [List.length_append] at h2
        simp at h2
        omega
    · exact ⟨ha, Nat.le_max_left _ _⟩
theorem parse_good (s : ByteArray) : (∀ x ∈ parseS s, GoodE s x) ∧ (parseS s).length ≤ s.size := by
  obtain ⟨h1, h2⟩ := go_good (s := s) s.size [] (passE s 0) (by omega) (fun x h => by simp at h) (Nat.zero_le _)
  refine ⟨h1, ?_⟩
  simp at h2
  exact h2
end Go.Proofs.YtpgiboblonlddaaGreatDoor
