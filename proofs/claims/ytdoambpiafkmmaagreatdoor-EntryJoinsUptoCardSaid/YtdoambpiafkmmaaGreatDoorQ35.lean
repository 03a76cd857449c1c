/-
  Several texts put together (part 35): what the law and the program call, walked; their contracts.
-/
import Derived.Test.YtdoambpiafkmmaaGreatDoorQ34
import Derived.Test.YtdoambpiafkmmaaGreatDoorQ31
namespace Go.Proofs.YtdoambpiafkmmaaGreatDoor
open Go.RowKit
set_option linter.unusedVariables false
set_option linter.unusedSimpArgs false
theorem or_some {α : Type} {a b : Option α} {v : α} (h : a.or b = some v) : a = some v ∨ b = some v := by
  cases a with
  | none => exact .inr (by simpa using h)
  | some x => exact .inl (by simpa using h)
section
variable {s : ByteArray} {P : Nat → Res} {i j : Nat} {e : EX}
theorem quo_pos (hi : i ≤ s.size) (h : quoS s i = some (e, j)) : i < j ∧ j ≤ s.size := by
  obtain ⟨T, n, b, _, hn, _, h4⟩ := quo_val s i hi
  obtain ⟨rfl, _, h0⟩ := h4 _ _ h
  omega
theorem var_pos (hi : i ≤ s.size) (h : varS s i = some (e, j)) : i < j ∧ j ≤ s.size := by
  unfold varS at h
  split at h
  · next hc =>
    rw [Bool.and_eq_true, decide_eq_true_iff] at hc
    have h1 := isAt_lt hc.1
    have h2 := nm_ok s (i + 1) h1
    cases h
    omega
  · cases h
theorem nest_pos (hP : PosOk s P) (h : nestS P i = some (e, j)) : i < j ∧ j ≤ s.size := by
  unfold nestS at h
  split at h
  · next hp => cases h; exact hP _ _ _ hp
  · cases h
theorem ref_pos {k : Int} (hi : i ≤ s.size) (h : refS k s i = some (e, j)) : i < j ∧ j ≤ s.size := by
  unfold refS at h
  have h1 := nm_ok s i hi
  split at h
  · cases h
  · split at h
    · next hd =>
      have h2 := isAt_lt hd
      have h3 := nm_ok s (nm s i + 1) h2
      split at h
      · cases h
      · cases h; omega
    · cases h; omega
theorem ter_pos (hi : i ≤ s.size) (h : terS s i = some (e, j)) : i < j ∧ j ≤ s.size := by
  unfold terS at h
  split at h
  · next hc =>
    have h1 := isAt_lt hc
    have := ref_pos (by omega) h
    omega
  · cases h
theorem nub_pos (hi : i ≤ s.size) (h : nubS s i = some (e, j)) : i < j ∧ j ≤ s.size := by
  unfold nubS at h
  have h1 := nu_ok s i hi
  split at h
  · cases h
  · cases h; omega
theorem head_pos (hP : PosOk s P) (hi : i ≤ s.size) (h : headS P s i = some (e, j)) : i < j ∧ j ≤ s.size := by
  unfold headS at h
  rcases or_some h with h | h
  · exact quo_pos hi h
  rcases or_some h with h | h
  · exact var_pos hi h
  rcases or_some h with h | h
  · exact nest_pos hP h
  rcases or_some h with h | h
  · exact ter_pos hi h
  rcases or_some h with h | h
  · exact ref_pos hi h
  · exact nub_pos hi h
theorem opn_pos (e : EX) (hj : j ≤ s.size) : j ≤ (opnS s e j).2 ∧ (opnS s e j).2 ≤ s.size := by
  unfold opnS
  have h1 := bl_ok s j hj
  split
  · split
    · next hc => have h2 := isAt_lt hc; exact ⟨by show j ≤ bl s j + 1; omega, h2⟩
    · exact h1
  · exact ⟨Nat.le_refl _, hj⟩
theorem nam_pos {n : ByteArray} (hi : i ≤ s.size) (h : namS s i = some (n, e, j)) : i < j ∧ j ≤ s.size := by
  unfold namS at h
  have h1 := nm_ok s i hi
  have h2 := bl_ok s (nm s i) h1.2
  split at h
  · cases h
  · split at h
    · next hc =>
      have h3 := isAt_lt hc
      have h4 := bl_ok s (bl s (nm s i) + 1) h3
      split at h
      · next e' q ho =>
        cases h
        have : bl s (bl s (nm s i) + 1) < j ∧ j ≤ s.size := by
          rcases or_some ho with ho | ho
          · exact quo_pos h4.2 ho
          · exact nub_pos h4.2 ho
        omega
      · cases h
    · cases h
theorem arg_pos {n : ByteArray} (hP : PosOk s P) (hi : i ≤ s.size) (h : argS P s i = some (n, e, j)) : i < j ∧ j ≤ s.size := by
  unfold argS at h
  split at h
  · next hn => cases h; exact nam_pos hi hn
  · split at h
    · next hh => cases h; exact head_pos hP hi hh
    · cases h
theorem args_pos (hP : PosOk s P) : ∀ (m : Nat) (xs : List AR) (want : Bool) (i : Nat), s.size - i ≤ m → i ≤ s.size → ∀ l j, argsS P s xs want i = some (l, j) → i < j ∧ j ≤ s.size := by
  intro m
  induction m with
  | zero =>
    intro xs want i hm hi l j h
    have h1 := bl_ok s i hi
    rw [argsS] at h
    split at h
    · next hc => have := isAt_lt hc; omega
    · split at h
      · split at h
        · next hc => have := isAt_lt hc; omega
        · cases h
      · split at h
        · cases h
        · next hh => have := arg_pos hP h1.2 hh; omega
  | succ m ih =>
    intro xs want i hm hi l j h
    have h1 := bl_ok s i hi
    rw [argsS] at h
    split at h
    · next hc => have := isAt_lt hc; cases h; omega
    · split at h
      · split at h
        · next hc =>
          have h2 := isAt_lt hc
          have := ih _ _ _ (by omega) h2 l j h
          omega
        · cases h
      · split at h
        · cases h
        · next n e' j' hh =>
          have h2 := arg_pos hP h1.2 hh
          split at h
          · split at h
            · next hg =>
              split at h
              · cases h
              · next hh2 =>
                have h3 := ih _ _ _ (by omega) hg.2 _ _ hh2
                split at h
                · next hg2 =>
                  split at h
                  · have := ih _ _ _ (by omega) hg2.2 l j h
                    omega
                  · cases h
                · cases h
            · cases h
          · generalize (if emp n = true then (opnS s e' j').2 else j') = q at h
            split at h
            · next hg =>
              split at h
              · have := ih _ _ _ (by omega) hg.2 l j h
                omega
              · cases h
            · cases h
theorem inl_pos (hP : PosOk s P) (hi : i ≤ s.size) (h : inlS P s i = some (e, j)) : i < j ∧ j ≤ s.size := by
  unfold inlS at h
  split at h
  · cases h
  · next e' j' hh =>
    have h1 := head_pos hP hi hh
    have h2 := opn_pos e' h1.2
    split at h
    · split at h
      · cases h
      · next ha =>
        cases h
        have := args_pos hP _ _ _ _ (Nat.le_refl _) h2.2 _ _ ha
        omega
    · cases h; omega
theorem vars_pos : ∀ (m : Nat) (acc : List VA) (i : Nat), s.size - i ≤ m → i ≤ s.size → ∀ l j, varsS P s acc i = some (l, j) → i < j ∧ j ≤ s.size := by
  intro m
  induction m with
  | zero =>
    intro acc i hm hi l j h
    rw [varsS] at h
    split at h
    · next hc => have := isAt_lt hc; omega
    · split at h
      · cases h
      · split at h
        · next hg => omega
        · cases h
  | succ m ih =>
    intro acc i hm hi l j h
    rw [varsS] at h
    split at h
    · next hc =>
      have := isAt_lt hc
      split at h
      · cases h; omega
      · cases h
    · split at h
      · cases h
      · split at h
        · next hg => have := ih _ _ (by omega) hg.2 l j h; omega
        · cases h
theorem sel_pos {l : List VA} (hi : i ≤ s.size) (h : selS P s i = some (l, j)) : i < j ∧ j ≤ s.size := by
  unfold selS at h
  have h1 := sp_ok s i hi
  split at h
  · next hc =>
    have h2 := isAt_lt hc
    have h3 := bl_ok s (sp s i + 1) h2
    have := vars_pos _ _ _ (Nat.le_refl _) h3.2 _ _ h
    omega
  · cases h
theorem pl_pos (hP : PosOk s P) : PosOk s (plS P s) := by
  intro i e j h
  unfold plS at h
  split at h
  · next hc =>
    have h1 := isAt_lt hc
    have h2 := bl_ok s (i + 1) h1
    split at h
    · cases h
    · next e' j' hin =>
      have h3 := inl_pos hP h2.2 hin
      have h4 := bl_ok s j' h3.2
      split at h
      · next hb =>
        have h5 := isAt_lt hb
        split at h
        · cases h
        · cases h; omega
      · split at h
        · next hb =>
          rw [Bool.and_eq_true, Bool.and_eq_true] at hb
          have h5 := isAt_lt hb.1.2
          split at h
          · cases h
          · next hsl =>
            cases h
            have := sel_pos (by omega) hsl
            omega
        · cases h
  · cases h
end
theorem place_pos (s : ByteArray) : ∀ r, PosOk s (placeS s r)
  | 0 => by
    intro i e j h
    rw [placeS] at h
    cases h
  | r + 1 => by
    rw [placeS_succ]
    exact pl_pos (place_pos s r)
def InKnot (rb : Nat) (s : ByteArray) : Prop := ∀ (d : Nat) (P : Nat → Res), d ≤ 20 → WayTo rb s 25 #[pt rb, .int .i64 ((d + 1 : Nat) : Int)] P → PosOk s P → WayTo rb s 51 #[pt rb, .int .i64 d] (inlS P s)
theorem place_knot {rb : Nat} {s : ByteArray} (hs : s.size ≤ 1000000) (hIn : InKnot rb s) : ∀ (r d : Nat), d + r = 21 → WayTo rb s 25 #[pt rb, .int .i64 (d : Nat)] (placeS s r)
  | 0, d, h => by
    have := place_deep (rb := rb) (s := s) (d := d) (by omega) (by omega)
    have e : placeS s 0 = fun _ => none := by funext i; rw [placeS]
    rw [e]
    exact this
  | r + 1, d, h => by
    rw [placeS_succ]
    have hP := place_knot hs hIn r (d + 1) (by omega)
    have hPos := place_pos s r
    refine place_any hs (by omega) (hIn d _ (by omega) hP hPos) ?_
    intro i w hr hi
    exact variants_any hs (by omega) (pattern_any hs (by omega) hP hPos) i w hr hi
end Go.Proofs.YtdoambpiafkmmaaGreatDoor

namespace Go.Proofs.YtdoambpiafkmmaaGreatDoor
open Go.RowKit
set_option linter.unusedVariables false
set_option linter.unusedSimpArgs false
def Mo (P1 P : Nat → Res) : Prop := ∀ i e j, P1 i = some (e, j) → P i = some (e, j)
def Br (s : ByteArray) (P : Nat → Res) : Prop := ∀ i e j, P i = some (e, j) → isAt s i 123 = true
theorem place_br (s : ByteArray) : ∀ r, Br s (placeS s r)
  | 0, i, e, j, h => by rw [placeS] at h; cases h
  | r + 1, i, e, j, h => by
    rw [placeS] at h
    split at h
    · next hc => exact hc
    · cases h
section
variable {u s : ByteArray}
theorem Pre.step (h : Pre u s) {i : Nat} {c : UInt8} (hi : isAt u i c = true) (hc : c ≠ 10) : i + 1 < u.size := by
  have h1 := isAt_lt hi
  have h2 := isAt_eq hi
  refine Nat.lt_of_le_of_ne h1 fun e => ?_
  rw [show i = u.size - 1 by omega, h.l1] at h2
  exact hc h2.symm
theorem Pre.var (h : Pre u s) {i : Nat} (hi : i < u.size) : varS s i = varS u i := by
  unfold varS
  rw [h.is (Nat.le_of_lt hi) (by decide)]
  cases h36 : isAt u i 36
  · rw [Bool.false_and, Bool.false_and, if_neg (by simp), if_neg (by simp)]
  · have h1 := h.step h36 (by decide)
    obtain ⟨e1, q1⟩ := h.nm_ h1
    rw [e1, h.ext _ (Nat.le_of_lt q1)]
theorem Pre.ref (h : Pre u s) (k : Int) {i : Nat} (hi : i < u.size) : refS k s i = refS k u i := by
  obtain ⟨e1, q1⟩ := h.nm_ hi
  unfold refS
  rw [e1, h.is (Nat.le_of_lt q1) (by decide), h.ext _ (Nat.le_of_lt q1)]
  cases h46 : isAt u (nm u i) 46
  · rfl
  · have h1 := h.step h46 (by decide)
    obtain ⟨e2, q2⟩ := h.nm_ h1
    rw [e2, h.ext _ (Nat.le_of_lt q2)]
theorem Pre.ter (h : Pre u s) {i : Nat} (hi : i < u.size) : terS s i = terS u i := by
  unfold terS
  rw [h.is (Nat.le_of_lt hi) (by decide)]
  cases h45 : isAt u i 45
  · rfl
  · rw [if_pos rfl, if_pos rfl, h.ref 4 (h.step h45 (by decide))]
theorem Pre.nub (h : Pre u s) {i : Nat} (hi : i < u.size) : nubS s i = nubS u i := by
  obtain ⟨e1, q1⟩ := h.nu_ hi
  unfold nubS
  rw [e1, h.ext _ (Nat.le_of_lt q1)]
theorem no_late {i : Nat} (hi : i < u.size) (h : at0 u.data.toList i = 123) : (terS u i).or ((refS 3 u i).or (nubS u i)) = none := by
  have h1 : isAt u i 45 = false := by
    unfold isAt
    rw [h]
    simp
  have h2 : nm u i = i := by
    unfold nm
    rw [if_neg (fun g => by rw [h] at g; exact absurd g.2 (by decide))]
  have h3 : nu u i = i := by
    unfold nu numN
    dsimp only
    have ea : (if i < u.data.toList.length ∧ at0 u.data.toList i = 45 then i + 1 else i) = i := if_neg (fun g => by rw [h] at g; exact absurd g.2 (by decide))
    rw [ea]
    have e : behN dgB u.data.toList i = i := by
      rw [beh_go dgB u.data.toList (by rw [size_data]; exact hi), h]
      rfl
    rw [e, if_neg (Nat.lt_irrefl _)]
  unfold terS refS nubS
  rw [h1, if_neg (by simp), if_pos h2, if_pos h3]
  rfl
theorem head_mo (h : Pre u s) (hs : Sn u) {P1 P : Nat → Res} (hM : Mo P1 P) (hB : Br s P) {i : Nat} (hi : i < u.size) {e : EX} {j : Nat} (hh : headS P1 u i = some (e, j)) : headS P s i = some (e, j) := by
  unfold headS at hh ⊢
  rw [h.quo hs hi, h.var hi, h.ter hi, h.ref 3 hi, h.nub hi]
  cases hq : quoS u i with
  | some x => rw [hq] at hh; exact hh
  | none =>
    rw [hq, Option.none_or] at hh
    rw [Option.none_or]
    cases hv : varS u i with
    | some x => rw [hv] at hh; exact hh
    | none =>
      rw [hv, Option.none_or] at hh
      rw [Option.none_or]
      cases hn : nestS P1 i with
      | some x =>
        rw [hn, Option.some_or] at hh
        cases hh
        unfold nestS at hn
        split at hn
        · next e' j' hp =>
          cases hn
          unfold nestS
          rw [hM _ _ _ hp]
          rfl
        · cases hn
      | none =>
        rw [hn, Option.none_or] at hh
        have hP : nestS P i = none := by
          unfold nestS
          cases hp : P i with
          | none => rfl
          | some x =>
            exfalso
            have h1 := hB _ _ _ hp
            have h2 := isAt_eq h1
            rw [h.at_ hi] at h2
            rw [no_late hi h2] at hh
            cases hh
        rw [hP, Option.none_or]
        exact hh
theorem opn_pre (h : Pre u s) (e : EX) {i : Nat} (hi : i ≤ u.size) : opnS s e i = opnS u e i := by
  have hb := bl_ok u i hi
  unfold opnS
  rw [h.bl_ hi, h.is hb.2 (by decide)]
theorem end_none (h : Pre u s) : quoS s u.size = none ∧ nubS s u.size = none ∧ quoS u u.size = none ∧ nubS u u.size = none := by
  have hl := h.lt
  have q0 : ∀ x : ByteArray, ∀ i, (x.data.toList.drop i).head? ≠ some 34 → quoS x i = none := by
    intro x i hx
    unfold quoS unqAll
    have : Lib.hasPrefix (x.extract i x.size).data.toList [34] = false := by
      rw [extract_list, List.take_of_length_le (by rw [size_data]; exact Nat.le_refl _)]
      unfold Lib.hasPrefix
      cases hd : x.data.toList.drop i with
      | nil => rfl
      | cons c r =>
        rw [hd] at hx
        simp only [List.head?_cons, ne_eq, Option.some.injEq] at hx
        simp [List.isPrefixOf]
        exact fun e => hx e.symm
    rw [this]
    rfl
  have n0 : ∀ x : ByteArray, ∀ i, nu x i = i → nubS x i = none := fun x i hx => by unfold nubS; rw [if_pos hx]
  refine ⟨q0 s _ ?_, n0 s _ ?_, q0 u _ ?_, n0 u _ ?_⟩
  · rw [drop_at (by omega), h.nx]; simp
  · unfold nu numN
    dsimp only
    have ea : (if u.size < s.data.toList.length ∧ at0 s.data.toList u.size = 45 then u.size + 1 else u.size) = u.size := if_neg (fun g => by rw [h.nx] at g; exact absurd g.2 (by decide))
    rw [ea]
    have e : behN dgB s.data.toList u.size = u.size := by
      rw [beh_go dgB s.data.toList (by rw [size_data]; exact hl), h.nx]
      rfl
    rw [e, if_neg (Nat.lt_irrefl _)]
  · rw [List.drop_eq_nil_of_le (by rw [size_data]; exact Nat.le_refl _)]; simp
  · have := nu_ok u u.size (Nat.le_refl _)
    omega
set_option maxHeartbeats 1000000 in
theorem nam_pre (h : Pre u s) (hs : Sn u) {i : Nat} (hi : i < u.size) : namS s i = namS u i := by
  obtain ⟨e1, q1⟩ := h.nm_ hi
  have hb := bl_ok u (nm u i) (Nat.le_of_lt q1)
  unfold namS
  rw [e1, h.bl_ (Nat.le_of_lt q1), h.is hb.2 (by decide), h.ext _ (Nat.le_of_lt q1)]
  cases h58 : isAt u (bl u (nm u i)) 58
  · simp only [Bool.false_eq_true, if_false]
  · have h1 := h.step h58 (by decide)
    have hb2 := bl_ok u (bl u (nm u i) + 1) (Nat.le_of_lt h1)
    rw [h.bl_ (Nat.le_of_lt h1)]
    by_cases hq : bl u (bl u (nm u i) + 1) < u.size
    · rw [h.quo hs hq, h.nub hq]
    · have e : bl u (bl u (nm u i) + 1) = u.size := by omega
      obtain ⟨a1, a2, a3, a4⟩ := end_none h
      rw [e, a1, a2, a3, a4]
theorem arg_mo (h : Pre u s) (hs : Sn u) {P1 P : Nat → Res} (hM : Mo P1 P) (hB : Br s P) (hP1 : PosOk u P1) {i : Nat} (hi : i ≤ u.size) {n : ByteArray} {e : EX} {j : Nat} (hh : argS P1 u i = some (n, e, j)) : argS P s i = some (n, e, j) := by
  have hp := arg_pos hP1 hi hh
  have hlt : i < u.size := by omega
  unfold argS at hh ⊢
  rw [nam_pre h hs hlt]
  cases hn : namS u i with
  | some x => rw [hn] at hh; exact hh
  | none =>
    rw [hn] at hh
    dsimp only at hh ⊢
    cases hd : headS P1 u i with
    | none => rw [hd] at hh; cases hh
    | some x =>
      obtain ⟨e', j'⟩ := x
      rw [hd] at hh
      rw [head_mo h hs hM hB hlt hd]
      exact hh
theorem args_mo (h : Pre u s) (hs : Sn u) {P1 P : Nat → Res} (hM : Mo P1 P) (hB : Br s P) (hP1 : PosOk u P1) : ∀ (m : Nat) (xs : List AR) (want : Bool) (i : Nat) (xs' : List AR) (j : Nat), u.size - i ≤ m → i ≤ u.size → argsS P1 u xs want i = some (xs', j) → argsS P s xs want i = some (xs', j)
  | m, xs, want, i, xs', j, hm, hi, hh => by
    have hl := h.lt
    have hb := bl_ok u i hi
    rw [argsS.eq_def P1 u xs want i] at hh
    rw [argsS.eq_def P s xs want i, h.bl_ hi, h.is hb.2 (by decide), h.is hb.2 (by decide)]
    by_cases h41 : isAt u (bl u i) 41 = true
    · rw [if_pos h41] at hh ⊢; exact hh
    rw [if_neg h41] at hh ⊢
    cases want with
    | true =>
      rw [if_pos rfl] at hh ⊢
      by_cases h44 : isAt u (bl u i) 44 = true
      · rw [dif_pos h44] at hh ⊢
        have := isAt_lt h44
        cases m with
        | zero => omega
        | succ m => exact args_mo h hs hM hB hP1 m xs false _ xs' j (by omega) (by omega) hh
      · rw [dif_neg h44] at hh; cases hh
    | false =>
      rw [if_neg (by simp)] at hh ⊢
      cases hg : argS P1 u (bl u i) with
      | none => rw [hg] at hh; cases hh
      | some x =>
        obtain ⟨x, e, j'⟩ := x
        have hap := arg_pos hP1 hb.2 hg
        rw [hg] at hh
        rw [arg_mo h hs hM hB hP1 hb.2 hg]
        dsimp only at hh ⊢
        rw [opn_pre h e hap.2]
        by_cases hc : (emp x && (opnS u e j').1) = true
        · rw [if_pos hc] at hh ⊢
          by_cases hq : i < (opnS u e j').2 ∧ (opnS u e j').2 ≤ u.size
          · rw [dif_pos hq] at hh
            rw [dif_pos ⟨hq.1, by omega⟩]
            cases m with
            | zero => omega
            | succ m =>
              cases hin : argsS P1 u [] false (opnS u e j').2 with
              | none => rw [hin] at hh; cases hh
              | some y =>
                obtain ⟨xs2, m2⟩ := y
                rw [hin] at hh
                rw [args_mo h hs hM hB hP1 m [] false _ xs2 m2 (by omega) hq.2 hin]
                dsimp only at hh ⊢
                by_cases hq2 : i < m2 ∧ m2 ≤ u.size
                · rw [dif_pos hq2] at hh
                  rw [dif_pos ⟨hq2.1, by omega⟩]
                  split at hh
                  · next had =>
                    rw [if_pos had]
                    exact args_mo h hs hM hB hP1 m _ true m2 xs' j (by omega) hq2.2 hh
                  · cases hh
                · rw [dif_neg hq2] at hh; cases hh
          · rw [dif_neg hq] at hh; cases hh
        · rw [if_neg hc] at hh ⊢
          obtain ⟨q, hqq⟩ : ∃ q, (if emp x = true then (opnS u e j').2 else j') = q := ⟨_, rfl⟩
          rw [hqq] at hh ⊢
          by_cases hq : i < q ∧ q ≤ u.size
          · rw [dif_pos hq] at hh
            rw [dif_pos ⟨hq.1, by omega⟩]
            cases m with
            | zero => omega
            | succ m =>
              split at hh
              · next had =>
                rw [if_pos had]
                exact args_mo h hs hM hB hP1 m _ true q xs' j (by omega) hq.2 hh
              · cases hh
          · rw [dif_neg hq] at hh; cases hh
theorem inl_mo (h : Pre u s) (hs : Sn u) {P1 P : Nat → Res} (hM : Mo P1 P) (hB : Br s P) (hP1 : PosOk u P1) {i : Nat} (hi : i ≤ u.size) {e : EX} {j : Nat} (hh : inlS P1 u i = some (e, j)) : inlS P s i = some (e, j) := by
  have hp := inl_pos hP1 hi hh
  have hlt : i < u.size := by omega
  unfold inlS at hh ⊢
  cases hd : headS P1 u i with
  | none => rw [hd] at hh; cases hh
  | some x =>
    obtain ⟨e', j'⟩ := x
    have hp2 := head_pos hP1 hi hd
    have ho := opn_pos (s := u) e' hp2.2
    rw [hd] at hh
    rw [head_mo h hs hM hB hlt hd]
    dsimp only at hh ⊢
    rw [opn_pre h e' hp2.2]
    split at hh
    · next h1 =>
      rw [if_pos h1]
      cases ha : argsS P1 u [] false (opnS u e' j').2 with
      | none => rw [ha] at hh; cases hh
      | some y =>
        obtain ⟨xs, m⟩ := y
        rw [ha] at hh
        rw [args_mo h hs hM hB hP1 u.size [] false _ xs m (by omega) ho.2 ha]
        exact hh
    · next h1 =>
      rw [if_neg h1]
      exact hh
theorem addT_pre (h : Pre u s) (acc : List EL) (i : Nat) {j : Nat} (hj : j ≤ u.size) : addT s acc i j = addT u acc i j := by
  unfold addT
  rw [h.ext _ hj]
theorem parts_mo (h : Pre u s) {P1 P : Nat → Res} (hM : Mo P1 P) (hE : EndBr u P1) : ∀ (m : Nat) (acc : List EL) (i : Nat) (ps : List EL) (j : Nat), u.size - i ≤ m → i < u.size → partsS P1 u acc i = some (ps, j) → partsS P s acc i = some (ps, j) ∧ j < u.size
  | m, acc, i, ps, j, hm, hi, hh => by
    have hl := h.lt
    obtain ⟨e1, q1⟩ := h.tx_ hi
    rw [partsS.eq_def P1 u acc i] at hh
    rw [partsS.eq_def P s acc i, e1, h.is (Nat.le_of_lt q1) (by decide), addT_pre h _ _ (Nat.le_of_lt q1)]
    by_cases hc : isAt u (tx u i) 123 = true
    · rw [if_pos hc] at hh ⊢
      cases hp : P1 (tx u i) with
      | none => rw [hp] at hh; cases hh
      | some x =>
        obtain ⟨e, j'⟩ := x
        rw [hp] at hh
        rw [hM _ _ _ hp]
        dsimp only at hh ⊢
        obtain ⟨q, rfl, hq⟩ := hE _ _ _ hp
        have hqs := h.step hq (by decide)
        by_cases hg : i < q + 1 ∧ q + 1 ≤ u.size
        · rw [dif_pos hg] at hh
          rw [dif_pos ⟨hg.1, by omega⟩]
          cases m with
          | zero => omega
          | succ m => exact parts_mo h hM hE m _ _ ps j (by omega) hqs hh
        · rw [dif_neg hg] at hh; cases hh
    · rw [if_neg hc] at hh ⊢
      cases hh
      exact ⟨rfl, q1⟩
theorem nl_pre (h : Pre u s) : ∀ (m f fr i : Nat), u.size - i ≤ m → i ≤ u.size → nlS s f fr i = nlS u f fr i
  | m, f, fr, i, hm, hi => by
    rw [nlS.eq_def s f fr i, nlS.eq_def u f fr i]
    have e1 := h.is hi (c := 10) (by decide)
    by_cases hc : isAt u i 10 = true
    · have h1 := isAt_lt hc
      have h2 := sp_ok u (i + 1) (by omega)
      rw [dif_pos hc, dif_pos (by rw [e1]; exact hc), h.sp_ (i := i + 1) (by omega)]
      cases m with
      | zero => omega
      | succ m => exact nl_pre h m _ _ _ (by omega) h2.2
    · rw [dif_neg hc, dif_neg (by rw [e1]; exact hc)]
theorem next_pre (h : Pre u s) {i : Nat} (hi : i ≤ u.size) : nextS s i = nextS u i := by
  have hl := h.lt
  have hn := nl_shape (s := u) u.size 0 i i (by omega) hi (Or.inl rfl)
  unfold nextS
  rw [nl_pre h u.size 0 i i (by omega) hi]
  obtain ⟨r, hr⟩ : ∃ r, nlS u 0 i i = r := ⟨_, rfl⟩
  rw [hr] at hn ⊢
  obtain ⟨n1, n2, n3⟩ := hn
  by_cases hk : r.2.2 < u.size
  · rw [h.at_ hk]
    by_cases hc : r.2.2 = r.2.1 ∨ r.2.2 = u.size ∨ stopB (at0 u.data.toList r.2.2) = true
    · rw [if_pos hc, if_pos (by rcases hc with hc | hc | hc; exact Or.inl hc; exact absurd hc (by omega); exact Or.inr (Or.inr hc))]
    · rw [if_neg hc, if_neg (fun g => hc (by rcases g with g | g | g; exact Or.inl g; exact absurd g (by omega); exact Or.inr (Or.inr g)))]
  · have e1 : r.2.2 = u.size := by omega
    have e2 : r.2.2 = r.2.1 := by
      rcases n3 with n3 | ⟨n3, n4, _⟩
      · exact n3
      · refine Classical.byContradiction fun hne => ?_
        have hlt : r.2.1 < u.size := by
          have := sp_ge u r.2.1
          omega
        have := (h.beh10 spB (by decide) u.size r.2.1 (by omega) hlt).2
        have e3 : sp u r.2.1 < u.size := this
        omega
    rw [if_pos (Or.inl e2), if_pos (Or.inl e2)]
theorem lines_mo (h : Pre u s) {P1 P : Nat → Res} (hM : Mo P1 P) (hE : EndBr u P1) : ∀ (m : Nat) (acc : List LN) (f p i : Nat) (ls : List LN) (j : Nat), u.size - i ≤ m → i < u.size → linesS P1 u acc f p i = some (ls, j) → linesS P s acc f p i = some (ls, j) ∧ j < u.size
  | m, acc, f, p, i, ls, j, hm, hi, hh => by
    have hl := h.lt
    rw [linesS.eq_def P1 u acc f p i] at hh
    rw [linesS.eq_def P s acc f p i]
    cases hp : partsS P1 u [] i with
    | none => rw [hp] at hh; cases hh
    | some x =>
      obtain ⟨ps, j0⟩ := x
      obtain ⟨g1, g2⟩ := parts_mo h hM hE u.size [] i ps j0 (by omega) hi hp
      rw [hp] at hh
      rw [g1]
      dsimp only at hh ⊢
      rw [next_pre h (Nat.le_of_lt g2)]
      cases hn : nextS u j0 with
      | none =>
        rw [hn] at hh
        cases hh
        exact ⟨rfl, g2⟩
      | some y =>
        obtain ⟨f', p', k⟩ := y
        rw [hn] at hh
        dsimp only at hh ⊢
        have hk : k < u.size := by
          unfold nextS at hn
          split at hn
          · cases hn
          · next hc =>
            have hsh := (nl_shape (s := u) u.size 0 j0 j0 (by omega) (Nat.le_of_lt g2) (Or.inl rfl)).2.1
            cases hn
            rw [not_or, not_or] at hc
            have := hc.2.1
            omega
        by_cases hg : i < k ∧ k ≤ u.size
        · rw [dif_pos hg] at hh
          rw [dif_pos ⟨hg.1, by omega⟩]
          cases m with
          | zero => omega
          | succ m => exact lines_mo h hM hE m _ _ _ k ls j (by omega) hk hh
        · rw [dif_neg hg] at hh; cases hh
theorem pat_mo (h : Pre u s) {P1 P : Nat → Res} (hM : Mo P1 P) (hE : EndBr u P1) {i : Nat} (hi : i < u.size) {l : List EL} {j : Nat} (hh : patS P1 u i = some (l, j)) : patS P s i = some (l, j) ∧ j < u.size := by
  have hsp : sp u i < u.size := (h.beh10 spB (by decide) u.size i (by omega) hi).2
  unfold patS at hh ⊢
  rw [h.sp_ (Nat.le_of_lt hi)]
  cases hd : linesS P1 u [] 0 0 (sp u i) with
  | none => rw [hd] at hh; cases hh
  | some x =>
    obtain ⟨ls, j'⟩ := x
    obtain ⟨g1, g2⟩ := lines_mo h hM hE u.size [] 0 0 _ ls j' (by omega) hsp hd
    rw [hd] at hh
    rw [g1]
    cases hh
    exact ⟨rfl, g2⟩
theorem vari_mo (h : Pre u s) {P1 P : Nat → Res} (hM : Mo P1 P) (hE : EndBr u P1) {i : Nat} (hi : i ≤ u.size) {v : VA} {j : Nat} (hh : variS P1 u i = some (v, j)) : variS P s i = some (v, j) ∧ j < u.size := by
  unfold variS at hh ⊢
  rw [h.is hi (by decide)]
  obtain ⟨q, hq⟩ : ∃ q, (if isAt u i 42 = true then i + 1 else i) = q := ⟨_, rfl⟩
  have hqs : q ≤ u.size := by
    rw [← hq]
    split
    · next hc => exact isAt_lt hc
    · exact hi
  rw [hq] at hh ⊢
  rw [h.is hqs (by decide)]
  by_cases h91 : isAt u q 91 = true
  · rw [if_pos h91] at hh ⊢
    have h1 := h.step h91 (by decide)
    have hb := bl_ok u (q + 1) (Nat.le_of_lt h1)
    rw [h.bl_ (Nat.le_of_lt h1)]
    by_cases hk : keyE u (bl u (q + 1)) = bl u (q + 1)
    · rw [if_pos hk] at hh; cases hh
    · rw [if_neg hk] at hh
      have hlt : bl u (q + 1) < u.size := by
        refine Nat.lt_of_le_of_ne hb.2 fun e => hk ?_
        rw [e]
        have a1 := nm_ok u u.size (Nat.le_refl _)
        have a2 := nu_ok u u.size (Nat.le_refl _)
        unfold keyE
        split <;> omega
      have hke : keyE s (bl u (q + 1)) = keyE u (bl u (q + 1)) ∧ keyE u (bl u (q + 1)) < u.size := by
        obtain ⟨a1, a2⟩ := h.nm_ hlt
        obtain ⟨b1, b2⟩ := h.nu_ hlt
        unfold keyE
        rw [a1, b1]
        refine ⟨rfl, ?_⟩
        split
        · exact b2
        · exact a2
      rw [hke.1, if_neg hk]
      have hb2 := bl_ok u (keyE u (bl u (q + 1))) (Nat.le_of_lt hke.2)
      rw [h.bl_ (Nat.le_of_lt hke.2), h.is hb2.2 (by decide), h.ext _ (Nat.le_of_lt hke.2)]
      by_cases h93 : isAt u (bl u (keyE u (bl u (q + 1)))) 93 = true
      · rw [if_pos h93] at hh ⊢
        have h2 := h.step h93 (by decide)
        cases hp : patS P1 u (bl u (keyE u (bl u (q + 1))) + 1) with
        | none => rw [hp] at hh; cases hh
        | some x =>
          obtain ⟨l, j'⟩ := x
          obtain ⟨g1, g2⟩ := pat_mo h hM hE h2 hp
          rw [hp] at hh
          rw [g1]
          dsimp only at hh ⊢
          rw [h.is (Nat.le_of_lt g2) (by decide)]
          split at hh
          · next hc =>
            rw [if_pos hc]
            cases hh
            exact ⟨rfl, g2⟩
          · cases hh
      · rw [if_neg h93] at hh; cases hh
  · rw [if_neg h91] at hh; cases hh
theorem vars_mo (h : Pre u s) {P1 P : Nat → Res} (hM : Mo P1 P) (hE : EndBr u P1) : ∀ (m : Nat) (acc : List VA) (i : Nat) (vs : List VA) (j : Nat), u.size - i ≤ m → i ≤ u.size → varsS P1 u acc i = some (vs, j) → varsS P s acc i = some (vs, j)
  | m, acc, i, vs, j, hm, hi, hh => by
    have hl := h.lt
    rw [varsS.eq_def P1 u acc i] at hh
    rw [varsS.eq_def P s acc i, h.is hi (by decide)]
    by_cases hc : isAt u i 125 = true
    · rw [if_pos hc] at hh ⊢; exact hh
    · rw [if_neg hc] at hh ⊢
      cases hv : variS P1 u i with
      | none => rw [hv] at hh; cases hh
      | some x =>
        obtain ⟨v, j'⟩ := x
        obtain ⟨g1, g2⟩ := vari_mo h hM hE hi hv
        rw [hv] at hh
        rw [g1]
        dsimp only at hh ⊢
        rw [h.bl_ (Nat.le_of_lt g2)]
        by_cases hg : i < bl u j' ∧ bl u j' ≤ u.size
        · rw [dif_pos hg] at hh
          rw [dif_pos ⟨hg.1, by omega⟩]
          cases m with
          | zero => omega
          | succ m => exact vars_mo h hM hE m _ _ vs j (by omega) hg.2 hh
        · rw [dif_neg hg] at hh; cases hh
theorem place_mo (h : Pre u s) (hs : Sn u) : ∀ r, Mo (placeS u r) (placeS s r)
  | 0, i, e, j, hh => by rw [placeS] at hh; cases hh
  | r + 1, i, e, j, hh => by
    have hM := place_mo h hs r
    have hB := place_br s r
    have hP1 := place_pos u r
    have hE := place_end u r
    rw [placeS] at hh
    rw [placeS]
    by_cases h123 : isAt u i 123 = true
    · have hi := isAt_lt h123
      have h1 := h.step h123 (by decide)
      have hb := bl_ok u (i + 1) (Nat.le_of_lt h1)
      rw [if_pos h123] at hh
      rw [h.is (Nat.le_of_lt hi) (by decide), if_pos h123, h.bl_ (Nat.le_of_lt h1)]
      cases hn : inlS (placeS u r) u (bl u (i + 1)) with
      | none => rw [hn] at hh; cases hh
      | some x =>
        obtain ⟨e0, j0⟩ := x
        have hp := inl_pos hP1 hb.2 hn
        have hb2 := bl_ok u j0 hp.2
        rw [hn] at hh
        rw [inl_mo h hs hM hB hP1 hb.2 hn]
        dsimp only at hh ⊢
        rw [h.bl_ hp.2, h.is hb2.2 (by decide), h.is hb2.2 (by decide)]
        by_cases h125 : isAt u (bl u j0) 125 = true
        · rw [if_pos h125] at hh ⊢; exact hh
        · rw [if_neg h125] at hh ⊢
          cases h45 : isAt u (bl u j0) 45
          · rw [h45] at hh
            simp at hh
          · have h2 := h.step h45 (by decide)
            rw [h45] at hh
            rw [h.is (Nat.le_of_lt h2) (by decide)]
            cases h62 : isAt u (bl u j0 + 1) 62
            · rw [h62] at hh
              simp at hh
            · have h3 := h.step h62 (by decide)
              rw [h62] at hh
              split at hh
              · next hc =>
                rw [if_pos hc]
                unfold selS at hh ⊢
                have hsp := sp_ok u (bl u j0 + 2) (by omega)
                rw [h.sp_ (by omega : bl u j0 + 2 ≤ u.size), h.is hsp.2 (by decide)]
                by_cases h10 : isAt u (sp u (bl u j0 + 2)) 10 = true
                · rw [if_pos h10] at hh ⊢
                  have h4 := isAt_lt h10
                  have hb3 := bl_ok u (sp u (bl u j0 + 2) + 1) h4
                  rw [h.bl_ h4]
                  cases hv : varsS (placeS u r) u [] (bl u (sp u (bl u j0 + 2) + 1)) with
                  | none => rw [hv] at hh; cases hh
                  | some y =>
                    obtain ⟨vs, m⟩ := y
                    rw [hv] at hh
                    rw [vars_mo h hM hE u.size [] _ vs m (by omega) hb3.2 hv]
                    exact hh
                · rw [if_neg h10] at hh; cases hh
              · cases hh
    · rw [if_neg h123] at hh; cases hh
end
end Go.Proofs.YtdoambpiafkmmaaGreatDoor
