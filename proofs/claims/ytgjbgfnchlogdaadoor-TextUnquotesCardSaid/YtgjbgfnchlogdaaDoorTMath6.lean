/-
  The statement's Unquote over signs is the text's over bytes.
-/
import Derived.Test.YtgjbgfnchlogdaaDoorTMath5
import Derived.Test.YtgjbgfnchlogdaaDoorTMath4
namespace Go.Proofs.YtgjbgfnchlogdaaDoor
open Go.RowKit
set_option linter.unusedVariables false
set_option linter.unusedSimpArgs false

def IsSign (q : List UInt8) : Prop := ∃ r : Nat, okRune r ∧ q = Lib.encodeRune (r : Int)
theorem sign_first (q : List UInt8) (h : IsSign q) : ∃ c m, q = c :: m ∧ (c.toNat < 128 → m = []) := by
  obtain ⟨r, hok, rfl⟩ := h
  have hl := enc_len (r : Int)
  obtain ⟨c, m, hcm⟩ := List.exists_cons_of_ne_nil (fun e => by rw [e] at hl; simp at hl : Lib.encodeRune (r : Int) ≠ [])
  refine ⟨c, m, hcm, fun hc => ?_⟩
  have hr := rune_of_enc r hok c m hc hcm
  rw [hr, enc_ascii c.toNat hc] at hcm
  injection hcm with _ h
  exact h.symm
theorem sign_rune (r : Nat) (hok : okRune r) (n : Nat) (hn : n < 128) : Lib.encodeRune (r : Int) = [UInt8.ofNat n] ↔ r = n := by
  constructor
  · intro h
    have hn' : (UInt8.ofNat n).toNat = n := by rw [UInt8.toNat_ofNat']; omega
    have := rune_of_enc r hok _ _ (by rw [hn']; exact hn) h
    rw [this, hn']
  · rintro rfl
    exact enc_ascii r hn
theorem unq_skips : ∀ (ds : List UInt8) (f : Nat) (m : List UInt8) (pos next : Nat) (acc : List UInt8), (∀ c ∈ ds, c.toNat < 128) → pos + ds.length ≤ next →
    unqL (f + ds.length) (ds ++ m) pos next acc = unqL f m (pos + ds.length) next acc
  | [], f, m, pos, next, acc, _, _ => rfl
  | c :: ds, f, m, pos, next, acc, ha, hp => by
    rw [List.length_cons] at hp
    have h1 := unq_skip (f + ds.length) c (ds ++ m) (ha c (by simp)) pos next acc (by omega)
    have h2 := unq_skips ds f m (pos + 1) next acc (fun d hd => ha d (by simp [hd])) (by omega)
    rw [List.length_cons, List.cons_append, ← Nat.add_assoc, h1, h2]
    congr 1
    omega
theorem hexV_ascii (c : UInt8) (h : (hexV c).2 = true) : c.toNat < 128 := by
  unfold hexV at h
  (repeat' split at h) <;> first | omega | (cases h)
/-- Where bytes are digits the signs are. -/
theorem lawDigits_some : ∀ (ds : List UInt8) (ys : List (List UInt8)) (m : List UInt8) (v : Int), (∀ q ∈ ys, IsSign q) → ds.all (fun c => (hexV c).2) = true → ys.flatten = ds ++ m → lawDigits ds.length ys v ≠ none
  | [], ys, m, v, _, _, _ => fun h => by cases h
  | c :: ds, [], m, v, _, _, hf => by simp at hf
  | c :: ds, y :: ys, m, v, hs, ha, hf => by
    obtain ⟨c', m', rfl, hm⟩ := sign_first y (hs y (by simp))
    rw [List.all_cons, Bool.and_eq_true] at ha
    rw [List.flatten_cons, List.cons_append, List.cons_append] at hf
    injection hf with h1 h2
    subst h1
    obtain rfl := hm (hexV_ascii _ ha.1)
    have hd : digV [c'] = (hexV c').1 := by rw [digV_one, if_pos ha.1]
    have hr := hexV_range c'
    rw [List.length_cons, lawDigits, hd, if_neg (by omega)]
    exact lawDigits_some ds ys m _ (fun q hq => hs q (by simp [hq])) ha.2 (by simpa using h2)
theorem escV_num (y : UInt8) (d : Nat) (hy : (y = 117 ∧ d = 4) ∨ (y = 85 ∧ d = 6)) (ys : List (List UInt8)) (hs : ∀ q ∈ ys, IsSign q) :
    escV (92 :: y :: ys.flatten) = match lawDigits d ys 0 with | none => (0, 0) | some (v, _) => (runeOk v, 2 + d) := by
  have h0 : escV (92 :: y :: ys.flatten) = numV (92 :: y :: ys.flatten) d := by
    unfold escV
    rw [if_neg (by simp)]
    have e1 : (92 :: y :: ys.flatten : List UInt8).getD 1 0 = y := rfl
    rw [e1]
    rcases hy with ⟨rfl, rfl⟩ | ⟨rfl, rfl⟩
    · rw [if_neg (by decide), if_pos rfl]
    · rw [if_neg (by decide), if_neg (by decide), if_pos rfl]
  rw [h0]
  have hdrop : (92 :: y :: ys.flatten : List UInt8).drop 2 = ys.flatten := rfl
  unfold numV
  rw [hdrop]
  cases hl : lawDigits d ys 0 with
  | none =>
    rw [if_neg]
    rintro ⟨h1, h2⟩
    have hlen : (ys.flatten.take d).length = d := by
      rw [List.length_take]
      simp only [List.length_cons] at h1
      omega
    have := lawDigits_some (ys.flatten.take d) ys (ys.flatten.drop d) 0 hs h2 (List.take_append_drop _ _).symm
    rw [hlen] at this
    exact this hl
  | some p =>
    obtain ⟨v, zs⟩ := p
    obtain ⟨ds, a1, a2, a3, a4⟩ := lawDigits_bytes d ys [] 0 v zs (fun q hq => by
      obtain ⟨c, m, rfl, -⟩ := sign_first q (hs q hq)
      simp) hl
    have ht : ys.flatten.take d = ds := by rw [a2, ← a1, List.take_left]
    rw [ht, if_pos ⟨by simp only [List.length_cons, a2, List.length_append]; omega, a3⟩]
    have hx : hexN ds = v := by unfold hexN; exact a4.symm
    rw [hx]
theorem unqL_nil (f pos next : Nat) (acc : List UInt8) : unqL f [] pos next acc = none := by
  cases f with
  | zero => rfl
  | succ f => rw [unqL, if_pos rfl]
theorem lawUnq_nil (g pos : Nat) (acc : List UInt8) : lawUnq g [] pos acc = none := by
  cases g with
  | zero => rfl
  | succ g => rfl
theorem unq_law : ∀ (g : Nat) (xs : List (List UInt8)), (∀ q ∈ xs, IsSign q) → xs.length ≤ g → ∀ f pos next acc, next ≤ pos → xs.flatten.length ≤ f → unqL f xs.flatten pos next acc = lawUnq g xs pos acc
  | g, [], _, _, f, pos, next, acc, _, _ => by
    rw [List.flatten_nil, unqL_nil, lawUnq_nil]
  | 0, x :: xs, _, hg, f, pos, next, acc, _, _ => by simp at hg
  | g + 1, x :: xs, hs, hg, f, pos, next, acc, hn, hf => by
    obtain ⟨r, hok, hx⟩ := hs x (by simp)
    have hsx : ∀ q ∈ xs, IsSign q := fun q hq => hs q (by simp [hq])
    have hl := enc_len (r : Int)
    rw [← hx] at hl
    rw [List.length_cons] at hg
    rw [List.flatten_cons, List.length_append] at hf
    obtain ⟨f, rfl⟩ : ∃ f', f = f' + 1 := ⟨f - 1, by omega⟩
    have hne : x ++ xs.flatten ≠ [] := by
      intro e
      have := congrArg List.length e
      rw [List.length_append, List.length_nil] at this
      omega
    have hdl : Lib.decodeL (x ++ xs.flatten) = (r, x.length) := by rw [hx]; exact dec_enc r hok _
    have i34 : x = [34] ↔ r = 34 := by
      have := sign_rune r hok 34 (by decide)
      rw [← hx] at this
      exact this
    have i10 : x = [10] ↔ r = 10 := by
      have := sign_rune r hok 10 (by decide)
      rw [← hx] at this
      exact this
    have i92 : x = [92] ↔ r = 92 := by
      have := sign_rune r hok 92 (by decide)
      rw [← hx] at this
      exact this
    rw [List.flatten_cons, unqL, if_neg hne, if_neg (by omega), hdl, lawUnq.eq_def]
    dsimp only
    by_cases h34 : r = 34
    · have hx1 := i34.2 h34
      rw [if_pos h34, if_pos hx1, hx1]; rfl
    rw [if_neg h34, if_neg (fun h => h34 (i34.1 h))]
    by_cases h10 : r = 10
    · rw [if_pos h10, if_pos (i10.2 h10)]
    rw [if_neg h10, if_neg (fun h => h10 (i10.1 h))]
    by_cases h92 : r = 92
    · have hx1 := i92.2 h92
      rw [if_pos h92, if_pos hx1, hx1]
      have hxl : ([92] : List UInt8).length = 1 := rfl
      rw [hx1, hxl] at hf
      have hdr : ([92] ++ xs.flatten).drop ([92] : List UInt8).length = xs.flatten := List.drop_left
      rw [hdr, hxl]
      cases xs with
      | nil =>
        rw [if_pos]
        rfl
      | cons y ys =>
        dsimp only
        obtain ⟨c, m, rfl, hcm⟩ := sign_first y (hsx y (by simp))
        have hsy : ∀ q ∈ ys, IsSign q := fun q hq => hsx q (by simp [hq])
        rw [List.length_cons] at hg
        rw [List.flatten_cons, List.length_append] at hf
        have e0 : ([92] ++ ((c :: m) :: ys).flatten : List UInt8) = 92 :: c :: (m ++ ys.flatten) := rfl
        have e1 : (((c :: m) :: ys).flatten : List UInt8) = c :: (m ++ ys.flatten) := rfl
        rw [e0, e1]
        by_cases hq : c = 34 ∨ c = 92
        · have hc128 : c.toNat < 128 := by rcases hq with rfl | rfl <;> decide
          obtain rfl := hcm hc128
          rw [List.length_singleton] at hf ⊢
          obtain ⟨f, rfl⟩ : ∃ f', f = f' + 1 := ⟨f - 1, by omega⟩
          rw [escV_pair c hq, if_neg (fun h => absurd (show (2 : Nat) = 0 from h) (by decide)), if_pos (by rcases hq with rfl | rfl <;> simp), unq_skip f c _ hc128 _ _ _ (by omega)]
          have he : Lib.encodeRune ((c.toNat : Int)) = [c] := by rw [enc_ascii c.toNat hc128, UInt8.ofNat_toNat]
          dsimp only
          rw [he, List.nil_append]
          exact unq_law g ys hsy (by omega) f _ _ _ (by omega) (by omega)
        · by_cases hu : c = 117 ∨ c = 85
          · have hc128 : c.toNat < 128 := by rcases hu with rfl | rfl <;> decide
            obtain rfl := hcm hc128
            have hd : ∃ d, d = (if [c] = [117] then 4 else 6 : Nat) ∧ ((c = 117 ∧ d = 4) ∨ (c = 85 ∧ d = 6)) := by
              rcases hu with rfl | rfl
              · exact ⟨4, rfl, .inl ⟨rfl, rfl⟩⟩
              · exact ⟨6, rfl, .inr ⟨rfl, rfl⟩⟩
            obtain ⟨d, hd1, hd2⟩ := hd
            have hnq : ¬ ([c] = [34] ∨ [c] = [92]) := by simpa using hq
            have hyu : [c] = [117] ∨ [c] = [85] := by simpa using hu
            rw [List.length_singleton] at hf ⊢
            rw [List.nil_append, escV_num c d hd2 ys hsy, if_neg hnq, if_pos hyu, ← hd1]
            cases hld : lawDigits d ys 0 with
            | none => rw [if_pos rfl]
            | some p =>
              obtain ⟨v, zs⟩ := p
              dsimp only
              obtain ⟨hdl1, hdl2⟩ := lawDigits_take d ys 0 v zs hld
              obtain ⟨ds, a1, a2, a3, a4⟩ := lawDigits_bytes d ys [] 0 v zs (fun q hq => by
                obtain ⟨c, m, rfl, -⟩ := sign_first q (hsy q hq)
                simp) hld
              rw [if_neg (by omega), a2]
              have hfl := congrArg List.length a2
              rw [List.length_append] at hfl
              have hsk := unq_skips (c :: ds) (f - (d + 1)) zs.flatten (pos + 1) (pos + (2 + d)) (acc ++ Lib.encodeRune (runeOk v)) (by
                intro b hb
                rcases List.mem_cons.1 hb with rfl | hb
                · exact hc128
                · exact hexV_ascii b (List.all_eq_true.1 a3 b hb)) (by rw [List.length_cons]; omega)
              rw [List.length_cons, a1, List.cons_append, show f - (d + 1) + (d + 1) = f by omega] at hsk
              rw [hsk, show pos + 1 + (d + 1) = pos + 1 + 1 + d by omega]
              have hzl := congrArg List.length hdl2
              rw [List.length_drop] at hzl
              exact unq_law g zs (fun q hq => hsy q (by rw [hdl2] at hq; exact List.mem_of_mem_drop hq)) (by omega) _ _ _ _ (by omega) (by omega)
          · have he : escV (92 :: c :: (m ++ ys.flatten)) = (0, 0) := by
              unfold escV
              rw [if_neg (by simp)]
              have e1 : (92 :: c :: (m ++ ys.flatten) : List UInt8).getD 1 0 = c := rfl
              rw [e1, if_neg hq, if_neg (fun h => hu (.inl h)), if_neg (fun h => hu (.inr h))]
            have hnq : ¬ (c :: m = [34] ∨ c :: m = [92]) := by
              rintro (h | h) <;> (injection h with h _; exact hq (by simp [h]))
            have hnu : ¬ (c :: m = [117] ∨ c :: m = [85]) := by
              rintro (h | h) <;> (injection h with h _; exact hu (by simp [h]))
            rw [he, if_pos rfl, if_neg hnq, if_neg hnu]
    · rw [if_neg h92, if_neg (fun h => h92 (i92.1 h)), List.drop_left, ← hx]
      exact unq_law g xs hsx (by omega) f _ _ _ (by omega) (by omega)
end Go.Proofs.YtgjbgfnchlogdaaDoor
