import Derived.Test.YtgjbgfnchlogdaaDoorTMath2
import Derived.Test.YtgjbgfnchlogdaaDoorTUnq2
import Derived.Test.YtgjbgfnchlogdaaDoorTQuote2
import Derived.Test.YtgjbgfnchlogdaaDoorTLawJoins
namespace Go.Proofs.YtgjbgfnchlogdaaDoor
open Go.RowKit
set_option linter.unusedVariables false
set_option linter.unusedSimpArgs false

/-- What Unquote reads, by the list of what is left. -/
def unqL : Nat → List UInt8 → Nat → Nat → List UInt8 → Option (List UInt8 × Nat)
  | 0, _, _, _, _ => none
  | f + 1, l, pos, next, acc =>
    if l = [] then none
    else if pos < next then unqL f (l.drop (Lib.decodeL l).2) (pos + (Lib.decodeL l).2) next acc
      else if (Lib.decodeL l).1 = 34 then some (acc, pos + 1)
      else if (Lib.decodeL l).1 = 10 then none
      else if (Lib.decodeL l).1 = 92 then
        if (escV l).2 = 0 then none
        else unqL f (l.drop (Lib.decodeL l).2) (pos + (Lib.decodeL l).2) (pos + (escV l).2) (acc ++ Lib.encodeRune (escV l).1)
      else unqL f (l.drop (Lib.decodeL l).2) (pos + (Lib.decodeL l).2) next (acc ++ Lib.encodeRune (Lib.decodeL l).1)
theorem unqFrom_L (s : ByteArray) : ∀ f pos next acc, unqFrom s f pos next acc = unqL f (s.data.toList.drop pos) pos next acc
  | 0, _, _, _ => rfl
  | f + 1, pos, next, acc => by
    by_cases hp : pos < s.size
    · have hne : s.data.toList.drop pos ≠ [] := by
        intro e
        have h1 := congrArg List.length e
        rw [List.length_drop, size_data, List.length_nil] at h1
        omega
      have hdl := decodeL_drop s pos hp
      rw [unqFrom, if_pos hp, unqL, if_neg hne, hdl, List.drop_drop, unqFrom_L s f, unqFrom_L s f, unqFrom_L s f]
    · rw [unqFrom_end s _ _ _ _ hp, List.drop_eq_nil_of_le (by rw [size_data]; omega)]
      rw [unqL, if_pos rfl]
theorem dec_ascii (c : UInt8) (m : List UInt8) (h : c.toNat < 128) : Lib.decodeL (c :: m) = (c.toNat, 1) := by
  rw [Lib.decodeL_N]
  simp only [List.getD_cons_zero]
  unfold Lib.decodeN
  rw [if_pos h]
theorem unq_skip (f : Nat) (c : UInt8) (m : List UInt8) (h : c.toNat < 128) (pos next : Nat) (acc : List UInt8) (hp : pos < next) : unqL (f + 1) (c :: m) pos next acc = unqL f m (pos + 1) next acc := by
  rw [unqL, if_neg (by simp), if_pos hp, dec_ascii c m h]
  rfl
theorem hexC_ascii : ∀ i : Fin 16, (hexC i.val).toNat < 128 ∧ (hexV (hexC i.val)).1 = (i.val : Int) ∧ (hexV (hexC i.val)).2 = true := by decide
theorem hexC_at (x : Nat) (h : x < 16) : (hexC x).toNat < 128 ∧ (hexV (hexC x)).1 = (x : Int) ∧ (hexV (hexC x)).2 = true := hexC_ascii ⟨x, h⟩
theorem runeOk_small (r : Nat) (h : r < 128) : runeOk (r : Int) = (r : Int) := by
  unfold runeOk
  rw [if_pos]
  unfold Lib.validRune
  rw [decide_eq_true_eq]
  left
  omega
theorem escV_control (r : Nat) (h : r < 128) (m : List UInt8) : escV ([92, 117, 48, 48, hexC (r / 16), hexC (r % 16)] ++ m) = ((r : Int), 6) := by
  obtain ⟨a1, a2, a3⟩ := hexC_at (r / 16) (by omega)
  obtain ⟨b1, b2, b3⟩ := hexC_at (r % 16) (by omega)
  have hn : numV (92 :: 117 :: 48 :: 48 :: hexC (r / 16) :: hexC (r % 16) :: m) 4 = ((r : Int), 6) := by
    unfold numV
    have hq : ((92 :: 117 :: 48 :: 48 :: hexC (r / 16) :: hexC (r % 16) :: m : List UInt8).drop 2).take 4 = [48, 48, hexC (r / 16), hexC (r % 16)] := rfl
    rw [hq, if_pos ⟨by simp, by simp only [List.all_cons, List.all_nil, a3, b3]; rfl⟩]
    have hx : hexN [48, 48, hexC (r / 16), hexC (r % 16)] = (r : Int) := by
      unfold hexN
      simp only [List.foldl_cons, List.foldl_nil]
      have e0 : (hexV 48).1 = 0 := by decide
      rw [e0, a2, b2]
      omega
    rw [hx, runeOk_small r h]
  unfold escV
  rw [if_neg (by simp)]
  have e1 : ([92, 117, 48, 48, hexC (r / 16), hexC (r % 16)] ++ m).getD 1 0 = 117 := rfl
  rw [e1, if_neg (by decide), if_pos rfl]
  exact hn
theorem escV_pair (c : UInt8) (h : c = 34 ∨ c = 92) (m : List UInt8) : escV (92 :: c :: m) = ((c.toNat : Int), 2) := by
  unfold escV
  rw [if_neg (by simp)]
  have e1 : (92 :: c :: m : List UInt8).getD 1 0 = c := rfl
  rw [e1, if_pos h]
/-- One quoted sign is read as the sign. -/
theorem unq_piece (r : Nat) (hok : okRune r) (f : Nat) (m : List UInt8) (pos next : Nat) (acc : List UInt8) (hn : next ≤ pos) :
    ∃ next', next' ≤ pos + (quoteR r).length ∧ unqL (f + (quoteR r).length) (quoteR r ++ m) pos next acc = unqL (f + ((quoteR r).length - (if r = 34 ∨ r = 92 then 2 else if r < 32 ∨ r = 127 then 6 else 1))) m (pos + (quoteR r).length) next' (acc ++ Lib.encodeRune (r : Int)) := by
  by_cases h1 : r = 34 ∨ r = 92
  · have hc : Lib.encodeRune (r : Int) = [UInt8.ofNat r] := by rcases h1 with rfl | rfl <;> kernel_rfl
    have hq : quoteR r = [92, UInt8.ofNat r] := by unfold quoteR; rw [if_pos h1, hc]
    rw [hq, if_pos h1]
    refine ⟨pos + 2, Nat.le_refl _, ?_⟩
    have hcc : UInt8.ofNat r = 34 ∨ UInt8.ofNat r = 92 := by rcases h1 with rfl | rfl <;> decide
    have hcn : ((UInt8.ofNat r).toNat : Int) = (r : Int) := by rcases h1 with rfl | rfl <;> decide
    have hca : (UInt8.ofNat r).toNat < 128 := by rcases h1 with rfl | rfl <;> decide
    show unqL (f + 1 + 1) (92 :: UInt8.ofNat r :: m) pos next acc = unqL (f + 0) m (pos + 2) (pos + 2) _
    rw [unqL, if_neg (by simp), if_neg (by omega), dec_ascii 92 _ (by decide), if_neg (by decide), if_neg (by decide), if_pos (by decide), escV_pair _ hcc, if_neg (fun h => absurd (show (2 : Nat) = 0 from h) (by decide))]
    show unqL (f + 1) (UInt8.ofNat r :: m) (pos + 1) (pos + 2) (acc ++ Lib.encodeRune ((UInt8.ofNat r).toNat : Int)) = _
    rw [unq_skip f _ m hca _ _ _ (by omega), hcn]
    rfl
  · rw [if_neg h1]
    by_cases h2 : r < 32 ∨ r = 127
    · have hq : quoteR r = [92, 117, 48, 48, hexC (r / 16), hexC (r % 16)] := by unfold quoteR; rw [if_neg h1, if_pos h2]
      have hr : r < 128 := by omega
      rw [hq, if_pos h2]
      refine ⟨pos + 6, Nat.le_refl _, ?_⟩
      have he := escV_control r hr m
      obtain ⟨a1, -⟩ := hexC_at (r / 16) (by omega)
      obtain ⟨b1, -⟩ := hexC_at (r % 16) (by omega)
      show unqL (f + 5 + 1) ([92, 117, 48, 48, hexC (r / 16), hexC (r % 16)] ++ m) pos next acc = unqL (f + 0) m (pos + 6) (pos + 6) _
      have hd : Lib.decodeL ([92, 117, 48, 48, hexC (r / 16), hexC (r % 16)] ++ m) = (92, 1) := dec_ascii 92 _ (by decide)
      rw [unqL, if_neg (by simp), if_neg (by omega), hd, if_neg (by decide), if_neg (by decide), if_pos rfl, he, if_neg (fun h => absurd (show (6 : Nat) = 0 from h) (by decide))]
      show unqL (f + 4 + 1) (117 :: 48 :: 48 :: hexC (r / 16) :: hexC (r % 16) :: m) (pos + 1) (pos + 6) (acc ++ Lib.encodeRune (r : Int)) = _
      rw [unq_skip _ _ _ (by decide) _ _ _ (by omega)]
      show unqL (f + 3 + 1) _ _ _ _ = _
      rw [unq_skip _ _ _ (by decide) _ _ _ (by omega)]
      show unqL (f + 2 + 1) _ _ _ _ = _
      rw [unq_skip _ _ _ (by decide) _ _ _ (by omega)]
      show unqL (f + 1 + 1) _ _ _ _ = _
      rw [unq_skip _ _ _ a1 _ _ _ (by omega)]
      rw [unq_skip _ _ _ b1 _ _ _ (by omega)]
      rfl
    · have hq : quoteR r = Lib.encodeRune (r : Int) := by unfold quoteR; rw [if_neg h1, if_neg h2]
      have hlen := enc_len (r : Int)
      rw [hq, if_neg h2]
      refine ⟨next, by omega, ?_⟩
      have e : f + (Lib.encodeRune (r : Int)).length = (f + ((Lib.encodeRune (r : Int)).length - 1)) + 1 := by omega
      rw [e, unqL, if_neg (enc_ne _ _), if_neg (by omega), dec_enc r hok m]
      dsimp only
      rw [if_neg (by omega), if_neg (by omega), if_neg (by omega), List.drop_left]
/-- What is quoted, sign by sign. -/
def quoteL : Nat → List UInt8 → List UInt8
  | 0, _ => []
  | f + 1, l => if l = [] then [] else quoteR (Lib.decodeL l).1 ++ quoteL f (l.drop (Lib.decodeL l).2)
theorem quoteFrom_L (s : ByteArray) : ∀ f pos, quoteFrom s f pos = quoteL f (s.data.toList.drop pos)
  | 0, _ => rfl
  | f + 1, pos => by
    by_cases hp : pos < s.size
    · have hne : s.data.toList.drop pos ≠ [] := by
        intro e
        have h1 := congrArg List.length e
        rw [List.length_drop, size_data, List.length_nil] at h1
        omega
      rw [quoteFrom, if_pos hp, quoteL, if_neg hne, decodeL_drop s pos hp, List.drop_drop, quoteFrom_L s f]
    · rw [quoteFrom_end s _ _ hp, List.drop_eq_nil_of_le (by rw [size_data]; omega)]
      rw [quoteL, if_pos rfl]
theorem unq_quote (more : List UInt8) : ∀ (k : Nat) (l : List UInt8), l.length ≤ k → sigs k l ≠ none → ∀ f pos next acc, next ≤ pos → (quoteL k l).length + 1 ≤ f →
    unqL f (quoteL k l ++ 34 :: more) pos next acc = some (acc ++ l, pos + (quoteL k l).length + 1)
  | 0, l, hk, _, f, pos, next, acc, hn, hf => by
    have : l = [] := List.eq_nil_of_length_eq_zero (by omega)
    subst this
    obtain ⟨f, rfl⟩ : ∃ f', f = f' + 1 := ⟨f - 1, by simp [quoteL] at hf; omega⟩
    show unqL (f + 1) (34 :: more) pos next acc = _
    rw [unqL, if_neg (by simp), if_neg (by omega), dec_ascii 34 _ (by decide), if_pos (by decide)]
    simp [quoteL]
  | k + 1, l, hk, hs, f, pos, next, acc, hn, hf => by
    by_cases hne : l = []
    · subst hne
      obtain ⟨f, rfl⟩ : ∃ f', f = f' + 1 := ⟨f - 1, by omega⟩
      have hq : quoteL (k + 1) ([] : List UInt8) = [] := by rw [quoteL, if_pos rfl]
      rw [hq]
      show unqL (f + 1) (34 :: more) pos next acc = _
      rw [unqL, if_neg (by simp), if_neg (by omega), dec_ascii 34 _ (by decide), if_pos (by decide)]
      simp
    · have hd := drop_len l hne
      have hw := decodeL_pos l
      rw [sigs_step k l hne] at hs
      by_cases hbad : (Lib.decodeL l).1 = 65533 ∧ (Lib.decodeL l).2 ≤ 1
      · rw [if_pos hbad] at hs; exact absurd rfl hs
      · rw [if_neg hbad] at hs
        have hs' : sigs k (l.drop (Lib.decodeL l).2) ≠ none := by
          intro e; rw [e] at hs; exact hs rfl
        have he := Lib.encode_decode l hne (fun e => hbad ⟨e.1, by omega⟩)
        have hq : quoteL (k + 1) l = quoteR (Lib.decodeL l).1 ++ quoteL k (l.drop (Lib.decodeL l).2) := by rw [quoteL, if_neg hne]
        rw [hq, List.length_append] at hf
        rw [hq]
        obtain ⟨next', hn', hp⟩ := unq_piece (Lib.decodeL l).1 (decodeL_ok l) (f - (quoteR (Lib.decodeL l).1).length) (quoteL k (l.drop (Lib.decodeL l).2) ++ 34 :: more) pos next acc hn
        rw [Nat.sub_add_cancel (by omega)] at hp
        rw [List.append_assoc, hp, unq_quote more k _ (by omega) hs' _ _ _ _ hn' (by omega), List.length_append, List.append_assoc, he, List.take_append_drop]
        congr 2
        omega
theorem unq_all (s more : ByteArray) (h : sigAll s.data.toList ≠ none) : unqAll (⟨(quoteAll s).toArray⟩ ++ more) = some (s.data.toList, (quoteAll s).length) := by
  have hq : quoteAll s = 34 :: (quoteL s.size s.data.toList ++ [34]) := by
    unfold quoteAll
    rw [quoteFrom_L, List.drop_zero]
  have hdat : ((⟨(quoteAll s).toArray⟩ : ByteArray) ++ more).data.toList = 34 :: (quoteL s.size s.data.toList ++ 34 :: more.data.toList) := by
    rw [app_data, hq]
    simp
  have hsz : ((⟨(quoteAll s).toArray⟩ : ByteArray) ++ more).size = (quoteL s.size s.data.toList).length + 2 + more.size := by
    rw [← size_data, hdat]
    simp
    omega
  unfold unqAll
  have hpre : Lib.hasPrefix ((⟨(quoteAll s).toArray⟩ : ByteArray) ++ more).data.toList [34] = true := by
    rw [hdat]
    unfold Lib.hasPrefix
    simp [List.isPrefixOf]
  rw [if_pos hpre, unqFrom_L, List.drop_zero, hdat, hsz]
  have e : (quoteL s.size s.data.toList).length + 2 + more.size = ((quoteL s.size s.data.toList).length + 1 + more.size) + 1 := by omega
  rw [e, unq_skip _ 34 _ (by decide) _ _ _ (by omega)]
  unfold sigAll at h
  rw [size_data] at h
  rw [unq_quote more.data.toList s.size s.data.toList (by rw [size_data]; exact Nat.le_refl _) h _ _ _ _ (Nat.le_refl _) (by omega), hq]
  simp
  omega
end Go.Proofs.YtgjbgfnchlogdaaDoor
