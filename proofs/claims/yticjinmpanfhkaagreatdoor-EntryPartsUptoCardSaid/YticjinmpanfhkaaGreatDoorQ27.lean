/-
  Several texts put together (part 27): what the law and the program call, walked; their contracts.
-/
import Derived.Test.YticjinmpanfhkaaGreatDoorQ26
import Derived.Test.YticjinmpanfhkaaGreatDoorQ1
import Derived.Maps.Own
import Derived.Maps.OwnOps
import Derived.Maps.OwnSet
import Derived.Maps.Views
import Derived.WideMake
/-
  Package expr: what is read moves on.
-/
namespace Go.Proofs.YticjinmpanfhkaaGreatDoor
open Go.RowKit
set_option linter.unusedVariables false
set_option linter.unusedSimpArgs false

theorem or_some {α : Type} {a b : Option α} {v : α} (h : a.or b = some v) : a = some v ∨ b = some v := by
  cases a with
  | none => exact .inr (by simpa using h)
  | some x => exact .inl (by simpa using h)
section
variable {s : ByteArray} {P : Nat → Res} {i j : Nat} {e : EX}
theorem quo_pos (hi : i ≤ s.size) (h : quoS s i = some (e, j)) : i < j ∧ j ≤ s.size := by
  obtain ⟨T, n, b, _, hn, _, h4⟩ := quo_val s i hi
  obtain ⟨rfl, _, h0⟩ := h4 _ _ h
  omega
theorem var_pos (hi : i ≤ s.size) (h : varS s i = some (e, j)) : i < j ∧ j ≤ s.size := by
  unfold varS at h
  split at h
  · next hc =>
    rw [Bool.and_eq_true, decide_eq_true_iff] at hc
    have h1 := isAt_lt hc.1
    have h2 := nm_ok s (i + 1) h1
    cases h
    omega
  · cases h
theorem nest_pos (hP : PosOk s P) (h : nestS P i = some (e, j)) : i < j ∧ j ≤ s.size := by
  unfold nestS at h
  split at h
  · next hp => cases h; exact hP _ _ _ hp
  · cases h
theorem ref_pos {k : Int} (hi : i ≤ s.size) (h : refS k s i = some (e, j)) : i < j ∧ j ≤ s.size := by
  unfold refS at h
  have h1 := nm_ok s i hi
  split at h
  · cases h
  · split at h
    · next hd =>
      have h2 := isAt_lt hd
      have h3 := nm_ok s (nm s i + 1) h2
      split at h
      · cases h
      · cases h; omega
    · cases h; omega
theorem ter_pos (hi : i ≤ s.size) (h : terS s i = some (e, j)) : i < j ∧ j ≤ s.size := by
  unfold terS at h
  split at h
  · next hc =>
    have h1 := isAt_lt hc
    have := ref_pos (by omega) h
    omega
  · cases h
theorem nub_pos (hi : i ≤ s.size) (h : nubS s i = some (e, j)) : i < j ∧ j ≤ s.size := by
  unfold nubS at h
  have h1 := nu_ok s i hi
  split at h
  · cases h
  · cases h; omega
theorem head_pos (hP : PosOk s P) (hi : i ≤ s.size) (h : headS P s i = some (e, j)) : i < j ∧ j ≤ s.size := by
  unfold headS at h
  rcases or_some h with h | h
  · exact quo_pos hi h
  rcases or_some h with h | h
  · exact var_pos hi h
  rcases or_some h with h | h
  · exact nest_pos hP h
  rcases or_some h with h | h
  · exact ter_pos hi h
  rcases or_some h with h | h
  · exact ref_pos hi h
  · exact nub_pos hi h
theorem opn_pos (e : EX) (hj : j ≤ s.size) : j ≤ (opnS s e j).2 ∧ (opnS s e j).2 ≤ s.size := by
  unfold opnS
  have h1 := bl_ok s j hj
  split
  · split
    · next hc => have h2 := isAt_lt hc; exact ⟨by show j ≤ bl s j + 1; omega, h2⟩
    · exact h1
  · exact ⟨Nat.le_refl _, hj⟩
theorem nam_pos {n : ByteArray} (hi : i ≤ s.size) (h : namS s i = some (n, e, j)) : i < j ∧ j ≤ s.size := by
  unfold namS at h
  have h1 := nm_ok s i hi
  have h2 := bl_ok s (nm s i) h1.2
  split at h
  · cases h
  · split at h
    · next hc =>
      have h3 := isAt_lt hc
      have h4 := bl_ok s (bl s (nm s i) + 1) h3
      split at h
      · next e' q ho =>
        cases h
        have : bl s (bl s (nm s i) + 1) < j ∧ j ≤ s.size := by
          rcases or_some ho with ho | ho
          · exact quo_pos h4.2 ho
          · exact nub_pos h4.2 ho
        omega
      · cases h
    · cases h
theorem arg_pos {n : ByteArray} (hP : PosOk s P) (hi : i ≤ s.size) (h : argS P s i = some (n, e, j)) : i < j ∧ j ≤ s.size := by
  unfold argS at h
  split at h
  · next hn => cases h; exact nam_pos hi hn
  · split at h
    · next hh => cases h; exact head_pos hP hi hh
    · cases h
theorem args_pos (hP : PosOk s P) : ∀ (m : Nat) (xs : List AR) (want : Bool) (i : Nat), s.size - i ≤ m → i ≤ s.size → ∀ l j, argsS P s xs want i = some (l, j) → i < j ∧ j ≤ s.size := by
  intro m
  induction m with
  | zero =>
    intro xs want i hm hi l j h
    have h1 := bl_ok s i hi
    rw [argsS] at h
    split at h
    · next hc => have := isAt_lt hc; omega
    · split at h
      · split at h
        · next hc => have := isAt_lt hc; omega
        · cases h
      · split at h
        · cases h
        · next hh => have := arg_pos hP h1.2 hh; omega
  | succ m ih =>
    intro xs want i hm hi l j h
    have h1 := bl_ok s i hi
    rw [argsS] at h
    split at h
    · next hc => have := isAt_lt hc; cases h; omega
    · split at h
      · split at h
        · next hc =>
          have h2 := isAt_lt hc
          have := ih _ _ _ (by omega) h2 l j h
          omega
        · cases h
      · split at h
        · cases h
        · next n e' j' hh =>
          have h2 := arg_pos hP h1.2 hh
          split at h
          · split at h
            · next hg =>
              split at h
              · cases h
              · next hh2 =>
                have h3 := ih _ _ _ (by omega) hg.2 _ _ hh2
                split at h
                · next hg2 =>
                  split at h
                  · have := ih _ _ _ (by omega) hg2.2 l j h
                    omega
                  · cases h
                · cases h
            · cases h
          · generalize (if emp n = true then (opnS s e' j').2 else j') = q at h
            split at h
            · next hg =>
              split at h
              · have := ih _ _ _ (by omega) hg.2 l j h
                omega
              · cases h
            · cases h
theorem inl_pos (hP : PosOk s P) (hi : i ≤ s.size) (h : inlS P s i = some (e, j)) : i < j ∧ j ≤ s.size := by
  unfold inlS at h
  split at h
  · cases h
  · next e' j' hh =>
    have h1 := head_pos hP hi hh
    have h2 := opn_pos e' h1.2
    split at h
    · split at h
      · cases h
      · next ha =>
        cases h
        have := args_pos hP _ _ _ _ (Nat.le_refl _) h2.2 _ _ ha
        omega
    · cases h; omega
theorem vars_pos : ∀ (m : Nat) (acc : List VA) (i : Nat), s.size - i ≤ m → i ≤ s.size → ∀ l j, varsS P s acc i = some (l, j) → i < j ∧ j ≤ s.size := by
  intro m
  induction m with
  | zero =>
    intro acc i hm hi l j h
    rw [varsS] at h
    split at h
    · next hc => have := isAt_lt hc; omega
    · split at h
      · cases h
      · split at h
        · next hg => omega
        · cases h
  | succ m ih =>
    intro acc i hm hi l j h
    rw [varsS] at h
    split at h
    · next hc =>
      have := isAt_lt hc
      split at h
      · cases h; omega
      · cases h
    · split at h
      · cases h
      · split at h
        · next hg => have := ih _ _ (by omega) hg.2 l j h; omega
        · cases h
theorem sel_pos {l : List VA} (hi : i ≤ s.size) (h : selS P s i = some (l, j)) : i < j ∧ j ≤ s.size := by
  unfold selS at h
  have h1 := sp_ok s i hi
  split at h
  · next hc =>
    have h2 := isAt_lt hc
    have h3 := bl_ok s (sp s i + 1) h2
    have := vars_pos _ _ _ (Nat.le_refl _) h3.2 _ _ h
    omega
  · cases h
theorem pl_pos (hP : PosOk s P) : PosOk s (plS P s) := by
  intro i e j h
  unfold plS at h
  split at h
  · next hc =>
    have h1 := isAt_lt hc
    have h2 := bl_ok s (i + 1) h1
    split at h
    · cases h
    · next e' j' hin =>
      have h3 := inl_pos hP h2.2 hin
      have h4 := bl_ok s j' h3.2
      split at h
      · next hb =>
        have h5 := isAt_lt hb
        split at h
        · cases h
        · cases h; omega
      · split at h
        · next hb =>
          rw [Bool.and_eq_true, Bool.and_eq_true] at hb
          have h5 := isAt_lt hb.1.2
          split at h
          · cases h
          · next hsl =>
            cases h
            have := sel_pos (by omega) hsl
            omega
        · cases h
  · cases h
end
theorem place_pos (s : ByteArray) : ∀ r, PosOk s (placeS s r)
  | 0 => by
    intro i e j h
    rw [placeS] at h
    cases h
  | r + 1 => by
    rw [placeS_succ]
    exact pl_pos (place_pos s r)
/-- Inline at a depth, whatever place is one deeper. -/
def InKnot (rb : Nat) (s : ByteArray) : Prop := ∀ (d : Nat) (P : Nat → Res), d ≤ 20 → WayTo rb s 25 #[pt rb, .int .i64 ((d + 1 : Nat) : Int)] P → PosOk s P → WayTo rb s 51 #[pt rb, .int .i64 d] (inlS P s)
theorem place_knot {rb : Nat} {s : ByteArray} (hs : s.size ≤ 1000000) (hIn : InKnot rb s) : ∀ (r d : Nat), d + r = 21 → WayTo rb s 25 #[pt rb, .int .i64 (d : Nat)] (placeS s r)
  | 0, d, h => by
    have := place_deep (rb := rb) (s := s) (d := d) (by omega) (by omega)
    have e : placeS s 0 = fun _ => none := by funext i; rw [placeS]
    rw [e]
    exact this
  | r + 1, d, h => by
    rw [placeS_succ]
    have hP := place_knot hs hIn r (d + 1) (by omega)
    have hPos := place_pos s r
    refine place_any hs (by omega) (hIn d _ (by omega) hP hPos) ?_
    intro i w hr hi
    exact variants_any hs (by omega) (pattern_any hs (by omega) hP hPos) i w hr hi
end Go.Proofs.YticjinmpanfhkaaGreatDoor

/-
  Names in a map.
-/
namespace Go.Proofs.YticjinmpanfhkaaGreatDoor
open Go.RowKit Go.Maps
set_option linter.unusedVariables false
set_option linter.unusedSimpArgs false

theorem keyLaw : Keyed Tryz.prog 9 := string_keyed Tryz.underlying9
theorem zeroUnit (w : World) : (zeroValue 151).run Tryz.prog w = .ok (.agg #[]) w := by kernel_rfl
/-- The map holds just these names. -/
def NamesAt (W : World) (b n : Nat) (seen : List ByteArray) : Prop :=
  ∃ D : DataW Unit, W.ownsMap Tryz.prog 9 (unitElem (H := Unit)) b n D ∧ (∀ p : ByteArray, Maps.has D (.string p.data.toList) = memB p seen) ∧ Maps.size D = seen.length
theorem NamesAt.later {W W1 : World} {b n : Nat} {seen : List ByteArray} (h : NamesAt W b n seen) (hb : Below W.heap.size W W1) : NamesAt W1 b n seen := by
  obtain ⟨D, ⟨es, clock, h1, h2⟩, h3⟩ := h
  exact ⟨D, ⟨es, clock, (hb.block b (Array.getElem?_eq_some_iff.1 h1).1).trans h1, h2⟩, h3⟩
theorem NamesAt.made (w : World) : NamesAt (w.alloc (.map #[] 0)) w.heap.size 0 [] :=
  ⟨.map [], World.ownsMap_made w _ _ _, fun p => by simp [Maps.has, memB], rfl⟩
theorem NamesAt.mono {W : World} {b n m : Nat} {seen : List ByteArray} (h : NamesAt W b n seen) (hm : n ≤ m) : NamesAt W b m seen := by
  obtain ⟨D, h1, h3⟩ := h
  exact ⟨D, h1.mono hm, h3⟩
theorem names_put {D : DataW Unit} (hm : Tidy D) {seen : List ByteArray} (h : ∀ p : ByteArray, Maps.has D (.string p.data.toList) = memB p seen) (hz : Maps.size D = seen.length) (q : ByteArray) (hq : memB q seen = false) (u : DataW Unit) :
    (∀ p : ByteArray, Maps.has (D.put (.string q.data.toList) u) (.string p.data.toList) = memB p (q :: seen)) ∧ Maps.size (D.put (.string q.data.toList) u) = (q :: seen).length := by
  constructor
  · intro p
    by_cases e : p = q
    · subst e
      rw [has_put_same hm.isMap (by simp [WideAt.IsKeyLit])]
      simp [memB]
    · rw [has_put_other (by intro e2; exact e (bytes_eq (by injection e2))), h p]
      simp [memB, e]
  · rw [size_put hm, h q, hq, hz]
    simp
/-- A map's store keeps all blocks of cells. -/
theorem grown_cells {w w' : World} {b : Nat} (hg : w.grownBy w' (some b)) (hm : ∃ es c, w.heap[b]? = some (.map es c)) {k : Nat} {cs : Array Value} {t : TypeId} {fz : Nat × Nat} (h : w.heap[k]? = some (.cells cs t fz)) : w'.heap[k]? = some (.cells cs t fz) := by
  rw [hg.block k (Array.getElem?_eq_some_iff.1 h).1 ?_]
  · exact h
  · intro e
    obtain ⟨es, c, hm⟩ := hm
    have := Option.some.inj e
    subst this
    rw [h] at hm
    cases hm
theorem owns_map {w : World} {b n : Nat} {D : DataW Unit} (h : w.ownsMap Tryz.prog 9 (unitElem (H := Unit)) b n D) : ∃ es c, w.heap[b]? = some (.map es c) := by
  obtain ⟨es, clock, h1, _⟩ := h
  exact ⟨es, clock, h1⟩
theorem key_str (t : ByteArray) (ht : t.size ≤ 4000000) : keyOf Tryz.prog 9 (.string t) = some (.string t.data.toList) := by
  rw [Go.WideMaps.keyOf_string_mk Tryz.underlying9 (by unfold maxLen; omega)]
end Go.Proofs.YticjinmpanfhkaaGreatDoor

/-
  Package expr: calls within calls, as a stack: what is left to be read.
-/
namespace Go.Proofs.YticjinmpanfhkaaGreatDoor
open Go.RowKit
set_option linter.unusedVariables false
set_option linter.unusedSimpArgs false

/-- A call whose arguments are being read. -/
structure Fr where
  e : EX
  xs : List AR
  want : Bool
/-- What comes of an expression that is read, given to the calls around it, the nearest first. -/
def upS (P : Nat → Res) (s : ByteArray) : List Fr → EX → Nat → Res
  | [], e, m => some (e, m)
  | f :: r, e, m => if addOk f.xs E0 e = true then (match argsS P s (f.xs ++ [.mk E0 e]) true m with
      | none => none
      | some (xs, q) => upS P s r (withArgs f.e xs) q) else none
def runS (P : Nat → Res) (s : ByteArray) (f : Fr) (r : List Fr) (i : Nat) : Res := match argsS P s f.xs f.want i with
  | none => none
  | some (xs, q) => upS P s r (withArgs f.e xs) q
section
variable {P : Nat → Res} {s : ByteArray} {f g : Fr} {r : List Fr} {i j : Nat} {n : ByteArray} {e : EX}
theorem upS_cons : upS P s (g :: r) e i = if addOk g.xs E0 e = true then runS P s ⟨g.e, g.xs ++ [.mk E0 e], true⟩ r i else none := by
  rw [upS]
  rfl
theorem runS_close (hc : isAt s (bl s i) 41 = true) : runS P s f r i = upS P s r (withArgs f.e f.xs) (bl s i + 1) := by
  unfold runS
  rw [argsS, if_pos hc]
theorem runS_comma (hc : isAt s (bl s i) 41 = false) (hw : f.want = true) : runS P s f r i = if isAt s (bl s i) 44 = true then runS P s ⟨f.e, f.xs, false⟩ r (bl s i + 1) else none := by
  unfold runS
  rw [argsS, hc, hw]
  by_cases h : isAt s (bl s i) 44 = true
  · simp [h]
  · simp [h]
theorem runS_none (hc : isAt s (bl s i) 41 = false) (hw : f.want = false) (ha : argS P s (bl s i) = none) : runS P s f r i = none := by
  unfold runS
  rw [argsS, hc, hw, ha]
  simp
theorem runS_open (hP : PosOk s P) (hi : i ≤ s.size) (hc : isAt s (bl s i) 41 = false) (hw : f.want = false) (ha : argS P s (bl s i) = some (n, e, j)) (ho : (emp n && (opnS s e j).1) = true) :
    runS P s f r i = runS P s ⟨opnE e, [], false⟩ (f :: r) (opnS s e j).2 := by
  have h1 := bl_ok s i hi
  have h2 := arg_pos hP h1.2 ha
  have h3 := opn_pos e h2.2
  rw [runS, argsS, hc, hw, ha]
  dsimp only
  rw [if_neg (by simp), if_neg (by simp), if_pos ho, dif_pos ⟨by omega, h3.2⟩]
  unfold runS
  dsimp only
  cases hh : argsS P s [] false (opnS s e j).2 with
  | none => rfl
  | some p =>
    obtain ⟨xs', m⟩ := p
    have h4 := args_pos hP _ _ _ _ (Nat.le_refl _) h3.2 _ _ hh
    dsimp only
    rw [dif_pos ⟨by omega, h4.2⟩, upS]
    by_cases hk : addOk f.xs E0 (withArgs (opnE e) xs') = true
    · rw [if_pos hk, if_pos hk]
    · rw [if_neg hk, if_neg hk]
theorem runS_add (hP : PosOk s P) (hi : i ≤ s.size) (hc : isAt s (bl s i) 41 = false) (hw : f.want = false) (ha : argS P s (bl s i) = some (n, e, j)) (ho : (emp n && (opnS s e j).1) = false) :
    runS P s f r i = if addOk f.xs n e = true then runS P s ⟨f.e, f.xs ++ [.mk n e], true⟩ r (if emp n = true then (opnS s e j).2 else j) else none := by
  have h1 := bl_ok s i hi
  have h2 := arg_pos hP h1.2 ha
  have h3 := opn_pos e h2.2
  have h4 : i < (if emp n = true then (opnS s e j).2 else j) ∧ (if emp n = true then (opnS s e j).2 else j) ≤ s.size := by
    split <;> omega
  rw [runS, argsS, hc, hw, ha]
  dsimp only
  rw [if_neg (by simp), if_neg (by simp), if_neg (by rw [ho]; simp), dif_pos h4]
  by_cases hk : addOk f.xs n e = true
  · rw [if_pos hk, if_pos hk]; rfl
  · rw [if_neg hk, if_neg hk]
theorem inl_run {e : EX} (hh : headS P s i = some (e, j)) : inlS P s i = if (opnS s e j).1 = true then runS P s ⟨opnE e, [], false⟩ [] (opnS s e j).2 else some (e, (opnS s e j).2) := by
  unfold inlS
  rw [hh]
  dsimp only
  split
  · unfold runS
    dsimp only
    cases argsS P s [] false (opnS s e j).2 with
    | none => rfl
    | some p => rfl
  · rfl
theorem inl_none (hh : headS P s i = none) : inlS P s i = none := by
  unfold inlS
  rw [hh]
end
/-- The names of arguments that have one, the last first. -/
def seenOf (xs : List AR) : List ByteArray := ((xs.filter fun x => !emp (arName x)).map arName).reverse
theorem seenOf_snoc (xs : List AR) (n : ByteArray) (e : EX) : seenOf (xs ++ [.mk n e]) = if emp n = true then seenOf xs else n :: seenOf xs := by
  unfold seenOf
  rw [List.filter_append]
  by_cases h : emp n = true
  · simp [arName, h]
  · simp [arName, h]
theorem seenOf_empty (xs : List AR) : (xs.all fun x => emp (arName x)) = decide ((seenOf xs).length = 0) := by
  unfold seenOf
  rw [List.length_reverse, List.length_map, Bool.eq_iff_iff, List.all_eq_true, decide_eq_true_iff, List.length_eq_zero_iff, List.filter_eq_nil_iff]
  simp
theorem seenOf_mem (xs : List AR) (n : ByteArray) (hn : emp n = false) : (xs.any fun x => decide (arName x = n)) = memB n (seenOf xs) := by
  unfold seenOf memB
  rw [List.any_reverse, List.any_map, List.any_filter]
  congr 1
  funext x
  by_cases h : arName x = n
  · subst h
    simp [hn]
  · have h' : ¬ n = arName x := fun e => h e.symm
    simp [h, h']
/-- The values of a row of arguments. -/
def AZip (W : World) (F : Nat → Prop) : List AR → List Value → Prop
  | [], xs => xs = []
  | .mk n e :: r, xs => ∃ c ys, xs = .string n :: c.k :: c.t :: c.n :: c.a :: c.al :: c.i :: c.vs :: ys ∧ ExF W F e c ∧ AZip W F r ys
theorem AZip.snoc {W : World} {F : Nat → Prop} {n : ByteArray} {e : EX} {c : C7} (he : ExF W F e c) : ∀ (acc : List AR) (xs : List Value), AZip W F acc xs → AZip W F (acc ++ [.mk n e]) (xs ++ [.string n, c.k, c.t, c.n, c.a, c.al, c.i, c.vs])
  | [], xs, h => by
    rw [AZip] at h
    subst h
    exact ⟨c, [], rfl, he, rfl⟩
  | .mk n' e' :: r, xs, h => by
    rw [AZip] at h
    obtain ⟨c', ys, rfl, h2, h3⟩ := h
    exact ⟨c', _, rfl, h2, AZip.snoc he r ys h3⟩
theorem AZip.carry {W W' : World} {F F' : Nat → Prop} (g : ∀ b, F b → F' b ∧ W'.heap[b]? = W.heap[b]?) : ∀ (acc : List AR) (xs : List Value), AZip W F acc xs → AZip W' F' acc xs
  | [], xs, h => by rw [AZip] at h ⊢; exact h
  | .mk t' p' :: r, xs, h => by
    rw [AZip] at h
    obtain ⟨c', ys, rfl, h2, h3⟩ := h
    exact ⟨c', ys, rfl, h2.carry g, AZip.carry g r ys h3⟩
theorem AZip.as {W : World} {F : Nat → Prop} {g : Nat} (hg : F g) : ∀ (acc : List AR) (xs : List Value) (o : Nat), (∀ j x, xs[j]? = some x → W.cell? ⟨g, o + j, none⟩ = some x) → AZip W F acc xs → AsF W F acc g o
  | [], xs, o, hc, h => by rw [AsF]; trivial
  | .mk n e :: r, xs, o, hc, h => by
    rw [AZip] at h
    obtain ⟨c, ys, rfl, h2, h3⟩ := h
    rw [AsF]
    refine ⟨hg, hc 0 _ rfl, ⟨c, ⟨?_, ?_, ?_, ?_, ?_, ?_, ?_⟩, h2⟩, AZip.as hg r ys (o + 8) (fun j x hx => ?_) h3⟩
    · exact hc 1 _ rfl
    · have := hc 2 _ rfl; rwa [show o + 1 + 1 = o + 2 by omega]
    · have := hc 3 _ rfl; rwa [show o + 1 + 2 = o + 3 by omega]
    · have := hc 4 _ rfl; rwa [show o + 1 + 3 = o + 4 by omega]
    · have := hc 5 _ rfl; rwa [show o + 1 + 4 = o + 5 by omega]
    · have := hc 6 _ rfl; rwa [show o + 1 + 5 = o + 6 by omega]
    · have := hc 7 _ rfl; rwa [show o + 1 + 6 = o + 7 by omega]
    · have := hc (j + 8) x (by simpa using hx)
      rw [show o + 8 + j = o + (j + 8) by omega]
      exact this
/-- A row of arguments of the call's own, whose trees lie in such blocks. -/
def OwnA (B : Nat) (W : World) (F : Nat → Prop) (v : Value) (acc : List AR) : Prop := ∃ xs, W.ownsRow B 58 8 v acc.length xs ∧ AZip W F acc xs
theorem OwnA.nil (B : Nat) (W : World) (F : Nat → Prop) : OwnA B W F (.slice none 0 0) [] := ⟨[], World.ownsRow_nil _ _ _ _, rfl⟩
/-- The names that a call has: no map, or one of its own. -/
def NmOk (B : Nat) (W : World) (v : Value) (seen : List ByteArray) (n : Nat) : Prop := (v = .map none ∧ seen = []) ∨ ∃ b, v = .map (some b) ∧ B ≤ b ∧ 0 < seen.length ∧ NamesAt W b n seen
def mapBlockOf : Value → Option Nat
  | .map b => b
  | _ => none
end Go.Proofs.YticjinmpanfhkaaGreatDoor
