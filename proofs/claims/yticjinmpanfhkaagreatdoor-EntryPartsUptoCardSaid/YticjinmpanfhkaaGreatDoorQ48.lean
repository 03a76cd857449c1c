/-
  Several texts put together (part 48): what the law and the program call, walked; their contracts.
-/
import Derived.Test.YticjinmpanfhkaaGreatDoorQ1
import Derived.Test.YticjinmpanfhkaaGreatDoorQ19
import Derived.Lib.LaidU8
import Derived.Test.YticjinmpanfhkaaGreatDoorQ46
import Derived.Test.YticjinmpanfhkaaGreatDoorQ12
/-
  utf8's tables out of what the row lists.
-/
namespace Go.Proofs.YticjinmpanfhkaaGreatDoor
open Go.ChangeShapes Go.WideShapes Go.ChangeAt Go.RowKit Go.Lib
set_option maxRecDepth 100000

theorem u8Extra : U8Extra Tryz.prog Tryz.lays260_ren := ⟨by kernel_rfl, by kernel_rfl, by kernel_rfl, by kernel_rfl, by kernel_rfl, by kernel_rfl, by kernel_rfl⟩
theorem tabU_of_laid {l : List (String × DataW Unit)} {W : World} (h : laidMetH Tryz.prog l W) (hl : (l.filter fun x => x.2.handleName?.isNone) = [("unicode/utf8.acceptRanges", acceptData), ("unicode/utf8.first", firstData)]) : TabU W := by
  have h1 := (laidMetH_iff.1 h).1
  rw [hl] at h1
  exact utf8Tabs_of_reads (ρ := Tryz.lays260_ren) Tryz.lays260 u8Extra (Lib.laidMet.reads h1 (.tail _ (.head _))) (Lib.laidMet.reads h1 (.head _))
end Go.Proofs.YticjinmpanfhkaaGreatDoor

/-
  What is read may be: names and numbers.
-/
namespace Go.Proofs.YticjinmpanfhkaaGreatDoor
open Go.RowKit
set_option linter.unusedVariables false
set_option linter.unusedSimpArgs false

theorem ext_at0 (s : ByteArray) (i j k : Nat) (hj : j ≤ s.size) (hk : i + k < j) : at0 (s.extract i j).data.toList k = at0 s.data.toList (i + k) := by
  unfold at0
  rw [extract_list, List.getD_eq_getElem?_getD, List.getD_eq_getElem?_getD, List.getElem?_drop, List.getElem?_take_of_lt hk]
theorem name_ok {s : ByteArray} {i : Nat} (h : nm s i ≠ i) : isNameV (s.extract i (nm s i)) = true := by
  have h0 : i < s.size ∧ leB (at0 s.data.toList i) = true := by
    by_cases hc : i < s.size ∧ leB (at0 s.data.toList i) = true
    · exact hc
    · unfold nm at h; rw [if_neg hc] at h; exact absurd rfl h
  have hk := nm_ok s i (Nat.le_of_lt h0.1)
  have he : nm s i = behN naB s.data.toList i := by unfold nm; rw [if_pos h0]
  have hz : (s.extract i (nm s i)).data.toList.length = nm s i - i := by rw [size_data, ByteArray.size_extract]; omega
  rw [nameV_l]
  unfold lnameB
  rw [decide_eq_true_iff, hz]
  refine ⟨by omega, fun k hk2 => ?_⟩
  have ha := ext_at0 s i (nm s i) k hk.2 (by omega)
  by_cases h1 : k = 0
  · subst h1
    refine le_good ?_
    rw [ha]
    exact h0.2
  · refine na_good (by omega) ?_
    rw [ha]
    exact behN_so naB s.data.toList i (i + k) (by omega) (by omega)
theorem longN_holds (Q : List UInt8 → Bool) (l : List UInt8) (i : Nat) : ∀ m, longN Q l i m ≠ i → Q (pc l i (longN Q l i m)) = true
  | 0, h => by
    unfold longN at h
    exact absurd (by first | rfl | omega) h
  | m + 1, h => by
    unfold longN at h ⊢
    split at h
    · next hc =>
      rw [if_pos hc]
      first | exact hc.2 | exact hc
    · next hc =>
      rw [if_neg hc]
      exact longN_holds Q l i m h
theorem num_ok {s : ByteArray} {i : Nat} (hi : i ≤ s.size) (h : nu s i ≠ i) : isNum (s.extract i (nu s i)) = true := by
  have hl := long_num s.data.toList i (by rw [size_data]; exact hi)
  have h2 := longN_holds lnumB s.data.toList i s.data.toList.length (by rw [hl]; exact h)
  rw [hl] at h2
  rw [isNum_l, extract_list]
  exact h2
end Go.Proofs.YticjinmpanfhkaaGreatDoor

/-
  What is read may be: the names of arguments; an expression's head.
-/
namespace Go.Proofs.YticjinmpanfhkaaGreatDoor
open Go.RowKit
set_option linter.unusedVariables false
set_option linter.unusedSimpArgs false

theorem memB_false {n : ByteArray} {seen : List ByteArray} : memB n seen = false ↔ ∀ m ∈ seen, n ≠ m := by
  unfold memB
  rw [List.any_eq_false]
  simp
theorem names_plain {n : ByteArray} {e : EX} (hn : emp n = true) : ∀ xs : List AR, argNames [] xs = true → (∀ x ∈ xs, emp (arName x) = true) → argNames [] (xs ++ [.mk n e]) = true
  | [], _, _ => by
    obtain ⟨k, t, n', a, al, i, vs⟩ := e
    rw [List.nil_append, argNames, if_pos hn]
    rfl
  | .mk m (.mk k t n' a al i vs) :: r, h, hx => by
    have hm : emp m = true := hx _ (List.mem_cons_self ..)
    rw [argNames, if_pos hm] at h
    rw [List.cons_append, argNames, if_pos hm]
    simp only [List.isEmpty_nil, Bool.true_and] at h ⊢
    exact names_plain hn r h (fun x hx2 => hx x (List.mem_cons_of_mem _ hx2))
theorem names_named {n : ByteArray} {k0 : Int} {t0 n0 a0 : ByteArray} {al0 : List AR} {i0 : Option EX} {vs0 : List VA} (hn : emp n = false) (hv : isNameV n = true) (hk : k0 = 0 ∨ k0 = 1) : ∀ (xs : List AR) (seen : List ByteArray), argNames seen xs = true → memB n seen = false → (∀ x ∈ xs, arName x ≠ n) →
    argNames seen (xs ++ [.mk n (.mk k0 t0 n0 a0 al0 i0 vs0)]) = true
  | [], seen, _, hs, _ => by
    rw [List.nil_append, argNames, if_neg (by rw [hn]; simp), hs, hv]
    rcases hk with rfl | rfl <;> rfl
  | .mk m (.mk k t n' a al i vs) :: r, seen, h, hs, hx => by
    rw [argNames] at h
    rw [List.cons_append, argNames]
    by_cases hm : emp m = true
    · rw [if_pos hm] at h ⊢
      rw [Bool.and_eq_true] at h
      rw [h.1, Bool.true_and]
      exact names_named hn hv hk r seen h.2 hs (fun x hx2 => hx x (List.mem_cons_of_mem _ hx2))
    · rw [if_neg hm] at h ⊢
      rw [Bool.and_eq_true] at h
      rw [h.1, Bool.true_and]
      refine names_named hn hv hk r (m :: seen) h.2 ?_ (fun x hx2 => hx x (List.mem_cons_of_mem _ hx2))
      rw [memB_false] at hs ⊢
      intro z hz
      rcases List.mem_cons.1 hz with hz | hz
      · rw [hz]; exact fun e => hx _ (List.mem_cons_self ..) e.symm
      · exact hs z hz
theorem emp_E0 : emp E0 = true := by kernel_rfl
theorem okAs_snoc {d : Nat} {n : ByteArray} {e : EX} (he : okE .inl e d = true) : ∀ xs : List AR, okAs xs d = true → okAs (xs ++ [.mk n e]) d = true
  | [], _ => by rw [List.nil_append, okAs, okAs, he]; rfl
  | .mk m y :: r, h => by
    rw [okAs, Bool.and_eq_true] at h
    rw [List.cons_append, okAs, h.1, okAs_snoc he r h.2]
    rfl
theorem nub_ok {s : ByteArray} {i : Nat} (hi : i ≤ s.size) {e : EX} {j : Nat} (h : nubS s i = some (e, j)) (d : Nat) : okE .inl e d = true ∧ ∃ t, e = .mk 1 t E0 E0 [] none [] := by
  unfold nubS at h
  split at h
  · cases h
  · next hn =>
    cases h
    refine ⟨?_, _, rfl⟩
    rw [okE]
    unfold inlP
    rw [if_neg (by decide), if_pos rfl, num_ok hi hn, emp_E0]
    rfl
theorem var_ok {s : ByteArray} {i : Nat} {e : EX} {j : Nat} (h : varS s i = some (e, j)) (d : Nat) : okE .inl e d = true := by
  unfold varS at h
  split at h
  · next hc =>
    rw [Bool.and_eq_true, decide_eq_true_iff] at hc
    cases h
    rw [okE]
    unfold inlP
    rw [if_neg (by decide), if_neg (by decide), if_pos rfl, name_ok (by omega), emp_E0]
    rfl
  · cases h
theorem quo_ok {s : ByteArray} (hStr : ∀ i t n, unqAll (s.extract i s.size) = some (t, n) → validB (mkB t) = true) {i : Nat} {e : EX} {j : Nat} (h : quoS s i = some (e, j)) (d : Nat) : okE .inl e d = true ∧ ∃ t, e = .mk 0 t E0 E0 [] none [] := by
  unfold quoS at h
  split at h
  · next t n hu =>
    cases h
    refine ⟨?_, _, rfl⟩
    rw [okE]
    unfold inlP
    rw [if_pos rfl, hStr _ _ _ hu, emp_E0]
    rfl
  · cases h
/-- A reference: its name, its attribute. -/
theorem ref_form {k : Int} {s : ByteArray} {i : Nat} {e : EX} {j : Nat} (h : refS k s i = some (e, j)) : ∃ n a, e = .mk k E0 n a [] none [] ∧ isNameV n = true ∧ (a = E0 ∨ isNameV a = true) := by
  unfold refS at h
  split at h
  · cases h
  · next hn =>
    split at h
    · split at h
      · cases h
      · next hn2 =>
        cases h
        exact ⟨_, _, rfl, name_ok hn, Or.inr (name_ok hn2)⟩
    · cases h
      exact ⟨_, _, rfl, name_ok hn, Or.inl rfl⟩
/-- What a head may be: by itself, or with arguments to come. -/
theorem head_ok {s : ByteArray} (hStr : ∀ i t n, unqAll (s.extract i s.size) = some (t, n) → validB (mkB t) = true) {P : Nat → Res} {d : Nat} (hP : ∀ i e j, P i = some (e, j) → okE .brc e (d + 1) = true) {i : Nat} (hi : i ≤ s.size) {e : EX} {j : Nat} (h : headS P s i = some (e, j)) :
    ∃ k t n a ie, e = .mk k t n a [] ie [] ∧ (termAttr e = false → okE .inl e d = true) ∧ (k = 3 ∨ k = 4 → t = E0 ∧ ie = none ∧ isNameV n = true ∧ (a = E0 ∨ isNameV a = true)) ∧ (k = 0 ∨ k = 1 ∨ k = 2 ∨ k = 3 ∨ k = 4 ∨ k = 6) := by
  unfold headS at h
  cases hq : quoS s i with
  | some x =>
    rw [hq, Option.some_or] at h
    cases h
    obtain ⟨h1, t, rfl⟩ := quo_ok hStr hq d
    exact ⟨0, t, E0, E0, none, rfl, fun _ => h1, fun h => by omega, Or.inl rfl⟩
  | none =>
    rw [hq, Option.none_or] at h
    cases hv : varS s i with
    | some x =>
      rw [hv, Option.some_or] at h
      cases h
      have h1 := var_ok hv d
      unfold varS at hv
      split at hv
      · cases hv
        exact ⟨2, E0, _, E0, none, rfl, fun _ => h1, fun h => by omega, by omega⟩
      · cases hv
    | none =>
      rw [hv, Option.none_or] at h
      cases hn : nestS P i with
      | some x =>
        rw [hn, Option.some_or] at h
        cases h
        unfold nestS at hn
        split at hn
        · next e' j' hp =>
          cases hn
          refine ⟨6, E0, E0, E0, some e', rfl, fun _ => ?_, fun h => by omega, by omega⟩
          rw [okE, okO]
          unfold inlP
          rw [hP _ _ _ hp, emp_E0]
          rfl
        · cases hn
      | none =>
        rw [hn, Option.none_or] at h
        cases ht : terS s i with
        | some x =>
          rw [ht, Option.some_or] at h
          cases h
          unfold terS at ht
          split at ht
          · obtain ⟨n, a, rfl, h2, h3⟩ := ref_form ht
            refine ⟨4, E0, n, a, none, rfl, fun h4 => ?_, fun _ => ⟨rfl, rfl, h2, h3⟩, by omega⟩
            have ha : emp a = true := by
              unfold termAttr at h4
              simpa using h4
            rw [okE]
            unfold inlP
            rw [h2, ha, emp_E0]
            rfl
          · cases ht
        | none =>
          rw [ht, Option.none_or] at h
          cases hr : refS 3 s i with
          | some x =>
            rw [hr, Option.some_or] at h
            cases h
            obtain ⟨n, a, rfl, h2, h3⟩ := ref_form hr
            refine ⟨3, E0, n, a, none, rfl, fun _ => ?_, fun _ => ⟨rfl, rfl, h2, h3⟩, by omega⟩
            rw [okE]
            unfold inlP
            rw [h2, emp_E0]
            rcases h3 with rfl | h3
            · rw [emp_E0]; rfl
            · rw [h3, Bool.or_true]; rfl
          | none =>
            rw [hr, Option.none_or] at h
            obtain ⟨h1, t, rfl⟩ := nub_ok hi h d
            exact ⟨1, t, E0, E0, none, rfl, fun _ => h1, fun h => by omega, by omega⟩
end Go.Proofs.YticjinmpanfhkaaGreatDoor

/-
  What is read may be: arguments.
-/
namespace Go.Proofs.YticjinmpanfhkaaGreatDoor
open Go.RowKit
set_option linter.unusedVariables false
set_option linter.unusedSimpArgs false

theorem emp_size (X : ByteArray) : emp X = decide (X.size = 0) := by
  unfold emp
  have h := ext_empty X 0 X.size (Nat.zero_le _) (Nat.le_refl _)
  rw [show X.extract 0 X.size = X by apply bytes_eq; rw [extract_list, List.take_of_length_le (by rw [size_data]; exact Nat.le_refl _)]; rfl] at h
  exact h
theorem arg_ok {s : ByteArray} (hStr : ∀ i t n, unqAll (s.extract i s.size) = some (t, n) → validB (mkB t) = true) {P : Nat → Res} {d : Nat} {i : Nat} (hi : i ≤ s.size) {n : ByteArray} {e : EX} {j : Nat} (h : argS P s i = some (n, e, j)) :
    (emp n = true ∧ headS P s i = some (e, j)) ∨ (emp n = false ∧ isNameV n = true ∧ okE .inl e d = true ∧ ∃ k t, e = .mk k t E0 E0 [] none [] ∧ (k = 0 ∨ k = 1)) := by
  unfold argS at h
  split at h
  · next x hx =>
    cases h
    right
    unfold namS at hx
    split at hx
    · cases hx
    · next hn =>
      split at hx
      · split at hx
        · next e' q hq =>
          cases hx
          have hk := nm_ok s i hi
          have hb1 := bl_ok s (nm s i) hk.2
          refine ⟨?_, name_ok hn, ?_⟩
          · rw [emp_size, decide_eq_false]
            rw [ByteArray.size_extract]
            omega
          · cases hu : quoS s (bl s (bl s (nm s i) + 1)) with
            | some y =>
              rw [hu, Option.some_or] at hq
              cases hq
              obtain ⟨h1, t, rfl⟩ := quo_ok hStr hu d
              exact ⟨h1, 0, t, rfl, Or.inl rfl⟩
            | none =>
              rw [hu, Option.none_or] at hq
              have hle : bl s (bl s (nm s i) + 1) ≤ s.size := by
                by_cases hl : bl s (nm s i) + 1 ≤ s.size
                · exact (bl_ok s _ hl).2
                · exfalso
                  have e1 : bl s (bl s (nm s i) + 1) = bl s (nm s i) + 1 := behN_end _ _ _ (by rw [size_data]; omega)
                  rw [e1] at hq
                  unfold nubS at hq
                  split at hq
                  · cases hq
                  · next hz =>
                    apply hz
                    unfold nu numN
                    have e2 : ¬ bl s (nm s i) + 1 < s.data.toList.length := by rw [size_data]; exact fun h => hl (by omega)
                    simp only [e2, false_and, if_false]
                    have e3 : behN dgB s.data.toList (bl s (nm s i) + 1) = bl s (nm s i) + 1 := behN_end _ _ _ (by rw [size_data]; omega)
                    rw [e3]
                    simp
              obtain ⟨h1, t, rfl⟩ := nub_ok hle hq d
              exact ⟨h1, 1, t, rfl, Or.inr rfl⟩
        · cases hx
      · cases hx
  · split at h
    · next e' j' hh =>
      cases h
      exact Or.inl ⟨emp_E0, hh⟩
    · cases h
/-- With its arguments, a call may be. -/
theorem call_ok {s : ByteArray} (hStr : ∀ i t n, unqAll (s.extract i s.size) = some (t, n) → validB (mkB t) = true) {P : Nat → Res} {d : Nat} (hP : ∀ i e j, P i = some (e, j) → okE .brc e (d + 1) = true) {i : Nat} (hi : i ≤ s.size) {e : EX} {j : Nat} (h : headS P s i = some (e, j)) (ho : (opnS s e j).1 = true) {xs : List AR} (ha : okAs xs d = true) (hn : argNames [] xs = true) :
    (termAttr (withArgs (opnE e) xs) = false → okE .inl (withArgs (opnE e) xs) d = true) ∧ (mayAsk (withArgs (opnE e) xs) = true → okE .ask (withArgs (opnE e) xs) d = true) := by
  obtain ⟨k, t, n, a, ie, rfl, h1, h2, h3⟩ := head_ok hStr hP hi h
  have hk : (k = 3 ∧ emp a = true ∧ bigV n = true) ∨ k = 4 := by
    unfold opnS at ho
    split at ho
    · next hc =>
      unfold isFuncS isTermS at hc
      rw [Bool.or_eq_true, Bool.and_eq_true, Bool.and_eq_true, beq_iff_eq, beq_iff_eq] at hc
      rcases hc with ⟨⟨hc1, hc2⟩, hc3⟩ | hc
      · exact Or.inl ⟨hc1, hc2, hc3⟩
      · exact Or.inr hc
    · cases ho
  obtain ⟨rfl, rfl, hnm, hat⟩ := h2 (by rcases hk with ⟨hk, _⟩ | hk <;> omega)
  rcases hk with ⟨rfl, hea, hbg⟩ | rfl
  · have e1 : withArgs (opnE (.mk 3 E0 n a [] none [])) xs = .mk 5 E0 n a xs none [] := rfl
    rw [e1]
    have hI : inlP 5 E0 n a xs.isEmpty (none : Option EX).isNone ([] : List VA).isEmpty (argNames [] xs && okAs xs d) (okO .brc none (d + 1)) = true := by
      unfold inlP
      rw [if_neg (by decide), if_neg (by decide), if_neg (by decide), if_neg (by decide), if_neg (by decide), if_pos rfl, hnm, hbg, hn, ha, emp_E0, hea]
      rfl
    refine ⟨fun _ => by rw [okE]; exact hI, fun _ => ?_⟩
    rw [okE]
    rw [if_neg (by decide), if_pos (by decide)]
    exact hI
  · have e1 : withArgs (opnE (.mk 4 E0 n a [] none [])) xs = .mk 4 E0 n a xs none [] := rfl
    rw [e1]
    have hI : inlP 4 E0 n ByteArray.empty xs.isEmpty (none : Option EX).isNone ([] : List VA).isEmpty (argNames [] xs && okAs xs d) (okO .brc none (d + 1)) = true := by
      unfold inlP
      rw [if_neg (by decide), if_neg (by decide), if_neg (by decide), if_neg (by decide), if_pos rfl, hnm, hn, ha, emp_E0, show emp ByteArray.empty = true by kernel_rfl]
      rfl
    refine ⟨fun h4 => ?_, fun h4 => ?_⟩
    · have hea : emp a = true := by
        unfold termAttr at h4
        simpa using h4
      rw [okE]
      unfold inlP at hI ⊢
      rw [if_neg (by decide), if_neg (by decide), if_neg (by decide), if_neg (by decide), if_pos rfl, hnm, hn, ha, emp_E0, hea]
      rfl
    · have hea : emp a = false := by
        unfold mayAsk termAttr at h4
        simpa using h4
      rw [okE]
      rw [if_pos rfl, hI]
      rcases hat with rfl | hat
      · rw [emp_E0] at hea; cases hea
      · rw [hat]; rfl
theorem args_ok {s : ByteArray} (hStr : ∀ i t n, unqAll (s.extract i s.size) = some (t, n) → validB (mkB t) = true) {P : Nat → Res} {d : Nat} (hP : ∀ i e j, P i = some (e, j) → okE .brc e (d + 1) = true) : ∀ (m : Nat) (xs : List AR) (want : Bool) (i : Nat) (xs' : List AR) (j : Nat), s.size - i ≤ m → i ≤ s.size → okAs xs d = true → argNames [] xs = true →
    argsS P s xs want i = some (xs', j) → okAs xs' d = true ∧ argNames [] xs' = true
  | m, xs, want, i, xs', j, hm, hi, ha, hn, h => by
    rw [argsS] at h
    have hb := bl_ok s i hi
    split at h
    · cases h; exact ⟨ha, hn⟩
    · split at h
      · split at h
        · next hc =>
          have hlt := isAt_lt hc
          cases m with
          | zero => omega
          | succ m => exact args_ok hStr hP m xs false (bl s i + 1) xs' j (by omega) (by omega) ha hn h
        · cases h
      · split at h
        · cases h
        · next n e j' hg =>
          have hag := arg_ok hStr hb.2 hg (d := d)
          split at h
          · next hc =>
            rw [Bool.and_eq_true] at hc
            split at h
            · next hp =>
              split at h
              · cases h
              · next xs2 m2 hin =>
                split at h
                · next hp2 =>
                  split at h
                  · next had =>
                    cases m with
                    | zero => omega
                    | succ m =>
                      obtain ⟨g1, g2⟩ := args_ok hStr hP m [] false _ xs2 m2 (by omega) hp.2 rfl rfl hin
                      have hh : headS P s (bl s i) = some (e, j') := by
                        rcases hag with ⟨_, h1⟩ | ⟨h1, _⟩
                        · exact h1
                        · rw [hc.1] at h1; cases h1
                      have hco := call_ok hStr hP hb.2 hh hc.2 g1 g2
                      unfold addOk at had
                      rw [if_pos emp_E0, Bool.and_eq_true, Bool.not_eq_true'] at had
                      exact args_ok hStr hP m _ true m2 xs' j (by omega) hp2.2 (okAs_snoc (hco.1 had.2) xs ha) (names_plain emp_E0 xs hn (fun x hx => List.all_eq_true.1 had.1 x hx)) h
                  · cases h
                · cases h
            · cases h
          · next hc =>
            generalize (if emp n = true then (opnS s e j').2 else j') = pp at h
            split at h
            · next hp =>
              split at h
              · next had =>
                cases m with
                | zero => omega
                | succ m =>
                  rcases hag with ⟨h1, hh⟩ | ⟨h1, h2, h3, k, t, rfl, hk⟩
                  · obtain ⟨k, t, n', a, ie, rfl, g1, _, _⟩ := head_ok hStr hP hb.2 hh
                    unfold addOk at had
                    rw [if_pos h1, Bool.and_eq_true, Bool.not_eq_true'] at had
                    exact args_ok hStr hP m _ true _ xs' j (by omega) hp.2 (okAs_snoc (g1 had.2) xs ha) (names_plain h1 xs hn (fun x hx => List.all_eq_true.1 had.1 x hx)) h
                  · unfold addOk at had
                    rw [if_neg (by rw [h1]; simp), Bool.not_eq_true', List.any_eq_false] at had
                    exact args_ok hStr hP m _ true _ xs' j (by omega) hp.2 (okAs_snoc h3 xs ha) (names_named h1 h2 hk xs [] hn rfl (fun x hx => by simpa using had x hx)) h
              · cases h
            · cases h
theorem inl_ok {s : ByteArray} (hStr : ∀ i t n, unqAll (s.extract i s.size) = some (t, n) → validB (mkB t) = true) {P : Nat → Res} {d : Nat} (hP : ∀ i e j, P i = some (e, j) → okE .brc e (d + 1) = true) {i : Nat} (hi : i ≤ s.size) {e : EX} {j : Nat} (h : inlS P s i = some (e, j)) :
    (termAttr e = false → okE .inl e d = true) ∧ (mayAsk e = true → okE .ask e d = true) := by
  unfold inlS at h
  split at h
  · cases h
  · next e0 j0 hh =>
    split at h
    · next ho =>
      split at h
      · cases h
      · next xs m hx =>
        cases h
        have hop : (opnS s e0 j0).2 ≤ s.size := by
          have ho2 := ho
          unfold opnS at ho2 ⊢
          split
          · next hc =>
            rw [if_pos hc] at ho2
            split
            · next h40 => exact isAt_lt h40
            · next h40 => rw [if_neg h40] at ho2; cases ho2
          · next hc => rw [if_neg hc] at ho2; cases ho2
        obtain ⟨g1, g2⟩ := args_ok hStr hP s.size [] false _ xs _ (by omega) hop rfl rfl hx
        exact call_ok hStr hP hi hh ho g1 g2
    · next ho =>
      cases h
      obtain ⟨k, t, n, a, ie, rfl, h1, h2, h3⟩ := head_ok hStr hP hi hh
      refine ⟨h1, fun hm => ?_⟩
      by_cases h4 : k = 4
      · subst h4
        obtain ⟨rfl, rfl, hnm, hat⟩ := h2 (Or.inr rfl)
        have hea : emp a = false := by
          unfold mayAsk termAttr at hm
          simpa using hm
        have hI : inlP 4 E0 n ByteArray.empty ([] : List AR).isEmpty (none : Option EX).isNone ([] : List VA).isEmpty (argNames [] [] && okAs [] d) (okO .brc none (d + 1)) = true := by
          unfold inlP
          rw [if_neg (by decide), if_neg (by decide), if_neg (by decide), if_neg (by decide), if_pos rfl, hnm, emp_E0, show emp ByteArray.empty = true by kernel_rfl]
          rfl
        rw [okE]
        rw [if_pos rfl, hI]
        rcases hat with rfl | hat
        · rw [emp_E0] at hea; cases hea
        · rw [hat]; rfl
      · have hta : termAttr (.mk k t n a [] ie []) = false := by
          show (k == 4 && !emp a) = false
          rw [beq_eq_false_iff_ne.2 h4, Bool.false_and]
        have hk : k = 0 ∨ k = 1 ∨ k = 2 ∨ k = 5 := by
          have hm2 : (decide (k = 0 ∨ k = 1 ∨ k = 2 ∨ k = 5) || termAttr (.mk k t n a [] ie [])) = true := hm
          rw [hta, Bool.or_false, decide_eq_true_iff] at hm2
          exact hm2
        have hI := h1 hta
        rcases hk with rfl | rfl | rfl | rfl
        all_goals
          rw [okE] at hI
          rw [okE]
          rw [if_neg (by decide), if_pos (by decide)]
          exact hI
end Go.Proofs.YticjinmpanfhkaaGreatDoor
