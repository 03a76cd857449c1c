/-
  Several texts put together (part 51): what the law and the program call, walked; their contracts.
-/
import Derived.Test.YticjinmpanfhkaaGreatDoorQ50
import Derived.Test.YticjinmpanfhkaaGreatDoorQ19
import Derived.Test.YticjinmpanfhkaaGreatDoorQ20
/-
  What is read may be: a pattern's lines as they are read; comments.
-/
namespace Go.Proofs.YticjinmpanfhkaaGreatDoor
open Go.RowKit
set_option linter.unusedVariables false
set_option linter.unusedSimpArgs false

/-- Behind a place stands its brace. -/
def EndBr (s : ByteArray) (P : Nat → Res) : Prop := ∀ i e j, P i = some (e, j) → ∃ q, j = q + 1 ∧ isAt s q 125 = true
theorem vars_end {s : ByteArray} {P : Nat → Res} : ∀ (m : Nat) (acc : List VA) (i : Nat) (vs : List VA) (j : Nat), s.size - i ≤ m → varsS P s acc i = some (vs, j) → ∃ q, j = q + 1 ∧ isAt s q 125 = true
  | m, acc, i, vs, j, hm, h => by
    rw [varsS] at h
    split at h
    · next hc =>
      split at h
      · cases h; exact ⟨i, rfl, hc⟩
      · cases h
    · split at h
      · cases h
      · next v j' hv =>
        split at h
        · next hl =>
          cases m with
          | zero => omega
          | succ m => exact vars_end m _ _ vs j (by omega) h
        · cases h
theorem place_end (s : ByteArray) : ∀ r, EndBr s (placeS s r)
  | 0, i, e, j, h => by rw [placeS] at h; cases h
  | r + 1, i, e, j, h => by
    rw [placeS] at h
    split at h
    · split at h
      · cases h
      · next e0 j0 hin =>
        split at h
        · next h125 =>
          split at h
          · cases h
          · cases h; exact ⟨_, rfl, h125⟩
        · split at h
          · split at h
            · cases h
            · next vs m hv =>
              cases h
              unfold selS at hv
              split at hv
              · exact vars_end s.size _ _ vs _ (by omega) hv
              · cases hv
          · cases h
    · cases h
theorem parts_pre {s : ByteArray} {P : Nat → Res} : ∀ (m : Nat) (acc : List EL) (i : Nat) (ps : List EL) (j : Nat), s.size - i ≤ m → partsS P s acc i = some (ps, j) → ∃ more, ps = acc ++ more
  | m, acc, i, ps, j, hm, h => by
    have hT : ∃ more, addT s acc i (tx s i) = acc ++ more := by
      unfold addT
      split
      · exact ⟨_, rfl⟩
      · exact ⟨[], (List.append_nil _).symm⟩
    obtain ⟨mo, hmo⟩ := hT
    rw [partsS] at h
    split at h
    · split at h
      · cases h
      · next e j' hp =>
        split at h
        · next hl =>
          cases m with
          | zero => omega
          | succ m =>
            obtain ⟨more, h2⟩ := parts_pre m _ j' ps j (by omega) h
            exact ⟨mo ++ ([.mk E0 (some e)] ++ more), by rw [h2, hmo, List.append_assoc, List.append_assoc]⟩
        · cases h
    · cases h
      exact ⟨mo, hmo⟩
theorem tx_stop {s : ByteArray} {i : Nat} (h : tx s i < s.size) : at0 s.data.toList (tx s i) = 10 ∨ at0 s.data.toList (tx s i) = 123 ∨ at0 s.data.toList (tx s i) = 125 := by
  have := behN_stop txB s.data.toList i (by rw [size_data]; exact h)
  have h2 : txB (at0 s.data.toList (tx s i)) = false := this
  unfold txB at h2
  rw [Bool.not_eq_false', Bool.or_eq_true, Bool.or_eq_true, beq_iff_eq, beq_iff_eq, beq_iff_eq] at h2
  rcases h2 with (h2 | h2) | h2
  · exact Or.inl h2
  · exact Or.inr (Or.inl h2)
  · exact Or.inr (Or.inr h2)
theorem piece_ok {s : ByteArray} (hs : Sn s) {i : Nat} (hi : i ≤ s.size) (hb : Bd s i) (h : i < tx s i) : ElOk (.mk (s.extract i (tx s i)) none) := by
  have ht := tx_ok s i hi
  have hsg : ∀ c ∈ (s.extract i (tx s i)).data.toList, txB c = true ∧ c ≠ 13 := fun c hc => by
    obtain ⟨k, k1, k2, k3, rfl⟩ := mem_extract hc
    exact ⟨behN_so txB s.data.toList i k k1 k2, hs.cr _ (by rw [at0_get _ _ (by rw [size_data]; exact k3)]; exact List.getElem_mem _)⟩
  have hno : ∀ c ∈ (s.extract i (tx s i)).data.toList, c ≠ 10 ∧ c ≠ 123 ∧ c ≠ 125 ∧ c ≠ 13 := fun c hc => by
    obtain ⟨h1, h2⟩ := hsg c hc
    unfold txB at h1
    rw [Bool.not_eq_true', Bool.or_eq_false_iff, Bool.or_eq_false_iff, beq_eq_false_iff_ne, beq_eq_false_iff_ne, beq_eq_false_iff_ne] at h1
    exact ⟨h1.1.1, h1.1.2, h1.2, h2⟩
  refine ⟨⟨piece_valid hb ht.1 ?_, fun c hc => ⟨(hno c hc).2.2.2, (hno c hc).2.1, (hno c hc).2.2.1⟩⟩, ?_, fun c hc => (hno c hc).1⟩
  · by_cases hl : tx s i < s.size
    · refine Or.inr ⟨hl, ?_⟩
      rcases tx_stop hl with h | h | h <;> (rw [h]; decide)
    · exact Or.inl (by omega)
  · intro e
    have := congrArg List.length e
    rw [size_data, ByteArray.size_extract, List.length_nil] at this
    omega
theorem addT_els {s : ByteArray} (hs : Sn s) {acc : List EL} {i : Nat} (hi : i ≤ s.size) (hb : Bd s i) (ha : ∀ e ∈ acc, ElOk e) : ∀ e ∈ addT s acc i (tx s i), ElOk e := by
  unfold addT
  split
  · next h =>
    intro e he
    rcases List.mem_append.1 he with he | he
    · exact ha e he
    · rw [List.mem_singleton] at he
      rw [he]
      exact piece_ok hs hi hb h
  · exact ha
theorem parts_els {s : ByteArray} (hs : Sn s) {P : Nat → Res} (hE : EndBr s P) : ∀ (m : Nat) (acc : List EL) (i : Nat) (ps : List EL) (j : Nat), s.size - i ≤ m → i ≤ s.size → Bd s i → (∀ e ∈ acc, ElOk e) → partsS P s acc i = some (ps, j) → (∀ e ∈ ps, ElOk e) ∧ j ≤ s.size
  | m, acc, i, ps, j, hm, hi, hb, ha, h => by
    have ht := tx_ok s i hi
    have hA := addT_els hs hi hb ha
    rw [partsS] at h
    split at h
    · split at h
      · cases h
      · next e j' hp =>
        split at h
        · next hl =>
          obtain ⟨q, rfl, hq⟩ := hE _ _ _ hp
          cases m with
          | zero => omega
          | succ m =>
            refine parts_els hs hE m _ (q + 1) ps j (by omega) hl.2 (bd_behind hs hq (by decide)) (fun x hx => ?_) h
            rcases List.mem_append.1 hx with hx | hx
            · exact hA x hx
            · rw [List.mem_singleton] at hx
              rw [hx]
              exact (rfl : (E0 : ByteArray) = E0)
        · cases h
    · cases h
      exact ⟨hA, ht.2⟩
theorem lines_addT {s : ByteArray} {i : Nat} (hi : i ≤ s.size) : (i < tx s i ∧ ∃ B, linesOf 123 (addT s [] i (tx s i)) = at0 s.data.toList i :: B) ∨ (tx s i = i ∧ addT s [] i (tx s i) = []) := by
  have ht := tx_ok s i hi
  unfold addT
  by_cases h : i < tx s i
  · left
    refine ⟨h, ?_⟩
    rw [if_pos h, List.nil_append, linesOf, linesOf, List.append_nil]
    cases hL : (s.extract i (tx s i)).data.toList with
    | nil =>
      have := congrArg List.length hL
      rw [size_data, ByteArray.size_extract, List.length_nil] at this
      omega
    | cons c B =>
      have := ext_at0 s i (tx s i) 0 ht.2 (by omega)
      rw [hL] at this
      exact ⟨B, by rw [Nat.add_zero] at this; rw [← this]; rfl⟩
  · right
    exact ⟨by omega, by rw [if_neg h]⟩
/-- How a line begins. -/
theorem parts_head {s : ByteArray} {P : Nat → Res} {i : Nat} (hi : i ≤ s.size) {ps : List EL} {j : Nat} (h : partsS P s [] i = some (ps, j)) :
    (∃ B, linesOf 123 ps = at0 s.data.toList i :: B) ∨ (linesOf 123 ps = [] ∧ tx s i = i ∧ isAt s i 123 = false) := by
  rw [partsS] at h
  split at h
  · next hc =>
    split at h
    · cases h
    · next e j' hp =>
      split at h
      · next hl =>
        obtain ⟨more, h2⟩ := parts_pre s.size _ j' ps j (by omega) h
        left
        rw [h2, linesOf_app, linesOf_app]
        rcases lines_addT (s := s) hi with ⟨_, B, hB⟩ | ⟨h3, h4⟩
        · exact ⟨_, by rw [hB]; rfl⟩
        · rw [h4, linesOf, linesOf, linesOf]
          rw [h3] at hc
          exact ⟨linesOf 123 more, by rw [isAt_eq hc]; rfl⟩
      · cases h
  · next hc =>
    cases h
    rcases lines_addT (s := s) hi with ⟨_, B, hB⟩ | ⟨h3, h4⟩
    · exact Or.inl ⟨B, hB⟩
    · rw [h3] at hc
      exact Or.inr ⟨by rw [h4, linesOf], h3, by simpa using hc⟩
theorem nl_shape {s : ByteArray} : ∀ (m f fr q : Nat), s.size - q ≤ m → q ≤ s.size → (fr = q ∨ (q = sp s fr ∧ fr ≤ s.size ∧ 0 < f)) →
    isAt s (nlS s f fr q).2.2 10 = false ∧ (nlS s f fr q).2.2 ≤ s.size ∧ ((nlS s f fr q).2.2 = (nlS s f fr q).2.1 ∨ ((nlS s f fr q).2.2 = sp s (nlS s f fr q).2.1 ∧ (nlS s f fr q).2.1 ≤ s.size ∧ 0 < (nlS s f fr q).1))
  | m, f, fr, q, hm, hq, h => by
    rw [nlS]
    split
    · next hc =>
      have h1 := isAt_lt hc
      have h2 := sp_ok s (q + 1) h1
      cases m with
      | zero => omega
      | succ m => exact nl_shape m (f + 1) (q + 1) (sp s (q + 1)) (by omega) h2.2 (Or.inr ⟨rfl, h1, by omega⟩)
    · next hc =>
      refine ⟨by simpa using hc, hq, ?_⟩
      rcases h with h | h
      · exact Or.inl h.symm
      · exact Or.inr h
theorem next_ok {s : ByteArray} (hs : Sn s) {j f p k : Nat} (hj : j ≤ s.size) (h : nextS s j = some (f, p, k)) :
    1 ≤ f ∧ k < s.size ∧ Bd s k ∧ at0 s.data.toList k ≠ 32 ∧ at0 s.data.toList k ≠ 10 ∧ isMarkB (at0 s.data.toList k) = false ∧ at0 s.data.toList k ≠ 125 := by
  have hn := nl_shape (s := s) s.size 0 j j (by omega) hj (Or.inl rfl)
  unfold nextS at h
  obtain ⟨r, hr⟩ : ∃ r, nlS s 0 j j = r := ⟨_, rfl⟩
  rw [hr] at h hn
  obtain ⟨n1, n2, n3⟩ := hn
  split at h
  · cases h
  · next hc =>
    cases h
    rw [not_or, not_or] at hc
    obtain ⟨c1, c2, c3⟩ := hc
    rcases n3 with n3 | ⟨n3, n4, n5⟩
    · exact absurd n3 c1
    have hk : r.2.2 < s.size := by omega
    have hge := sp_ge s r.2.1
    have hsp := behN_so spB s.data.toList r.2.1 (r.2.2 - 1) (by omega) (by show r.2.2 - 1 < sp s r.2.1; omega)
    have hb : Bd s r.2.2 := by
      have := bd_next hs (i := r.2.2 - 1) (by omega) (by
        unfold spB at hsp
        rw [decide_eq_true_iff] at hsp
        omega)
      rw [show r.2.2 - 1 + 1 = r.2.2 by omega] at this
      exact this
    have h32 : at0 s.data.toList r.2.2 ≠ 32 := by
      have := behN_stop spB s.data.toList r.2.1 (by rw [size_data]; show sp s r.2.1 < s.size; omega)
      have h2 : spB (at0 s.data.toList (sp s r.2.1)) = false := this
      rw [← n3] at h2
      intro e
      rw [e] at h2
      exact absurd h2 (by decide)
    have h10 : at0 s.data.toList r.2.2 ≠ 10 := by
      intro e
      unfold isAt at n1
      rw [decide_eq_true hk, Bool.true_and, beq_eq_false_iff_ne] at n1
      exact n1 e
    rw [Bool.not_eq_true] at c3
    unfold stopB at c3
    rw [Bool.or_eq_false_iff, Bool.or_eq_false_iff, Bool.or_eq_false_iff, beq_eq_false_iff_ne, beq_eq_false_iff_ne, beq_eq_false_iff_ne, beq_eq_false_iff_ne] at c3
    obtain ⟨⟨⟨d1, d2⟩, d3⟩, d4⟩ := c3
    refine ⟨by omega, hk, hb, h32, h10, ?_, d4⟩
    refine decide_eq_false ?_
    rintro (e | e | e)
    · exact d1 (UInt8.toNat_inj.1 (by show (at0 s.data.toList r.2.2).toNat = 46; omega))
    · exact d2 (UInt8.toNat_inj.1 (by show (at0 s.data.toList r.2.2).toNat = 42; omega))
    · exact d3 (UInt8.toNat_inj.1 (by show (at0 s.data.toList r.2.2).toNat = 91; omega))
/-- The first line, and those that follow. -/
theorem lines_shape {s : ByteArray} (hs : Sn s) {P : Nat → Res} (hE : EndBr s P) : ∀ (m : Nat) (acc : List LN) (f p i : Nat) (ls : List LN) (j : Nat), s.size - i ≤ m → i ≤ s.size → Bd s i → linesS P s acc f p i = some (ls, j) →
    ∃ x more, ls = acc ++ x :: more ∧ x.feeds = f ∧ (∃ j0, partsS P s [] i = some (x.parts, j0)) ∧ ∀ y ∈ more, TailOk y
  | m, acc, f, p, i, ls, j, hm, hi, hb, h => by
    rw [linesS] at h
    split at h
    · cases h
    · next ps j0 hp =>
      have hpe := parts_els hs hE s.size [] i ps j0 (by omega) hi hb (fun e he => by cases he) hp
      split at h
      · cases h
        exact ⟨⟨f, p, ps⟩, [], rfl, rfl, ⟨_, hp⟩, fun y hy => by cases hy⟩
      · next f' p' k hnx =>
        split at h
        · next hl =>
          obtain ⟨g1, g2, g3, g4, g5, g6, g7⟩ := next_ok hs hpe.2 hnx
          cases m with
          | zero => omega
          | succ m =>
            obtain ⟨x, more, e1, e2, ⟨j1, e3⟩, e4⟩ := lines_shape hs hE m _ f' p' k ls j (by omega) hl.2 g3 h
            have hxe := parts_els hs hE s.size [] k x.parts j1 (by omega) hl.2 g3 (fun e he => by cases he) e3
            have hT : TailOk x := by
              refine ⟨hxe.1, by omega, ?_⟩
              rcases parts_head hl.2 e3 with ⟨B, hB⟩ | ⟨_, h2, h3⟩
              · exact ⟨_, B, hB, g4, g5, g6⟩
              · exfalso
                have h4 := tx_stop (s := s) (i := k) (by rw [h2]; exact g2)
                rw [h2] at h4
                rcases h4 with h4 | h4 | h4
                · exact g5 h4
                · unfold isAt at h3
                  rw [decide_eq_true g2, Bool.true_and, beq_eq_false_iff_ne] at h3
                  exact h3 h4
                · exact g7 h4
            refine ⟨⟨f, p, ps⟩, x :: more, by rw [e1, List.append_assoc]; rfl, rfl, ⟨j0, hp⟩, fun y hy => ?_⟩
            rcases List.mem_cons.1 hy with hy | hy
            · rw [hy]; exact hT
            · exact e4 y hy
        · cases h
theorem patRule_ok {s : ByteArray} (hs : Sn s) : PatRule s := by
  intro r i l j c hc hc8 hp
  have hi := isAt_lt hc
  have hsp := sp_ok s (i + 1) hi
  have hb := bd_sp hs (bd_behind hs hc hc8)
  unfold patS at hp
  split at hp
  · cases hp
  · next ls j' hl =>
    cases hp
    obtain ⟨x, more, e1, _, ⟨j0, e3⟩, e4⟩ := lines_shape hs (place_end s r) s.size [] 0 0 _ ls _ (by omega) hsp.2 hb hl
    have hxe := parts_els hs (place_end s r) s.size [] _ x.parts j0 (by omega) hsp.2 hb (fun e he => by cases he) e3
    rw [e1, List.nil_append]
    refine join_rule hxe.1 ?_ e4
    intro d B hB
    have h10 := els_no10 hxe.1 d (by rw [hB]; exact List.mem_cons_self ..)
    refine ⟨?_, h10⟩
    rcases parts_head hsp.2 e3 with ⟨B', hB'⟩ | ⟨h2, _⟩
    · rw [hB] at hB'
      injection hB' with h3 _
      rw [h3]
      intro e32
      have hlt : sp s (i + 1) < s.size := by
        refine Nat.lt_of_not_le fun hle => ?_
        unfold at0 at e32
        rw [List.getD_eq_getElem?_getD, List.getElem?_eq_none (by rw [size_data]; exact hle)] at e32
        exact absurd e32 (by decide)
      have := behN_stop spB s.data.toList (i + 1) (by rw [size_data]; exact hlt)
      have h5 : spB (at0 s.data.toList (sp s (i + 1))) = false := this
      rw [e32] at h5
      exact absurd h5 (by decide)
    · rw [h2] at hB
      cases hB
/-- A comment's line. -/
def TxC (l : List UInt8) : Prop := Lib.validD l = true ∧ ∀ c ∈ l, c ≠ 13
theorem TxC.nil : TxC [] := ⟨rfl, fun c hc => by cases hc⟩
theorem TxC.append {a b : List UInt8} (h : TxC a) (g : TxC b) : TxC (a ++ b) := ⟨valid_two h.1 g.1, fun c hc => by
  rcases List.mem_append.1 hc with hc | hc
  · exact h.2 c hc
  · exact g.2 c hc⟩
theorem comL_ok {s : ByteArray} (hs : Sn s) {i : Nat} (hi : i ≤ s.size) : (comL s i).1 ≤ 3 ∧ TxC (comL s i).2.data.toList ∧ (comL s i).2.size ≤ s.size := by
  have hl := li_ok s i hi
  unfold comL
  split
  · exact ⟨by decide, TxC.nil, Nat.zero_le _⟩
  · next hc =>
    rw [not_or] at hc
    obtain ⟨c1, c2⟩ := hc
    refine ⟨by show Go.Proofs.YticjinmpanfhkaaGreatDoor.hs s i - i ≤ 3; exact Nat.le_of_not_lt c1, ?_⟩
    split
    · next h =>
      have h32 : isAt s (Go.Proofs.YticjinmpanfhkaaGreatDoor.hs s i) 32 = true := by
        rw [Classical.not_and_iff_not_or_not] at c2
        rcases c2 with c2 | c2
        · exact absurd h c2
        · simpa using c2
      have hb := bd_behind hs h32 (by decide)
      refine ⟨⟨piece_valid hb (by omega) ?_, fun c hc => ?_⟩, by rw [ByteArray.size_extract]; omega⟩
      · by_cases hlt : li s i < s.size
        · exact Or.inr ⟨hlt, by rw [isAt_eq (li_stop s i hlt)]; decide⟩
        · exact Or.inl (by omega)
      · obtain ⟨k, k1, k2, k3, rfl⟩ := mem_extract hc
        exact hs.cr _ (by rw [at0_get _ _ (by rw [size_data]; exact k3)]; exact List.getElem_mem _)
    · exact ⟨TxC.nil, Nat.zero_le _⟩
theorem comGo_ok {s : ByteArray} (hs : Sn s) (lv : Nat) : ∀ (m : Nat) (acc : List ByteArray) (k : Nat) (w : ByteArray), s.size - k ≤ m → k ≤ s.size → (∀ y ∈ acc, TxC y.data.toList ∧ y.size ≤ s.size) → TxC w.data.toList ∧ w.size ≤ s.size →
    (∀ y ∈ (comGo s lv acc k w).1, TxC y.data.toList ∧ y.size ≤ s.size) ∧ (comGo s lv acc k w).1.length ≤ acc.length + (s.size - k) + 1
  | m, acc, k, w, hm, hk, ha, hw => by
    have ha2 : ∀ y ∈ acc ++ [w], TxC y.data.toList ∧ y.size ≤ s.size := fun y hy => by
      rcases List.mem_append.1 hy with hy | hy
      · exact ha y hy
      · rw [List.mem_singleton] at hy; rw [hy]; exact hw
    rw [comGo]
    split
    · next h =>
      cases m with
      | zero => omega
      | succ m =>
        have h1 := comGo_ok hs lv m (acc ++ [w]) (beh s k) (comL s (beh s k)).2 (by omega) h.2.2 ha2 ⟨(comL_ok hs h.2.2).2.1, (comL_ok hs h.2.2).2.2⟩
        refine ⟨h1.1, ?_⟩
        have h2 := h1.2
        rw [List.length_append, List.length_singleton] at h2
        omega
    · refine ⟨ha2, ?_⟩
      rw [List.length_append, List.length_singleton]
      omega
theorem join_cons (x : List UInt8) (y : List UInt8) (r : List (List UInt8)) : Lib.join (x :: y :: r) [10] = x ++ ([10] ++ Lib.join (y :: r) [10]) := by
  unfold Lib.join
  rw [List.intercalate_cons_cons, List.append_assoc]
theorem join_txc : ∀ (l : List ByteArray) (n : Nat), (∀ y ∈ l, TxC y.data.toList ∧ y.size ≤ n) → TxC (Lib.join (l.map (·.data.toList)) [10]) ∧ (Lib.join (l.map (·.data.toList)) [10]).length ≤ l.length * (n + 1)
  | [], n, _ => ⟨TxC.nil, by show (0 : Nat) ≤ _; omega⟩
  | [x], n, h => by
    have h1 := h x (by simp)
    have e : Lib.join ([x].map (·.data.toList)) [10] = x.data.toList := by
      unfold Lib.join
      simp
    rw [e]
    refine ⟨h1.1, ?_⟩
    rw [size_data, List.length_singleton]
    omega
  | x :: y :: r, n, h => by
    have h1 := h x (by simp)
    have h2 := join_txc (y :: r) n (fun z hz => h z (List.mem_cons_of_mem _ hz))
    have e : Lib.join ((x :: y :: r).map (·.data.toList)) [10] = x.data.toList ++ ([10] ++ Lib.join ((y :: r).map (·.data.toList)) [10]) := join_cons _ _ _
    rw [e]
    refine ⟨h1.1.append (TxC.append ⟨rfl, by decide⟩ h2.1), ?_⟩
    have e2 : (x :: y :: r).length = (y :: r).length + 1 := rfl
    rw [List.length_append, List.length_append, size_data, e2, Nat.add_one_mul]
    have h3 := h2.2
    have : ([(10 : UInt8)]).length = 1 := rfl
    omega
theorem com_ok {s : ByteArray} (hs : Sn s) (hz : s.size ≤ 400) {i : Nat} (hi : i < s.size) {x : EN} (h : comS s i = some x) : rightB x.ty x.lv x.tx x.nm x.val x.ats = true ∧ x.nm.size ≤ 4000000 ∧ x.tx.size ≤ 4000000 ∧ sizeEs x.val + sizeTs x.ats ≤ 4000000 := by
  have h3 := comL_ok hs (Nat.le_of_lt hi)
  unfold comS at h
  split at h
  · cases h
  · next h0 =>
    cases h
    have hg := comGo_ok hs (comL s i).1 s.size [] i (comL s i).2 (by omega) (Nat.le_of_lt hi) (fun y hy => by cases hy) ⟨h3.2.1, h3.2.2⟩
    obtain ⟨j1, j2⟩ := join_txc (comGo s (comL s i).1 [] i (comL s i).2).1 s.size hg.1
    have hlen := hg.2
    rw [List.length_nil] at hlen
    have hmul : (comGo s (comL s i).1 [] i (comL s i).2).1.length * (s.size + 1) ≤ 401 * 401 := Nat.mul_le_mul (by omega) (by omega)
    refine ⟨?_, Nat.zero_le _, ?_, by show sizeEs [] + sizeTs [] ≤ _; rw [sizeEs, sizeTs]; decide⟩
    · show (if (0 : Int) = 0 then comB _ _ E0 ([] : List EL).length ([] : List AT).length else _) = true
      rw [if_pos rfl]
      unfold comB textB validB
      rw [mkB_dl, j1.1]
      have hc : (Lib.join ((comGo s (comL s i).1 [] i (comL s i).2).1.map (·.data.toList)) [10]).contains 13 = false := by
        rw [List.contains_eq_any_beq, List.any_eq_false]
        intro c hc e
        exact j1.2 c hc (beq_iff_eq.1 e).symm
      rw [hc, decide_eq_true (by omega : (1 : Int) ≤ ((comL s i).1 : Nat)), decide_eq_true (by omega : ((comL s i).1 : Int) ≤ 3), emp_E0]
      rfl
    · show (mkB _).size ≤ _
      rw [← size_data, mkB_dl]
      omega
end Go.Proofs.YticjinmpanfhkaaGreatDoor
