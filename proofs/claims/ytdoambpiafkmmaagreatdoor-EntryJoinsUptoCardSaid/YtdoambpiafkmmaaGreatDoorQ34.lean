/-
  Several texts put together (part 34): what the law and the program call, walked; their contracts.
-/
import Derived.Test.YtdoambpiafkmmaaGreatDoorQ32
import Derived.Test.YtdoambpiafkmmaaGreatDoorQ16
import Derived.Test.YtdoambpiafkmmaaGreatDoorQ33
import Derived.Test.YtdoambpiafkmmaaGreatDoorQ30
namespace Go.Proofs.YtdoambpiafkmmaaGreatDoor
open Go.RowKit
set_option linter.unusedVariables false
set_option linter.unusedSimpArgs false
def EndBr (s : ByteArray) (P : Nat → Res) : Prop := ∀ i e j, P i = some (e, j) → ∃ q, j = q + 1 ∧ isAt s q 125 = true
theorem vars_end {s : ByteArray} {P : Nat → Res} : ∀ (m : Nat) (acc : List VA) (i : Nat) (vs : List VA) (j : Nat), s.size - i ≤ m → varsS P s acc i = some (vs, j) → ∃ q, j = q + 1 ∧ isAt s q 125 = true
  | m, acc, i, vs, j, hm, h => by
    rw [varsS] at h
    split at h
    · next hc =>
      split at h
      · cases h; exact ⟨i, rfl, hc⟩
      · cases h
    · split at h
      · cases h
      · next v j' hv =>
        split at h
        · next hl =>
          cases m with
          | zero => omega
          | succ m => exact vars_end m _ _ vs j (by omega) h
        · cases h
theorem place_end (s : ByteArray) : ∀ r, EndBr s (placeS s r)
  | 0, i, e, j, h => by rw [placeS] at h; cases h
  | r + 1, i, e, j, h => by
    rw [placeS] at h
    split at h
    · split at h
      · cases h
      · next e0 j0 hin =>
        split at h
        · next h125 =>
          split at h
          · cases h
          · cases h; exact ⟨_, rfl, h125⟩
        · split at h
          · split at h
            · cases h
            · next vs m hv =>
              cases h
              unfold selS at hv
              split at hv
              · exact vars_end s.size _ _ vs _ (by omega) hv
              · cases hv
          · cases h
    · cases h
theorem parts_pre {s : ByteArray} {P : Nat → Res} : ∀ (m : Nat) (acc : List EL) (i : Nat) (ps : List EL) (j : Nat), s.size - i ≤ m → partsS P s acc i = some (ps, j) → ∃ more, ps = acc ++ more
  | m, acc, i, ps, j, hm, h => by
    have hT : ∃ more, addT s acc i (tx s i) = acc ++ more := by
      unfold addT
      split
      · exact ⟨_, rfl⟩
      · exact ⟨[], (List.append_nil _).symm⟩
    obtain ⟨mo, hmo⟩ := hT
    rw [partsS] at h
    split at h
    · split at h
      · cases h
      · next e j' hp =>
        split at h
        · next hl =>
          cases m with
          | zero => omega
          | succ m =>
            obtain ⟨more, h2⟩ := parts_pre m _ j' ps j (by omega) h
            exact ⟨mo ++ ([.mk E0 (some e)] ++ more), by rw [h2, hmo, List.append_assoc, List.append_assoc]⟩
        · cases h
    · cases h
      exact ⟨mo, hmo⟩
theorem tx_stop {s : ByteArray} {i : Nat} (h : tx s i < s.size) : at0 s.data.toList (tx s i) = 10 ∨ at0 s.data.toList (tx s i) = 123 ∨ at0 s.data.toList (tx s i) = 125 := by
  have := behN_stop txB s.data.toList i (by rw [size_data]; exact h)
  have h2 : txB (at0 s.data.toList (tx s i)) = false := this
  unfold txB at h2
  rw [Bool.not_eq_false', Bool.or_eq_true, Bool.or_eq_true, beq_iff_eq, beq_iff_eq, beq_iff_eq] at h2
  rcases h2 with (h2 | h2) | h2
  · exact Or.inl h2
  · exact Or.inr (Or.inl h2)
  · exact Or.inr (Or.inr h2)
theorem piece_ok {s : ByteArray} (hs : Sn s) {i : Nat} (hi : i ≤ s.size) (hb : Bd s i) (h : i < tx s i) : ElOk (.mk (s.extract i (tx s i)) none) := by
  have ht := tx_ok s i hi
  have hsg : ∀ c ∈ (s.extract i (tx s i)).data.toList, txB c = true ∧ c ≠ 13 := fun c hc => by
    obtain ⟨k, k1, k2, k3, rfl⟩ := mem_extract hc
    exact ⟨behN_so txB s.data.toList i k k1 k2, hs.cr _ (by rw [at0_get _ _ (by rw [size_data]; exact k3)]; exact List.getElem_mem _)⟩
  have hno : ∀ c ∈ (s.extract i (tx s i)).data.toList, c ≠ 10 ∧ c ≠ 123 ∧ c ≠ 125 ∧ c ≠ 13 := fun c hc => by
    obtain ⟨h1, h2⟩ := hsg c hc
    unfold txB at h1
    rw [Bool.not_eq_true', Bool.or_eq_false_iff, Bool.or_eq_false_iff, beq_eq_false_iff_ne, beq_eq_false_iff_ne, beq_eq_false_iff_ne] at h1
    exact ⟨h1.1.1, h1.1.2, h1.2, h2⟩
  refine ⟨⟨piece_valid hb ht.1 ?_, fun c hc => ⟨(hno c hc).2.2.2, (hno c hc).2.1, (hno c hc).2.2.1⟩⟩, ?_, fun c hc => (hno c hc).1⟩
  · by_cases hl : tx s i < s.size
    · refine Or.inr ⟨hl, ?_⟩
      rcases tx_stop hl with h | h | h <;> (rw [h]; decide)
    · exact Or.inl (by omega)
  · intro e
    have := congrArg List.length e
    rw [size_data, ByteArray.size_extract, List.length_nil] at this
    omega
theorem addT_els {s : ByteArray} (hs : Sn s) {acc : List EL} {i : Nat} (hi : i ≤ s.size) (hb : Bd s i) (ha : ∀ e ∈ acc, ElOk e) : ∀ e ∈ addT s acc i (tx s i), ElOk e := by
  unfold addT
  split
  · next h =>
    intro e he
    rcases List.mem_append.1 he with he | he
    · exact ha e he
    · rw [List.mem_singleton] at he
      rw [he]
      exact piece_ok hs hi hb h
  · exact ha
theorem parts_els {s : ByteArray} (hs : Sn s) {P : Nat → Res} (hE : EndBr s P) : ∀ (m : Nat) (acc : List EL) (i : Nat) (ps : List EL) (j : Nat), s.size - i ≤ m → i ≤ s.size → Bd s i → (∀ e ∈ acc, ElOk e) → partsS P s acc i = some (ps, j) → (∀ e ∈ ps, ElOk e) ∧ j ≤ s.size
  | m, acc, i, ps, j, hm, hi, hb, ha, h => by
    have ht := tx_ok s i hi
    have hA := addT_els hs hi hb ha
    rw [partsS] at h
    split at h
    · split at h
      · cases h
      · next e j' hp =>
        split at h
        · next hl =>
          obtain ⟨q, rfl, hq⟩ := hE _ _ _ hp
          cases m with
          | zero => omega
          | succ m =>
            refine parts_els hs hE m _ (q + 1) ps j (by omega) hl.2 (bd_behind hs hq (by decide)) (fun x hx => ?_) h
            rcases List.mem_append.1 hx with hx | hx
            · exact hA x hx
            · rw [List.mem_singleton] at hx
              rw [hx]
              exact (rfl : (E0 : ByteArray) = E0)
        · cases h
    · cases h
      exact ⟨hA, ht.2⟩
theorem lines_addT {s : ByteArray} {i : Nat} (hi : i ≤ s.size) : (i < tx s i ∧ ∃ B, linesOf 123 (addT s [] i (tx s i)) = at0 s.data.toList i :: B) ∨ (tx s i = i ∧ addT s [] i (tx s i) = []) := by
  have ht := tx_ok s i hi
  unfold addT
  by_cases h : i < tx s i
  · left
    refine ⟨h, ?_⟩
    rw [if_pos h, List.nil_append, linesOf, linesOf, List.append_nil]
    cases hL : (s.extract i (tx s i)).data.toList with
    | nil =>
      have := congrArg List.length hL
      rw [size_data, ByteArray.size_extract, List.length_nil] at this
      omega
    | cons c B =>
      have := ext_at0 s i (tx s i) 0 ht.2 (by omega)
      rw [hL] at this
      exact ⟨B, by rw [Nat.add_zero] at this; rw [← this]; rfl⟩
  · right
    exact ⟨by omega, by rw [if_neg h]⟩
theorem parts_head {s : ByteArray} {P : Nat → Res} {i : Nat} (hi : i ≤ s.size) {ps : List EL} {j : Nat} (h : partsS P s [] i = some (ps, j)) :
    (∃ B, linesOf 123 ps = at0 s.data.toList i :: B) ∨ (linesOf 123 ps = [] ∧ tx s i = i ∧ isAt s i 123 = false) := by
  rw [partsS] at h
  split at h
  · next hc =>
    split at h
    · cases h
    · next e j' hp =>
      split at h
      · next hl =>
        obtain ⟨more, h2⟩ := parts_pre s.size _ j' ps j (by omega) h
        left
        rw [h2, linesOf_app, linesOf_app]
        rcases lines_addT (s := s) hi with ⟨_, B, hB⟩ | ⟨h3, h4⟩
        · exact ⟨_, by rw [hB]; rfl⟩
        · rw [h4, linesOf, linesOf, linesOf]
          rw [h3] at hc
          exact ⟨linesOf 123 more, by rw [isAt_eq hc]; rfl⟩
      · cases h
  · next hc =>
    cases h
    rcases lines_addT (s := s) hi with ⟨_, B, hB⟩ | ⟨h3, h4⟩
    · exact Or.inl ⟨B, hB⟩
    · rw [h3] at hc
      exact Or.inr ⟨by rw [h4, linesOf], h3, by simpa using hc⟩
theorem nl_shape {s : ByteArray} : ∀ (m f fr q : Nat), s.size - q ≤ m → q ≤ s.size → (fr = q ∨ (q = sp s fr ∧ fr ≤ s.size ∧ 0 < f)) →
    isAt s (nlS s f fr q).2.2 10 = false ∧ (nlS s f fr q).2.2 ≤ s.size ∧ ((nlS s f fr q).2.2 = (nlS s f fr q).2.1 ∨ ((nlS s f fr q).2.2 = sp s (nlS s f fr q).2.1 ∧ (nlS s f fr q).2.1 ≤ s.size ∧ 0 < (nlS s f fr q).1))
  | m, f, fr, q, hm, hq, h => by
    rw [nlS]
    split
    · next hc =>
      have h1 := isAt_lt hc
      have h2 := sp_ok s (q + 1) h1
      cases m with
      | zero => omega
      | succ m => exact nl_shape m (f + 1) (q + 1) (sp s (q + 1)) (by omega) h2.2 (Or.inr ⟨rfl, h1, by omega⟩)
    · next hc =>
      refine ⟨by simpa using hc, hq, ?_⟩
      rcases h with h | h
      · exact Or.inl h.symm
      · exact Or.inr h
theorem next_ok {s : ByteArray} (hs : Sn s) {j f p k : Nat} (hj : j ≤ s.size) (h : nextS s j = some (f, p, k)) :
    1 ≤ f ∧ k < s.size ∧ Bd s k ∧ at0 s.data.toList k ≠ 32 ∧ at0 s.data.toList k ≠ 10 ∧ isMarkB (at0 s.data.toList k) = false ∧ at0 s.data.toList k ≠ 125 := by
  have hn := nl_shape (s := s) s.size 0 j j (by omega) hj (Or.inl rfl)
  unfold nextS at h
  obtain ⟨r, hr⟩ : ∃ r, nlS s 0 j j = r := ⟨_, rfl⟩
  rw [hr] at h hn
  obtain ⟨n1, n2, n3⟩ := hn
  split at h
  · cases h
  · next hc =>
    cases h
    rw [not_or, not_or] at hc
    obtain ⟨c1, c2, c3⟩ := hc
    rcases n3 with n3 | ⟨n3, n4, n5⟩
    · exact absurd n3 c1
    have hk : r.2.2 < s.size := by omega
    have hge := sp_ge s r.2.1
    have hsp := behN_so spB s.data.toList r.2.1 (r.2.2 - 1) (by omega) (by show r.2.2 - 1 < sp s r.2.1; omega)
    have hb : Bd s r.2.2 := by
      have := bd_next hs (i := r.2.2 - 1) (by omega) (by
        unfold spB at hsp
        rw [decide_eq_true_iff] at hsp
        omega)
      rw [show r.2.2 - 1 + 1 = r.2.2 by omega] at this
      exact this
    have h32 : at0 s.data.toList r.2.2 ≠ 32 := by
      have := behN_stop spB s.data.toList r.2.1 (by rw [size_data]; show sp s r.2.1 < s.size; omega)
      have h2 : spB (at0 s.data.toList (sp s r.2.1)) = false := this
      rw [← n3] at h2
      intro e
      rw [e] at h2
      exact absurd h2 (by decide)
    have h10 : at0 s.data.toList r.2.2 ≠ 10 := by
      intro e
      unfold isAt at n1
      rw [decide_eq_true hk, Bool.true_and, beq_eq_false_iff_ne] at n1
      exact n1 e
    rw [Bool.not_eq_true] at c3
    unfold stopB at c3
    rw [Bool.or_eq_false_iff, Bool.or_eq_false_iff, Bool.or_eq_false_iff, beq_eq_false_iff_ne, beq_eq_false_iff_ne, beq_eq_false_iff_ne, beq_eq_false_iff_ne] at c3
    obtain ⟨⟨⟨d1, d2⟩, d3⟩, d4⟩ := c3
    refine ⟨by omega, hk, hb, h32, h10, ?_, d4⟩
    refine decide_eq_false ?_
    rintro (e | e | e)
    · exact d1 (UInt8.toNat_inj.1 (by show (at0 s.data.toList r.2.2).toNat = 46; omega))
    · exact d2 (UInt8.toNat_inj.1 (by show (at0 s.data.toList r.2.2).toNat = 42; omega))
    · exact d3 (UInt8.toNat_inj.1 (by show (at0 s.data.toList r.2.2).toNat = 91; omega))
theorem lines_shape {s : ByteArray} (hs : Sn s) {P : Nat → Res} (hE : EndBr s P) : ∀ (m : Nat) (acc : List LN) (f p i : Nat) (ls : List LN) (j : Nat), s.size - i ≤ m → i ≤ s.size → Bd s i → linesS P s acc f p i = some (ls, j) →
    ∃ x more, ls = acc ++ x :: more ∧ x.feeds = f ∧ (∃ j0, partsS P s [] i = some (x.parts, j0)) ∧ ∀ y ∈ more, TailOk y
  | m, acc, f, p, i, ls, j, hm, hi, hb, h => by
    rw [linesS] at h
    split at h
    · cases h
    · next ps j0 hp =>
      have hpe := parts_els hs hE s.size [] i ps j0 (by omega) hi hb (fun e he => by cases he) hp
      split at h
      · cases h
        exact ⟨⟨f, p, ps⟩, [], rfl, rfl, ⟨_, hp⟩, fun y hy => by cases hy⟩
      · next f' p' k hnx =>
        split at h
        · next hl =>
          obtain ⟨g1, g2, g3, g4, g5, g6, g7⟩ := next_ok hs hpe.2 hnx
          cases m with
          | zero => omega
          | succ m =>
            obtain ⟨x, more, e1, e2, ⟨j1, e3⟩, e4⟩ := lines_shape hs hE m _ f' p' k ls j (by omega) hl.2 g3 h
            have hxe := parts_els hs hE s.size [] k x.parts j1 (by omega) hl.2 g3 (fun e he => by cases he) e3
            have hT : TailOk x := by
              refine ⟨hxe.1, by omega, ?_⟩
              rcases parts_head hl.2 e3 with ⟨B, hB⟩ | ⟨_, h2, h3⟩
              · exact ⟨_, B, hB, g4, g5, g6⟩
              · exfalso
                have h4 := tx_stop (s := s) (i := k) (by rw [h2]; exact g2)
                rw [h2] at h4
                rcases h4 with h4 | h4 | h4
                · exact g5 h4
                · unfold isAt at h3
                  rw [decide_eq_true g2, Bool.true_and, beq_eq_false_iff_ne] at h3
                  exact h3 h4
                · exact g7 h4
            refine ⟨⟨f, p, ps⟩, x :: more, by rw [e1, List.append_assoc]; rfl, rfl, ⟨j0, hp⟩, fun y hy => ?_⟩
            rcases List.mem_cons.1 hy with hy | hy
            · rw [hy]; exact hT
            · exact e4 y hy
        · cases h
theorem patRule_ok {s : ByteArray} (hs : Sn s) : PatRule s := by
  intro r i l j c hc hc8 hp
  have hi := isAt_lt hc
  have hsp := sp_ok s (i + 1) hi
  have hb := bd_sp hs (bd_behind hs hc hc8)
  unfold patS at hp
  split at hp
  · cases hp
  · next ls j' hl =>
    cases hp
    obtain ⟨x, more, e1, _, ⟨j0, e3⟩, e4⟩ := lines_shape hs (place_end s r) s.size [] 0 0 _ ls _ (by omega) hsp.2 hb hl
    have hxe := parts_els hs (place_end s r) s.size [] _ x.parts j0 (by omega) hsp.2 hb (fun e he => by cases he) e3
    rw [e1, List.nil_append]
    refine join_rule hxe.1 ?_ e4
    intro d B hB
    have h10 := els_no10 hxe.1 d (by rw [hB]; exact List.mem_cons_self ..)
    refine ⟨?_, h10⟩
    rcases parts_head hsp.2 e3 with ⟨B', hB'⟩ | ⟨h2, _⟩
    · rw [hB] at hB'
      injection hB' with h3 _
      rw [h3]
      intro e32
      have hlt : sp s (i + 1) < s.size := by
        refine Nat.lt_of_not_le fun hle => ?_
        unfold at0 at e32
        rw [List.getD_eq_getElem?_getD, List.getElem?_eq_none (by rw [size_data]; exact hle)] at e32
        exact absurd e32 (by decide)
      have := behN_stop spB s.data.toList (i + 1) (by rw [size_data]; exact hlt)
      have h5 : spB (at0 s.data.toList (sp s (i + 1))) = false := this
      rw [e32] at h5
      exact absurd h5 (by decide)
    · rw [h2] at hB
      cases hB
def TxC (l : List UInt8) : Prop := Lib.validD l = true ∧ ∀ c ∈ l, c ≠ 13
theorem TxC.nil : TxC [] := ⟨rfl, fun c hc => by cases hc⟩
theorem TxC.append {a b : List UInt8} (h : TxC a) (g : TxC b) : TxC (a ++ b) := ⟨valid_two h.1 g.1, fun c hc => by
  rcases List.mem_append.1 hc with hc | hc
  · exact h.2 c hc
  · exact g.2 c hc⟩
theorem comL_ok {s : ByteArray} (hs : Sn s) {i : Nat} (hi : i ≤ s.size) : (comL s i).1 ≤ 3 ∧ TxC (comL s i).2.data.toList ∧ (comL s i).2.size ≤ s.size := by
  have hl := li_ok s i hi
  unfold comL
  split
  · exact ⟨by decide, TxC.nil, Nat.zero_le _⟩
  · next hc =>
    rw [not_or] at hc
    obtain ⟨c1, c2⟩ := hc
    refine ⟨by show Go.Proofs.YtdoambpiafkmmaaGreatDoor.hs s i - i ≤ 3; exact Nat.le_of_not_lt c1, ?_⟩
    split
    · next h =>
      have h32 : isAt s (Go.Proofs.YtdoambpiafkmmaaGreatDoor.hs s i) 32 = true := by
        rw [Classical.not_and_iff_not_or_not] at c2
        rcases c2 with c2 | c2
        · exact absurd h c2
        · simpa using c2
      have hb := bd_behind hs h32 (by decide)
      refine ⟨⟨piece_valid hb (by omega) ?_, fun c hc => ?_⟩, by rw [ByteArray.size_extract]; omega⟩
      · by_cases hlt : li s i < s.size
        · exact Or.inr ⟨hlt, by rw [isAt_eq (li_stop s i hlt)]; decide⟩
        · exact Or.inl (by omega)
      · obtain ⟨k, k1, k2, k3, rfl⟩ := mem_extract hc
        exact hs.cr _ (by rw [at0_get _ _ (by rw [size_data]; exact k3)]; exact List.getElem_mem _)
    · exact ⟨TxC.nil, Nat.zero_le _⟩
theorem comGo_ok {s : ByteArray} (hs : Sn s) (lv : Nat) : ∀ (m : Nat) (acc : List ByteArray) (k : Nat) (w : ByteArray), s.size - k ≤ m → k ≤ s.size → (∀ y ∈ acc, TxC y.data.toList ∧ y.size ≤ s.size) → TxC w.data.toList ∧ w.size ≤ s.size →
    (∀ y ∈ (comGo s lv acc k w).1, TxC y.data.toList ∧ y.size ≤ s.size) ∧ (comGo s lv acc k w).1.length ≤ acc.length + (s.size - k) + 1
  | m, acc, k, w, hm, hk, ha, hw => by
    have ha2 : ∀ y ∈ acc ++ [w], TxC y.data.toList ∧ y.size ≤ s.size := fun y hy => by
      rcases List.mem_append.1 hy with hy | hy
      · exact ha y hy
      · rw [List.mem_singleton] at hy; rw [hy]; exact hw
    rw [comGo]
    split
    · next h =>
      cases m with
      | zero => omega
      | succ m =>
        have h1 := comGo_ok hs lv m (acc ++ [w]) (beh s k) (comL s (beh s k)).2 (by omega) h.2.2 ha2 ⟨(comL_ok hs h.2.2).2.1, (comL_ok hs h.2.2).2.2⟩
        refine ⟨h1.1, ?_⟩
        have h2 := h1.2
        rw [List.length_append, List.length_singleton] at h2
        omega
    · refine ⟨ha2, ?_⟩
      rw [List.length_append, List.length_singleton]
      omega
theorem join_cons (x : List UInt8) (y : List UInt8) (r : List (List UInt8)) : Lib.join (x :: y :: r) [10] = x ++ ([10] ++ Lib.join (y :: r) [10]) := by
  unfold Lib.join
  rw [List.intercalate_cons_cons, List.append_assoc]
theorem join_txc : ∀ (l : List ByteArray) (n : Nat), (∀ y ∈ l, TxC y.data.toList ∧ y.size ≤ n) → TxC (Lib.join (l.map (·.data.toList)) [10]) ∧ (Lib.join (l.map (·.data.toList)) [10]).length ≤ l.length * (n + 1)
  | [], n, _ => ⟨TxC.nil, by show (0 : Nat) ≤ _; omega⟩
  | [x], n, h => by
    have h1 := h x (by simp)
    have e : Lib.join ([x].map (·.data.toList)) [10] = x.data.toList := by
      unfold Lib.join
      simp
    rw [e]
    refine ⟨h1.1, ?_⟩
    rw [size_data, List.length_singleton]
    omega
  | x :: y :: r, n, h => by
    have h1 := h x (by simp)
    have h2 := join_txc (y :: r) n (fun z hz => h z (List.mem_cons_of_mem _ hz))
    have e : Lib.join ((x :: y :: r).map (·.data.toList)) [10] = x.data.toList ++ ([10] ++ Lib.join ((y :: r).map (·.data.toList)) [10]) := join_cons _ _ _
    rw [e]
    refine ⟨h1.1.append (TxC.append ⟨rfl, by decide⟩ h2.1), ?_⟩
    have e2 : (x :: y :: r).length = (y :: r).length + 1 := rfl
    rw [List.length_append, List.length_append, size_data, e2, Nat.add_one_mul]
    have h3 := h2.2
    have : ([(10 : UInt8)]).length = 1 := rfl
    omega
theorem com_ok {s : ByteArray} (hs : Sn s) (hz : s.size ≤ 400) {i : Nat} (hi : i < s.size) {x : EN} (h : comS s i = some x) : rightB x.ty x.lv x.tx x.nm x.val x.ats = true ∧ x.nm.size ≤ 4000000 ∧ x.tx.size ≤ 4000000 ∧ sizeEs x.val + sizeTs x.ats ≤ 4000000 := by
  have h3 := comL_ok hs (Nat.le_of_lt hi)
  unfold comS at h
  split at h
  · cases h
  · next h0 =>
    cases h
    have hg := comGo_ok hs (comL s i).1 s.size [] i (comL s i).2 (by omega) (Nat.le_of_lt hi) (fun y hy => by cases hy) ⟨h3.2.1, h3.2.2⟩
    obtain ⟨j1, j2⟩ := join_txc (comGo s (comL s i).1 [] i (comL s i).2).1 s.size hg.1
    have hlen := hg.2
    rw [List.length_nil] at hlen
    have hmul : (comGo s (comL s i).1 [] i (comL s i).2).1.length * (s.size + 1) ≤ 401 * 401 := Nat.mul_le_mul (by omega) (by omega)
    refine ⟨?_, Nat.zero_le _, ?_, by show sizeEs [] + sizeTs [] ≤ _; rw [sizeEs, sizeTs]; decide⟩
    · show (if (0 : Int) = 0 then comB _ _ E0 ([] : List EL).length ([] : List AT).length else _) = true
      rw [if_pos rfl]
      unfold comB textB validB
      rw [mkB_dl, j1.1]
      have hc : (Lib.join ((comGo s (comL s i).1 [] i (comL s i).2).1.map (·.data.toList)) [10]).contains 13 = false := by
        rw [List.contains_eq_any_beq, List.any_eq_false]
        intro c hc e
        exact j1.2 c hc (beq_iff_eq.1 e).symm
      rw [hc, decide_eq_true (by omega : (1 : Int) ≤ ((comL s i).1 : Nat)), decide_eq_true (by omega : ((comL s i).1 : Int) ≤ 3), emp_E0]
      rfl
    · show (mkB _).size ≤ _
      rw [← size_data, mkB_dl]
      omega
end Go.Proofs.YtdoambpiafkmmaaGreatDoor

namespace Go.Proofs.YtdoambpiafkmmaaGreatDoor
open Go.RowKit
set_option linter.unusedVariables false
set_option linter.unusedSimpArgs false
theorem next_pos {s : ByteArray} {i : Nat} (hi : i ≤ s.size) {f p k : Nat} (h : nextS s i = some (f, p, k)) : i < k := by
  have h0 := nl_wt i (s.size - i) 0 i i (Nat.le_refl _) hi (Nat.le_refl _) (by omega)
  unfold nextS at h
  split at h
  · cases h
  · next hn =>
    cases h
    have h1 : ¬ (nlS s 0 i i).2.2 = (nlS s 0 i i).2.1 := fun e => hn (Or.inl e)
    omega
theorem OwnL.set {B : Nat} {W : World} {v : Value} {acc : List LN} (h : OwnL B W v acc) {nb : Nat} (hb : nb < B) (o : Nat) (x : Value) : OwnL B (W.setCell ⟨nb, o, none⟩ x) v acc := by
  obtain ⟨xs, h1, h2⟩ := h
  refine ⟨xs, h1.kept (row := some nb) ⟨rfl, rfl, rfl, by simp, fun k _ hk => Below.heap_setCell _ _ _ _ (fun e => hk (by simp [e]))⟩ (.inr (fun e => by have := (h1.lt nb e).1; omega)), LZip.carry (fun b hb' => ?_) _ _ h2⟩
  obtain ⟨⟨hb1, hb2⟩, hb3⟩ := hb'
  exact ⟨⟨⟨hb1, by simpa using hb2⟩, hb3⟩, Below.heap_setCell _ ⟨nb, o, none⟩ _ b (by show b ≠ nb; omega)⟩
theorem box_third {w : World} {k : Nat} {a b c : Value} {t : TypeId} (h : BoxAt w k #[a, b, c] t) (v : Value) : BoxAt (w.setCell ⟨k, 2, none⟩ v) k #[a, b, v] t := by
  unfold BoxAt at h ⊢
  simp [World.setCell, Array.getElem?_modify, h]
def patQ : Option (List LN × Nat) → Option (List EL × Nat)
  | none => none
  | some (ls, j) => some (joinS ls, j)
theorem patS_q (P : Nat → Res) (s : ByteArray) (i : Nat) : patS P s i = patQ (linesS P s [] 0 0 (sp s i)) := by
  unfold patS
  cases linesS P s [] 0 0 (sp s i) with
  | none => rfl
  | some v => obtain ⟨ls, j⟩ := v; rfl
set_option maxHeartbeats 4000000 in
set_option maxRecDepth 100000 in
theorem pattern_any {rb : Nat} {s : ByteArray} {d : Nat} {P : Nat → Res} (hs : s.size ≤ 1000000) (hd : d ≤ 3000) (hP : WayTo rb s 25 #[pt rb, .int .i64 ((d + 1 : Nat) : Int)] P) (hPos : PosOk s P) : PatTo rb s d (patS P s) := by
  intro i w hr hi
  obtain ⟨i0, hi0, hz0, hz1, hz2⟩ := info_parts infoLine
  have HR := Lib.hid hr
  have hlt := hr.lt
  have hS := sp_ok s i hi
  have hP1 := fun W (h : Rd rb s i W) => pass_any endSpaces W h (by omega) hi
  obtain ⟨R, hRR⟩ : ∃ R, linesS P s [] 0 0 (sp s i) = R := ⟨_, rfl⟩
  have hwt := fun ls j h => lines_wt hPos _ _ _ _ _ (Nat.le_refl _) hS.2 ls j (hRR.trans h)
  rw [patS_q, hRR]
  obtain ⟨p0, hp0⟩ : ∃ p, sp s i = p := ⟨_, rfl⟩
  rw [hp0] at hS hP1 hRR hwt
  have hPt := fun j W (h : Rd rb s j W) hj => parts_any hs (show d + 1 ≤ 4000 by omega) hP hPos j W h hj
  have hNx := fun j W (h : Rd rb s j W) hj => nextLine_any hs j W h hj
  obtain ⟨Q, hQ⟩ : ∃ Q, patQ R = Q := ⟨_, rfl⟩
  rw [show ((d + 1 : Nat) : Int) = (d : Int) + 1 by omega] at hPt
  rw [hQ]
  have HP1 := Lib.hid hP1
  have HPt := Lib.hid hPt
  have HNx := Lib.hid hNx
  have HQ := Lib.hid hQ
  have HRR := Lib.hid hRR
  have Hwt := Lib.hid hwt
  have hd0 : (d : Int) ≤ 3000 := by omega
  clear hr hP1 hp0 hP hPos hPt hNx hQ hRR hwt
  unfold pt at HP1 HPt HNx ⊢
  go_enter Tryz.func46, Tryz.ntmps46
  go_wp2_with fail
  go_at_call 49
  refine (HP1.out _ HR.out).mono ?_
  rintro e w1 ⟨rfl, g1, g2⟩
  have G1 := Lib.hid g1
  have HK := Lib.hid g2
  clear g1 g2
  go_wp2
  go_loopw [6, 8] (fun t6 t8 wr => ∃ (acc : List LN) (j f p : Nat) (gb : Bool) (A : Option Addr) (c : Nat), t6 = .slice A acc.length c ∧ t8 = .bool gb ∧ j ≤ s.size ∧ f ≤ s.size ∧ p ≤ s.size ∧ acc.length ≤ j + 1 ∧ (gb = true → acc.length ≤ j) ∧ Hid (gb = true → linesS P s acc f p j = R) ∧ Hid (gb = false → some (acc, j) = R ∧ 0 < acc.length) ∧ Hid (Rd rb s j wr) ∧ Hid (Kp rb w wr) ∧ Hid (BoxAt wr w1.heap.size #[.int .i64 f, .int .i64 p, .slice none 0 0] 108) ∧ Hid (OwnL (w1.heap.size + 1) wr (.slice A acc.length c) acc)) (fun _ t8 wr => match t8 with | .bool true => s.size - posOf rb wr + 1 | _ => 0)
  case atStart => exact ⟨[], p0, 0, 0, true, none, 0, rfl, rfl, hS.2, Nat.zero_le _, Nat.zero_le _, Nat.zero_le _, fun _ => Nat.zero_le _, fun _ => HRR.out, (fun h => by cases h), G1.out.alloc _, HK.out.alloc (by have := HK.out.size; omega) _, BoxAt.new _ _ _, OwnL.nil _ _⟩
  case round =>
    obtain ⟨acc, j, f, p, gb, A, c, rfl, rfl, hj, hf, hp, hal, hal2, Hl, He, HRd, HKr, HB, HO⟩ := hrel
    have Hpos := Lib.hid HRd.out.pos
    have hs1 := HK.out.size
    have hsr := HKr.out.size
    have hbl := HB.out.lt
    cases gb
    case false =>
      obtain ⟨hRe, h0⟩ := He.out rfl
      obtain ⟨xs, ho, hz⟩ := HO.out
      rcases ho.2 with ⟨_, hn⟩ | ⟨g, cap, cur, hv, hb, hg, hc1, hc2, hcs, htk⟩
      · omega
      cases hv
      have hw := (Hwt.out acc j hRe.symm).1
      have hw0 : wtLs ([] : List LN) = 0 := rfl
      have hJ := join_any acc (OwnSet (w1.heap.size + 1) wr (.slice (some ⟨g, 0, none⟩) acc.length c)) g c wr h0 hc1 (by omega) (by omega) (LZip.at_ acc xs 0 (fun j x hx => by
        have := ho.cells (g := g) rfl j x hx
        rw [Addr.add_mid] at this
        exact this) hz) (Array.getElem?_eq_some_iff.1 hg).1 (fun b hb => hb.1.2)
      have HJ := Lib.hid hJ
      have HRe := Lib.hid hRe
      clear hJ hRe hw hw0 ho hz hg hcs htk hc1 hc2
      go_wp2_with fail
      go_at_call 70
      refine (HJ.out).mono ?_
      rintro e w2 ⟨hb2, A2, n2, c2, rfl, hn, hn4, hpat⟩
      have HB2 := Lib.hid hb2
      have HPt2 := Lib.hid hpat
      clear hb2 hpat
      go_wp2
      go_ret2
      have hQe : Q = some (joinS acc, j) := by rw [← HQ.out, ← HRe.out]; rfl
      subst hQe
      have hb2 := HB2.out.size
      refine ⟨HKr.out.trans (Kp.of_below HB2.out (by omega)), A2, n2, c2, j, rfl, HRd.out.later HB2.out, hj, hn4, fun l m h => ?_⟩
      cases h
      refine ⟨rfl, hn, PatF.carry (fun b hb => ?_) HPt2.out⟩
      rcases hb with ⟨⟨b1, b2⟩, _⟩ | ⟨b1, b2⟩
      · exact ⟨⟨by omega, by omega⟩, rfl⟩
      · exact ⟨⟨by omega, b2⟩, rfl⟩
    case true =>
      have hans := Hl.out rfl
      have hal3 := hal2 rfl
      rw [linesS] at hans
      have hPt := fun W h => HPt.out j W h hj
      obtain ⟨r, hrr⟩ : ∃ r, partsS P s [] j = r := ⟨_, rfl⟩
      have hjp := fun ps j' (h : r = some (ps, j')) => parts_pos _ _ _ (Nat.le_refl _) hj ps j' (hrr.trans h)
      rw [hrr] at hPt hans
      have HPr := Lib.hid hPt
      have Hans := Lib.hid hans
      have Hjp := Lib.hid hjp
      have hacc : (acc.length : Int) ≤ 1000000 := by omega
      have hrb1 : rb ≠ w1.heap.size := by omega
      clear hPt hans hrr hjp
      go_wp2_with fail
      go_at_call 69
      refine (HPr.out _ HRd.out).mono ?_
      rintro e w2 ⟨h1, A2, n2, c2, j2, rfl, h2, hj2, h3⟩
      have HK2 := Lib.hid (HKr.out.trans h1)
      have HB2 := Lib.hid (BoxAt.kp HB.out h1 (fun e => hrb1 e.symm))
      have HO2 := Lib.hid (HO.out.kp h1 (by omega))
      have H2 := Lib.hid h2
      have H3 := Lib.hid h3
      have hs2 := h1.size
      clear h1 h2 h3
      cases r with
      | none =>
        have hR := Hans.out
        dsimp only at hR
        have HRn := Lib.hid hR
        clear hR
        go_wp2
        go_ret2
        have hQe : Q = none := by rw [← HQ.out, ← HRn.out]; rfl
        subst hQe
        exact ⟨HK2.out, none, 0, 0, j2, rfl, H2.out, hj2, Nat.zero_le _, fun l m h => by cases h⟩
      | some pj =>
        obtain ⟨ps, j2'⟩ := pj
        obtain ⟨rfl, hpl, hpn, hpt⟩ := H3.out ps j2' rfl
        subst hpl
        have hR := Hans.out
        dsimp only at hR
        have hjj := Hjp.out _ _ rfl
        have hNx := fun W h => HNx.out j2' W h hj2
        have hnp := fun f' p' k (h : nextS s j2' = some (f', p', k)) => next_pos hj2 h
        obtain ⟨rn, hrn⟩ : ∃ r, nextS s j2' = r := ⟨_, rfl⟩
        rw [hrn] at hR hNx hnp
        have HRn := Lib.hid hR
        have HN := Lib.hid hNx
        have Hnp := Lib.hid hnp
        have HPF := Lib.hid hpt
        obtain ⟨q0, q1, q2, p0', p1, p2⟩ := cells3 HB2.out
        have hl2 := HB2.out.lt
        obtain ⟨xs6, ho6, hz6⟩ := (HO2.out.set (nb := w1.heap.size) (by omega) 2 (.slice A2 ps.length c2))
        have hown1 := ho6.alloc (.cells #[.int .i64 f, .int .i64 p, .slice A2 ps.length c2] 108)
        have hnew : BoxAt ((w2.setCell ⟨w1.heap.size, 2, none⟩ (.slice A2 ps.length c2)).alloc (.cells #[.int .i64 f, .int .i64 p, .slice A2 ps.length c2] 108)) w2.heap.size #[.int .i64 f, .int .i64 p, .slice A2 ps.length c2] 108 := BoxAt.new' _ _ _ _ (by simp)
        have hmid : BoxAt ((w2.setCell ⟨w1.heap.size, 2, none⟩ (.slice A2 ps.length c2)).alloc (.cells #[.int .i64 f, .int .i64 p, .slice A2 ps.length c2] 108)) w1.heap.size #[.int .i64 f, .int .i64 p, .slice A2 ps.length c2] 108 := (box_third HB2.out (.slice A2 ps.length c2)).alloc _
        have Hmid := Lib.hid hmid
        clear hmid
        obtain ⟨_, ho5, _⟩ := HO.out
        have Hv5 := Lib.hid (fun k e => ho5.lt k e)
        clear hR hNx hnp hrn hpt ho6 ho5
        go_wp2_with (at_builtin; refine wpList_append_where _ rfl _ _ 106 rfl (w1.heap.size + 1) 108 i0 (.agg #[.int .i64 0, .int .i64 0, .slice none 0 0]) 3 40 Tryz.underlying106 hi0 hz0 hz1 hz2 rfl (by decide) _ _ _ rfl hown1 ⟨w2.heap.size, 0, none⟩ 1 1 [.int .i64 f, .int .i64 p, .slice A2 ps.length c2] rfl rfl ?c1 ?c2 ?c3 ?c4 ?c5 ?c6 ?_)
        case c1 =>
          intro j u hj
          match j, hj with
          | 0, hj => simp at hj; subst hj; exact hnew.cell 0
          | 1, hj => simp at hj; subst hj; exact hnew.cell 1
          | 2, hj => simp at hj; subst hj; exact hnew.cell 2
        case c2 => intro u hu; simp at hu; rcases hu with rfl | rfl | rfl <;> rfl
        case c3 => unfold maxLen; omega
        case c4 => omega
        case c5 => simp; omega
        case c6 => decide
        intro v' w8 hown' hgrow hwh
        have K2 : Kp rb (w2.setCell ⟨w1.heap.size, 2, none⟩ (.slice A2 ps.length c2)) ((w2.setCell ⟨w1.heap.size, 2, none⟩ (.slice A2 ps.length c2)).alloc (.cells #[.int .i64 f, .int .i64 p, .slice A2 ps.length c2] 108)) := (Kp.refl rb _).alloc (by simp; omega) _
        have hcar : ∀ b, Since wr.heap.size w2 b → OwnSet (w1.heap.size + 1) ((w2.setCell ⟨w1.heap.size, 2, none⟩ (.slice A2 ps.length c2)).alloc (.cells #[.int .i64 f, .int .i64 p, .slice A2 ps.length c2] 108)) (.slice A acc.length c) b ∧ ((w2.setCell ⟨w1.heap.size, 2, none⟩ (.slice A2 ps.length c2)).alloc (.cells #[.int .i64 f, .int .i64 p, .slice A2 ps.length c2] 108)).heap[b]? = w2.heap[b]? := fun b hb => by
          obtain ⟨b1, b2⟩ := hb
          refine ⟨⟨⟨by omega, by simp; omega⟩, fun e => by have := Hv5.out b e.symm; omega⟩, ?_⟩
          exact (Lib.alloc_old _ _ b (by simpa using b2)).trans (Below.heap_setCell _ ⟨w1.heap.size, 2, none⟩ _ b (by show b ≠ w1.heap.size; omega))
        have HO8 := Lib.hid (ownL_push (rb := rb) (f := f) (p := p) (l := ps) (by omega) K2 hz6 (PatF.carry hcar HPF.out) hown' hgrow (by simpa using hwh))
        have G8 := Lib.hid (((H2.out.setOther hrb1 2 _).alloc _).grown hgrow (fun k e => by have := Hv5.out k e; omega))
        have HK8 := Lib.hid (Kp.grown ((HK2.out.setNew (b := w1.heap.size) hs1 hlt 2 _).alloc (by simp; omega) _) hgrow (fun k e => by have := (Hv5.out k e).1; omega) hlt)
        have HB8 := Lib.hid (show BoxAt w8 w1.heap.size #[.int .i64 f, .int .i64 p, .slice A2 ps.length c2] 108 from (hgrow.block w1.heap.size Hmid.out.lt (fun e => by have := (Hv5.out _ e.symm).1; omega)).trans Hmid.out)
        obtain ⟨A9, c9, rfl⟩ := own_slice hown' (by omega)
        clear hown' hgrow hwh K2 hcar hnew q0 q1 q2 p0' p1 p2 hown1 hz6
        go_wp2_with fail
        go_at_call 68
        refine (HN.out _ G8.out).mono ?_
        rintro e w9 ⟨h4, f', p', j3, rfl, h5, hj3, hf', hp', hnone, hsome⟩
        have HK9 := Lib.hid (HK8.out.trans h4)
        have HB9 := Lib.hid (BoxAt.kp HB8.out h4 (fun e => hrb1 e.symm))
        have HO9 := Lib.hid (HO8.out.kp h4 (by omega))
        have H9 := Lib.hid h5
        have hl9 := HB9.out.lt
        obtain ⟨q0, q1, q2, p0', p1, p2⟩ := cells3 HB9.out
        have Hnone := Lib.hid hnone
        have Hsome := Lib.hid hsome
        clear h4 h5 hnone hsome
        go_wp2
        go_roundw
        case rel =>
          refine ⟨acc ++ [⟨f, p, ps⟩], j3, f', p', rn.isSome, A9, c9, ?_, rfl, hj3, hf', hp', ?_, ?_, ?_, ?_, H9.out.set3 hrb1 _ _ _, HK9.out.set3 hs1 hlt _ _ _, box_set3 HB9.out _ _ _, ?_⟩
          · show Value.slice A9 _ c9 = _
            simp
          · rw [List.length_append, List.length_singleton]
            cases rn with
            | none => have := Hnone.out rfl; omega
            | some v => obtain ⟨f2, p2, k2⟩ := v; have := Hnp.out _ _ _ rfl; obtain ⟨_, _, e⟩ := Hsome.out _ _ _ rfl; omega
          · intro hg
            rw [List.length_append, List.length_singleton]
            cases rn with
            | none => cases hg
            | some v => obtain ⟨f2, p2, k2⟩ := v; have := Hnp.out _ _ _ rfl; obtain ⟨_, _, e⟩ := Hsome.out _ _ _ rfl; omega
          · intro hg
            cases rn with
            | none => cases hg
            | some v =>
              obtain ⟨f2, p2, k2⟩ := v
              have := Hnp.out _ _ _ rfl
              obtain ⟨rfl, rfl, rfl⟩ := Hsome.out _ _ _ rfl
              have hR := HRn.out
              dsimp only at hR
              rw [dif_pos (show j < k2 ∧ k2 ≤ s.size from ⟨by omega, hj3⟩)] at hR
              exact hR
          · intro hg
            cases rn with
            | some v => cases hg
            | none =>
              have e := Hnone.out rfl
              subst e
              have hR := HRn.out
              dsimp only at hR
              exact ⟨hR, by simp⟩
          · rw [List.length_append, List.length_singleton]
            exact ((HO9.out.set (nb := w1.heap.size) (by omega) 0 _).set (nb := w1.heap.size) (by omega) 1 _).set (nb := w1.heap.size) (by omega) 2 _
        case measure =>
          have e3 := (H9.out.set3 hrb1 (.int .i64 f') (.int .i64 p') (.slice none 0 0)).pos
          cases rn with
          | none => show 0 < s.size - posOf rb wr + 1; omega
          | some v =>
            obtain ⟨f2, p2, k2⟩ := v
            have := Hnp.out _ _ _ rfl
            obtain ⟨_, _, e⟩ := Hsome.out _ _ _ rfl
            have e4 := Hpos.out
            show s.size - posOf rb (set3 w9 w1.heap.size (.int .i64 f') (.int .i64 p') (.slice none 0 0)) + 1 < s.size - posOf rb wr + 1
            rw [e3, e4]
            omega
end Go.Proofs.YtdoambpiafkmmaaGreatDoor
