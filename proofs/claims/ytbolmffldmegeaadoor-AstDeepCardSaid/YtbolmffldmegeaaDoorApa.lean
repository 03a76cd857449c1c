/-
  Package ast: isPattern.
-/
import Derived.Test.YtbolmffldmegeaaDoorApk
namespace Go.Proofs.YtbolmffldmegeaaDoor
open Go.RowKit
set_option linter.unusedVariables false
set_option linter.unusedSimpArgs false

def hasBrace (s : ByteArray) : Bool := s.data.toList.contains 123 || s.data.toList.contains 125
/-- strings.ContainsAny of a text of signs, for braces. -/
def CaTo (s : ByteArray) : Prop := ∀ w : World, Calls Tryd.prog 40 #[.string s, .string ⟨#[123, 125]⟩] w fun e w' => e = .returned (.bool (hasBrace s)) ∧ Below w.heap.size w w'
/-- Does a text stand ahead? -/
def besideAt (l : List EL) : Nat → Bool
  | 0 => false
  | j + 1 => match l[j]? with
    | some (.mk _ none) => true
    | _ => false
/-- The value of an element's place. -/
theorem pat_get {W0 : World} {l : List EL} {v : Value} (h : PatAt W0 l v) {i : Nat} (hi : i < l.length) : ∃ b o c, v = .slice (some ⟨b, o, none⟩) l.length c ∧ b < W0.heap.size ∧
    ∀ j t p, l[j]? = some (.mk t p) → W0.cell? ⟨b, o + j * 2, none⟩ = some (.string t) ∧ ∃ u, W0.cell? ⟨b, o + j * 2 + 1, none⟩ = some u ∧ OAt W0 p u := by
  obtain ⟨A, c, rfl, _, _, h2⟩ := h
  obtain ⟨b, o, rfl, h3⟩ := h2 (by omega)
  obtain ⟨t, p⟩ : EL := l[0]'(by omega)
  have h0 : l[0]? = some l[0] := List.getElem?_eq_getElem (by omega)
  refine ⟨b, o, c, rfl, ?_, fun j t p hj => ?_⟩
  · cases e : l[0]'(by omega) with
    | mk t p => rw [e] at h0; exact (h3.get 0 h0).1
  · exact ⟨(h3.get j hj).2.1, (h3.get j hj).2.2⟩
theorem sizeEs_length : ∀ l : List EL, l.length ≤ sizeEs l
  | [] => Nat.zero_le _
  | .mk t p :: r => by have := sizeEs_length r; rw [sizeEs, List.length_cons]; omega
theorem sizeEs_append : ∀ a b : List EL, sizeEs (a ++ b) = sizeEs a + sizeEs b
  | [], b => by rw [List.nil_append, sizeEs]; omega
  | .mk t p :: r, b => by rw [List.cons_append, sizeEs, sizeEs, sizeEs_append r b]; omega
theorem linesOf_append (c : UInt8) : ∀ a b : List EL, linesOf c (a ++ b) = linesOf c a ++ linesOf c b
  | [], b => by simp [linesOf]
  | .mk t none :: r, b => by rw [List.cons_append, linesOf, linesOf, linesOf_append c r b, List.append_assoc]
  | .mk t (some e) :: r, b => by rw [List.cons_append, linesOf, linesOf, linesOf_append c r b, List.cons_append]
theorem linesOf_length (c : UInt8) : ∀ l : List EL, (linesOf c l).length ≤ sizeEs l
  | [] => by simp [linesOf]
  | .mk t none :: r => by have := linesOf_length c r; have := size_data t; rw [linesOf, sizeEs, List.length_append]; omega
  | .mk t (some e) :: r => by have := linesOf_length c r; rw [linesOf, sizeEs, List.length_cons]; omega
theorem take_snoc {α : Type} (l : List α) (i : Nat) (x : α) (h : l[i]? = some x) : l.take (i + 1) = l.take i ++ [x] := by
  rw [List.take_add_one, h]; rfl
theorem drop_cons {α : Type} (l : List α) (i : Nat) (x : α) (h : l[i]? = some x) : l.drop i = x :: l.drop (i + 1) := by
  obtain ⟨hi, rfl⟩ := List.getElem?_eq_some_iff.1 h
  exact List.drop_eq_getElem_cons hi
theorem sizeEs_take (l : List EL) (i : Nat) : sizeEs (l.take i) ≤ sizeEs l := by
  have := sizeEs_append (l.take i) (l.drop i)
  rw [List.take_append_drop] at this
  omega
/-- The start: nothing written, nothing asked. -/
theorem builder_new (w : World) (n : Nat) (h : n ≤ w.heap.size) : Lib.IsBuilderF 70 5 n w.heap.size (Lib.byteCells []) (w.alloc (.cells #[.pointer none, .slice none 0 0] 70)) :=
  .inl ⟨h, _, BoxAt.new w _ _, World.ownsRowF_nil _ _ _ _, by simp [Value.ownBlock]⟩
theorem BoxAt.later {w w' : World} {k : Nat} {c : Array Value} {t : TypeId} (h : BoxAt w k c t) (hb : Below w.heap.size w w') : BoxAt w' k c t := (hb.block k h.lt).trans h
theorem StepQ.later {B qb : Nat} {a w w' : World} (h : StepQ B qb a w) (hb : Below w.heap.size w w') (hB : B ≤ w.heap.size) : StepQ B qb a w' :=
  ⟨h.below.trans (hb.mono hB), fun k o hk h1 h2 => by
    have := h.kept k o hk h1 h2
    exact (hb.block k (Array.getElem?_eq_some_iff.1 this).1).trans this⟩
theorem QsAt.later {W0 : World} {qb : Nat} {qs : List Qn} {w w' : World} (h : QsAt W0 qb qs w) (hb : Below w.heap.size w w') : QsAt W0 qb qs w' := by
  have ho := h.old
  obtain ⟨fvs, ⟨h1, v, h2, h3⟩, h4, h5⟩ := h
  refine ⟨fvs, ⟨h1, v, h2.later hb, ?_⟩, h4.mono (fun _ hx => hx.later hb), h5.trans (hb.mono ho)⟩
  obtain ⟨g1, g2⟩ := h3
  refine ⟨g1, ?_⟩
  rcases g2 with g2 | ⟨g, cap, cur, e, hg, hh, r⟩
  · exact .inl g2
  · exact .inr ⟨g, cap, cur, e, hg, (hb.block g (Array.getElem?_eq_some_iff.1 hh).1).trans hh, r⟩
theorem IsBuilderF.later {n b : Nat} {bs : List Value} {w w' : World} (h : Lib.IsBuilderF 70 5 n b bs w) (hb : Below w.heap.size w w') : Lib.IsBuilderF 70 5 n b bs w' := by
  have go : ∀ {p : Value}, Lib.BuilderAtF 70 5 n b p bs w → Lib.BuilderAtF 70 5 n b p bs w' := by
    rintro p ⟨h1, v, h2, h3, h4⟩
    refine ⟨h1, v, (hb.block b (Array.getElem?_eq_some_iff.1 h2).1).trans h2, ?_, h4⟩
    obtain ⟨g1, g2⟩ := h3
    refine ⟨g1, ?_⟩
    rcases g2 with g2 | ⟨g, cap, cur, fz, e, hg, hh, r⟩
    · exact .inl g2
    · exact .inr ⟨g, cap, cur, fz, e, hg, (hb.block g (Array.getElem?_eq_some_iff.1 hh).1).trans hh, r⟩
  rcases h with h | h
  · exact .inl (go h)
  · exact .inr (go h)
/-- What isPattern holds while it goes. -/
structure Pin (W0 : World) (qb : Nat) (w : World) (d : Nat) (qs : List Qn) (bs : List UInt8) (wr : World) : Prop where
  qs : QsAt W0 qb qs wr
  step : StepQ W0.heap.size qb w wr
  bld : Lib.IsBuilderF 70 5 w.heap.size (w.heap.size + 1 + 1) (Lib.byteCells bs) wr
  k0 : BoxAt wr w.heap.size #[pt qb] 52
  k1 : BoxAt wr (w.heap.size + 1) #[.int .i64 d] 3
theorem Pin.later {W0 : World} {qb : Nat} {w : World} {d : Nat} {qs : List Qn} {bs : List UInt8} {wr w' : World} (h : Pin W0 qb w d qs bs wr) (hb : Below wr.heap.size wr w') : Pin W0 qb w d qs bs w' :=
  ⟨h.qs.later hb, h.step.later hb h.qs.old, IsBuilderF.later h.bld hb, h.k0.later hb, h.k1.later hb⟩
theorem Pin.alloc {W0 : World} {qb : Nat} {w : World} {d : Nat} {qs : List Qn} {bs : List UInt8} {wr : World} (h : Pin W0 qb w d qs bs wr) (o : Obj) : Pin W0 qb w d qs bs (wr.alloc o) :=
  h.later ((Below.refl _ _).alloc (Nat.le_refl _) _)
theorem Pin.size {W0 : World} {qb : Nat} {w : World} {d : Nat} {qs : List Qn} {bs : List UInt8} {wr : World} (h : Pin W0 qb w d qs bs wr) : w.heap.size + 1 + 1 < wr.heap.size := by
  obtain ⟨cs, hb⟩ := IsBuilderF.box h.bld
  exact hb.lt
theorem Pin.old {W0 : World} {qb : Nat} {w : World} {d : Nat} {qs : List Qn} {bs : List UInt8} {wr : World} (h : Pin W0 qb w d qs bs wr) : W0.heap.size ≤ w.heap.size := by
  have := h.qs.lt
  have h1 := h.k0
  rcases Nat.lt_or_ge w.heap.size W0.heap.size with h2 | h2
  · exfalso
    have h3 := h.step.below.block w.heap.size h2
    unfold BoxAt at h1
    rw [h1] at h3
    rw [Array.getElem?_eq_none (Nat.le_refl _)] at h3
    cases h3
  · exact h2
/-- A builder's step. -/
theorem Pin.write {W0 : World} {qb : Nat} {w : World} {d : Nat} {qs : List Qn} {bs bs' : List UInt8} {wr w' : World} (h : Pin W0 qb w d qs bs wr) (hn : Lib.BuilderAtF 70 5 w.heap.size (w.heap.size + 1 + 1) (.pointer (some ⟨w.heap.size + 1 + 1, 0, none⟩)) (Lib.byteCells bs') w')
    (hb : Below w.heap.size wr w') (hk : Lib.OthersKept 5 (some (w.heap.size + 1 + 1)) wr w') : Pin W0 qb w d qs bs' w' := by
  obtain ⟨cs, hx⟩ := IsBuilderF.box h.bld
  exact ⟨h.qs.keptU hx hk (hb.mono h.old), h.step.build rfl h.old hb, .inr hn, keptU_box hx hk h.k0 (by decide) (by decide), keptU_box hx hk h.k1 (by decide) (by decide)⟩
/-- A question put off. -/
theorem Pin.push {W0 : World} {qb : Nat} {w : World} {d : Nat} {qs qs' : List Qn} {bs : List UInt8} {wr w' : World} (h : Pin W0 qb w d qs bs wr) (hq : QsAt W0 qb qs' w') (hs : StepQ W0.heap.size qb wr w') : Pin W0 qb w d qs' bs w' := by
  obtain ⟨v, hx⟩ := h.qs.box
  exact ⟨hq, h.step.trans hs, IsBuilderF.stepQ h.bld hx hs, h.k0.step hs (ne_of_box h.k0 hx (by decide)) (by decide), h.k1.step hs (ne_of_box h.k1 hx (by decide)) (by decide)⟩
theorem Pin.ends {W0 : World} {qb : Nat} {D : Qn → Prop} {w : World} {d : Nat} {qs qs' : List Qn} {bs : List UInt8} {w' : World} {b r : Bool} {n : Nat} (h : Pin W0 qb w d (qs ++ qs') bs w') (ht : total qs' ≤ n) (hb : b = (r && answers qs')) (hD : ∀ q ∈ qs', D q) : Asked W0 qb D qs w b n (.returned (.bool r)) w' :=
  ⟨r, qs', rfl, h.qs, h.step, ht, hb, hD⟩
theorem TabU.below {W w : World} (h : TabU W) (hb : Below W.heap.size W w) : TabU w := Go.Proofs.Utf8Tabs_below h hb
set_option maxHeartbeats 4000000 in
set_option maxRecDepth 1000000 in
theorem isPattern_asks {W0 : World} {qb : Nat} {D : Qn → Prop} (hT : TabU W0) (l : List EL) (HCA : ∀ t p, EL.mk t p ∈ l → validB t = true → CaTo t) {v : Value} (hv : PatAt W0 l v) (d : Nat) (hd : d ≤ 20) (hD : ∀ t e, EL.mk t (some e) ∈ l → D (.may .brc e (d + 1))) (w : World) :
    Asks W0 qb D 26 #[pt qb, v, .int .i64 d] w (patB l d) (sizeEs l) := by
  intro qs hq hn
  have Hq := Lib.hid hq
  have Hn := Lib.hid hn
  have hv' := hv
  obtain ⟨A, c, rfl, hc1, hc2, _⟩ := hv'
  have HV := Lib.hid hv
  have hold := hq.old
  have hlen : (l.length : Int) ≤ 4000000 := by have := sizeEs_length l; unfold qMax at hn; omega
  have Hd := Lib.hid hd
  have HD := Lib.hid hD
  have HC := Lib.hid HCA
  clear hq hn hv hd hc1 hc2 hD HCA
  unfold pt
  go_enter Tryd.func26, Tryd.ntmps26
  go_wp2
  go_loopw [14] (fun t14 wr => ∃ (i : Nat) (qs' : List Qn), t14 = .int .i64 i ∧ i ≤ l.length ∧ Hid (Pin W0 qb w d (qs ++ qs') (linesOf 123 (l.take i)) wr) ∧ Hid (0 < i → linesOf 123 (l.take i) ≠ []) ∧
      Hid (total qs' ≤ sizeEs (l.take i)) ∧ Hid (patB l d = (textsB (besideAt l i) (l.drop i) && (l.isEmpty || linesB (linesOf 123 l)) && answers qs' && okEs (l.drop i) (d + 1))) ∧ Hid (∀ q ∈ qs', D q)) (fun t14 _ => l.length - (intOf t14).toNat)
  case atStart =>
    refine ⟨0, [], rfl, Nat.zero_le _, ?_, ?_, ?_, ?_, by unfold Hid; simp⟩
    · unfold Hid
      rw [List.append_nil]
      have hk1 := (BoxAt.new (w.alloc (.cells #[pt qb] 52)) #[.int .i64 d] 3).alloc (.cells #[.pointer none, .slice none 0 0] 70)
      rw [World.size_alloc] at hk1
      exact ⟨((Hq.out.alloc _).alloc _).alloc _, (((StepQ.refl _ _ _).alloc hold _).alloc (by simp; omega) _).alloc (by simp; omega) _,
        by
          have := builder_new ((w.alloc (.cells #[pt qb] 52)).alloc (.cells #[.int .i64 d] 3)) w.heap.size (by simp; omega)
          rw [World.size_alloc, World.size_alloc] at this
          simp only [List.take_zero, linesOf]
          exact this, ((BoxAt.new _ _ _).alloc _).alloc _, hk1⟩
    · unfold Hid; intro h; omega
    · unfold Hid; simp [total]
    · unfold Hid; simp [patB, patL, answers, besideAt, Bool.and_assoc]
  case round =>
    obtain ⟨i, qs', rfl, hi, HP, Hne, Htot, Hans, HDq⟩ := hrel
    have hi0 : (i : Int) ≤ 4000000 := by omega
    have hbel := HP.out.qs.below
    have hTr := hT.below hbel
    have hsz := HP.out.size
    have hszW := HP.out.qs.old
    by_cases hlt : i < l.length
    · obtain ⟨b, o, c', e, hb, hcs⟩ := pat_get HV.out hlt
      cases e
      obtain ⟨t, p, hel⟩ : ∃ t p, l[i]? = some (.mk t p) := by
        cases e : l[i] with
        | mk t p => exact ⟨t, p, by rw [List.getElem?_eq_getElem hlt, e]⟩
      obtain ⟨c0, u, c1, hu⟩ := hcs i t p hel
      rw [← hbel.cell (p := ⟨b, o + i * 2, none⟩) hb] at c0
      rw [← hbel.cell (p := ⟨b, o + i * 2 + 1, none⟩) hb] at c1
      have hbw : b < wr.heap.size := by omega
      have hbw1 : b < wr.heap.size + 1 := by omega
      have hlt' : decide ((i : Int) < (l.length : Int)) = true := decide_eq_true (by omega)
      have hlt3 : ((i : Nat) : Int) < (l.length : Int) := by omega
      have htk := take_snoc l i _ hel
      have hdr := drop_cons l i _ hel
      have hans := Hans.out
      rw [hdr] at hans
      have htot := Htot.out
      have hszt : sizeEs (l.take (i + 1)) = sizeEs (l.take i) + (1 + t.size + sizeO p) := by
        rw [htk, sizeEs_append, sizeEs, sizeEs, Nat.add_zero]
      have hszl := sizeEs_take l (i + 1)
      have hln : (linesOf 123 (l.take i)).length ≤ 4000000 := by
        have h1 := linesOf_length 123 (l.take i)
        have h2 := sizeEs_take l i
        have h3 : total qs + sizeEs l ≤ 4000000 := Hn.out
        omega
      have hqm : total qs + sizeEs l ≤ 4000000 := Hn.out
      have hts : t.size ≤ 4000000 := by omega
      have Htk := Lib.hid htk
      have Hdr := Lib.hid hdr
      have Hel := Lib.hid hel
      have Hln := Lib.hid hln
      have Hszt := Lib.hid hszt
      have Hszl := Lib.hid hszl
      have HTr := Lib.hid hTr
      clear htk hdr hel hln hszt hszl Hans hTr
      cases p with
      | none =>
        simp only [OAt] at hu
        subst hu
        obtain ⟨bs, hbs⟩ : ∃ bs, besideAt l i = bs := ⟨_, rfl⟩
        have hprev : 0 < i → ∃ a : Option Addr, wr.cell? ⟨b, o + (i - 1) * 2 + 1, none⟩ = some (.pointer a) ∧ bs = a.isNone := by
          intro h0
          obtain ⟨j, rfl⟩ : ∃ j, i = j + 1 := ⟨i - 1, by omega⟩
          rw [Nat.add_sub_cancel]
          have hj : j < l.length := by omega
          obtain ⟨t', p', hel'⟩ : ∃ t p, l[j]? = some (.mk t p) := by
            cases e : l[j] with
            | mk t p => exact ⟨t, p, by rw [List.getElem?_eq_getElem hj, e]⟩
          obtain ⟨_, u', c1', hu'⟩ := hcs j t' p' hel'
          rw [← hbel.cell (p := ⟨b, o + j * 2 + 1, none⟩) hb] at c1'
          have hbb : besideAt l (j + 1) = p'.isNone := by
            rw [besideAt, hel']
            cases p' <;> rfl
          rw [hbb] at hbs
          subst hbs
          cases p' with
          | none => simp only [OAt] at hu'; subst hu'; exact ⟨none, c1', rfl⟩
          | some e' => simp only [OAt] at hu'; obtain ⟨_, _, _, rfl, _⟩ := hu'; exact ⟨_, c1', rfl⟩
        rw [textsB, okEs, hbs] at hans
        have Hans := Lib.hid hans
        have Hbs := Lib.hid hbs
        clear hans hbs hcs
        have htl : total qs' ≤ sizeEs l := Nat.le_trans htot (sizeEs_take l i)
        by_cases h0 : 0 < i
        · obtain ⟨a, c2, hbn⟩ := hprev h0
          subst hbn
          have h0' : decide ((0 : Int) < (i : Int)) = true := decide_eq_true (by omega)
          have h0'' : decide (0 < i) = true := decide_eq_true h0
          have h03 : (0 : Int) < (i : Int) := by omega
          have h04 : (1 : Int) ≤ (i : Int) := by omega
          clear hprev
          cases he : t.toList.isEmpty
          case true =>
            go_wp2
            go_ret
            exact (((HP.out.alloc _).alloc _)).ends htl (by rw [Hans.out]; simp [emp, he]) HDq.out
          have hP2 := ((HP.out.alloc (.cells #[.string t, .pointer none] 38)).alloc (.cells #[.pointer none] 33))
          have HP2 := Lib.hid hP2
          clear hP2 hsz
          go_wp2_with fail
          go_at_call 24
          refine (isText_any t _ (by omega) (HTr.out.below (((Below.refl _ _).alloc (Nat.le_refl _) _).alloc (by simp) _))).mono ?_
          rintro e w3 ⟨rfl, hb3⟩
          obtain ⟨q, hq⟩ : ∃ q, textB t = q := ⟨_, rfl⟩
          rw [hq]
          have Hq2 := Lib.hid hq
          obtain ⟨hcc, hff⟩ := bcell hb3
          have hP3 := HP2.out.later hb3
          have HP3 := Lib.hid hP3
          have Hb3 := Lib.hid hb3
          have hs3 := hb3.size
          simp only [World.size_alloc] at hs3
          have d0 : w3.cell? ⟨wr.heap.size, 0, none⟩ = some (.string t) := by rw [hcc _ _ (by simp; omega)]; simp
          have hE3 : BoxAt w3 wr.heap.size #[.string t, .pointer none] 38 := (((BoxAt.new wr _ _).alloc _).later hb3)
          have HE3 := Lib.hid hE3
          clear hq hP3 hb3 hcc hff hE3
          cases q
          case false =>
            go_wp2
            go_ret
            exact HP3.out.ends htl (by rw [Hans.out, Hq2.out]; simp) HDq.out
          have hvt : validB t = true := by
            have := Hq2.out
            unfold textB at this
            simp at this
            exact this.1
          have hca := HC.out t none (List.mem_of_getElem? Hel.out) hvt w3
          have Hca := Lib.hid hca
          clear hca hvt
          go_wp2_with fail
          go_at_call 40
          refine Hca.out.mono ?_
          rintro e w4 ⟨rfl, hb4⟩
          obtain ⟨q, hq⟩ : ∃ q, hasBrace t = q := ⟨_, rfl⟩
          rw [hq]
          have Hq3 := Lib.hid hq
          have hP4 := HP3.out.later hb4
          have HP4 := Lib.hid hP4
          have hE4 := HE3.out.later hb4
          have d1 : w4.cell? ⟨wr.heap.size, 0, none⟩ = some (.string t) := hE4.cell 0
          have Hb4 := Lib.hid hb4
          have hs4 := hb4.size
          clear hq hP4 hb4 hE4
          have hans2 := Hans.out
          rw [show (t.data.toList.contains 123 || t.data.toList.contains 125) = hasBrace t from rfl, Hq2.out, Hq3.out] at hans2
          have Hans2 := Lib.hid hans2
          clear hans2
          cases q
          case true =>
            go_wp2
            go_ret
            exact HP4.out.ends htl (by rw [Hans2.out]; simp) HDq.out
          obtain ⟨q, hqa⟩ : ∃ q, a.isNone = q := ⟨_, rfl⟩
          have Hqa := Lib.hid hqa
          have hans3 := Hans2.out
          rw [hqa] at hans3
          rw [hqa]
          have Hans4 := Lib.hid hans3
          clear hqa hans3 Hans2
          have Hans2 := Hans4
          clear Hans4
          cases q
          case true =>
            go_wp2
            go_ret
            exact HP4.out.ends htl (by rw [Hans2.out]; simp) HDq.out
          have hemp : emp t = false := he
          have hans3 := Hans2.out
          rw [hemp] at hans3
          simp only [Bool.not_false, Bool.true_and, Bool.not_true] at hans3
          have Hans3 := Lib.hid hans3
          have hw := bld_WriteString w.heap.size (w.heap.size + 1 + 1) _ t w4 HP4.out.bld (by rw [Lib.byteCells_length]; have := Hln.out; omega) (by have := HP4.out.size; omega)
          have HW := Lib.hid hw
          have hE4 : BoxAt w4 wr.heap.size #[.string t, .pointer none] 38 := HE3.out.later Hb4.out
          clear hans3 hw hemp
          go_wp2_with fail
          go_at_call 41
          refine HW.out.mono ?_
          rintro e w5 ⟨rfl, h5, b5, k5⟩
          have hP5 := HP4.out.write (bs' := linesOf 123 (l.take i) ++ t.data.toList) (by rw [Lib.byteCells_append]; exact h5) b5 k5
          have HP5 := Lib.hid hP5
          clear h5 b5 k5 hP5
          go_wp2
          go_roundw
          case rel =>
            have hlo : linesOf 123 (l.take (i + 1)) = linesOf 123 (l.take i) ++ t.data.toList := by
              rw [Htk.out, linesOf_append, linesOf, linesOf, List.append_nil]
            have hb' : besideAt l (i + 1) = true := by
              rw [besideAt, Hel.out]
            refine ⟨i + 1, qs', by go_num, hlt, ?_, ?_, ?_, ?_, HDq.out⟩
            · rw [hlo]; exact HP5.out
            · intro _ e
              rw [hlo] at e
              have e2 := (List.append_eq_nil_iff.1 e).2
              have := Lib.toList_data t
              rw [this, e2] at he
              cases he
            · have := Hszt.out
              show _ ≤ _
              omega
            · rw [hb']; exact Hans3.out
          case measure => simp [intOf]; omega
        · clear hprev
          have hb0 : besideAt l i = false := by
            obtain rfl : i = 0 := by omega
            rfl
          have h0' : decide ((0 : Int) < (i : Int)) = false := decide_eq_false (by omega)
          have h0'' : decide (0 < i) = false := decide_eq_false h0
          have h03 : ¬ (0 : Int) < (i : Int) := by omega
          rw [Hbs.out] at hb0
          subst hb0
          cases he : t.toList.isEmpty
          case true =>
            go_wp2
            go_ret
            exact (((HP.out.alloc _).alloc _)).ends htl (by rw [Hans.out]; simp [emp, he]) HDq.out
          have hP2 := ((HP.out.alloc (.cells #[.string t, .pointer none] 38)).alloc (.cells #[.pointer none] 33))
          have HP2 := Lib.hid hP2
          clear hP2 hsz
          go_wp2_with fail
          go_at_call 24
          refine (isText_any t _ (by omega) (HTr.out.below (((Below.refl _ _).alloc (Nat.le_refl _) _).alloc (by simp) _))).mono ?_
          rintro e w3 ⟨rfl, hb3⟩
          obtain ⟨q, hq⟩ : ∃ q, textB t = q := ⟨_, rfl⟩
          rw [hq]
          have Hq2 := Lib.hid hq
          obtain ⟨hcc, hff⟩ := bcell hb3
          have hP3 := HP2.out.later hb3
          have HP3 := Lib.hid hP3
          have Hb3 := Lib.hid hb3
          have hs3 := hb3.size
          simp only [World.size_alloc] at hs3
          have d0 : w3.cell? ⟨wr.heap.size, 0, none⟩ = some (.string t) := by rw [hcc _ _ (by simp; omega)]; simp
          have hE3 : BoxAt w3 wr.heap.size #[.string t, .pointer none] 38 := (((BoxAt.new wr _ _).alloc _).later hb3)
          have HE3 := Lib.hid hE3
          clear hq hP3 hb3 hcc hff hE3
          cases q
          case false =>
            go_wp2
            go_ret
            exact HP3.out.ends htl (by rw [Hans.out, Hq2.out]; simp) HDq.out
          have hvt : validB t = true := by
            have := Hq2.out
            unfold textB at this
            simp at this
            exact this.1
          have hca := HC.out t none (List.mem_of_getElem? Hel.out) hvt w3
          have Hca := Lib.hid hca
          clear hca hvt
          go_wp2_with fail
          go_at_call 40
          refine Hca.out.mono ?_
          rintro e w4 ⟨rfl, hb4⟩
          obtain ⟨q, hq⟩ : ∃ q, hasBrace t = q := ⟨_, rfl⟩
          rw [hq]
          have Hq3 := Lib.hid hq
          have hP4 := HP3.out.later hb4
          have HP4 := Lib.hid hP4
          have hE4 := HE3.out.later hb4
          have d1 : w4.cell? ⟨wr.heap.size, 0, none⟩ = some (.string t) := hE4.cell 0
          have Hb4 := Lib.hid hb4
          have hs4 := hb4.size
          clear hq hP4 hb4 hE4
          have hans2 := Hans.out
          rw [show (t.data.toList.contains 123 || t.data.toList.contains 125) = hasBrace t from rfl, Hq2.out, Hq3.out] at hans2
          have Hans2 := Lib.hid hans2
          clear hans2
          cases q
          case true =>
            go_wp2
            go_ret
            exact HP4.out.ends htl (by rw [Hans2.out]; simp) HDq.out
          have hemp : emp t = false := he
          have hans3 := Hans2.out
          rw [hemp] at hans3
          simp only [Bool.not_false, Bool.true_and, Bool.not_true] at hans3
          have Hans3 := Lib.hid hans3
          have hw := bld_WriteString w.heap.size (w.heap.size + 1 + 1) _ t w4 HP4.out.bld (by rw [Lib.byteCells_length]; have := Hln.out; omega) (by have := HP4.out.size; omega)
          have HW := Lib.hid hw
          have hE4 : BoxAt w4 wr.heap.size #[.string t, .pointer none] 38 := HE3.out.later Hb4.out
          clear hans3 hw hemp
          go_wp2_with fail
          go_at_call 41
          refine HW.out.mono ?_
          rintro e w5 ⟨rfl, h5, b5, k5⟩
          have hP5 := HP4.out.write (bs' := linesOf 123 (l.take i) ++ t.data.toList) (by rw [Lib.byteCells_append]; exact h5) b5 k5
          have HP5 := Lib.hid hP5
          clear h5 b5 k5 hP5
          go_wp2
          go_roundw
          case rel =>
            have hlo : linesOf 123 (l.take (i + 1)) = linesOf 123 (l.take i) ++ t.data.toList := by
              rw [Htk.out, linesOf_append, linesOf, linesOf, List.append_nil]
            have hb' : besideAt l (i + 1) = true := by
              rw [besideAt, Hel.out]
            refine ⟨i + 1, qs', by go_num, hlt, ?_, ?_, ?_, ?_, HDq.out⟩
            · rw [hlo]; exact HP5.out
            · intro _ e
              rw [hlo] at e
              have e2 := (List.append_eq_nil_iff.1 e).2
              have := Lib.toList_data t
              rw [this, e2] at he
              cases he
            · have := Hszt.out
              show _ ≤ _
              omega
            · rw [hb']; exact Hans3.out
          case measure => simp [intOf]; omega
      | some ex =>
        have hu2 := hu
        simp only [OAt] at hu2
        obtain ⟨pb, po, pc7, rfl, _⟩ := hu2
        have HU := Lib.hid hu
        rw [textsB, okEs] at hans
        have Hans := Lib.hid hans
        clear hans hcs hu
        have htl : total qs' ≤ sizeEs l := Nat.le_trans htot (sizeEs_take l i)
        have hP2 := ((HP.out.alloc (.cells #[.string t, .pointer (some ⟨pb, po, none⟩)] 38)).alloc (.cells #[.pointer (some ⟨pb, po, none⟩)] 33))
        have hbx : BoxAt ((wr.alloc (.cells #[.string t, .pointer (some ⟨pb, po, none⟩)] 38)).alloc (.cells #[.pointer (some ⟨pb, po, none⟩)] 33)) (wr.heap.size + 1) #[.pointer (some ⟨pb, po, none⟩)] 33 := by
          have := BoxAt.new (wr.alloc (.cells #[.string t, .pointer (some ⟨pb, po, none⟩)] 38)) #[.pointer (some ⟨pb, po, none⟩)] 33
          rw [World.size_alloc] at this
          exact this
        have hc0 : ((wr.alloc (.cells #[.string t, .pointer (some ⟨pb, po, none⟩)] 38)).alloc (.cells #[.pointer (some ⟨pb, po, none⟩)] 33)).cell? ⟨w.heap.size, 0, none⟩ = some (.pointer (some ⟨qb, 0, none⟩)) := hP2.k0.cell 0
        have HP2 := Lib.hid hP2
        have HBx := Lib.hid hbx
        clear hP2 hbx
        have hsz1 : w.heap.size < wr.heap.size := by omega
        have hsz2 : w.heap.size < wr.heap.size + 1 := by omega
        have hcw : wr.cell? ⟨w.heap.size, 0, none⟩ = some (.pointer (some ⟨qb, 0, none⟩)) := HP.out.k0.cell 0
        cases he : t.toList.isEmpty
        case false =>
          go_wp2
          go_ret
          exact HP2.out.ends htl (by rw [Hans.out]; simp [emp, he]) HDq.out
        have hemp : emp t = true := he
        have hans2 := Hans.out
        rw [hemp] at hans2
        simp only [Bool.true_and] at hans2
        have Hans2 := Lib.hid hans2
        have hszt2 : sizeEs (l.take (i + 1)) = sizeEs (l.take i) + (1 + t.size + ex.size) := by rw [Hszt.out, sizeO]
        have hlt2 := later_q (W0 := W0) (qb := qb) (qs := qs ++ qs') 43 #[pt w.heap.size, pt (wr.heap.size + 1), pt (w.heap.size + 1)] (.may .brc ex (d + 1))
          ⟨_, _, _, _, .pointer (some ⟨pb, po, none⟩), d, .inl rfl, rfl, Hd.out, rfl, HP2.out.k0, HBx.out, HP2.out.k1, HU.out⟩ HP2.out.qs (by
            rw [total_append]
            have := Hszl.out
            show total qs + total qs' + ex.size ≤ 4000000
            omega)
        have HL := Lib.hid hlt2
        have Hszt2 := Lib.hid hszt2
        clear hlt2 hans2 hemp hszt2
        go_wp2_with fail
        go_at_call 42
        refine HL.out.mono ?_
        rintro e w5 ⟨rfl, h5, s5⟩
        have hP5 := HP2.out.push h5 s5
        have hw := bld_WriteByte w.heap.size (w.heap.size + 1 + 1) _ 123 w5 hP5.bld (by rw [Lib.byteCells_length]; have := Hln.out; omega) (by have := hP5.size; omega)
        have HW := Lib.hid hw
        have HP5 := Lib.hid hP5
        clear hw hP5 h5 s5
        go_wp2_with fail
        go_at_call 45
        refine HW.out.mono ?_
        rintro e w6 ⟨rfl, h6, b6, k6⟩
        have hP6 := HP5.out.write (bs' := linesOf 123 (l.take i) ++ [123]) (by rw [Lib.byteCells_append]; exact h6) b6 k6
        have HP6 := Lib.hid hP6
        clear h6 b6 k6 hP6
        go_wp2
        go_roundw
        case rel =>
          have hlo : linesOf 123 (l.take (i + 1)) = linesOf 123 (l.take i) ++ [123] := by
            rw [Htk.out, linesOf_append, linesOf, linesOf]
          have hb' : besideAt l (i + 1) = false := by
            rw [besideAt, Hel.out]
          refine ⟨i + 1, qs' ++ [.may .brc ex (d + 1)], by go_num, hlt, ?_, ?_, ?_, ?_, ?_⟩
          · rw [hlo, ← List.append_assoc]; exact HP6.out
          · intro _ e
            rw [hlo] at e
            simp at e
          · have := Hszt2.out
            show _ ≤ _
            rw [total_append]
            show total qs' + (ex.size + 0) ≤ _
            omega
          · rw [hb', answers_append]
            show _ = _
            rw [Hans2.out]
            simp only [answers, List.all_cons, List.all_nil, Bool.and_true, Qn.ans]
            cases textsB false (l.drop (i + 1)) <;> cases (l.isEmpty || linesB (linesOf 123 l)) <;> cases qs'.all Qn.ans <;> simp
          · intro x hx
            rcases List.mem_append.1 hx with h1 | h1
            · exact HDq.out x h1
            · have := List.mem_singleton.1 h1
              subst this
              exact HD.out t ex (List.mem_of_getElem? Hel.out)
        case measure => simp [intOf]; omega
    · obtain rfl : i = l.length := by omega
      have hans := Hans.out
      rw [List.drop_length, textsB, okEs, Bool.true_and, Bool.and_true] at hans
      have hP := HP.out
      rw [List.take_length] at hP
      have hne := Hne.out
      rw [List.take_length] at hne
      have htl : total qs' ≤ sizeEs l := by have := Htot.out; rw [List.take_length] at this; exact this
      have hln := linesOf_length 123 l
      have hqm : total qs + sizeEs l ≤ 4000000 := Hn.out
      have hlt' : decide ((l.length : Int) < (l.length : Int)) = false := decide_eq_false (by omega)
      by_cases h0 : 0 < l.length
      · have hne2 := hne h0
        have hz : ((l.length : Int) == 0) = false := beq_eq_false_iff_ne.2 (by omega)
        have hz' : (l.length == 0) = false := beq_eq_false_iff_ne.2 (by omega)
        have hie : l.isEmpty = false := by cases l with | nil => simp at h0 | cons _ _ => rfl
        rw [hie, Bool.false_or] at hans
        have hS := Tryd.Builder_String_any_k w.heap.size (w.heap.size + 1 + 1) (linesOf 123 l) wr hP.bld (by omega)
        have hsz0 : 0 < (⟨(linesOf 123 l).toArray⟩ : ByteArray).size := by
          rw [size_mk]
          cases e : linesOf 123 l with
          | nil => exact absurd e hne2
          | cons _ _ => simp
        have hA := fun W => areLines_any ⟨(linesOf 123 l).toArray⟩ W hsz0 (by rw [size_mk]; omega)
        rw [show (⟨(linesOf 123 l).toArray⟩ : ByteArray).data.toList = linesOf 123 l from by simp] at hA
        have HS := Lib.hid hS
        have HA := Lib.hid hA
        have HPP := Lib.hid hP
        have Hans2 := Lib.hid hans
        clear hS hA hP hans hne hne2 hln hsz0 Hne Hans
        go_wp2_with fail
        go_at_call 47
        refine HS.out.mono ?_
        rintro e w5 ⟨rfl, i5, b5, k5⟩
        obtain ⟨cs5, hx⟩ := IsBuilderF.box HPP.out.bld
        have hq5 := HPP.out.qs.keptU hx k5 (b5.mono HPP.out.old)
        have hs5 := HPP.out.step.build rfl HPP.out.old b5
        have Hq5 := Lib.hid hq5
        have Hs5 := Lib.hid hs5
        clear i5 b5 k5 hx hq5 hs5
        obtain ⟨str, hstr⟩ : ∃ s : ByteArray, (⟨(linesOf 123 l).toArray⟩ : ByteArray) = s := ⟨_, rfl⟩
        rw [hstr] at HA ⊢
        clear hstr
        go_wp2_with fail
        go_at_call 46
        refine (HA.out _).mono ?_
        rintro e w6 ⟨rfl, rfl⟩
        go_wp2
        go_ret
        exact ⟨_, qs', rfl, Hq5.out, Hs5.out, htl, Hans2.out, HDq.out⟩
      · have hz : ((l.length : Int) == 0) = true := beq_iff_eq.2 (by omega)
        have hz' : (l.length == 0) = true := beq_iff_eq.2 (by omega)
        have hie : l.isEmpty = true := by cases l with | nil => rfl | cons _ _ => simp at h0
        rw [hie, Bool.true_or, Bool.true_and] at hans
        have HPP := Lib.hid hP
        have Hans2 := Lib.hid hans
        clear hP hans hne hln Hne Hans
        go_wp2
        go_ret
        exact ⟨true, qs', rfl, HPP.out.qs, HPP.out.step, htl, by rw [Hans2.out]; rfl, HDq.out⟩
end Go.Proofs.YtbolmffldmegeaaDoor
