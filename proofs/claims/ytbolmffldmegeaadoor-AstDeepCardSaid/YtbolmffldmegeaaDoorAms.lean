/-
  Package ast: isMessage.
-/
import Derived.Test.YtbolmffldmegeaaDoorAin
namespace Go.Proofs.YtbolmffldmegeaaDoor
open Go.RowKit
set_option linter.unusedVariables false
set_option linter.unusedSimpArgs false

/-- An attribute. -/
inductive AT where
  | mk (name : ByteArray) (value : List EL)
def sizeTs : List AT → Nat
  | [] => 0
  | .mk n v :: r => 1 + n.size + sizeEs v + sizeTs r
def TsAt (W : World) : List AT → Nat → Nat → Prop
  | [], _, _ => True
  | .mk n v :: r, b, o => b < W.heap.size ∧ W.cell? ⟨b, o, none⟩ = some (.string n) ∧ (∃ u, W.cell? ⟨b, o + 1, none⟩ = some u ∧ PatAt W v u) ∧ TsAt W r b (o + 2)
theorem TsAt.get {W : World} : ∀ {l : List AT} {b o : Nat} (j : Nat) {t : ByteArray} {v : List EL}, TsAt W l b o → l[j]? = some (.mk t v) →
    b < W.heap.size ∧ W.cell? ⟨b, o + j * 2, none⟩ = some (.string t) ∧ ∃ u, W.cell? ⟨b, o + j * 2 + 1, none⟩ = some u ∧ PatAt W v u
  | [], b, o, j, t, p, h, hj => by simp at hj
  | .mk t' p' :: r, b, o, 0, t, p, h, hj => by
    rw [TsAt] at h
    simp at hj
    obtain ⟨rfl, rfl⟩ := hj
    obtain ⟨h0, h1, h2, _⟩ := h
    exact ⟨h0, by simpa using h1, by simpa using h2⟩
  | .mk t' p' :: r, b, o, j + 1, t, p, h, hj => by
    rw [TsAt] at h
    have := TsAt.get j h.2.2.2 (by simpa using hj)
    rw [show o + (j + 1) * 2 = o + 2 + j * 2 by omega]
    exact this
def attrOk : AT → Bool | .mk n v => isNameV n && (!v.isEmpty && patB v 0)
theorem ats_get {W0 : World} {l : List AT} {v : Value} (h : LieAt (TsAt W0 l) v l.length) {i : Nat} (hi : i < l.length) : ∃ b o c, v = .slice (some ⟨b, o, none⟩) l.length c ∧ b < W0.heap.size ∧
    ∀ j t p, l[j]? = some (.mk t p) → W0.cell? ⟨b, o + j * 2, none⟩ = some (.string t) ∧ ∃ u, W0.cell? ⟨b, o + j * 2 + 1, none⟩ = some u ∧ PatAt W0 p u := by
  obtain ⟨A, c, rfl, _, _, h2⟩ := h
  obtain ⟨b, o, rfl, h3⟩ := h2 (by omega)
  have h0 : l[0]? = some l[0] := List.getElem?_eq_getElem (by omega)
  refine ⟨b, o, c, rfl, ?_, fun j t p hj => ⟨(h3.get j hj).2.1, (h3.get j hj).2.2⟩⟩
  cases e : l[0]'(by omega) with
  | mk t p => rw [e] at h0; exact (h3.get 0 h0).1
theorem sizeTs_length : ∀ l : List AT, l.length ≤ sizeTs l
  | [] => Nat.zero_le _
  | .mk t p :: r => by have := sizeTs_length r; rw [sizeTs, List.length_cons]; omega
theorem sizeTs_append : ∀ a b : List AT, sizeTs (a ++ b) = sizeTs a + sizeTs b
  | [], b => by rw [List.nil_append, sizeTs]; omega
  | .mk t p :: r, b => by rw [List.cons_append, sizeTs, sizeTs, sizeTs_append r b]; omega
theorem sizeTs_take (l : List AT) (i : Nat) : sizeTs (l.take i) ≤ sizeTs l := by
  have := sizeTs_append (l.take i) (l.drop i)
  rw [List.take_append_drop] at this
  omega
/-- May a message, or a term, be? -/
def msgB (ty level : Int) (text name : ByteArray) (val : List EL) (ats : List AT) : Bool :=
  (level == 0) && emp text && isNameV name && patB val 0 && ats.all attrOk && (!val.isEmpty || (ty == 1) && !ats.isEmpty)
/-- An entry as it is handed on. -/
def entV (ty level : Int) (text name : ByteArray) (v u : Value) (fr tu : Int) : Value := .agg #[.int .i64 ty, .int .i64 level, .string text, .string name, v, u, .int .i64 fr, .int .i64 tu]
/-- What may be put off of a pattern: D lets it in; its texts are looked through. -/
structure PatOk (D : Qn → Prop) (l : List EL) (d : Nat) : Prop where
  ca : ∀ t p, EL.mk t p ∈ l → validB t = true → CaTo t
  dd : ∀ t e, EL.mk t (some e) ∈ l → D (.may .brc e (d + 1))
set_option maxHeartbeats 4000000 in
set_option maxRecDepth 1000000 in
theorem isMessage_asks {W0 : World} {qb : Nat} {D : Qn → Prop} (hT : TabU W0) (ty level : Int) (text name : ByteArray) (val : List EL) (ats : List AT) (v u : Value) (fr tu : Int) (hv : PatAt W0 val v) (hu : LieAt (TsAt W0 ats) u ats.length)
    (h1 : PatOk D val 0) (h2 : ∀ t l, AT.mk t l ∈ ats → PatOk D l 0) (hnm : name.size ≤ 4000000) (w : World) :
    Asks W0 qb D 15 #[pt qb, entV ty level text name v u fr tu] w (msgB ty level text name val ats) (sizeEs val + sizeTs ats) := by
  intro qs hq hn
  have Hq := Lib.hid hq
  have Hn := Lib.hid hn
  have hold := hq.old
  have hltq := hq.lt
  have hbel := hq.below
  have hv' := hv
  obtain ⟨A, c, rfl, hc1, hc2, _⟩ := hv'
  have hu' := hu
  obtain ⟨A2, c2, rfl, hc3, hc4, _⟩ := hu'
  have HV := Lib.hid hv
  have HU := Lib.hid hu
  have HP : ∀ W, Asks W0 qb D 26 #[.pointer (some ⟨qb, 0, none⟩), .slice A val.length c, .int .i64 0] W (patB val 0) (sizeEs val) := fun W => isPattern_asks (qb := qb) (D := D) hT val h1.ca hv 0 (by omega) h1.dd W
  have HPP := Lib.hid HP
  have H2 := Lib.hid h2
  have hvl : (val.length : Int) ≤ 4000000 := by have := sizeEs_length val; unfold qMax at hn; omega
  have hal : (ats.length : Int) ≤ 4000000 := by have := sizeTs_length ats; unfold qMax at hn; omega
  clear hq hn hbel hv hu hc1 hc2 hc3 hc4 HP h1 h2
  unfold pt entV
  by_cases hlv : level = 0
  case neg =>
    have hz : (level == 0) = false := beq_eq_false_iff_ne.2 hlv
    have hz' : (level != 0) = true := by rw [bne, hz]; rfl
    go_enter Tryd.func15, Tryd.ntmps15
    go_wp2
    go_ret
    exact Asked.calm' Hq.out ((Below.refl _ _).alloc (Nat.le_refl _) _) (by simp [msgB, hz])
  subst hlv
  unfold msgB
  cases he : text.toList.isEmpty
  case false =>
    go_enter Tryd.func15, Tryd.ntmps15
    go_wp2
    go_ret
    exact Asked.calm' Hq.out ((Below.refl _ _).alloc (Nat.le_refl _) _) (by simp [emp, he])
  rw [show emp text = true from he]
  have hN := fun W => isName_any name W (by omega)
  obtain ⟨q, hqq⟩ : ∃ q, isNameV name = q := ⟨_, rfl⟩
  rw [hqq] at hN ⊢
  have HN := Lib.hid hN
  clear hN hqq
  cases q
  case false =>
    go_enter Tryd.func15, Tryd.ntmps15
    go_wp2_with fail
    go_at_call 25
    refine (HN.out _).mono ?_
    rintro e w' ⟨rfl, rfl⟩
    go_wp2
    go_ret
    exact Asked.calm' Hq.out ((Below.refl _ _).alloc (Nat.le_refl _) _) (by simp)
  go_enter Tryd.func15, Tryd.ntmps15
  go_wp2_with fail
  go_at_call 25
  refine (HN.out _).mono ?_
  rintro e w' ⟨rfl, rfl⟩
  go_wp2_with fail
  go_at_call 26
  refine (HPP.out _ qs (Hq.out.later ((Below.refl _ _).alloc (Nat.le_refl _) _)) (by have := Hn.out; omega)).mono ?_
  rintro e w2 ⟨r, new, rfl, h1, h2, h3, h4, h5⟩
  have hst : StepQ W0.heap.size qb w w2 := ((StepQ.refl _ _ _).alloc hold _).trans h2
  have hbx : BoxAt w2 w.heap.size #[.int .i64 ty, .int .i64 0, .string text, .string name, .slice A val.length c, .slice A2 ats.length c2, .int .i64 fr, .int .i64 tu] 26 :=
    (BoxAt.new w _ _).step h2 (by omega) (by decide)
  have Hst := Lib.hid hst
  have H1 := Lib.hid h1
  have H4 := Lib.hid h4
  have H5 := Lib.hid h5
  have Hbx := Lib.hid hbx
  have d4 := hbx.cell 4
  have d5 := hbx.cell 5
  have d0 := hbx.cell 0
  simp at d0 d4 d5
  clear hst h1 h2 h4 h5 hbx HN HPP
  cases r
  case false =>
    go_wp2
    go_ret
    exact ⟨false, new, rfl, H1.out, Hst.out, by omega, by rw [H4.out]; simp, H5.out⟩
  go_wp2
  go_loopw [31] (fun t31 wr => ∃ (j : Nat) (qs' : List Qn), t31 = .int .i64 j ∧ j ≤ ats.length ∧ Hid (QsAt W0 qb (qs ++ qs') wr) ∧ Hid (StepQ W0.heap.size qb w wr) ∧
      Hid (BoxAt wr w.heap.size #[.int .i64 ty, .int .i64 0, .string text, .string name, .slice A val.length c, .slice A2 ats.length c2, .int .i64 fr, .int .i64 tu] 26) ∧
      Hid (total qs' ≤ sizeEs val + sizeTs (ats.take j)) ∧ Hid ((patB val 0 && ats.all attrOk) = ((ats.drop j).all attrOk && answers qs')) ∧ Hid (∀ q ∈ qs', D q)) (fun t31 _ => ats.length - (intOf t31).toNat)
  case atStart => exact ⟨0, new, rfl, Nat.zero_le _, H1.out, Hst.out, Hbx.out, by unfold Hid; rw [List.take_zero, sizeTs]; omega, by unfold Hid; rw [H4.out, List.drop_zero]; cases ats.all attrOk <;> simp, H5.out⟩
  case round =>
    obtain ⟨j, qs', rfl, hj, Hqs, Hs, Hb, Htot, Hans, HDq⟩ := hrel
    have hj0 : (j : Int) ≤ 4000000 := by omega
    have hbel := Hqs.out.below
    have hszW := Hqs.out.old
    have hbx2 := Hb.out
    have hlx := hbx2.lt
    clear H1 Hst H4 H5 Hbx d0 d4 d5
    by_cases hlt : j < ats.length
    · obtain ⟨b, o, c', e, hb, hcs⟩ := ats_get HU.out hlt
      cases e
      obtain ⟨t, p, hel⟩ : ∃ t p, ats[j]? = some (.mk t p) := by
        cases e : ats[j] with
        | mk t p => exact ⟨t, p, by rw [List.getElem?_eq_getElem hlt, e]⟩
      obtain ⟨c0, uv, c1, hpat⟩ := hcs j t p hel
      rw [← hbel.cell (p := ⟨b, o + j * 2, none⟩) hb] at c0
      rw [← hbel.cell (p := ⟨b, o + j * 2 + 1, none⟩) hb] at c1
      have hp' := hpat
      obtain ⟨A3, c3, rfl, _, _, _⟩ := hp'
      have hlt' : decide ((j : Int) < (ats.length : Int)) = true := decide_eq_true (by omega)
      have hlt3 : ((j : Nat) : Int) < (ats.length : Int) := by omega
      have hpo := H2.out t p (List.mem_of_getElem? hel)
      have hszt : sizeTs (ats.take (j + 1)) = sizeTs (ats.take j) + (1 + t.size + sizeEs p) := by
        rw [take_snoc ats j _ hel, sizeTs_append, sizeTs, sizeTs, Nat.add_zero]
      have hszl := sizeTs_take ats (j + 1)
      have hqm : total qs + (sizeEs val + sizeTs ats) ≤ 4000000 := Hn.out
      have htot := Htot.out
      have hF : ∀ W, Asks W0 qb D 27 #[.pointer (some ⟨qb, 0, none⟩), .slice A3 p.length c3, .int .i64 0] W (!p.isEmpty && patB p 0) (sizeEs p) := fun W => isFilled_asks hT p hpo.ca hpat 0 (by omega) hpo.dd W
      have HF := Lib.hid hF
      have hN := fun W => isName_any t W (by omega)
      obtain ⟨q, hqq⟩ : ∃ q, isNameV t = q := ⟨_, rfl⟩
      rw [hqq] at hN
      have HN := Lib.hid hN
      have hans := Hans.out
      rw [drop_cons ats j _ hel, List.all_cons, show attrOk (.mk t p) = (isNameV t && (!p.isEmpty && patB p 0)) from rfl, hqq] at hans
      have Hans2 := Lib.hid hans
      have hq2 := Hqs.out.alloc (.cells #[.string t, .slice A3 p.length c3] 40)
      have hs2 := Hs.out.alloc hszW (.cells #[.string t, .slice A3 p.length c3] 40)
      have Hq2 := Lib.hid hq2
      have Hs2 := Lib.hid hs2
      have Hszt := Lib.hid hszt
      clear hF hN hqq hans Hans hq2 hs2 hpo hpat hcs hbel hszt hbx2
      cases q
      case false =>
        go_wp2_with fail
        go_at_call 25
        refine (HN.out _).mono ?_
        rintro e w' ⟨rfl, rfl⟩
        go_wp2
        go_ret
        exact ⟨false, qs', rfl, Hq2.out, Hs2.out, by have := sizeTs_take ats j; omega, by
          have := Hans2.out
          simp only [Bool.false_and] at this
          simp [Bool.and_assoc, this], HDq.out⟩
      go_wp2_with fail
      go_at_call 25
      refine (HN.out _).mono ?_
      rintro e w' ⟨rfl, rfl⟩
      go_wp2_with fail
      go_at_call 27
      refine (HF.out _ (qs ++ qs') Hq2.out (by rw [total_append]; have := Hszt.out; unfold qMax; omega)).mono ?_
      rintro e w5 ⟨r, new2, rfl, h1, h2, h3, h4, h5⟩
      have hs5 : StepQ W0.heap.size qb w w5 := Hs2.out.trans h2
      have hb5 := BoxAt.step (Hb.out.alloc (.cells #[.string t, .slice A3 p.length c3] 40)) h2 (by omega) (by decide)
      have hD5 : ∀ q ∈ qs' ++ new2, D q := fun x hx => by
        rcases List.mem_append.1 hx with h | h
        · exact HDq.out x h
        · exact h5 x h
      have ht5 : total (qs' ++ new2) ≤ sizeEs val + sizeTs (ats.take (j + 1)) := by rw [total_append, Hszt.out]; omega
      have ha5 : (patB val 0 && ats.all attrOk) = (r && (ats.drop (j + 1)).all attrOk && answers (qs' ++ new2)) := by
        rw [Hans2.out, h4, answers_append]
        cases r <;> cases (ats.drop (j + 1)).all attrOk <;> cases answers qs' <;> simp
      rw [List.append_assoc] at h1
      have H1 := Lib.hid h1
      have Hs5 := Lib.hid hs5
      have Hb5 := Lib.hid hb5
      have Hd5 := Lib.hid hD5
      have Ht5 := Lib.hid ht5
      have Ha5 := Lib.hid ha5
      clear h1 h2 h3 h4 h5 hs5 hb5 hD5 ht5 ha5
      cases r
      case false =>
        go_wp2
        go_ret
        exact ⟨false, _, rfl, H1.out, Hs5.out, by have := Ht5.out; omega, by
          have := Ha5.out
          simp only [Bool.false_and] at this
          simp [Bool.and_assoc, this], Hd5.out⟩
      go_wp2
      go_roundw
      case rel => exact ⟨j + 1, qs' ++ new2, by go_num, hlt, H1.out, Hs5.out, Hb5.out, Ht5.out, by unfold Hid; rw [Ha5.out, Bool.true_and], Hd5.out⟩
      case measure => simp [intOf]; omega
    · obtain rfl : j = ats.length := by omega
      have hans := Hans.out
      rw [List.drop_length, List.all_nil, Bool.true_and] at hans
      have htot := Htot.out
      rw [List.take_length] at htot
      have hlt' : decide ((ats.length : Int) < (ats.length : Int)) = false := decide_eq_false (by omega)
      have d4 := hbx2.cell 4
      have d5 := hbx2.cell 5
      have d0 := hbx2.cell 0
      simp at d0 d4 d5
      have Hans2 := Lib.hid hans
      have hve : val.isEmpty = !decide (0 < val.length) := by cases val <;> simp
      have hae : ats.isEmpty = !decide (0 < ats.length) := by cases ats <;> simp
      have Hve := Lib.hid hve
      have Hae := Lib.hid hae
      clear hans Hans hbx2 hbel hve hae
      have fin : ∀ r : Bool, (!val.isEmpty || (ty == 1) && !ats.isEmpty) = r → (0 == 0 && true && true && patB val 0 && ats.all attrOk && (!val.isEmpty || (ty == 1) && !ats.isEmpty)) = (r && answers qs') := by
        intro r hr
        rw [hr, ← Hans2.out]
        cases patB val 0 <;> cases ats.all attrOk <;> cases r <;> rfl
      have Fin := Lib.hid fin
      clear fin
      by_cases h0 : 0 < val.length
      · have hd : decide ((0 : Int) < (val.length : Int)) = true := decide_eq_true (by omega)
        have hd' : decide (0 < val.length) = true := decide_eq_true h0
        have Hd' := Lib.hid hd'
        go_wp2
        go_ret
        exact ⟨true, qs', rfl, Hqs.out, Hs.out, htot, Fin.out true (by rw [Hve.out, Hd'.out]; rfl), HDq.out⟩
      · have hd : decide ((0 : Int) < (val.length : Int)) = false := decide_eq_false (by omega)
        have hd' : decide (0 < val.length) = false := decide_eq_false h0
        have Hd' := Lib.hid hd'
        obtain ⟨z, hz⟩ : ∃ z, (ty == 1) = z := ⟨_, rfl⟩
        have Hz := Lib.hid hz
        cases z
        · go_wp2
          go_ret
          exact ⟨false, qs', rfl, Hqs.out, Hs.out, htot, Fin.out false (by rw [Hve.out, Hd'.out, Hz.out]; rfl), HDq.out⟩
        · by_cases h3 : 0 < ats.length
          · have hd3 : decide ((0 : Int) < (ats.length : Int)) = true := decide_eq_true (by omega)
            have hd3' : decide (0 < ats.length) = true := decide_eq_true h3
            have Hd3 := Lib.hid hd3'
            go_wp2
            go_ret
            exact ⟨true, qs', rfl, Hqs.out, Hs.out, htot, Fin.out true (by rw [Hve.out, Hd'.out, Hz.out, Hae.out, Hd3.out]; rfl), HDq.out⟩
          · have hd3 : decide ((0 : Int) < (ats.length : Int)) = false := decide_eq_false (by omega)
            have hd3' : decide (0 < ats.length) = false := decide_eq_false h3
            have Hd3 := Lib.hid hd3'
            go_wp2
            go_ret
            exact ⟨false, qs', rfl, Hqs.out, Hs.out, htot, Fin.out false (by rw [Hve.out, Hd'.out, Hz.out, Hae.out, Hd3.out]; rfl), HDq.out⟩
end Go.Proofs.YtbolmffldmegeaaDoor
