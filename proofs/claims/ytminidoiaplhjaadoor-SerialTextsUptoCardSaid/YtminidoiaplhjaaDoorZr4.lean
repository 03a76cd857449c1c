/-
  Taken together by bin/slice.py: what small_any,lright_any want (part 4).
-/
import Derived.Test.YtminidoiaplhjaaDoorZr3
namespace Go.Proofs.YtminidoiaplhjaaDoor
open Go.RowKit
set_option linter.unusedVariables false
set_option linter.unusedSimpArgs false

-- from Alx
theorem na_big (c : UInt8) (h : naB c = true) : biB c = upB c := by
  rw [Bool.eq_iff_iff]
  unfold naB leB dgB joB at h
  unfold biB caB dgB joB upB
  simp only [Bool.or_eq_true, decide_eq_true_iff, Bool.not_eq_true', Bool.and_eq_false_iff, decide_eq_false_iff_not] at h ⊢
  omega
theorem big_up (n : ByteArray) (h : lnameB n.data.toList = true) : bigV n = n.data.toList.all upB := by
  rw [bigV_to]
  unfold bigTo
  unfold lnameB at h
  rw [decide_eq_true_iff] at h
  rw [decide_eq_true (show 0 < n.size by rw [← size_data]; exact h.1), Bool.true_and, ← size_data, List.take_length, Bool.eq_iff_iff, all_at, all_at]
  constructor
  · intro g m hm
    rw [← na_big _ (good_na (h.2 m hm))]
    exact g m hm
  · intro g m hm
    rw [na_big _ (good_na (h.2 m hm))]
    exact g m hm
theorem lin_args {W0 : World} (k : Int) (t n a : ByteArray) (al : List AR) (ie : Option EX) (vs : List VA) (d : Nat) (hk : k = 4 ∨ k = 5)
    (hs : (EX.mk k t n a al ie vs).size ≤ 4000000) (hI : ∀ t e, AR.mk t e ∈ al → InTo W0 e d) : InTo W0 (.mk k t n a al ie vs) d := by
  intro w c hex hW
  rw [EX.size] at hs
  rw [ExAt] at hex
  obtain ⟨ck, ct, cn, ca, cal, ci, cvs⟩ := c
  obtain ⟨e1, e2, e3, e4, ⟨A1, c1, e5, hr1⟩, hi, ⟨A2, c2, e7, _⟩⟩ := hex
  simp only at e1 e2 e3 e4 e5 e7 hi
  subst e1 e2 e3 e4 e5 e7
  obtain ⟨p, rfl⟩ : ∃ p, ci = .pointer p := by
    cases ie with
    | none => simp only [OAt] at hi; exact ⟨_, hi⟩
    | some e => simp only [OAt] at hi; obtain ⟨b, o, c, h, _⟩ := hi; exact ⟨_, h⟩
  have hin := isNone_of hi
  have hv : LieAt (AsAt W0 al) (.slice A1 al.length c1) al.length := ⟨A1, c1, rfl, hr1⟩
  show Calls Tryd.prog 34 #[exV k t n a A1 al.length c1 p A2 vs.length c2, .int .i64 d] w _
  rcases hk with rfl | rfl
  · have e : okE .inl (.mk 4 t n a al ie vs) d = (bareF false true false true false false t n a al.length p vs.length && lnameB n.data.toList && (argNames [] al && okAs al d)) := by
      rw [okE, ← nameV_l]; unfold inlP bareF; rw [len0, len0, hin]
      generalize okO Md.brc ie (d + 1) = X
      generalize (argNames [] al && okAs al d) = Y
      simp [Bool.and_comm, Bool.and_assoc, Bool.and_left_comm]
    rw [e]
    exact lin4 t n a al A1 c1 hv p A2 vs.length c2 d w hW (by omega) (by omega) hI
  · have e : okE .inl (.mk 5 t n a al ie vs) d = (bareF false true false true false false t n a al.length p vs.length && lnameB n.data.toList && n.data.toList.all upB && (argNames [] al && okAs al d)) := by
      rw [okE]
      unfold inlP
      rw [nameV_l]
      cases hl : lnameB n.data.toList
      · simp
      rw [← big_up n hl]
      unfold bareF; rw [len0, len0, hin]
      generalize okO Md.brc ie (d + 1) = X
      generalize (argNames [] al && okAs al d) = Y
      simp [Bool.and_comm, Bool.and_assoc, Bool.and_left_comm]
    rw [e]
    exact lin5 t n a al A1 c1 hv p A2 vs.length c2 d w hW (by omega) (by omega) hI
-- from Act0
/-- Count, of one expression. -/
def CntTo (W0 : World) (e : EX) : Prop := ∀ (w : World) (c : C7) (m : Int), ExAt W0 e c → Below W0.heap.size W0 w →
  Calls Tryd.prog 24 #[.agg c.arr, .int .i64 m] w fun r w' => (∃ n : Nat, r = .returned (.int .i64 n) ∧ n ≤ e.size) ∧ Below w.heap.size w w'
-- from Aly
/-- What a Select asks, without its attribute if it is a term. -/
def askedE : EX → EX | .mk k t n a al i vs => if k = 4 then .mk k t n ByteArray.empty al i vs else .mk k t n a al i vs
def askHead : EX → Bool | .mk k t n a al i vs => if k = 4 then isNameV a else decide (k = 0 ∨ k = 1 ∨ k = 2 ∨ k = 5)
theorem ask_eq (e : EX) (d : Nat) : okE .ask e d = (askHead e && okE .inl (askedE e) d) := by
  obtain ⟨k, t, n, a, al, i, vs⟩ := e
  unfold askHead askedE
  dsimp only
  by_cases h4 : k = 4
  · rw [if_pos h4, if_pos h4, okE, okE]
    simp only [if_pos h4]
  · rw [if_neg h4, if_neg h4, okE, okE]
    simp only [if_neg h4]
    by_cases h : k = 0 ∨ k = 1 ∨ k = 2 ∨ k = 5
    · rw [if_pos h, decide_eq_true h, Bool.true_and]
    · rw [if_neg h, decide_eq_false h, Bool.false_and]
theorem asked_size (e : EX) : (askedE e).size ≤ e.size := by
  obtain ⟨k, t, n, a, al, i, vs⟩ := e
  unfold askedE
  dsimp only
  split
  · rw [EX.size, EX.size]; show 1 + t.size + n.size + 0 + _ + _ + _ ≤ _; omega
  · exact Nat.le_refl _
theorem sel_eq (t n a : ByteArray) (al : List AR) (ie : Option EX) (p : Option Addr) (vs : List VA) (d : Nat) (hd : d ≤ 20) :
    okE .brc (.mk 7 t n a al ie vs) d = (bareF false false false false true true t n a al.length p vs.length && (vs.all (varOk d) && (vs.countP vaDflt == 1) && okO .ask ie d)) := by
  rw [okE, ← vars_all]
  simp only [decide_eq_true hd, if_true]
  unfold bareF varsL
  rw [len0]
  generalize okO Md.ask ie d = X
  generalize okVs vs d = Y
  generalize (vs.all fun v => (isNameV (vaKey v) || isNum (vaKey v)) && !(vaVal v).isEmpty && patL (vaVal v)) = Z
  generalize (vs.countP vaDflt == 1) = V
  cases emp t <;> cases emp n <;> cases emp a <;> cases al.isEmpty <;> cases X <;> cases Y <;> cases Z <;> cases V <;> rfl
set_option maxHeartbeats 8000000 in
set_option maxRecDepth 1000000 in
theorem lsel {W0 : World} (hT : TabU W0) (t n a : ByteArray) (al : List AR) (ie : Option EX) (vs : List VA) (d : Nat) (hd : d ≤ 20) (hs : (EX.mk 7 t n a al ie vs).size ≤ 4000000)
    (hP : ∀ k b l, VA.mk k b l ∈ vs → ∀ t e, EL.mk t (some e) ∈ l → PlaceTo W0 e (d + 1)) (hI : ∀ e, ie = some e → InTo W0 (askedE e) d) : PlaceTo W0 (.mk 7 t n a al ie vs) d := by
  intro w c hex hW
  rw [EX.size] at hs
  rw [ExAt] at hex
  obtain ⟨ck, ct, cn, ca, cal, ci, cvs⟩ := c
  obtain ⟨e1, e2, e3, e4, ⟨A1, c1, e5, _⟩, hi, hvv⟩ := hex
  simp only at e1 e2 e3 e4 e5 hi hvv
  subst e1 e2 e3 e4 e5
  have hvv' := hvv
  obtain ⟨A2, c2, rfl, _⟩ := hvv'
  obtain ⟨ip, rfl⟩ : ∃ p, ci = .pointer p := by
    cases ie with
    | none => simp only [OAt] at hi; exact ⟨_, hi⟩
    | some e => simp only [OAt] at hi; obtain ⟨b, o, c, h, _⟩ := hi; exact ⟨_, h⟩
  rw [sel_eq t n a al ie ip vs d hd]
  have HBa := Lib.hid (fun W => lbare_000011 7 t n a A1 al.length c1 ip A2 vs.length c2 W)
  obtain ⟨bb, hbb⟩ : ∃ b, bareF false false false false true true t n a al.length ip vs.length = b := ⟨_, rfl⟩
  rw [hbb] at HBa ⊢
  obtain ⟨z, hz⟩ : ∃ z, (vs.all (varOk d) && (vs.countP vaDflt == 1) && okO .ask ie d) = z := ⟨_, rfl⟩
  rw [hz]
  have HZ := Lib.hid hz
  clear hz
  unfold exV at HBa
  unfold C7.arr
  have hvl : (vs.length : Int) ≤ 4000000 := by have := sizeVs_length vs; omega
  have h1 : decide ((20 : Int) < (d : Int)) = false := decide_eq_false (by omega)
  have h2 : ¬ (20 : Int) < (d : Int) := by omega
  have HV := Lib.hid hvv
  have HO := Lib.hid hi
  have HP := Lib.hid hP
  have HI := Lib.hid hI
  have HW := Lib.hid hW
  have hWs := hW.size
  have HT := Lib.hid hT
  have Hs := Lib.hid hs
  have Hd := Lib.hid hd
  have hd0 : (d : Int) ≤ 4000000 := by omega
  clear hvv hi hP hI hW hT hs hbb hd
  go_enter Tryd.func28, Tryd.ntmps28
  go_wp2_with fail
  go_at_call 35
  refine (HBa.out _).mono ?_
  rintro e1 w1 ⟨rfl, hb1⟩
  have hE := (BoxAt.new w #[.int .i64 7, .string t, .string n, .string a, .slice A1 al.length c1, .pointer ip, .slice A2 vs.length c2] 37).later hb1
  have hbr : Below w.heap.size w w1 := ((Below.refl w.heap.size w).alloc (Nat.le_refl _) _).trans (hb1.mono (by simp))
  have d5 : w1.cell? ⟨w.heap.size, 5, none⟩ = some (.pointer ip) := hE.cell 5
  have HE := Lib.hid hE
  have HBr := Lib.hid hbr
  clear hE hb1 hbr
  cases bb
  case false =>
    go_wp2
    go_ret
    exact ⟨ret_bool (by simp), HBr.out⟩
  cases ie with
  | none =>
    have h := HO.out
    simp only [OAt] at h
    cases h
    go_wp2
    go_ret
    exact ⟨ret_bool (by rw [← HZ.out]; simp [okO]), HBr.out⟩
  | some e =>
    have h := HO.out
    simp only [OAt] at h
    obtain ⟨b', o', c7, e2, hb', hca, hex⟩ := h
    cases e2
    have hbel : Below W0.heap.size W0 w1 := HW.out.trans (HBr.out.mono hWs)
    have hz := HZ.out
    rw [show okO .ask (some e) d = okE .ask e d by simp only [okO], ask_eq] at hz
    have hIn := HI.out e rfl
    have hsz : e.size ≤ 4000000 := by have := Hs.out; rw [sizeO] at this; omega
    obtain ⟨k2, t2, n2, a2, al2, i2, vs2⟩ := e
    have hex0 := hex
    rw [ExAt] at hex
    obtain ⟨ck, ct, cn, ca, cal, ci, cvs⟩ := c7
    obtain ⟨e1, e2, e3, e4, hr1, hr2, hr3⟩ := hex
    have hr1' := hr1
    have hr3' := hr3
    obtain ⟨B1, q1, e5, _⟩ := hr1'
    obtain ⟨B2, q2, e7, _⟩ := hr3'
    obtain ⟨p2, e8⟩ : ∃ p, ci = .pointer p := by
      cases i2 with
      | none => simp only [OAt] at hr2; exact ⟨_, hr2⟩
      | some e => simp only [OAt] at hr2; obtain ⟨b, o, c, h, _⟩ := hr2; exact ⟨_, h⟩
    simp only at e1 e2 e3 e4 e5 e7 hr1 hr2 hr3
    subst e1 e2 e3 e4 e5 e8 e7
    have ha2 : a2.size ≤ 4000000 := by rw [EX.size] at hsz; omega
    -- Inline of what is asked, whatever its attribute was
    have hIn2 : ∀ a3 W, askedE (.mk k2 t2 n2 a2 al2 i2 vs2) = .mk k2 t2 n2 a3 al2 i2 vs2 → Below W0.heap.size W0 W → Calls Tryd.prog 34 #[.agg #[.int .i64 k2, .string t2, .string n2, .string a3, .slice B1 al2.length q1, .pointer p2, .slice B2 vs2.length q2], .int .i64 d] W fun r w' => r = .returned (.bool (okE .inl (askedE (.mk k2 t2 n2 a2 al2 i2 vs2)) d)) ∧ Below W.heap.size W w' := by
      intro a3 W he hbW
      have h := hIn W ⟨.int .i64 k2, .string t2, .string n2, .string a3, .slice B1 al2.length q1, .pointer p2, .slice B2 vs2.length q2⟩ (by rw [he, ExAt]; exact ⟨rfl, rfl, rfl, rfl, hr1, hr2, hr3⟩) hbW
      exact h
    obtain ⟨k0, k1, k2', k3, k4, k5, k6⟩ := hca.under hb' hbel
    have hbw' : b' < w1.heap.size := by have := hbel.size; omega
    have hNm := fun W => lname_any a2 W ha2
    obtain ⟨q, hq⟩ : ∃ q, isNameV a2 = q := ⟨_, rfl⟩
    rw [← nameV_l, hq] at hNm
    have HNm := Lib.hid hNm
    obtain ⟨Y, hY⟩ : ∃ Y, okE .inl (askedE (.mk k2 t2 n2 a2 al2 i2 vs2)) d = Y := ⟨_, rfl⟩
    rw [hY] at hIn2 hz
    have HIn := Lib.hid hIn2
    obtain ⟨X, hX⟩ : ∃ X, askHead (.mk k2 t2 n2 a2 al2 i2 vs2) = X := ⟨_, rfl⟩
    rw [hX] at hz
    have HZ2 := Lib.hid hz
    unfold askHead at hX
    dsimp only at hX
    rw [hq] at hX
    have HX := Lib.hid hX
    have Hbel := Lib.hid hbel
    have hw1 := HBr.out.size
    clear hIn2 hIn hNm hq hY hX hex0 hca hr1 hr2 hr3 hbel hz HZ
    go_upto_block 0 with fail
    go_cut [] (fun wx => ∃ a3, Hid (askedE (.mk k2 t2 n2 a2 al2 i2 vs2) = .mk k2 t2 n2 a3 al2 i2 vs2) ∧ Hid (X = true) ∧ Hid (Below w.heap.size w wx) ∧
      Hid (BoxAt wx w1.heap.size #[.int .i64 k2, .string t2, .string n2, .string a3, .slice B1 al2.length q1, .pointer p2, .slice B2 vs2.length q2] 37) ∧
      Hid (BoxAt wx w.heap.size #[.int .i64 7, .string t, .string n, .string a, .slice A1 al.length c1, .pointer (some ⟨b', o', none⟩), .slice A2 vs.length c2] 37))
    case first =>
      have hbx := HBr.out.alloc hw1 (.cells #[.int .i64 k2, .string t2, .string n2, .string a2, .slice B1 al2.length q1, .pointer p2, .slice B2 vs2.length q2] 37)
      have hnb := BoxAt.new w1 #[.int .i64 k2, .string t2, .string n2, .string a2, .slice B1 al2.length q1, .pointer p2, .slice B2 vs2.length q2] 37
      have hew := HE.out.alloc (.cells #[.int .i64 k2, .string t2, .string n2, .string a2, .slice B1 al2.length q1, .pointer p2, .slice B2 vs2.length q2] 37)
      have Hbx := Lib.hid hbx
      have Hnb := Lib.hid hnb
      have Hew := Lib.hid hew
      clear hbx hnb hew
      by_cases h4 : k2 = 4
      · subst h4
        have hx := HX.out
        rw [if_pos rfl] at hx
        subst hx
        cases q
        case false =>
          go_wp2_with fail
          go_at_call 17
          refine (HNm.out _).mono ?_
          rintro e2 w2 ⟨rfl, rfl⟩
          go_wp2
          go_ret
          exact ⟨ret_bool (by rw [← HZ2.out]; simp), Hbx.out⟩
        go_wp2_with fail
        go_at_call 17
        refine (HNm.out _).mono ?_
        rintro e2 w2 ⟨rfl, rfl⟩
        go_wp2_with fail
        go_meet
        exact ⟨ByteArray.empty, by unfold Hid askedE; dsimp only; rw [if_pos rfl], by unfold Hid; trivial, HBr.out.alloc hw1 _, BoxAt.new _ _ _, HE.out.alloc _⟩
      · have hx := HX.out
        rw [if_neg h4] at hx
        by_cases h : k2 = 0 ∨ k2 = 1 ∨ k2 = 2 ∨ k2 = 5
        · have hae : askedE (.mk k2 t2 n2 a2 al2 i2 vs2) = .mk k2 t2 n2 a2 al2 i2 vs2 := by unfold askedE; dsimp only; rw [if_neg h4]
          have hx1 : X = true := by rw [← hx, decide_eq_true h]
          have Hae := Lib.hid hae
          have Hx1 := Lib.hid hx1
          clear hx h4 hae hx1
          rcases h with rfl | rfl | rfl | rfl
          all_goals
            go_wp2_with fail
            go_meet
            exact ⟨a2, Hae.out, Hx1.out, Hbx.out, Hnb.out, Hew.out⟩
        · have hx0 : X = false := by rw [← hx, decide_eq_false h]
          have z0 : (k2 == 0) = false := beq_eq_false_iff_ne.2 (by omega)
          have z1 : (k2 == 1) = false := beq_eq_false_iff_ne.2 (by omega)
          have z2 : (k2 == 2) = false := beq_eq_false_iff_ne.2 (by omega)
          have z4 : (k2 == 4) = false := beq_eq_false_iff_ne.2 (by omega)
          have z5 : (k2 == 5) = false := beq_eq_false_iff_ne.2 (by omega)
          have Hx0 := Lib.hid hx0
          clear h h4 hx hx0
          go_wp2_with fail
          go_ret
          exact ⟨ret_bool (by rw [← HZ2.out, Hx0.out]; simp), Hbx.out⟩
    case rest =>
      obtain ⟨a3, Hae, HXt, HB0, HS0, HE0⟩ := hcut
      have hxt := HXt.out
      subst hxt
      have x6 := HE0.out.cell 6
      have hwl := HE0.out.lt
      have hsl := HS0.out.lt
      simp at x6
      have hz := HZ2.out
      rw [Bool.true_and] at hz
      have HZ3 := Lib.hid hz
      clear hz HZ2 HX HNm HBa d5 k0 k1 k2' k3 k4 k5 k6 HXt HO
      go_wp2
      go_loopw [6, 46] (fun s6 t46 wr => ∃ j : Nat, t46 = .int .i64 j ∧ s6 = .int .i64 ((vs.take j).countP vaDflt : Nat) ∧ j ≤ vs.length ∧ Hid (((vs.drop j).all (varOk d) && (vs.countP vaDflt == 1) && Y) = z) ∧ Hid (Below w.heap.size w wr) ∧
        Hid (BoxAt wr w1.heap.size #[.int .i64 k2, .string t2, .string n2, .string a3, .slice B1 al2.length q1, .pointer p2, .slice B2 vs2.length q2] 37)) (fun _ t46 _ => vs.length - (intOf t46).toNat)
      case atStart => exact ⟨0, rfl, rfl, Nat.zero_le _, by unfold Hid; rw [List.drop_zero]; exact HZ3.out, HB0.out, HS0.out⟩
      case round =>
        obtain ⟨j, rfl, rfl, hj, Hans, HB, HS⟩ := hrel
        have hj0 : (j : Int) ≤ 4000000 := by omega
        have hbel : Below W0.heap.size W0 wr := HW.out.trans (HB.out.mono hWs)
        have hbs := hbel.size
        have hbw0 := HB.out.size
        have hsl2 := HS.out.lt
        have hcnt : (vs.take j).countP vaDflt ≤ j := Nat.le_trans List.countP_le_length (List.length_take_le _ _)
        by_cases hlt : j < vs.length
        · obtain ⟨b, o, c', e, hb, hcs⟩ := vars_get HV.out hlt
          cases e
          obtain ⟨key, df, p, hel⟩ : ∃ t d p, vs[j]? = some (.mk t d p) := by
            cases e : vs[j] with
            | mk t d p => exact ⟨t, d, p, by rw [List.getElem?_eq_getElem hlt, e]⟩
          obtain ⟨c0, cd, uv, cu, hpat⟩ := hcs j key df p hel
          rw [← hbel.cell (p := ⟨b, o + j * 3, none⟩) hb] at c0
          rw [← hbel.cell (p := ⟨b, o + j * 3 + 1, none⟩) hb] at cd
          rw [← hbel.cell (p := ⟨b, o + j * 3 + 2, none⟩) hb] at cu
          have hp' := hpat
          obtain ⟨A3, c3, rfl, _, _, _⟩ := hp'
          have hbw : b < wr.heap.size := by omega
          have hlt' : decide ((j : Int) < (vs.length : Int)) = true := decide_eq_true (by omega)
          have hlt3 : ((j : Nat) : Int) < (vs.length : Int) := by omega
          have hszt : sizeVs (vs.take (j + 1)) = sizeVs (vs.take j) + (1 + key.size + sizeEs p) := by
            rw [take_snoc vs j _ hel, sizeVs_append, sizeVs, sizeVs, Nat.add_zero]
          have hszl := sizeVs_take vs (j + 1)
          have hks : key.size ≤ 4000000 := by have := Hs.out; omega
          have hps : sizeEs p ≤ 4000000 := by have := Hs.out; omega
          have hpl : (p.length : Int) ≤ 4000000 := by have := sizeEs_length p; omega
          have hL := fun W h => lpat_any HT.out p hpat d (by have := Hd.out; omega) hps (HP.out key df p (List.mem_of_getElem? hel)) W h
          obtain ⟨r, hr⟩ : ∃ r, patB p d = r := ⟨_, rfl⟩
          rw [hr] at hL
          have HL := Lib.hid hL
          have hcnt2 : (vs.take (j + 1)).countP vaDflt = (vs.take j).countP vaDflt + (if df then 1 else 0) := by
            rw [take_snoc vs j _ hel, List.countP_append]
            cases df <;> simp [vaDflt]
          have Hcnt2 := Lib.hid hcnt2
          have hans := Hans.out
          rw [drop_cons vs j _ hel, List.all_cons] at hans
          obtain ⟨vk, hvk⟩ : ∃ v, varOk d (.mk key df p) = v := ⟨_, rfl⟩
          rw [hvk] at hans
          have hvk2 : ((isNameV key || isNum key) && (!p.isEmpty && patB p d)) = vk := hvk
          have hN := fun W => lname_any key W hks
          have hM := fun W => lnumber_any key W hks
          rw [hr, nameV_l, isNum_l] at hvk2
          obtain ⟨g, hg⟩ : ∃ g, lnameB key.data.toList = g := ⟨_, rfl⟩
          obtain ⟨m, hm⟩ : ∃ m, lnumB key.data.toList = m := ⟨_, rfl⟩
          rw [hg] at hN hvk2
          rw [hm] at hM hvk2
          have HN := Lib.hid hN
          have HM := Lib.hid hM
          have Hans2 := Lib.hid hans
          have Hvk := Lib.hid hvk2
          have Hbel := Lib.hid hbel
          obtain ⟨cn, hcn⟩ : ∃ cn, (vs.take j).countP vaDflt = cn := ⟨_, rfl⟩
          have Hcn := Lib.hid hcn
          rw [hcn] at hcnt ⊢
          have hcz : (cn : Int) ≤ 4000000 := by omega
          clear hL hr hcnt2 hans hvk hvk2 hN hM hg hm hbel hcn hcs hel hpat hszt hszl Hans
          go_upto_region 22 with fail
          go_cut [72] (fun v wx => v = .bool (!vk) ∧ Hid (Below (wr.heap.size + 1) (wr.alloc (.cells #[.string key, .bool df, .slice A3 p.length c3] 73)) wx))
          case first =>
            by_cases h0 : p.length = 0
            · have hz0 : ((p.length : Int) == 0) = true := beq_iff_eq.2 (by omega)
              have hpe : p.isEmpty = true := by rw [← len0]; exact decide_eq_true h0
              have hv := Hvk.out
              rw [hpe] at hv
              have hv0 : vk = false := by rw [← hv]; simp
              subst hv0
              clear hv hpe h0
              cases g
              case true =>
                go_wp2_with fail
                go_at_call 17
                refine (HN.out _).mono ?_
                rintro e2 w2 ⟨rfl, rfl⟩
                go_wp2_with fail
                go_meet
                exact ⟨rfl, Below.refl _ _⟩
              cases m
              all_goals
                go_wp2_with fail
                go_at_call 17
                refine (HN.out _).mono ?_
                rintro e2 w2 ⟨rfl, rfl⟩
                go_wp2_with fail
                go_at_call 36
                refine (HM.out _).mono ?_
                rintro e2 w2 ⟨rfl, rfl⟩
                go_wp2_with fail
                go_meet
                exact ⟨rfl, Below.refl _ _⟩
            · have hz0 : ((p.length : Int) == 0) = false := beq_eq_false_iff_ne.2 (by omega)
              have hpe : p.isEmpty = false := by rw [← len0]; exact decide_eq_false h0
              have hv := Hvk.out
              rw [hpe] at hv
              have Hv := Lib.hid hv
              clear hv hpe
              cases g
              case true =>
                go_wp2_with fail
                go_at_call 17
                refine (HN.out _).mono ?_
                rintro e2 w2 ⟨rfl, rfl⟩
                go_wp2_with fail
                go_at_call 18
                refine (HL.out _ (Hbel.out.alloc hbs _)).mono ?_
                rintro e3 w3 ⟨rfl, hb3⟩
                have Hb3 := Lib.hid hb3
                clear hb3
                go_wp2_with fail
                go_meet
                exact ⟨by rw [← Hv.out]; simp, by unfold Hid; simpa using Hb3.out⟩
              cases m
              case false =>
                go_wp2_with fail
                go_at_call 17
                refine (HN.out _).mono ?_
                rintro e2 w2 ⟨rfl, rfl⟩
                go_wp2_with fail
                go_at_call 36
                refine (HM.out _).mono ?_
                rintro e2 w2 ⟨rfl, rfl⟩
                go_wp2_with fail
                go_meet
                exact ⟨by rw [← Hv.out]; rfl, Below.refl _ _⟩
              go_wp2_with fail
              go_at_call 17
              refine (HN.out _).mono ?_
              rintro e2 w2 ⟨rfl, rfl⟩
              go_wp2_with fail
              go_at_call 36
              refine (HM.out _).mono ?_
              rintro e2 w2 ⟨rfl, rfl⟩
              go_wp2_with fail
              go_at_call 18
              refine (HL.out _ (Hbel.out.alloc hbs _)).mono ?_
              rintro e3 w3 ⟨rfl, hb3⟩
              have Hb3 := Lib.hid hb3
              clear hb3
              go_wp2_with fail
              go_meet
              exact ⟨by rw [← Hv.out]; simp, by unfold Hid; simpa using Hb3.out⟩
          case rest =>
            obtain ⟨rfl, Hc⟩ := hcut
            have hcb : Below (wr.alloc (.cells #[.string key, .bool df, .slice A3 p.length c3] 73)).heap.size (wr.alloc (.cells #[.string key, .bool df, .slice A3 p.length c3] 73)) wc := by simpa using Hc.out
            have hvx := (BoxAt.new wr #[.string key, .bool df, .slice A3 p.length c3] 73).later hcb
            have hr3 : Below wr.heap.size wr wc := ((Below.refl wr.heap.size wr).alloc (Nat.le_refl _) _).trans (hcb.mono (by simp))
            have HBB := Lib.hid (HB.out.trans (hr3.mono hbw0))
            have HSS := Lib.hid (HS.out.later hr3)
            have v1 := hvx.cell 1
            simp at v1
            have hvl2 := hvx.lt
            clear hcb hvx hr3 Hc Hvk HN HM HL
            cases vk
            case false =>
              go_wp2
              go_ret
              exact ⟨ret_bool (by rw [← Hans2.out]; simp), HBB.out⟩
            have hans := Hans2.out
            rw [Bool.true_and] at hans
            have Hans3 := Lib.hid hans
            clear hans Hans2
            cases df
            case false =>
              go_wp2
              go_roundw
              case rel => exact ⟨j + 1, by go_num, by rw [Hcnt2.out, Hcn.out]; simp, hlt, Hans3.out, HBB.out, HSS.out⟩
              case measure => simp [intOf]; omega
            case true =>
              go_wp2
              go_roundw
              case rel => exact ⟨j + 1, by go_num, by rw [Hcnt2.out, Hcn.out]; simp, hlt, Hans3.out, HBB.out, HSS.out⟩
              case measure => simp [intOf]; omega
        · obtain rfl : j = vs.length := by omega
          have hlt' : decide ((vs.length : Int) < (vs.length : Int)) = false := decide_eq_false (by omega)
          have hans := Hans.out
          rw [List.drop_length, List.all_nil, Bool.true_and] at hans
          rw [List.take_length] at hcnt ⊢
          obtain ⟨cn, hcn⟩ : ∃ cn, vs.countP vaDflt = cn := ⟨_, rfl⟩
          rw [hcn] at hans hcnt ⊢
          have y0 := HS.out.cell 0
          have y1 := HS.out.cell 1
          have y2 := HS.out.cell 2
          have y3 := HS.out.cell 3
          have y4 := HS.out.cell 4
          have y5 := HS.out.cell 5
          have y6 := HS.out.cell 6
          simp at y0 y1 y2 y3 y4 y5 y6
          have Hbel := Lib.hid hbel
          clear hcn hbel Hans
          by_cases h1 : cn = 1
          · subst h1
            have Hans2 := Lib.hid hans
            have h11 : (((1 : Nat) : Int) == 1) = true := rfl
            clear hans
            go_wp2_with fail
            go_at_call 34
            refine (HIn.out a3 _ Hae.out Hbel.out).mono ?_
            rintro e3 w3 ⟨rfl, hb3⟩
            have HBB := Lib.hid (HB.out.trans (hb3.mono hbw0))
            clear hb3
            go_wp2
            go_ret
            exact ⟨ret_bool (by rw [← Hans2.out]; simp), HBB.out⟩
          · have h11 : ((cn : Int) == 1) = false := beq_eq_false_iff_ne.2 (by omega)
            have h12 : (cn == 1) = false := beq_eq_false_iff_ne.2 h1
            rw [h12] at hans
            have Hans2 := Lib.hid hans
            clear hans h12 h1
            go_wp2
            go_ret
            exact ⟨ret_bool (by rw [← Hans2.out]; simp), HB.out⟩
-- from Act
set_option maxHeartbeats 4000000 in
set_option maxRecDepth 1000000 in
theorem cntIn_any {W0 : World} (l : List EL) {v : Value} (hv : PatAt W0 l v) (hsz : sizeEs l ≤ 4000000) (hP : ∀ t e, EL.mk t (some e) ∈ l → CntTo W0 e) (m : Int) (w : World) (hW : Below W0.heap.size W0 w) :
    Calls Tryd.prog 15 #[v, .int .i64 m] w fun e w' => (∃ n : Nat, e = .returned (.int .i64 n) ∧ n ≤ sizeEs l) ∧ Below w.heap.size w w' := by
  have hv' := hv
  obtain ⟨A, c, rfl, hc1, hc2, _⟩ := hv'
  have HV := Lib.hid hv
  have hlen : (l.length : Int) ≤ 4000000 := by have := sizeEs_length l; omega
  have HP := Lib.hid hP
  have HW := Lib.hid hW
  have hWs := hW.size
  have Hsz := Lib.hid hsz
  clear hv hP hW hsz
  go_enter Tryd.func15, Tryd.ntmps15
  go_wp2
  go_loopw [5, 10] (fun s5 t10 wr => ∃ (i n : Nat), t10 = .int .i64 i ∧ s5 = .int .i64 n ∧ i ≤ l.length ∧ Hid (n ≤ sizeEs (l.take i)) ∧ Hid (Below w.heap.size w wr)) (fun _ t10 _ => l.length - (intOf t10).toNat)
  case atStart => exact ⟨0, 0, rfl, rfl, Nat.zero_le _, Nat.zero_le _, Below.refl _ _⟩
  case round =>
    obtain ⟨i, n, rfl, rfl, hi, Hn, HB⟩ := hrel
    have hi0 : (i : Int) ≤ 4000000 := by omega
    have hn0 : (n : Int) ≤ 4000000 := by have := Hn.out; have := sizeEs_take l i; have := Hsz.out; omega
    have hbw0 := HB.out.size
    have hbel : Below W0.heap.size W0 wr := HW.out.trans (HB.out.mono hWs)
    have hbs := hbel.size
    have Hbel := Lib.hid hbel
    by_cases hlt : i < l.length
    · obtain ⟨b, o, c', e, hb, hcs⟩ := pat_get HV.out hlt
      cases e
      obtain ⟨t, p, hel⟩ : ∃ t p, l[i]? = some (.mk t p) := by
        cases e : l[i] with
        | mk t p => exact ⟨t, p, by rw [List.getElem?_eq_getElem hlt, e]⟩
      obtain ⟨c0, u, c1, hu⟩ := hcs i t p hel
      rw [← hbel.cell (p := ⟨b, o + i * 2, none⟩) hb] at c0
      rw [← hbel.cell (p := ⟨b, o + i * 2 + 1, none⟩) hb] at c1
      have hbw : b < wr.heap.size := by omega
      have hbw1 : b < wr.heap.size + 1 := by omega
      have hlt' : decide ((i : Int) < (l.length : Int)) = true := decide_eq_true (by omega)
      have hlt3 : ((i : Nat) : Int) < (l.length : Int) := by omega
      have hszt : sizeEs (l.take (i + 1)) = sizeEs (l.take i) + (1 + t.size + sizeO p) := by
        rw [take_snoc l i _ hel, sizeEs_append, sizeEs, sizeEs, Nat.add_zero]
      have hszl := sizeEs_take l (i + 1)
      have Hel := Lib.hid hel
      have Hszt := Lib.hid hszt
      have Hszl := Lib.hid hszl
      clear hel hszt hszl hbel hcs
      cases p with
      | none =>
        simp only [OAt] at hu
        subst hu
        have hns : n + 1 ≤ sizeEs (l.take (i + 1)) := by have := Hn.out; have := Hszt.out; omega
        have Hns := Lib.hid hns
        have hnl : n + 1 ≤ sizeEs l := by have := Hszl.out; omega
        have Hnl := Lib.hid hnl
        clear hns hnl
        by_cases hm : m ≤ (n : Int) + 1
        · have hm' : decide (m ≤ (n : Int) + 1) = true := decide_eq_true hm
          go_wp2
          go_ret
          exact ⟨⟨n + 1, by go_num, Hnl.out⟩, HB.out.alloc hbw0 _⟩
        · have hm' : decide (m ≤ (n : Int) + 1) = false := decide_eq_false hm
          go_wp2
          go_roundw
          case rel => exact ⟨i + 1, n + 1, by go_num, by go_num, hlt, Hns.out, HB.out.alloc hbw0 _⟩
          case measure => simp [intOf]; omega
      | some e =>
        simp only [OAt] at hu
        obtain ⟨b', o', c7, rfl, hb', hca, hex⟩ := hu
        obtain ⟨k0, k1, k2, k3, k4, k5, k6⟩ := hca.under hb' Hbel.out
        have hbw' : b' < wr.heap.size := by omega
        have hC := fun W m h => HP.out t e (List.mem_of_getElem? Hel.out) W c7 m hex h
        have HC := Lib.hid hC
        have hes : sizeO (some e) = e.size := by rw [sizeO]
        rw [hes] at Hszt
        clear hC hex hca hes
        unfold C7.arr at HC
        by_cases h1 : (n : Int) + 1 < m
        · have h1' : decide ((n : Int) + 1 < m) = true := decide_eq_true h1
          go_wp2_with fail
          go_at_call 24
          refine (HC.out _ _ ((Hbel.out.alloc hbs _))).mono ?_
          rintro e3 w3 ⟨⟨k, rfl, hk⟩, hb3⟩
          have hbb := (HB.out.alloc hbw0 _).trans (hb3.mono (by simp; omega))
          have HBB := Lib.hid hbb
          have hns : n + 1 + k ≤ sizeEs (l.take (i + 1)) := by have := Hn.out; have := Hszt.out; omega
          have Hns := Lib.hid hns
          have hnl : n + 1 + k ≤ sizeEs l := by have := Hszl.out; omega
          have hk0 : (k : Int) ≤ 4000000 := by have := Hsz.out; omega
          have Hnl := Lib.hid hnl
          clear hb3 hbb hns hnl hk
          by_cases hm : m ≤ (n : Int) + 1 + (k : Int)
          · have hm' : decide (m ≤ (n : Int) + 1 + (k : Int)) = true := decide_eq_true hm
            go_wp2
            go_ret
            exact ⟨⟨n + 1 + k, by go_num, Hnl.out⟩, HBB.out⟩
          · have hm' : decide (m ≤ (n : Int) + 1 + (k : Int)) = false := decide_eq_false hm
            go_wp2
            go_roundw
            case rel => exact ⟨i + 1, n + 1 + k, by go_num, by go_num, hlt, Hns.out, HBB.out⟩
            case measure => simp [intOf]; omega
        · have h1' : decide ((n : Int) + 1 < m) = false := decide_eq_false h1
          have hm : m ≤ (n : Int) + 1 := by omega
          have hm' : decide (m ≤ (n : Int) + 1) = true := decide_eq_true hm
          have hnl : n + 1 ≤ sizeEs l := by have := Hszl.out; have := Hszt.out; have := Hn.out; omega
          have Hnl := Lib.hid hnl
          clear hnl
          go_wp2
          go_ret
          exact ⟨⟨n + 1, by go_num, Hnl.out⟩, HB.out.alloc hbw0 _⟩
    · obtain rfl : i = l.length := by omega
      have hlt' : decide ((l.length : Int) < (l.length : Int)) = false := decide_eq_false (by omega)
      have hn := Hn.out
      rw [List.take_length] at hn
      have Hn2 := Lib.hid hn
      clear hn
      go_wp2
      go_ret
      exact ⟨⟨n, rfl, Hn2.out⟩, HB.out⟩
set_option maxHeartbeats 8000000 in
set_option maxRecDepth 1000000 in
theorem cnt_any {W0 : World} (k : Int) (t n a : ByteArray) (al : List AR) (ie : Option EX) (vs : List VA) (hs : (EX.mk k t n a al ie vs).size ≤ 4000000)
    (hA : ∀ t x, AR.mk t x ∈ al → CntTo W0 x) (hI : ∀ x, ie = some x → CntTo W0 x) (hV : ∀ k d l, VA.mk k d l ∈ vs → ∀ t x, EL.mk t (some x) ∈ l → CntTo W0 x) : CntTo W0 (.mk k t n a al ie vs) := by
  intro w c m hex hW
  rw [EX.size] at hs
  rw [EX.size]
  rw [ExAt] at hex
  obtain ⟨ck, ct, cn, ca, cal, ci, cvs⟩ := c
  obtain ⟨e1, e2, e3, e4, hv, hi, hvv⟩ := hex
  simp only at e1 e2 e3 e4 hv hi hvv
  subst e1 e2 e3 e4
  have hv' := hv
  obtain ⟨A1, c1, rfl, _⟩ := hv'
  have hvv' := hvv
  obtain ⟨A2, c2, rfl, _⟩ := hvv'
  obtain ⟨ip, rfl⟩ : ∃ p, ci = .pointer p := by
    cases ie with
    | none => simp only [OAt] at hi; exact ⟨_, hi⟩
    | some e => simp only [OAt] at hi; obtain ⟨b, o, c, h, _⟩ := hi; exact ⟨_, h⟩
  unfold C7.arr
  have hall : (al.length : Int) ≤ 4000000 := by have := sizeAs_length al; omega
  have hvl : (vs.length : Int) ≤ 4000000 := by have := sizeVs_length vs; omega
  have HV := Lib.hid hv
  have HVV := Lib.hid hvv
  have HO := Lib.hid hi
  have HA := Lib.hid hA
  have HI := Lib.hid hI
  have HVa := Lib.hid hV
  have HW := Lib.hid hW
  have hWs := hW.size
  have Hs := Lib.hid hs
  clear hv hvv hi hA hI hV hW hs
  go_enter Tryd.func24, Tryd.ntmps24
  go_upto_region 2 with fail
  go_cut [17] (fun v wx => v = .bool (ip.isSome && decide (1 < m)) ∧ wx = w.alloc (.cells #[.int .i64 k, .string t, .string n, .string a, .slice A1 al.length c1, .pointer ip, .slice A2 vs.length c2] 37))
  case first =>
    cases ip with
    | none =>
      go_wp2_with fail
      go_meet
      exact ⟨rfl, rfl⟩
    | some q =>
      cases h1 : decide (1 < m)
      all_goals
        go_wp2_with fail
        go_meet
        exact ⟨by rw [h1]; rfl, rfl⟩
  obtain ⟨rfl, rfl⟩ := hcut
  obtain ⟨bq, hbq⟩ : ∃ b, (ip.isSome && decide (1 < m)) = b := ⟨_, rfl⟩
  rw [hbq]
  go_upto_if 17 with fail
  go_cut [5] (fun v wx => ∃ q : Nat, v = .int .i64 q ∧ Hid (q ≤ 1 + sizeO ie) ∧ Hid (Below w.heap.size w wx) ∧ Hid (BoxAt wx w.heap.size #[.int .i64 k, .string t, .string n, .string a, .slice A1 al.length c1, .pointer ip, .slice A2 vs.length c2] 37))
  case first =>
    cases bq
    case false =>
      go_wp2_with fail
      go_meet
      exact ⟨1, rfl, by unfold Hid; omega, (Below.refl _ _).alloc (Nat.le_refl _) _, BoxAt.new _ _ _⟩
    cases ie with
    | none =>
      have h := HO.out
      simp only [OAt] at h
      cases h
      cases hbq
    | some e =>
      have h := HO.out
      simp only [OAt] at h
      obtain ⟨b', o', c7, e2, hb', hca, hex⟩ := h
      cases e2
      obtain ⟨k0, k1, k2, k3, k4, k5, k6⟩ := hca.under hb' HW.out
      have hbw' : b' < w.heap.size := by omega
      have hC := fun W m h => HI.out e rfl W c7 m hex h
      have HC := Lib.hid hC
      have hes : sizeO (some e) = e.size := by rw [sizeO]
      unfold C7.arr at HC
      clear hC hex hca hbq
      go_wp2_with fail
      go_at_call 24
      refine (HC.out _ _ (HW.out.alloc hWs _)).mono ?_
      rintro e3 w3 ⟨⟨j, rfl, hk⟩, hb3⟩
      have hbr : Below w.heap.size w w3 := ((Below.refl w.heap.size w).alloc (Nat.le_refl _) _).trans (hb3.mono (by simp))
      have HBr := Lib.hid hbr
      have HBx := Lib.hid ((BoxAt.new w #[.int .i64 k, .string t, .string n, .string a, .slice A1 al.length c1, .pointer (some ⟨b', o', none⟩), .slice A2 vs.length c2] 37).later hb3)
      have hj : (j : Int) ≤ 4000000 := by have := Hs.out; omega
      have Hj := Lib.hid (show 1 + j ≤ 1 + sizeO (some e) by omega)
      clear hb3 hbr hk hes
      go_wp2_with fail
      go_meet
      exact ⟨1 + j, by go_num, Hj.out, HBr.out, HBx.out⟩
  obtain ⟨q, rfl, Hq, HB0, HX0⟩ := hcut
  clear hbq HO HI
  have hq0 : (q : Int) ≤ 4000000 := by have := Hs.out; have := Hq.out; omega
  have x4 := HX0.out.cell 4
  have hx0 := HX0.out.lt
  simp at x4
  go_wp2
  go_loopw [5, 31] (fun s5 t31 wr => ∃ (i z : Nat), t31 = .int .i64 i ∧ s5 = .int .i64 z ∧ i ≤ al.length ∧ Hid (z ≤ 1 + sizeO ie + sizeAs (al.take i)) ∧ Hid (Below w.heap.size w wr) ∧ Hid (BoxAt wr w.heap.size #[.int .i64 k, .string t, .string n, .string a, .slice A1 al.length c1, .pointer ip, .slice A2 vs.length c2] 37)) (fun _ t31 _ => al.length - (intOf t31).toNat)
  case atStart => exact ⟨0, q, rfl, rfl, Nat.zero_le _, by unfold Hid; have := Hq.out; omega, HB0.out, HX0.out⟩
  case round =>
    obtain ⟨i, nn, rfl, rfl, hi, Hn, HB, HX⟩ := hrel
    have hi0 : (i : Int) ≤ 4000000 := by omega
    have hn0 : (nn : Int) ≤ 4000000 := by have := Hn.out; have := sizeAs_take al i; have := Hs.out; omega
    have hbel : Below W0.heap.size W0 wr := HW.out.trans (HB.out.mono hWs)
    have hbs := hbel.size
    have hxl := HX.out.lt
    have hbw0 := HB.out.size
    by_cases hlt : i < al.length
    · obtain ⟨b, o, c', e, hb, hcs⟩ := args_get HV.out hlt
      cases e
      obtain ⟨nm, ex, hel⟩ : ∃ t p, al[i]? = some (.mk t p) := by
        cases e : al[i] with
        | mk t p => exact ⟨t, p, by rw [List.getElem?_eq_getElem hlt, e]⟩
      obtain ⟨c0, c7, hca, hex⟩ := hcs i nm ex hel
      have hC := fun W m h => HA.out nm ex (List.mem_of_getElem? hel) W c7 m hex h
      obtain ⟨k2, t2, n3, a2, B1, m1, q1, p2, B2, m2, q2, rfl⟩ := ex_shape hex
      obtain ⟨k0, k1, k2', k3, k4, k5, k6⟩ := hca.under hb hbel
      rw [← hbel.cell (p := ⟨b, o + i * 8, none⟩) hb] at c0
      have hbw : b < wr.heap.size := by omega
      have hlt' : decide ((i : Int) < (al.length : Int)) = true := decide_eq_true (by omega)
      have hlt3 : ((i : Nat) : Int) < (al.length : Int) := by omega
      have hszt : sizeAs (al.take (i + 1)) = sizeAs (al.take i) + (nm.size + ex.size) := by
        rw [take_snoc al i _ hel, sizeAs_append, sizeAs, sizeAs, Nat.add_zero]
      have hszl := sizeAs_take al (i + 1)
      have HC := Lib.hid hC
      unfold C7.arr at HC
      have Hszt := Lib.hid hszt
      have Hszl := Lib.hid hszl
      have Hbel := Lib.hid hbel
      clear hC hca hex hszt hszl hbel hcs hel
      by_cases h1 : (nn : Int) < m
      · have h1' : decide ((nn : Int) < m) = true := decide_eq_true h1
        go_wp2_with fail
        go_at_call 24
        refine (HC.out _ _ ((Hbel.out.alloc hbs _))).mono ?_
        rintro e3 w3 ⟨⟨j, rfl, hk⟩, hb3⟩
        have hr3 : Below wr.heap.size wr w3 := ((Below.refl wr.heap.size wr).alloc (Nat.le_refl _) _).trans (hb3.mono (by simp))
        have HBB := Lib.hid (HB.out.trans (hr3.mono hbw0))
        have HXX := Lib.hid (HX.out.later hr3)
        have hj0 : (j : Int) ≤ 4000000 := by have := Hs.out; have := Hszt.out; have := Hszl.out; omega
        have Hns := Lib.hid (show nn + j ≤ 1 + sizeO ie + sizeAs (al.take (i + 1)) by have := Hn.out; have := Hszt.out; omega)
        clear hb3 hr3 hk
        go_wp2
        go_roundw
        case rel => exact ⟨i + 1, nn + j, by go_num, by go_num, hlt, Hns.out, HBB.out, HXX.out⟩
        case measure => simp [intOf]; omega
      · have h1' : decide ((nn : Int) < m) = false := decide_eq_false h1
        have Hns := Lib.hid (show nn ≤ 1 + sizeO ie + sizeAs (al.take (i + 1)) by have := Hn.out; have := Hszt.out; omega)
        go_wp2
        go_roundw
        case rel => exact ⟨i + 1, nn, by go_num, by go_num, hlt, Hns.out, HB.out.alloc hbw0 _, HX.out.alloc _⟩
        case measure => simp [intOf]; omega
    · obtain rfl : i = al.length := by omega
      have hlt' : decide ((al.length : Int) < (al.length : Int)) = false := decide_eq_false (by omega)
      have x6 := HX.out.cell 6
      simp at x6
      have hn := Hn.out
      rw [List.take_length] at hn
      have Hn2 := Lib.hid hn
      have hn20 : nn ≤ 1 + sizeO ie + sizeAs al := hn
      clear hn hbel x4 hx0
      obtain ⟨wo, hwo⟩ : ∃ x, x = wr := ⟨_, rfl⟩
      subst hwo
      go_wp2
      go_loopw [5, 50] (fun s5 t50 wr => ∃ (i z : Nat), t50 = .int .i64 i ∧ s5 = .int .i64 z ∧ i ≤ vs.length ∧ Hid (z ≤ 1 + sizeO ie + sizeAs al + sizeVs (vs.take i)) ∧ Hid (Below w.heap.size w wr)) (fun _ t50 _ => vs.length - (intOf t50).toNat)
      case atStart => exact ⟨0, nn, rfl, rfl, Nat.zero_le _, by unfold Hid; omega, HB.out⟩
      case round =>
        obtain ⟨i, y, rfl, rfl, hiv, Hny, HBy⟩ := hrel
        have hi0 : (i : Int) ≤ 4000000 := by omega
        have hy0 : (y : Int) ≤ 4000000 := by have := Hny.out; have := sizeVs_take vs i; have := Hs.out; omega
        have hbel : Below W0.heap.size W0 wr := HW.out.trans (HBy.out.mono hWs)
        have hbs2 := hbel.size
        have hbw2 := HBy.out.size
        by_cases hlt : i < vs.length
        · obtain ⟨b, o, c', e, hb, hcs⟩ := vars_get HVV.out hlt
          cases e
          obtain ⟨key, df, p, hel⟩ : ∃ t d p, vs[i]? = some (.mk t d p) := by
            cases e : vs[i] with
            | mk t d p => exact ⟨t, d, p, by rw [List.getElem?_eq_getElem hlt, e]⟩
          obtain ⟨c0, cd, uv, cu, hpat⟩ := hcs i key df p hel
          rw [← hbel.cell (p := ⟨b, o + i * 3, none⟩) hb] at c0
          rw [← hbel.cell (p := ⟨b, o + i * 3 + 1, none⟩) hb] at cd
          rw [← hbel.cell (p := ⟨b, o + i * 3 + 2, none⟩) hb] at cu
          have hp' := hpat
          obtain ⟨A3, c3, rfl, _, _, _⟩ := hp'
          have hbw : b < wr.heap.size := by omega
          have hlt' : decide ((i : Int) < (vs.length : Int)) = true := decide_eq_true (by omega)
          have hlt3 : ((i : Nat) : Int) < (vs.length : Int) := by omega
          have hszt : sizeVs (vs.take (i + 1)) = sizeVs (vs.take i) + (1 + key.size + sizeEs p) := by
            rw [take_snoc vs i _ hel, sizeVs_append, sizeVs, sizeVs, Nat.add_zero]
          have hszl := sizeVs_take vs (i + 1)
          have hC := fun W m h => cntIn_any p hpat (by have := Hs.out; omega) (HVa.out key df p (List.mem_of_getElem? hel)) m W h
          have HC := Lib.hid hC
          have Hszt := Lib.hid hszt
          have Hszl := Lib.hid hszl
          have Hbel := Lib.hid hbel
          clear hC hszt hszl hbel hcs hel hpat
          by_cases h1 : (y : Int) < m
          · have h1' : decide ((y : Int) < m) = true := decide_eq_true h1
            go_wp2_with fail
            go_at_call 15
            refine (HC.out _ _ ((Hbel.out.alloc hbs2 _))).mono ?_
            rintro e3 w3 ⟨⟨j, rfl, hk⟩, hb3⟩
            have hr3 : Below wr.heap.size wr w3 := ((Below.refl wr.heap.size wr).alloc (Nat.le_refl _) _).trans (hb3.mono (by simp))
            have HBB := Lib.hid (HBy.out.trans (hr3.mono hbw2))
            have hj0 : (j : Int) ≤ 4000000 := by have := Hs.out; have := Hszt.out; have := Hszl.out; omega
            have Hns := Lib.hid (show y + (1 + j) ≤ 1 + sizeO ie + sizeAs al + sizeVs (vs.take (i + 1)) by have := Hny.out; have := Hszt.out; omega)
            clear hb3 hr3 hk
            go_wp2
            go_roundw
            case rel => exact ⟨i + 1, y + (1 + j), by go_num, by go_num, hlt, Hns.out, HBB.out⟩
            case measure => simp [intOf]; omega
          · have h1' : decide ((y : Int) < m) = false := decide_eq_false h1
            have Hns := Lib.hid (show y ≤ 1 + sizeO ie + sizeAs al + sizeVs (vs.take (i + 1)) by have := Hny.out; have := Hszt.out; omega)
            go_wp2
            go_roundw
            case rel => exact ⟨i + 1, y, by go_num, by go_num, hlt, Hns.out, HBy.out.alloc hbw2 _⟩
            case measure => simp [intOf]; omega
        · obtain rfl : i = vs.length := by omega
          have hlt' : decide ((vs.length : Int) < (vs.length : Int)) = false := decide_eq_false (by omega)
          have hn := Hny.out
          rw [List.take_length] at hn
          have Hn2 := Lib.hid hn
          clear hn hbel
          go_wp2
          go_ret
          exact ⟨⟨y, rfl, by have := Hn2.out; omega⟩, HBy.out⟩
-- from Alz
theorem el_in {l : List EL} {t : ByteArray} {e : EX} (h : EL.mk t (some e) ∈ l) : e.size + 1 ≤ sizeEs l := by
  induction l with
  | nil => cases h
  | cons x r ih =>
    cases x with
    | mk t' p' =>
      rw [sizeEs]
      rcases List.mem_cons.1 h with h | h
      · cases h
        have : sizeO (some e) = e.size := by rw [sizeO]
        omega
      · have := ih h; omega
set_option maxHeartbeats 2000000 in
set_option maxRecDepth 1000000 in
theorem lin_other {W0 : World} (k : Int) (t n a : ByteArray) (al : List AR) (ie : Option EX) (vs : List VA) (d : Nat) (hk : ¬ (0 ≤ k ∧ k ≤ 6)) : InTo W0 (.mk k t n a al ie vs) d := by
  intro w c hex hW
  rw [ExAt] at hex
  obtain ⟨ck, ct, cn, ca, cal, ci, cvs⟩ := c
  obtain ⟨e1, e2, e3, e4, ⟨A1, c1, e5, hr1⟩, hi, ⟨A2, c2, e7, _⟩⟩ := hex
  simp only at e1 e2 e3 e4 e5 e7 hi
  subst e1 e2 e3 e4 e5 e7
  obtain ⟨p, rfl⟩ : ∃ p, ci = .pointer p := by
    cases ie with
    | none => simp only [OAt] at hi; exact ⟨_, hi⟩
    | some e => simp only [OAt] at hi; obtain ⟨b, o, c, h, _⟩ := hi; exact ⟨_, h⟩
  have e : okE .inl (.mk k t n a al ie vs) d = false := by
    rw [okE]; unfold inlP
    rw [if_neg (by omega), if_neg (by omega), if_neg (by omega), if_neg (by omega), if_neg (by omega), if_neg (by omega), if_neg (by omega)]
  rw [e]
  unfold C7.arr
  have z0 : (k == 0) = false := beq_eq_false_iff_ne.2 (by omega)
  have z1 : (k == 1) = false := beq_eq_false_iff_ne.2 (by omega)
  have z2 : (k == 2) = false := beq_eq_false_iff_ne.2 (by omega)
  have z3 : (k == 3) = false := beq_eq_false_iff_ne.2 (by omega)
  have z4 : (k == 4) = false := beq_eq_false_iff_ne.2 (by omega)
  have z5 : (k == 5) = false := beq_eq_false_iff_ne.2 (by omega)
  have z6 : (k == 6) = false := beq_eq_false_iff_ne.2 (by omega)
  clear hk hW hi hr1 e
  go_enter Tryd.func34, Tryd.ntmps34
  go_wp2
  go_ret
  exact ⟨rfl, by repeat' first | with_reducible exact Below.refl _ _ | with_reducible apply Below.setCell | with_reducible apply Below.alloc | (simp; done) | (simp; omega)⟩
theorem brc_inl (e : EX) (d : Nat) (hd : d ≤ 20) (hk : ∀ k t n a al ie vs, e = .mk k t n a al ie vs → k ≠ 7) : okE .brc e d = okE .inl e d := by
  obtain ⟨k, t, n, a, al, ie, vs⟩ := e
  have := hk _ _ _ _ _ _ _ rfl
  rw [okE, okE]
  simp only [decide_eq_true hd, if_neg this, Bool.true_and]
theorem place_plain {W0 : World} (k : Int) (t n a : ByteArray) (al : List AR) (ie : Option EX) (vs : List VA) (d : Nat) (hd : d ≤ 20) (hk : k ≠ 7) (hI : InTo W0 (.mk k t n a al ie vs) d) : PlaceTo W0 (.mk k t n a al ie vs) d := by
  intro w c hex hW
  rw [brc_inl _ d hd (by rintro _ _ _ _ _ _ _ h; cases h; exact hk)]
  have hI2 := fun w1 h => hI w1 c hex h
  rw [ExAt] at hex
  obtain ⟨ck, ct, cn, ca, cal, ci, cvs⟩ := c
  obtain ⟨e1, e2, e3, e4, ⟨A1, c1, e5, hr1⟩, hi, ⟨A2, c2, e7, _⟩⟩ := hex
  simp only at e1 e2 e3 e4 e5 e7 hi
  subst e1 e2 e3 e4 e5 e7
  obtain ⟨p, rfl⟩ : ∃ p, ci = .pointer p := by
    cases ie with
    | none => simp only [OAt] at hi; exact ⟨_, hi⟩
    | some e => simp only [OAt] at hi; obtain ⟨b, o, c, h, _⟩ := hi; exact ⟨_, h⟩
  exact lplace_plain k t n a A1 al.length c1 p A2 vs.length c2 d hd hk _ w (fun w1 hb => hI2 w1 (hW.trans (hb.mono hW.size)))
end Go.Proofs.YtminidoiaplhjaaDoor
