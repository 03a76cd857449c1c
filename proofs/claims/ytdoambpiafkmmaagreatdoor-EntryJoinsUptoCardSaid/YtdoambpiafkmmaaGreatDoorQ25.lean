/-
  Several texts put together (part 25): what the law and the program call, walked; their contracts.
-/
import Derived.Test.YtdoambpiafkmmaaGreatDoorQ24
import Derived.Test.YtdoambpiafkmmaaGreatDoorQ9
namespace Go.Proofs.YtdoambpiafkmmaaGreatDoor
open Go.RowKit
set_option linter.unusedVariables false
set_option linter.unusedSimpArgs false
-- from Alz
theorem el_in {l : List EL} {t : ByteArray} {e : EX} (h : EL.mk t (some e) ∈ l) : e.size + 1 ≤ sizeEs l := by
  induction l with
  | nil => cases h
  | cons x r ih =>
    cases x with
    | mk t' p' =>
      rw [sizeEs]
      rcases List.mem_cons.1 h with h | h
      · cases h
        have : sizeO (some e) = e.size := by rw [sizeO]
        omega
      · have := ih h; omega
set_option maxHeartbeats 2000000 in
set_option maxRecDepth 1000000 in
theorem lin_other {W0 : World} (k : Int) (t n a : ByteArray) (al : List AR) (ie : Option EX) (vs : List VA) (d : Nat) (hk : ¬ (0 ≤ k ∧ k ≤ 6)) : InTo W0 (.mk k t n a al ie vs) d := by
  intro w c hex hW
  rw [ExAt] at hex
  obtain ⟨ck, ct, cn, ca, cal, ci, cvs⟩ := c
  obtain ⟨e1, e2, e3, e4, ⟨A1, c1, e5, hr1⟩, hi, ⟨A2, c2, e7, _⟩⟩ := hex
  simp only at e1 e2 e3 e4 e5 e7 hi
  subst e1 e2 e3 e4 e5 e7
  obtain ⟨p, rfl⟩ : ∃ p, ci = .pointer p := by
    cases ie with
    | none => simp only [OAt] at hi; exact ⟨_, hi⟩
    | some e => simp only [OAt] at hi; obtain ⟨b, o, c, h, _⟩ := hi; exact ⟨_, h⟩
  have e : okE .inl (.mk k t n a al ie vs) d = false := by
    rw [okE]; unfold inlP
    rw [if_neg (by omega), if_neg (by omega), if_neg (by omega), if_neg (by omega), if_neg (by omega), if_neg (by omega), if_neg (by omega)]
  rw [e]
  unfold C7.arr
  have z0 : (k == 0) = false := beq_eq_false_iff_ne.2 (by omega)
  have z1 : (k == 1) = false := beq_eq_false_iff_ne.2 (by omega)
  have z2 : (k == 2) = false := beq_eq_false_iff_ne.2 (by omega)
  have z3 : (k == 3) = false := beq_eq_false_iff_ne.2 (by omega)
  have z4 : (k == 4) = false := beq_eq_false_iff_ne.2 (by omega)
  have z5 : (k == 5) = false := beq_eq_false_iff_ne.2 (by omega)
  have z6 : (k == 6) = false := beq_eq_false_iff_ne.2 (by omega)
  clear hk hW hi hr1 e
  go_enter Tryz.func35, Tryz.ntmps35
  go_wp2
  go_ret
  exact ⟨rfl, by repeat' first | with_reducible exact Below.refl _ _ | with_reducible apply Below.setCell | with_reducible apply Below.alloc | (simp; done) | (simp; omega)⟩
theorem brc_inl (e : EX) (d : Nat) (hd : d ≤ 20) (hk : ∀ k t n a al ie vs, e = .mk k t n a al ie vs → k ≠ 7) : okE .brc e d = okE .inl e d := by
  obtain ⟨k, t, n, a, al, ie, vs⟩ := e
  have := hk _ _ _ _ _ _ _ rfl
  rw [okE, okE]
  simp only [decide_eq_true hd, if_neg this, Bool.true_and]
theorem place_plain {W0 : World} (k : Int) (t n a : ByteArray) (al : List AR) (ie : Option EX) (vs : List VA) (d : Nat) (hd : d ≤ 20) (hk : k ≠ 7) (hI : InTo W0 (.mk k t n a al ie vs) d) : PlaceTo W0 (.mk k t n a al ie vs) d := by
  intro w c hex hW
  rw [brc_inl _ d hd (by rintro _ _ _ _ _ _ _ h; cases h; exact hk)]
  have hI2 := fun w1 h => hI w1 c hex h
  rw [ExAt] at hex
  obtain ⟨ck, ct, cn, ca, cal, ci, cvs⟩ := c
  obtain ⟨e1, e2, e3, e4, ⟨A1, c1, e5, hr1⟩, hi, ⟨A2, c2, e7, _⟩⟩ := hex
  simp only at e1 e2 e3 e4 e5 e7 hi
  subst e1 e2 e3 e4 e5 e7
  obtain ⟨p, rfl⟩ : ∃ p, ci = .pointer p := by
    cases ie with
    | none => simp only [OAt] at hi; exact ⟨_, hi⟩
    | some e => simp only [OAt] at hi; obtain ⟨b, o, c, h, _⟩ := hi; exact ⟨_, h⟩
  exact lplace_plain k t n a A1 al.length c1 p A2 vs.length c2 d hd hk _ w (fun w1 hb => hI2 w1 (hW.trans (hb.mono hW.size)))
theorem rplace_deep (W0 : World) (e : EX) (d : Nat) (hd : 20 < d) : PlaceTo W0 e d := by
  intro w c hex hW
  have : okE .brc e d = false := by
    obtain ⟨k, t, n, a, al, ie, vs⟩ := e
    rw [okE]
    simp only [decide_eq_false (show ¬ d ≤ 20 by omega), Bool.false_and]
  rw [this]
  exact lplace_deep c d hd w
theorem knot {W0 : World} (hT : TabU W0) : ∀ (m : Nat) (e : EX), e.size ≤ m → m ≤ 4000000 → (∀ d, d ≤ 20 → InTo W0 e d) ∧ (∀ d, PlaceTo W0 e d) := by
  intro m
  induction m with
  | zero => intro e h _; have := e.size_pos; omega
  | succ m ih =>
    intro e he hm
    have hIn : ∀ d, d ≤ 20 → InTo W0 e d := by
      intro d hd
      obtain ⟨k, t, n, a, al, ie, vs⟩ := e
      have hs := he
      rw [EX.size] at hs
      by_cases hk : 0 ≤ k ∧ k ≤ 6
      · by_cases h45 : k = 4 ∨ k = 5
        · exact lin_args k t n a al ie vs d h45 (by omega) (fun t e hmem => (ih e (by have := ar_size hmem; omega) (by omega)).1 d hd)
        · refine lin_simple hT k t n a al ie vs d (by omega) (by omega) (by omega) (fun e hee => (ih e ?_ (by omega)).2 (d + 1))
          have : sizeO ie = e.size := by rw [hee, sizeO]
          omega
      · exact lin_other k t n a al ie vs d hk
    refine ⟨hIn, fun d => ?_⟩
    by_cases hd : d ≤ 20
    · have hi := hIn d hd
      obtain ⟨k, t, n, a, al, ie, vs⟩ := e
      have hs := he
      rw [EX.size] at hs
      by_cases hk : k = 7
      · subst hk
        refine lsel hT t n a al ie vs d hd (by omega) (fun key b l hmem t e hel => (ih e (by have := va_size hmem; have := el_in hel; omega) (by omega)).2 (d + 1)) (fun e hee => (ih (askedE e) ?_ (by omega)).1 d hd)
        have := asked_size e
        have : sizeO ie = e.size := by rw [hee, sizeO]
        omega
      · exact place_plain k t n a al ie vs d hd hk hi
    · exact rplace_deep W0 e d (by omega)
theorem rplace_any {W0 : World} (hT : TabU W0) (e : EX) (he : e.size ≤ 4000000) (d : Nat) : PlaceTo W0 e d := (knot hT 4000000 e he (Nat.le_refl _)).2 d
theorem lpattern {W0 : World} (hT : TabU W0) (l : List EL) {v : Value} (hv : PatAt W0 l v) (d : Nat) (hd : d ≤ 4000000) (hsz : sizeEs l ≤ 4000000) (w : World) (hW : Below W0.heap.size W0 w) :
    Calls Tryz.prog 39 #[v, .int .i64 d] w fun e w' => e = .returned (.bool (patB l d)) ∧ Below w.heap.size w w' :=
  lpat_any hT l hv d hd hsz (fun t e h => rplace_any hT e (by have := el_in h; omega) (d + 1)) w hW
-- from Ama
theorem contains_step (s : ByteArray) (i : Nat) (h : i < s.size) : (s.data.toList.drop i).contains 13 = (((s[i].toNat : Int) == 13) || (s.data.toList.drop (i + 1)).contains 13) := by
  have hl : i < s.data.toList.length := by rw [size_data]; exact h
  rw [List.drop_eq_getElem_cons hl, List.contains_cons]
  congr 1
  show (13 == s[i]) = ((s[i].toNat : Int) == 13)
  rw [Bool.eq_iff_iff, beq_iff_eq, beq_iff_eq, eq_comm, ← UInt8.toNat_inj]
  simp
  omega
-- from Amb
set_option maxHeartbeats 4000000 in
set_option maxRecDepth 1000000 in
theorem lright_com {W0 : World} (hT : TabU W0) (level : Int) (text name : ByteArray) (A : Option Addr) (n1 c1 : Nat) (A2 : Option Addr) (n2 c2 : Nat) (fr tu : Int) (hs : text.size ≤ 4000000) (w : World) (hW : Below W0.heap.size W0 w) :
    Calls Tryz.prog 19 #[entV 0 level text name (.slice A n1 c1) (.slice A2 n2 c2) fr tu] w fun e w' => e = .returned (.bool (comB level text name n1 n2)) ∧ Below w.heap.size w w' := by
  have HT := Lib.hid (hT.below hW)
  have Hp := Lib.hid (fun W h => plain_any text W h hs)
  obtain ⟨q, hq⟩ : ∃ q, validB text = q := ⟨_, rfl⟩
  obtain ⟨c13, hc13⟩ : ∃ q, text.data.toList.contains 13 = q := ⟨_, rfl⟩
  unfold comB textB
  rw [hq] at Hp ⊢
  rw [hc13]
  have Hc := Lib.hid hc13
  have HN0 := Lib.hid (show text.data.toList.contains 13 = (text.data.toList.drop 0).contains 13 by rw [List.drop_zero])
  clear hT hW hq hc13
  unfold entV
  have hts0 : (text.size : Int) ≤ 4000000 := by omega
  have z1 : ((n1 : Int) == 0) = decide (n1 = 0) := by by_cases h : n1 = 0 <;> simp [h]
  have z2 : ((n2 : Int) == 0) = decide (n2 = 0) := by by_cases h : n2 = 0 <;> simp [h]
  obtain ⟨y1, hy1⟩ : ∃ y, decide (n1 = 0) = y := ⟨_, rfl⟩
  obtain ⟨y2, hy2⟩ : ∃ y, decide (n2 = 0) = y := ⟨_, rfl⟩
  obtain ⟨g, hg⟩ : ∃ g, emp name = g := ⟨_, rfl⟩
  have hg2 : name.toList.isEmpty = g := hg
  rw [hy1] at z1 ⊢
  rw [hy2] at z2 ⊢
  rw [hg]
  clear hy1 hy2 hg
  go_enter Tryz.func19, Tryz.ntmps19
  go_wp2
  go_loop [3] (fun s3 => ∃ j : Nat, s3 = .int .i64 j ∧ j ≤ text.size ∧ Hid ((text.data.toList.drop j).contains 13 = c13)) (fun s3 => text.size - (intOf s3).toNat)
  case atStart => exact ⟨0, rfl, Nat.zero_le _, by unfold Hid; rw [← HN0.out]; exact Hc.out⟩
  case round =>
    obtain ⟨j, rfl, hj, Hoff⟩ := hrel
    by_cases hjl : j < text.size
    · have hj' : decide ((j : Int) < (text.size : Int)) = true := decide_eq_true (by omega)
      have hj3 : (j : Int) < (text.size : Int) := by omega
      have hj4 : decide (j < text.size) = true := decide_eq_true hjl
      have hst := contains_step text j hjl
      rw [Hoff.out] at hst
      obtain ⟨x1, hx1⟩ : ∃ x, ((text[j].toNat : Int) == 13) = x := ⟨_, rfl⟩
      rw [hx1] at hst
      have Hst := Lib.hid hst
      clear hst Hoff
      cases x1
      case true =>
        go_wp2
        go_ret
        exact ⟨ret_bool (by rw [Hst.out]; simp), (Below.refl _ _).alloc (Nat.le_refl _) _⟩
      go_wp2
      go_round
      case rel => exact ⟨j + 1, by go_num, hjl, by unfold Hid; rw [Hst.out]; rfl⟩
      case measure => simp [intOf]; omega
    · have hj' : decide ((j : Int) < (text.size : Int)) = false := decide_eq_false (by omega)
      have hj3 : ¬ (j : Int) < (text.size : Int) := by omega
      have hoff := Hoff.out
      rw [List.drop_eq_nil_of_le (by rw [size_data]; omega)] at hoff
      have hc0 : c13 = false := hoff.symm
      subst hc0
      clear hoff Hoff Hc HN0
      by_cases h1 : 1 ≤ level
      case neg =>
        have hz : decide ((1 : Int) ≤ level) = false := decide_eq_false h1
        go_wp2
        go_ret
        exact ⟨ret_bool (by first | rfl | simp [hz]), (Below.refl _ _).alloc (Nat.le_refl _) _⟩
      have hz : decide ((1 : Int) ≤ level) = true := decide_eq_true h1
      by_cases h3 : level ≤ 3
      case neg =>
        have hy : decide (level ≤ 3) = false := decide_eq_false h3
        go_wp2
        go_ret
        exact ⟨ret_bool (by first | rfl | simp [hy]), (Below.refl _ _).alloc (Nat.le_refl _) _⟩
      have hy : decide (level ≤ 3) = true := decide_eq_true h3
      cases q
      case false =>
        go_wp2_with fail
        go_at_call 44
        refine (Hp.out _ (HT.out.below ((Below.refl _ _).alloc (Nat.le_refl _) _))).mono ?_
        rintro e w2 ⟨rfl, hb⟩
        have HB := Lib.hid (below_box hb)
        clear hb
        go_wp2
        go_ret
        exact ⟨ret_bool (by simp), HB.out⟩
      cases g <;> cases y1 <;> cases y2 <;>
      · go_wp2_with fail
        go_at_call 44
        refine (Hp.out _ (HT.out.below ((Below.refl _ _).alloc (Nat.le_refl _) _))).mono ?_
        rintro e w2 ⟨rfl, hb⟩
        obtain ⟨hcc, hff⟩ := bcell hb
        have HB := Lib.hid (below_box hb)
        clear hb
        go_wp2
        go_ret
        exact ⟨ret_bool (by first | rfl | simp [hz, hy]), HB.out⟩
theorem msg_eq (ty level : Int) (text name : ByteArray) (val : List EL) (ats : List AT) :
    msgB ty level text name val ats = (ats.all attrOk && ((level == 0) && emp text && isNameV name && (!val.isEmpty || (ty == 1) && !ats.isEmpty) && patB val 0)) := by
  unfold msgB
  generalize (!val.isEmpty || (ty == 1) && !ats.isEmpty) = S
  generalize ats.all attrOk = X
  cases (level == 0) <;> cases emp text <;> cases isNameV name <;> cases S <;> cases X <;> cases patB val 0 <;> rfl
set_option maxHeartbeats 8000000 in
set_option maxRecDepth 1000000 in
theorem lright_msg {W0 : World} (hT : TabU W0) (ty level : Int) (hty : ty = 1 ∨ ty = 2) (text name : ByteArray) (val : List EL) (ats : List AT) (v u : Value) (fr tu : Int) (hv : PatAt W0 val v) (hu : LieAt (TsAt W0 ats) u ats.length)
    (hnm : name.size ≤ 4000000) (hsz : sizeEs val + sizeTs ats ≤ 4000000) (w : World) (hW : Below W0.heap.size W0 w) :
    Calls Tryz.prog 19 #[entV ty level text name v u fr tu] w fun e w' => e = .returned (.bool (msgB ty level text name val ats)) ∧ Below w.heap.size w w' := by
  rw [msg_eq]
  have hP := fun W h => lpattern hT val hv 0 (by omega) (by omega) W h
  obtain ⟨PV, hPV⟩ : ∃ p, patB val 0 = p := ⟨_, rfl⟩
  rw [hPV] at hP ⊢
  have HP := Lib.hid hP
  have hN := fun W => lname_any name W hnm
  rw [nameV_l]
  obtain ⟨NM, hNM⟩ : ∃ p, lnameB name.data.toList = p := ⟨_, rfl⟩
  rw [hNM] at hN ⊢
  have HN := Lib.hid hN
  obtain ⟨em, hem⟩ : ∃ g, emp text = g := ⟨_, rfl⟩
  have hem2 : text.toList.isEmpty = em := hem
  rw [hem]
  obtain ⟨lv, hlv⟩ : ∃ g, (level == 0) = g := ⟨_, rfl⟩
  rw [hlv]
  obtain ⟨S, hS⟩ : ∃ S, (!val.isEmpty || (ty == 1) && !ats.isEmpty) = S := ⟨_, rfl⟩
  rw [hS]
  obtain ⟨z, hz⟩ : ∃ z, (ats.all attrOk && (lv && em && NM && S && PV)) = z := ⟨_, rfl⟩
  rw [hz]
  have HZ := Lib.hid hz
  have HS := Lib.hid hS
  have hvl : (val.length : Int) ≤ 4000000 := by have := sizeEs_length val; omega
  have hal : (ats.length : Int) ≤ 4000000 := by have := sizeTs_length ats; omega
  obtain ⟨A, c, rfl, _⟩ := hv
  have HU := Lib.hid hu
  obtain ⟨A2, c2, rfl, _⟩ := hu
  have HW := Lib.hid hW
  have hWs := hW.size
  have HT := Lib.hid hT
  have Hsz := Lib.hid hsz
  clear hP hPV hN hNM hem hz hS hT hW hsz
  unfold entV
  rcases hty with rfl | rfl
  all_goals
    go_enter Tryz.func19, Tryz.ntmps19
    go_wp2
    go_loopw [59] (fun t59 wr => ∃ j : Nat, t59 = .int .i64 j ∧ j ≤ ats.length ∧ Hid (((ats.drop j).all attrOk && (lv && em && NM && S && PV)) = z) ∧ Hid (Below w.heap.size w wr) ∧
      Hid (BoxAt wr w.heap.size #[.int .i64 _, .int .i64 level, .string text, .string name, .slice A val.length c, .slice A2 ats.length c2, .int .i64 fr, .int .i64 tu] 45)) (fun t59 _ => ats.length - (intOf t59).toNat)
    case atStart => exact ⟨0, rfl, Nat.zero_le _, by unfold Hid; rw [List.drop_zero]; exact HZ.out, (Below.refl _ _).alloc (Nat.le_refl _) _, BoxAt.new _ _ _⟩
    case round =>
      obtain ⟨j, rfl, hj, Hans, HB, HE⟩ := hrel
      have hj0 : (j : Int) ≤ 4000000 := by omega
      have hbel : Below W0.heap.size W0 wr := HW.out.trans (HB.out.mono hWs)
      have hbs := hbel.size
      have hbw0 := HB.out.size
      have hel0 := HE.out.lt
      by_cases hlt : j < ats.length
      · obtain ⟨b, o, c', e, hb, hcs⟩ := ats_get HU.out hlt
        cases e
        obtain ⟨t, p, hel⟩ : ∃ t p, ats[j]? = some (.mk t p) := by
          cases e : ats[j] with
          | mk t p => exact ⟨t, p, by rw [List.getElem?_eq_getElem hlt, e]⟩
        obtain ⟨c0, uv, c1, hpat⟩ := hcs j t p hel
        rw [← hbel.cell (p := ⟨b, o + j * 2, none⟩) hb] at c0
        rw [← hbel.cell (p := ⟨b, o + j * 2 + 1, none⟩) hb] at c1
        have hp' := hpat
        obtain ⟨A3, c3, rfl, _, _, _⟩ := hp'
        have hbw : b < wr.heap.size := by omega
        have hlt' : decide ((j : Int) < (ats.length : Int)) = true := decide_eq_true (by omega)
        have hlt3 : ((j : Nat) : Int) < (ats.length : Int) := by omega
        have hszt : sizeTs (ats.take (j + 1)) = sizeTs (ats.take j) + (1 + t.size + sizeEs p) := by
          rw [take_snoc ats j _ hel, sizeTs_append, sizeTs, sizeTs, Nat.add_zero]
        have hszl := sizeTs_take ats (j + 1)
        have hks : t.size ≤ 4000000 := by have := Hsz.out; omega
        have hps : sizeEs p ≤ 4000000 := by have := Hsz.out; omega
        have hpl : (p.length : Int) ≤ 4000000 := by have := sizeEs_length p; omega
        have hL := fun W h => lpattern HT.out p hpat 0 (by omega) hps W h
        obtain ⟨r, hr⟩ : ∃ r, patB p 0 = r := ⟨_, rfl⟩
        rw [hr] at hL
        have HL := Lib.hid hL
        have hans := Hans.out
        rw [drop_cons ats j _ hel, List.all_cons] at hans
        obtain ⟨vk, hvk⟩ : ∃ v, attrOk (.mk t p) = v := ⟨_, rfl⟩
        rw [hvk] at hans
        have hvk2 : (isNameV t && (!p.isEmpty && patB p 0)) = vk := hvk
        have hM := fun W => lname_any t W hks
        rw [hr, nameV_l] at hvk2
        obtain ⟨g, hg⟩ : ∃ g, lnameB t.data.toList = g := ⟨_, rfl⟩
        rw [hg] at hM hvk2
        have HM := Lib.hid hM
        have Hans2 := Lib.hid hans
        have Hvk := Lib.hid hvk2
        have Hbel := Lib.hid hbel
        clear hL hr hans hvk hvk2 hM hg hbel hcs hel hpat hszt hszl Hans
        go_upto_region 14 with fail
        go_cut [78] (fun v wx => v = .bool (!vk) ∧ Hid (Below (wr.heap.size + 1) (wr.alloc (.cells #[.string t, .slice A3 p.length c3] 82)) wx))
        case first =>
          cases g
          case false =>
            have hv := Hvk.out
            rw [Bool.false_and] at hv
            subst hv
            go_wp2_with fail
            go_at_call 37
            refine (HM.out _).mono ?_
            rintro e2 w2 ⟨rfl, rfl⟩
            go_wp2_with fail
            go_meet
            exact ⟨rfl, Below.refl _ _⟩
          by_cases h0 : p.length = 0
          · have hz0 : ((p.length : Int) == 0) = true := beq_iff_eq.2 (by omega)
            have hpe : p.isEmpty = true := by rw [← len0R]; exact decide_eq_true h0
            have hv := Hvk.out
            rw [hpe] at hv
            have hv0 : vk = false := by rw [← hv]; simp
            subst hv0
            clear hv hpe h0
            go_wp2_with fail
            go_at_call 37
            refine (HM.out _).mono ?_
            rintro e2 w2 ⟨rfl, rfl⟩
            go_wp2_with fail
            go_meet
            exact ⟨rfl, Below.refl _ _⟩
          · have hz0 : ((p.length : Int) == 0) = false := beq_eq_false_iff_ne.2 (by omega)
            have hpe : p.isEmpty = false := by rw [← len0R]; exact decide_eq_false h0
            have hv := Hvk.out
            rw [hpe] at hv
            have Hv := Lib.hid hv
            clear hv hpe
            go_wp2_with fail
            go_at_call 37
            refine (HM.out _).mono ?_
            rintro e2 w2 ⟨rfl, rfl⟩
            go_wp2_with fail
            go_at_call 39
            refine (HL.out _ (Hbel.out.alloc hbs _)).mono ?_
            rintro e3 w3 ⟨rfl, hb3⟩
            have Hb3 := Lib.hid hb3
            clear hb3
            go_wp2_with fail
            go_meet
            exact ⟨by rw [← Hv.out]; simp, by unfold Hid; simpa using Hb3.out⟩
        case rest =>
          obtain ⟨rfl, Hc⟩ := hcut
          have hcb : Below (wr.alloc (.cells #[.string t, .slice A3 p.length c3] 82)).heap.size (wr.alloc (.cells #[.string t, .slice A3 p.length c3] 82)) wc := by simpa using Hc.out
          have hr3 : Below wr.heap.size wr wc := ((Below.refl wr.heap.size wr).alloc (Nat.le_refl _) _).trans (hcb.mono (by simp))
          have HBB := Lib.hid (HB.out.trans (hr3.mono hbw0))
          have HEE := Lib.hid (HE.out.later hr3)
          clear hcb hr3 Hc Hvk HM HL
          cases vk
          case false =>
            go_wp2
            go_ret
            exact ⟨ret_bool (by rw [← Hans2.out]; simp), HBB.out⟩
          have hans := Hans2.out
          rw [Bool.true_and] at hans
          have Hans3 := Lib.hid hans
          clear hans Hans2
          go_wp2
          go_roundw
          case rel => exact ⟨j + 1, by go_num, hlt, Hans3.out, HBB.out, HEE.out⟩
          case measure => simp [intOf]; omega
      · obtain rfl : j = ats.length := by omega
        have hlt' : decide ((ats.length : Int) < (ats.length : Int)) = false := decide_eq_false (by omega)
        have hans := Hans.out
        rw [List.drop_length, List.all_nil, Bool.true_and] at hans
        have y0 := HE.out.cell 0
        have y1 := HE.out.cell 1
        have y2 := HE.out.cell 2
        have y3 := HE.out.cell 3
        have y4 := HE.out.cell 4
        have y5 := HE.out.cell 5
        simp at y0 y1 y2 y3 y4 y5
        have Hbel := Lib.hid hbel
        have Hans2 := Lib.hid hans
        clear hbel Hans hans
        go_upto_region 17 with fail
        go_cut [6] (fun v wx => v = .bool S ∧ wx = wr)
        case first =>
          have hve : val.isEmpty = !decide (0 < val.length) := by cases val <;> simp
          have hae : ats.isEmpty = !decide (0 < ats.length) := by cases ats <;> simp
          have hs := HS.out
          rw [hve, hae] at hs
          clear hve hae
          by_cases h0 : 0 < val.length
          · have hd : decide ((0 : Int) < (val.length : Int)) = true := decide_eq_true (by omega)
            rw [decide_eq_true h0] at hs
            have hs1 : S = true := by rw [← hs]; simp
            subst hs1
            clear hs
            go_wp2_with fail
            go_meet
            exact ⟨rfl, rfl⟩
          · have hd : decide ((0 : Int) < (val.length : Int)) = false := decide_eq_false (by omega)
            rw [decide_eq_false h0] at hs
            by_cases h1 : 0 < ats.length
            · have hd2 : decide ((0 : Int) < (ats.length : Int)) = true := decide_eq_true (by omega)
              rw [decide_eq_true h1] at hs
              have Hs := Lib.hid hs
              clear hs
              go_wp2_with fail
              go_meet
              exact ⟨by rw [← Hs.out]; rfl, rfl⟩
            · have hd2 : decide ((0 : Int) < (ats.length : Int)) = false := decide_eq_false (by omega)
              rw [decide_eq_false h1] at hs
              have Hs := Lib.hid hs
              clear hs
              go_wp2_with fail
              go_meet
              exact ⟨by rw [← Hs.out]; rfl, rfl⟩
        case rest =>
          obtain ⟨rfl, rfl⟩ := hcut
          cases lv
          case false =>
            go_wp2
            go_ret
            exact ⟨ret_bool (by rw [← Hans2.out]; rfl), HB.out⟩
          cases em
          case false =>
            go_wp2
            go_ret
            exact ⟨ret_bool (by rw [← Hans2.out]; rfl), HB.out⟩
          cases NM
          case false =>
            go_wp2_with fail
            go_at_call 37
            refine (HN.out _).mono ?_
            rintro e2 w2 ⟨rfl, rfl⟩
            go_wp2
            go_ret
            exact ⟨ret_bool (by rw [← Hans2.out]; rfl), HB.out⟩
          cases S
          case false =>
            go_wp2_with fail
            go_at_call 37
            refine (HN.out _).mono ?_
            rintro e2 w2 ⟨rfl, rfl⟩
            go_wp2
            go_ret
            exact ⟨ret_bool (by rw [← Hans2.out]; rfl), HB.out⟩
          go_wp2_with fail
          go_at_call 37
          refine (HN.out _).mono ?_
          rintro e2 w2 ⟨rfl, rfl⟩
          go_wp2_with fail
          go_at_call 39
          refine (HP.out _ Hbel.out).mono ?_
          rintro e3 w3 ⟨rfl, hb3⟩
          have HBB := Lib.hid (HB.out.trans (hb3.mono hbw0))
          clear hb3
          go_wp2
          go_ret
          exact ⟨ret_bool (by rw [← Hans2.out]; simp), HBB.out⟩
set_option maxHeartbeats 2000000 in
set_option maxRecDepth 100000 in
theorem lright_any {W0 : World} (hT : TabU W0) (ty level : Int) (text name : ByteArray) (val : List EL) (ats : List AT) (v u : Value) (fr tu : Int) (hv : PatAt W0 val v) (hu : LieAt (TsAt W0 ats) u ats.length)
    (hnm : name.size ≤ 4000000) (htx : text.size ≤ 4000000) (hsz : sizeEs val + sizeTs ats ≤ 4000000) (w : World) (hW : Below W0.heap.size W0 w) :
    Calls Tryz.prog 19 #[entV ty level text name v u fr tu] w fun e w' => e = .returned (.bool (rightB ty level text name val ats)) ∧ Below w.heap.size w w' := by
  unfold rightB
  by_cases h0 : ty = 0
  · subst h0
    rw [if_pos rfl]
    obtain ⟨A, c, rfl, _⟩ := hv
    obtain ⟨A2, c2, rfl, _⟩ := hu
    exact lright_com hT level text name A val.length c A2 ats.length c2 fr tu htx w hW
  rw [if_neg h0]
  by_cases h1 : ty = 1 ∨ ty = 2
  · rw [if_pos h1]
    exact lright_msg hT ty level h1 text name val ats v u fr tu hv hu hnm hsz w hW
  · rw [if_neg h1]
    obtain ⟨A, c, rfl, _⟩ := hv
    obtain ⟨A2, c2, rfl, _⟩ := hu
    have z0 : (ty == 0) = false := beq_eq_false_iff_ne.2 h0
    have z1 : (ty == 1) = false := beq_eq_false_iff_ne.2 (fun h => h1 (.inl h))
    have z2 : (ty == 2) = false := beq_eq_false_iff_ne.2 (fun h => h1 (.inr h))
    clear h0 h1 hsz
    unfold entV
    go_enter Tryz.func19, Tryz.ntmps19
    go_wp2
    go_ret
    exact ⟨rfl, by repeat' first | with_reducible exact Below.refl _ _ | with_reducible apply Below.setCell | with_reducible apply Below.alloc | (simp; done) | (simp; omega)⟩
end Go.Proofs.YtdoambpiafkmmaaGreatDoor

namespace Go.Proofs.YtdoambpiafkmmaaGreatDoor
open Go.RowKit
set_option linter.unusedVariables false
set_option linter.unusedSimpArgs false
theorem ext_at0 (s : ByteArray) (i j k : Nat) (hj : j ≤ s.size) (hk : i + k < j) : at0 (s.extract i j).data.toList k = at0 s.data.toList (i + k) := by
  unfold at0
  rw [extract_list, List.getD_eq_getElem?_getD, List.getD_eq_getElem?_getD, List.getElem?_drop, List.getElem?_take_of_lt hk]
theorem name_ok {s : ByteArray} {i : Nat} (h : nm s i ≠ i) : isNameV (s.extract i (nm s i)) = true := by
  have h0 : i < s.size ∧ leB (at0 s.data.toList i) = true := by
    by_cases hc : i < s.size ∧ leB (at0 s.data.toList i) = true
    · exact hc
    · unfold nm at h; rw [if_neg hc] at h; exact absurd rfl h
  have hk := nm_ok s i (Nat.le_of_lt h0.1)
  have he : nm s i = behN naB s.data.toList i := by unfold nm; rw [if_pos h0]
  have hz : (s.extract i (nm s i)).data.toList.length = nm s i - i := by rw [size_data, ByteArray.size_extract]; omega
  rw [nameV_l]
  unfold lnameB
  rw [decide_eq_true_iff, hz]
  refine ⟨by omega, fun k hk2 => ?_⟩
  have ha := ext_at0 s i (nm s i) k hk.2 (by omega)
  by_cases h1 : k = 0
  · subst h1
    refine le_good ?_
    rw [ha]
    exact h0.2
  · refine na_good (by omega) ?_
    rw [ha]
    exact behN_so naB s.data.toList i (i + k) (by omega) (by omega)
theorem longN_holds (Q : List UInt8 → Bool) (l : List UInt8) (i : Nat) : ∀ m, longN Q l i m ≠ i → Q (pc l i (longN Q l i m)) = true
  | 0, h => by
    unfold longN at h
    exact absurd (by first | rfl | omega) h
  | m + 1, h => by
    unfold longN at h ⊢
    split at h
    · next hc =>
      rw [if_pos hc]
      first | exact hc.2 | exact hc
    · next hc =>
      rw [if_neg hc]
      exact longN_holds Q l i m h
theorem num_ok {s : ByteArray} {i : Nat} (hi : i ≤ s.size) (h : nu s i ≠ i) : isNum (s.extract i (nu s i)) = true := by
  have hl := long_num s.data.toList i (by rw [size_data]; exact hi)
  have h2 := longN_holds lnumB s.data.toList i s.data.toList.length (by rw [hl]; exact h)
  rw [hl] at h2
  rw [isNum_l, extract_list]
  exact h2
end Go.Proofs.YtdoambpiafkmmaaGreatDoor

namespace Go.Proofs.YtdoambpiafkmmaaGreatDoor
open Go.RowKit
set_option linter.unusedVariables false
set_option linter.unusedSimpArgs false
theorem memB_false {n : ByteArray} {seen : List ByteArray} : memB n seen = false ↔ ∀ m ∈ seen, n ≠ m := by
  unfold memB
  rw [List.any_eq_false]
  simp
theorem names_plain {n : ByteArray} {e : EX} (hn : emp n = true) : ∀ xs : List AR, argNames [] xs = true → (∀ x ∈ xs, emp (arName x) = true) → argNames [] (xs ++ [.mk n e]) = true
  | [], _, _ => by
    obtain ⟨k, t, n', a, al, i, vs⟩ := e
    rw [List.nil_append, argNames, if_pos hn]
    rfl
  | .mk m (.mk k t n' a al i vs) :: r, h, hx => by
    have hm : emp m = true := hx _ (List.mem_cons_self ..)
    rw [argNames, if_pos hm] at h
    rw [List.cons_append, argNames, if_pos hm]
    simp only [List.isEmpty_nil, Bool.true_and] at h ⊢
    exact names_plain hn r h (fun x hx2 => hx x (List.mem_cons_of_mem _ hx2))
theorem names_named {n : ByteArray} {k0 : Int} {t0 n0 a0 : ByteArray} {al0 : List AR} {i0 : Option EX} {vs0 : List VA} (hn : emp n = false) (hv : isNameV n = true) (hk : k0 = 0 ∨ k0 = 1) : ∀ (xs : List AR) (seen : List ByteArray), argNames seen xs = true → memB n seen = false → (∀ x ∈ xs, arName x ≠ n) →
    argNames seen (xs ++ [.mk n (.mk k0 t0 n0 a0 al0 i0 vs0)]) = true
  | [], seen, _, hs, _ => by
    rw [List.nil_append, argNames, if_neg (by rw [hn]; simp), hs, hv]
    rcases hk with rfl | rfl <;> rfl
  | .mk m (.mk k t n' a al i vs) :: r, seen, h, hs, hx => by
    rw [argNames] at h
    rw [List.cons_append, argNames]
    by_cases hm : emp m = true
    · rw [if_pos hm] at h ⊢
      rw [Bool.and_eq_true] at h
      rw [h.1, Bool.true_and]
      exact names_named hn hv hk r seen h.2 hs (fun x hx2 => hx x (List.mem_cons_of_mem _ hx2))
    · rw [if_neg hm] at h ⊢
      rw [Bool.and_eq_true] at h
      rw [h.1, Bool.true_and]
      refine names_named hn hv hk r (m :: seen) h.2 ?_ (fun x hx2 => hx x (List.mem_cons_of_mem _ hx2))
      rw [memB_false] at hs ⊢
      intro z hz
      rcases List.mem_cons.1 hz with hz | hz
      · rw [hz]; exact fun e => hx _ (List.mem_cons_self ..) e.symm
      · exact hs z hz
theorem emp_E0 : emp E0 = true := by kernel_rfl
theorem okAs_snoc {d : Nat} {n : ByteArray} {e : EX} (he : okE .inl e d = true) : ∀ xs : List AR, okAs xs d = true → okAs (xs ++ [.mk n e]) d = true
  | [], _ => by rw [List.nil_append, okAs, okAs, he]; rfl
  | .mk m y :: r, h => by
    rw [okAs, Bool.and_eq_true] at h
    rw [List.cons_append, okAs, h.1, okAs_snoc he r h.2]
    rfl
theorem nub_ok {s : ByteArray} {i : Nat} (hi : i ≤ s.size) {e : EX} {j : Nat} (h : nubS s i = some (e, j)) (d : Nat) : okE .inl e d = true ∧ ∃ t, e = .mk 1 t E0 E0 [] none [] := by
  unfold nubS at h
  split at h
  · cases h
  · next hn =>
    cases h
    refine ⟨?_, _, rfl⟩
    rw [okE]
    unfold inlP
    rw [if_neg (by decide), if_pos rfl, num_ok hi hn, emp_E0]
    rfl
theorem var_ok {s : ByteArray} {i : Nat} {e : EX} {j : Nat} (h : varS s i = some (e, j)) (d : Nat) : okE .inl e d = true := by
  unfold varS at h
  split at h
  · next hc =>
    rw [Bool.and_eq_true, decide_eq_true_iff] at hc
    cases h
    rw [okE]
    unfold inlP
    rw [if_neg (by decide), if_neg (by decide), if_pos rfl, name_ok (by omega), emp_E0]
    rfl
  · cases h
theorem quo_ok {s : ByteArray} (hStr : ∀ i t n, unqAll (s.extract i s.size) = some (t, n) → validB (mkB t) = true) {i : Nat} {e : EX} {j : Nat} (h : quoS s i = some (e, j)) (d : Nat) : okE .inl e d = true ∧ ∃ t, e = .mk 0 t E0 E0 [] none [] := by
  unfold quoS at h
  split at h
  · next t n hu =>
    cases h
    refine ⟨?_, _, rfl⟩
    rw [okE]
    unfold inlP
    rw [if_pos rfl, hStr _ _ _ hu, emp_E0]
    rfl
  · cases h
theorem ref_form {k : Int} {s : ByteArray} {i : Nat} {e : EX} {j : Nat} (h : refS k s i = some (e, j)) : ∃ n a, e = .mk k E0 n a [] none [] ∧ isNameV n = true ∧ (a = E0 ∨ isNameV a = true) := by
  unfold refS at h
  split at h
  · cases h
  · next hn =>
    split at h
    · split at h
      · cases h
      · next hn2 =>
        cases h
        exact ⟨_, _, rfl, name_ok hn, Or.inr (name_ok hn2)⟩
    · cases h
      exact ⟨_, _, rfl, name_ok hn, Or.inl rfl⟩
theorem head_ok {s : ByteArray} (hStr : ∀ i t n, unqAll (s.extract i s.size) = some (t, n) → validB (mkB t) = true) {P : Nat → Res} {d : Nat} (hP : ∀ i e j, P i = some (e, j) → okE .brc e (d + 1) = true) {i : Nat} (hi : i ≤ s.size) {e : EX} {j : Nat} (h : headS P s i = some (e, j)) :
    ∃ k t n a ie, e = .mk k t n a [] ie [] ∧ (termAttr e = false → okE .inl e d = true) ∧ (k = 3 ∨ k = 4 → t = E0 ∧ ie = none ∧ isNameV n = true ∧ (a = E0 ∨ isNameV a = true)) ∧ (k = 0 ∨ k = 1 ∨ k = 2 ∨ k = 3 ∨ k = 4 ∨ k = 6) := by
  unfold headS at h
  cases hq : quoS s i with
  | some x =>
    rw [hq, Option.some_or] at h
    cases h
    obtain ⟨h1, t, rfl⟩ := quo_ok hStr hq d
    exact ⟨0, t, E0, E0, none, rfl, fun _ => h1, fun h => by omega, Or.inl rfl⟩
  | none =>
    rw [hq, Option.none_or] at h
    cases hv : varS s i with
    | some x =>
      rw [hv, Option.some_or] at h
      cases h
      have h1 := var_ok hv d
      unfold varS at hv
      split at hv
      · cases hv
        exact ⟨2, E0, _, E0, none, rfl, fun _ => h1, fun h => by omega, by omega⟩
      · cases hv
    | none =>
      rw [hv, Option.none_or] at h
      cases hn : nestS P i with
      | some x =>
        rw [hn, Option.some_or] at h
        cases h
        unfold nestS at hn
        split at hn
        · next e' j' hp =>
          cases hn
          refine ⟨6, E0, E0, E0, some e', rfl, fun _ => ?_, fun h => by omega, by omega⟩
          rw [okE, okO]
          unfold inlP
          rw [hP _ _ _ hp, emp_E0]
          rfl
        · cases hn
      | none =>
        rw [hn, Option.none_or] at h
        cases ht : terS s i with
        | some x =>
          rw [ht, Option.some_or] at h
          cases h
          unfold terS at ht
          split at ht
          · obtain ⟨n, a, rfl, h2, h3⟩ := ref_form ht
            refine ⟨4, E0, n, a, none, rfl, fun h4 => ?_, fun _ => ⟨rfl, rfl, h2, h3⟩, by omega⟩
            have ha : emp a = true := by
              unfold termAttr at h4
              simpa using h4
            rw [okE]
            unfold inlP
            rw [h2, ha, emp_E0]
            rfl
          · cases ht
        | none =>
          rw [ht, Option.none_or] at h
          cases hr : refS 3 s i with
          | some x =>
            rw [hr, Option.some_or] at h
            cases h
            obtain ⟨n, a, rfl, h2, h3⟩ := ref_form hr
            refine ⟨3, E0, n, a, none, rfl, fun _ => ?_, fun _ => ⟨rfl, rfl, h2, h3⟩, by omega⟩
            rw [okE]
            unfold inlP
            rw [h2, emp_E0]
            rcases h3 with rfl | h3
            · rw [emp_E0]; rfl
            · rw [h3, Bool.or_true]; rfl
          | none =>
            rw [hr, Option.none_or] at h
            obtain ⟨h1, t, rfl⟩ := nub_ok hi h d
            exact ⟨1, t, E0, E0, none, rfl, fun _ => h1, fun h => by omega, by omega⟩
end Go.Proofs.YtdoambpiafkmmaaGreatDoor
