/-
  Taken together by bin/slice.py: what small_any,lright_any want (part 5).
-/
import Derived.Test.YtminidoiaplhjaaDoorZr4
namespace Go.Proofs.YtminidoiaplhjaaDoor
open Go.RowKit
set_option linter.unusedVariables false
set_option linter.unusedSimpArgs false

theorem place_deep (W0 : World) (e : EX) (d : Nat) (hd : 20 < d) : PlaceTo W0 e d := by
  intro w c hex hW
  have : okE .brc e d = false := by
    obtain ⟨k, t, n, a, al, ie, vs⟩ := e
    rw [okE]
    simp only [decide_eq_false (show ¬ d ≤ 20 by omega), Bool.false_and]
  rw [this]
  exact lplace_deep c d hd w
theorem knot {W0 : World} (hT : TabU W0) : ∀ (m : Nat) (e : EX), e.size ≤ m → m ≤ 4000000 → (∀ d, d ≤ 20 → InTo W0 e d) ∧ (∀ d, PlaceTo W0 e d) := by
  intro m
  induction m with
  | zero => intro e h _; have := e.size_pos; omega
  | succ m ih =>
    intro e he hm
    have hIn : ∀ d, d ≤ 20 → InTo W0 e d := by
      intro d hd
      obtain ⟨k, t, n, a, al, ie, vs⟩ := e
      have hs := he
      rw [EX.size] at hs
      by_cases hk : 0 ≤ k ∧ k ≤ 6
      · by_cases h45 : k = 4 ∨ k = 5
        · exact lin_args k t n a al ie vs d h45 (by omega) (fun t e hmem => (ih e (by have := ar_size hmem; omega) (by omega)).1 d hd)
        · refine lin_simple hT k t n a al ie vs d (by omega) (by omega) (by omega) (fun e hee => (ih e ?_ (by omega)).2 (d + 1))
          have : sizeO ie = e.size := by rw [hee, sizeO]
          omega
      · exact lin_other k t n a al ie vs d hk
    refine ⟨hIn, fun d => ?_⟩
    by_cases hd : d ≤ 20
    · have hi := hIn d hd
      obtain ⟨k, t, n, a, al, ie, vs⟩ := e
      have hs := he
      rw [EX.size] at hs
      by_cases hk : k = 7
      · subst hk
        refine lsel hT t n a al ie vs d hd (by omega) (fun key b l hmem t e hel => (ih e (by have := va_size hmem; have := el_in hel; omega) (by omega)).2 (d + 1)) (fun e hee => (ih (askedE e) ?_ (by omega)).1 d hd)
        have := asked_size e
        have : sizeO ie = e.size := by rw [hee, sizeO]
        omega
      · exact place_plain k t n a al ie vs d hd hk hi
    · exact place_deep W0 e d (by omega)
theorem place_any {W0 : World} (hT : TabU W0) (e : EX) (he : e.size ≤ 4000000) (d : Nat) : PlaceTo W0 e d := (knot hT 4000000 e he (Nat.le_refl _)).2 d
theorem lpattern {W0 : World} (hT : TabU W0) (l : List EL) {v : Value} (hv : PatAt W0 l v) (d : Nat) (hd : d ≤ 4000000) (hsz : sizeEs l ≤ 4000000) (w : World) (hW : Below W0.heap.size W0 w) :
    Calls Tryd.prog 18 #[v, .int .i64 d] w fun e w' => e = .returned (.bool (patB l d)) ∧ Below w.heap.size w w' :=
  lpat_any hT l hv d hd hsz (fun t e h => place_any hT e (by have := el_in h; omega) (d + 1)) w hW
theorem cnt_all (W0 : World) : ∀ (m : Nat) (e : EX), e.size ≤ m → m ≤ 4000000 → CntTo W0 e := by
  intro m
  induction m with
  | zero => intro e h _; have := e.size_pos; omega
  | succ m ih =>
    intro e he hm
    obtain ⟨k, t, n, a, al, ie, vs⟩ := e
    have hs := he
    rw [EX.size] at hs
    refine cnt_any k t n a al ie vs (by omega) (fun t x hx => ih x (by have := ar_size hx; omega) (by omega)) (fun x hx => ih x ?_ (by omega)) (fun key b l hmem t x hx => ih x (by have := va_size hmem; have := el_in hx; omega) (by omega))
    have : sizeO ie = x.size := by rw [hx, sizeO]
    omega
theorem cntIn_all {W0 : World} (l : List EL) {v : Value} (hv : PatAt W0 l v) (hsz : sizeEs l ≤ 4000000) (m : Int) (w : World) (hW : Below W0.heap.size W0 w) :
    Calls Tryd.prog 15 #[v, .int .i64 m] w fun e w' => (∃ n : Nat, e = .returned (.int .i64 n) ∧ n ≤ sizeEs l) ∧ Below w.heap.size w w' :=
  cntIn_any l hv hsz (fun t e h => cnt_all W0 4000000 e (by have := el_in h; omega) (Nat.le_refl _)) m w hW
-- from Ama
theorem contains_step (s : ByteArray) (i : Nat) (h : i < s.size) : (s.data.toList.drop i).contains 13 = (((s[i].toNat : Int) == 13) || (s.data.toList.drop (i + 1)).contains 13) := by
  have hl : i < s.data.toList.length := by rw [size_data]; exact h
  rw [List.drop_eq_getElem_cons hl, List.contains_cons]
  congr 1
  show (13 == s[i]) = ((s[i].toNat : Int) == 13)
  rw [Bool.eq_iff_iff, beq_iff_eq, beq_iff_eq, eq_comm, ← UInt8.toNat_inj]
  simp
  omega
set_option maxHeartbeats 4000000 in
set_option maxRecDepth 1000000 in
theorem small_any {W0 : World} (ty level : Int) (text name : ByteArray) (val : List EL) (ats : List AT) (v u : Value) (fr tu : Int) (hv : PatAt W0 val v) (hu : LieAt (TsAt W0 ats) u ats.length)
    (hsz : sizeEs val + sizeTs ats ≤ 4000000) (w : World) (hW : Below W0.heap.size W0 w) :
    Calls Tryd.prog 10 #[entV ty level text name v u fr tu] w fun e w' => (∃ b, e = .returned (.bool b)) ∧ Below w.heap.size w w' := by
  have hC := fun W h => cntIn_all val hv (by omega) 400 W h
  have HC := Lib.hid hC
  obtain ⟨A, c, rfl, _⟩ := hv
  have HU := Lib.hid hu
  obtain ⟨A2, c2, rfl, _⟩ := hu
  have HW := Lib.hid hW
  have hWs := hW.size
  have Hsz := Lib.hid hsz
  have hal : (ats.length : Int) ≤ 4000000 := by have := sizeTs_length ats; omega
  clear hC hW hsz
  unfold entV
  go_enter Tryd.func10, Tryd.ntmps10
  go_wp2_with fail
  go_at_call 15
  refine (HC.out _ (HW.out.alloc hWs _)).mono ?_
  rintro e1 w1 ⟨⟨q, rfl, hq⟩, hb1⟩
  have hE := (BoxAt.new w #[.int .i64 ty, .int .i64 level, .string text, .string name, .slice A val.length c, .slice A2 ats.length c2, .int .i64 fr, .int .i64 tu] 29).later hb1
  have hbr : Below w.heap.size w w1 := ((Below.refl w.heap.size w).alloc (Nat.le_refl _) _).trans (hb1.mono (by simp))
  have d5 := hE.cell 5
  have hlt0 := hE.lt
  simp at d5
  have HBr := Lib.hid hbr
  have Hq := Lib.hid hq
  have hq0 : (q : Int) ≤ 4000000 := by have := Hsz.out; omega
  clear hE hb1 hbr hq HC
  go_wp2
  go_loopw [3, 12] (fun s3 t12 wr => ∃ (i z : Nat), t12 = .int .i64 i ∧ s3 = .int .i64 z ∧ i ≤ ats.length ∧ Hid (z ≤ sizeEs val + sizeTs (ats.take i)) ∧ Hid (Below w.heap.size w wr)) (fun _ t12 _ => ats.length - (intOf t12).toNat)
  case atStart => exact ⟨0, q, rfl, rfl, Nat.zero_le _, by unfold Hid; have := Hq.out; omega, HBr.out⟩
  case round =>
    obtain ⟨i, z, rfl, rfl, hi, Hz, HB⟩ := hrel
    have hi0 : (i : Int) ≤ 4000000 := by omega
    have hz0 : (z : Int) ≤ 4000000 := by have := Hz.out; have := sizeTs_take ats i; have := Hsz.out; omega
    have hbel : Below W0.heap.size W0 wr := HW.out.trans (HB.out.mono hWs)
    have hbs := hbel.size
    have hbw0 := HB.out.size
    by_cases hlt : i < ats.length
    · obtain ⟨b, o, c', e, hb, hcs⟩ := ats_get HU.out hlt
      cases e
      obtain ⟨t, p, hel⟩ : ∃ t p, ats[i]? = some (.mk t p) := by
        cases e : ats[i] with
        | mk t p => exact ⟨t, p, by rw [List.getElem?_eq_getElem hlt, e]⟩
      obtain ⟨c0, uv, c1, hpat⟩ := hcs i t p hel
      rw [← hbel.cell (p := ⟨b, o + i * 2, none⟩) hb] at c0
      rw [← hbel.cell (p := ⟨b, o + i * 2 + 1, none⟩) hb] at c1
      have hp' := hpat
      obtain ⟨A3, c3, rfl, _, _, _⟩ := hp'
      have hbw : b < wr.heap.size := by omega
      have hlt' : decide ((i : Int) < (ats.length : Int)) = true := decide_eq_true (by omega)
      have hlt3 : ((i : Nat) : Int) < (ats.length : Int) := by omega
      have hszt : sizeTs (ats.take (i + 1)) = sizeTs (ats.take i) + (1 + t.size + sizeEs p) := by
        rw [take_snoc ats i _ hel, sizeTs_append, sizeTs, sizeTs, Nat.add_zero]
      have hszl := sizeTs_take ats (i + 1)
      have hC := fun W h => cntIn_all p hpat (by have := Hsz.out; omega) 400 W h
      have HC := Lib.hid hC
      have Hszt := Lib.hid hszt
      have Hszl := Lib.hid hszl
      have Hbel := Lib.hid hbel
      clear hC hszt hszl hbel hcs hel hpat
      by_cases h1 : (z : Int) < 400
      · have h1' : decide ((z : Int) < 400) = true := decide_eq_true h1
        go_wp2_with fail
        go_at_call 15
        refine (HC.out _ ((Hbel.out.alloc hbs _))).mono ?_
        rintro e3 w3 ⟨⟨j, rfl, hk⟩, hb3⟩
        have hr3 : Below wr.heap.size wr w3 := ((Below.refl wr.heap.size wr).alloc (Nat.le_refl _) _).trans (hb3.mono (by simp))
        have HBB := Lib.hid (HB.out.trans (hr3.mono hbw0))
        have hj0 : (j : Int) ≤ 4000000 := by have := Hsz.out; have := Hszt.out; have := Hszl.out; omega
        have Hns := Lib.hid (show z + (1 + j) ≤ sizeEs val + sizeTs (ats.take (i + 1)) by have := Hz.out; have := Hszt.out; omega)
        clear hb3 hr3 hk
        go_wp2
        go_roundw
        case rel => exact ⟨i + 1, z + (1 + j), by go_num, by go_num, hlt, Hns.out, HBB.out⟩
        case measure => simp [intOf]; omega
      · have h1' : decide ((z : Int) < 400) = false := decide_eq_false h1
        have Hns := Lib.hid (show z ≤ sizeEs val + sizeTs (ats.take (i + 1)) by have := Hz.out; have := Hszt.out; omega)
        go_wp2
        go_roundw
        case rel => exact ⟨i + 1, z, by go_num, by go_num, hlt, Hns.out, HB.out.alloc hbw0 _⟩
        case measure => simp [intOf]; omega
    · obtain rfl : i = ats.length := by omega
      have hlt' : decide ((ats.length : Int) < (ats.length : Int)) = false := decide_eq_false (by omega)
      clear hbel
      go_wp2
      go_ret
      exact ⟨⟨_, rfl⟩, HB.out⟩
-- from Amb
set_option maxHeartbeats 4000000 in
set_option maxRecDepth 1000000 in
theorem lright_com {W0 : World} (hT : TabU W0) (level : Int) (text name : ByteArray) (A : Option Addr) (n1 c1 : Nat) (A2 : Option Addr) (n2 c2 : Nat) (fr tu : Int) (hs : text.size ≤ 4000000) (w : World) (hW : Below W0.heap.size W0 w) :
    Calls Tryd.prog 11 #[entV 0 level text name (.slice A n1 c1) (.slice A2 n2 c2) fr tu] w fun e w' => e = .returned (.bool (comB level text name n1 n2)) ∧ Below w.heap.size w w' := by
  have HT := Lib.hid (hT.below hW)
  have Hp := Lib.hid (fun W h => plain_any text W h hs)
  obtain ⟨q, hq⟩ : ∃ q, validB text = q := ⟨_, rfl⟩
  obtain ⟨c13, hc13⟩ : ∃ q, text.data.toList.contains 13 = q := ⟨_, rfl⟩
  unfold comB textB
  rw [hq] at Hp ⊢
  rw [hc13]
  have Hc := Lib.hid hc13
  have HN0 := Lib.hid (show text.data.toList.contains 13 = (text.data.toList.drop 0).contains 13 by rw [List.drop_zero])
  clear hT hW hq hc13
  unfold entV
  have hts0 : (text.size : Int) ≤ 4000000 := by omega
  have z1 : ((n1 : Int) == 0) = decide (n1 = 0) := by by_cases h : n1 = 0 <;> simp [h]
  have z2 : ((n2 : Int) == 0) = decide (n2 = 0) := by by_cases h : n2 = 0 <;> simp [h]
  obtain ⟨y1, hy1⟩ : ∃ y, decide (n1 = 0) = y := ⟨_, rfl⟩
  obtain ⟨y2, hy2⟩ : ∃ y, decide (n2 = 0) = y := ⟨_, rfl⟩
  obtain ⟨g, hg⟩ : ∃ g, emp name = g := ⟨_, rfl⟩
  have hg2 : name.toList.isEmpty = g := hg
  rw [hy1] at z1 ⊢
  rw [hy2] at z2 ⊢
  rw [hg]
  clear hy1 hy2 hg
  go_enter Tryd.func11, Tryd.ntmps11
  go_wp2
  go_loop [3] (fun s3 => ∃ j : Nat, s3 = .int .i64 j ∧ j ≤ text.size ∧ Hid ((text.data.toList.drop j).contains 13 = c13)) (fun s3 => text.size - (intOf s3).toNat)
  case atStart => exact ⟨0, rfl, Nat.zero_le _, by unfold Hid; rw [← HN0.out]; exact Hc.out⟩
  case round =>
    obtain ⟨j, rfl, hj, Hoff⟩ := hrel
    by_cases hjl : j < text.size
    · have hj' : decide ((j : Int) < (text.size : Int)) = true := decide_eq_true (by omega)
      have hj3 : (j : Int) < (text.size : Int) := by omega
      have hj4 : decide (j < text.size) = true := decide_eq_true hjl
      have hst := contains_step text j hjl
      rw [Hoff.out] at hst
      obtain ⟨x1, hx1⟩ : ∃ x, ((text[j].toNat : Int) == 13) = x := ⟨_, rfl⟩
      rw [hx1] at hst
      have Hst := Lib.hid hst
      clear hst Hoff
      cases x1
      case true =>
        go_wp2
        go_ret
        exact ⟨ret_bool (by rw [Hst.out]; simp), (Below.refl _ _).alloc (Nat.le_refl _) _⟩
      go_wp2
      go_round
      case rel => exact ⟨j + 1, by go_num, hjl, by unfold Hid; rw [Hst.out]; rfl⟩
      case measure => simp [intOf]; omega
    · have hj' : decide ((j : Int) < (text.size : Int)) = false := decide_eq_false (by omega)
      have hj3 : ¬ (j : Int) < (text.size : Int) := by omega
      have hoff := Hoff.out
      rw [List.drop_eq_nil_of_le (by rw [size_data]; omega)] at hoff
      have hc0 : c13 = false := hoff.symm
      subst hc0
      clear hoff Hoff Hc HN0
      by_cases h1 : 1 ≤ level
      case neg =>
        have hz : decide ((1 : Int) ≤ level) = false := decide_eq_false h1
        go_wp2
        go_ret
        exact ⟨ret_bool (by first | rfl | simp [hz]), (Below.refl _ _).alloc (Nat.le_refl _) _⟩
      have hz : decide ((1 : Int) ≤ level) = true := decide_eq_true h1
      by_cases h3 : level ≤ 3
      case neg =>
        have hy : decide (level ≤ 3) = false := decide_eq_false h3
        go_wp2
        go_ret
        exact ⟨ret_bool (by first | rfl | simp [hy]), (Below.refl _ _).alloc (Nat.le_refl _) _⟩
      have hy : decide (level ≤ 3) = true := decide_eq_true h3
      cases q
      case false =>
        go_wp2_with fail
        go_at_call 16
        refine (Hp.out _ (HT.out.below ((Below.refl _ _).alloc (Nat.le_refl _) _))).mono ?_
        rintro e w2 ⟨rfl, hb⟩
        have HB := Lib.hid (below_box hb)
        clear hb
        go_wp2
        go_ret
        exact ⟨ret_bool (by simp), HB.out⟩
      cases g <;> cases y1 <;> cases y2 <;>
      · go_wp2_with fail
        go_at_call 16
        refine (Hp.out _ (HT.out.below ((Below.refl _ _).alloc (Nat.le_refl _) _))).mono ?_
        rintro e w2 ⟨rfl, hb⟩
        obtain ⟨hcc, hff⟩ := bcell hb
        have HB := Lib.hid (below_box hb)
        clear hb
        go_wp2
        go_ret
        exact ⟨ret_bool (by first | rfl | simp [hz, hy]), HB.out⟩
theorem msg_eq (ty level : Int) (text name : ByteArray) (val : List EL) (ats : List AT) :
    msgB ty level text name val ats = (ats.all attrOk && ((level == 0) && emp text && isNameV name && (!val.isEmpty || (ty == 1) && !ats.isEmpty) && patB val 0)) := by
  unfold msgB
  generalize (!val.isEmpty || (ty == 1) && !ats.isEmpty) = S
  generalize ats.all attrOk = X
  cases (level == 0) <;> cases emp text <;> cases isNameV name <;> cases S <;> cases X <;> cases patB val 0 <;> rfl
set_option maxHeartbeats 8000000 in
set_option maxRecDepth 1000000 in
theorem lright_msg {W0 : World} (hT : TabU W0) (ty level : Int) (hty : ty = 1 ∨ ty = 2) (text name : ByteArray) (val : List EL) (ats : List AT) (v u : Value) (fr tu : Int) (hv : PatAt W0 val v) (hu : LieAt (TsAt W0 ats) u ats.length)
    (hnm : name.size ≤ 4000000) (hsz : sizeEs val + sizeTs ats ≤ 4000000) (w : World) (hW : Below W0.heap.size W0 w) :
    Calls Tryd.prog 11 #[entV ty level text name v u fr tu] w fun e w' => e = .returned (.bool (msgB ty level text name val ats)) ∧ Below w.heap.size w w' := by
  rw [msg_eq]
  have hP := fun W h => lpattern hT val hv 0 (by omega) (by omega) W h
  obtain ⟨PV, hPV⟩ : ∃ p, patB val 0 = p := ⟨_, rfl⟩
  rw [hPV] at hP ⊢
  have HP := Lib.hid hP
  have hN := fun W => lname_any name W hnm
  rw [nameV_l]
  obtain ⟨NM, hNM⟩ : ∃ p, lnameB name.data.toList = p := ⟨_, rfl⟩
  rw [hNM] at hN ⊢
  have HN := Lib.hid hN
  obtain ⟨em, hem⟩ : ∃ g, emp text = g := ⟨_, rfl⟩
  have hem2 : text.toList.isEmpty = em := hem
  rw [hem]
  obtain ⟨lv, hlv⟩ : ∃ g, (level == 0) = g := ⟨_, rfl⟩
  rw [hlv]
  obtain ⟨S, hS⟩ : ∃ S, (!val.isEmpty || (ty == 1) && !ats.isEmpty) = S := ⟨_, rfl⟩
  rw [hS]
  obtain ⟨z, hz⟩ : ∃ z, (ats.all attrOk && (lv && em && NM && S && PV)) = z := ⟨_, rfl⟩
  rw [hz]
  have HZ := Lib.hid hz
  have HS := Lib.hid hS
  have hvl : (val.length : Int) ≤ 4000000 := by have := sizeEs_length val; omega
  have hal : (ats.length : Int) ≤ 4000000 := by have := sizeTs_length ats; omega
  obtain ⟨A, c, rfl, _⟩ := hv
  have HU := Lib.hid hu
  obtain ⟨A2, c2, rfl, _⟩ := hu
  have HW := Lib.hid hW
  have hWs := hW.size
  have HT := Lib.hid hT
  have Hsz := Lib.hid hsz
  clear hP hPV hN hNM hem hz hS hT hW hsz
  unfold entV
  rcases hty with rfl | rfl
  all_goals
    go_enter Tryd.func11, Tryd.ntmps11
    go_wp2
    go_loopw [59] (fun t59 wr => ∃ j : Nat, t59 = .int .i64 j ∧ j ≤ ats.length ∧ Hid (((ats.drop j).all attrOk && (lv && em && NM && S && PV)) = z) ∧ Hid (Below w.heap.size w wr) ∧
      Hid (BoxAt wr w.heap.size #[.int .i64 _, .int .i64 level, .string text, .string name, .slice A val.length c, .slice A2 ats.length c2, .int .i64 fr, .int .i64 tu] 29)) (fun t59 _ => ats.length - (intOf t59).toNat)
    case atStart => exact ⟨0, rfl, Nat.zero_le _, by unfold Hid; rw [List.drop_zero]; exact HZ.out, (Below.refl _ _).alloc (Nat.le_refl _) _, BoxAt.new _ _ _⟩
    case round =>
      obtain ⟨j, rfl, hj, Hans, HB, HE⟩ := hrel
      have hj0 : (j : Int) ≤ 4000000 := by omega
      have hbel : Below W0.heap.size W0 wr := HW.out.trans (HB.out.mono hWs)
      have hbs := hbel.size
      have hbw0 := HB.out.size
      have hel0 := HE.out.lt
      by_cases hlt : j < ats.length
      · obtain ⟨b, o, c', e, hb, hcs⟩ := ats_get HU.out hlt
        cases e
        obtain ⟨t, p, hel⟩ : ∃ t p, ats[j]? = some (.mk t p) := by
          cases e : ats[j] with
          | mk t p => exact ⟨t, p, by rw [List.getElem?_eq_getElem hlt, e]⟩
        obtain ⟨c0, uv, c1, hpat⟩ := hcs j t p hel
        rw [← hbel.cell (p := ⟨b, o + j * 2, none⟩) hb] at c0
        rw [← hbel.cell (p := ⟨b, o + j * 2 + 1, none⟩) hb] at c1
        have hp' := hpat
        obtain ⟨A3, c3, rfl, _, _, _⟩ := hp'
        have hbw : b < wr.heap.size := by omega
        have hlt' : decide ((j : Int) < (ats.length : Int)) = true := decide_eq_true (by omega)
        have hlt3 : ((j : Nat) : Int) < (ats.length : Int) := by omega
        have hszt : sizeTs (ats.take (j + 1)) = sizeTs (ats.take j) + (1 + t.size + sizeEs p) := by
          rw [take_snoc ats j _ hel, sizeTs_append, sizeTs, sizeTs, Nat.add_zero]
        have hszl := sizeTs_take ats (j + 1)
        have hks : t.size ≤ 4000000 := by have := Hsz.out; omega
        have hps : sizeEs p ≤ 4000000 := by have := Hsz.out; omega
        have hpl : (p.length : Int) ≤ 4000000 := by have := sizeEs_length p; omega
        have hL := fun W h => lpattern HT.out p hpat 0 (by omega) hps W h
        obtain ⟨r, hr⟩ : ∃ r, patB p 0 = r := ⟨_, rfl⟩
        rw [hr] at hL
        have HL := Lib.hid hL
        have hans := Hans.out
        rw [drop_cons ats j _ hel, List.all_cons] at hans
        obtain ⟨vk, hvk⟩ : ∃ v, attrOk (.mk t p) = v := ⟨_, rfl⟩
        rw [hvk] at hans
        have hvk2 : (isNameV t && (!p.isEmpty && patB p 0)) = vk := hvk
        have hM := fun W => lname_any t W hks
        rw [hr, nameV_l] at hvk2
        obtain ⟨g, hg⟩ : ∃ g, lnameB t.data.toList = g := ⟨_, rfl⟩
        rw [hg] at hM hvk2
        have HM := Lib.hid hM
        have Hans2 := Lib.hid hans
        have Hvk := Lib.hid hvk2
        have Hbel := Lib.hid hbel
        clear hL hr hans hvk hvk2 hM hg hbel hcs hel hpat hszt hszl Hans
        go_upto_region 14 with fail
        go_cut [78] (fun v wx => v = .bool (!vk) ∧ Hid (Below (wr.heap.size + 1) (wr.alloc (.cells #[.string t, .slice A3 p.length c3] 52)) wx))
        case first =>
          cases g
          case false =>
            have hv := Hvk.out
            rw [Bool.false_and] at hv
            subst hv
            go_wp2_with fail
            go_at_call 17
            refine (HM.out _).mono ?_
            rintro e2 w2 ⟨rfl, rfl⟩
            go_wp2_with fail
            go_meet
            exact ⟨rfl, Below.refl _ _⟩
          by_cases h0 : p.length = 0
          · have hz0 : ((p.length : Int) == 0) = true := beq_iff_eq.2 (by omega)
            have hpe : p.isEmpty = true := by rw [← len0]; exact decide_eq_true h0
            have hv := Hvk.out
            rw [hpe] at hv
            have hv0 : vk = false := by rw [← hv]; simp
            subst hv0
            clear hv hpe h0
            go_wp2_with fail
            go_at_call 17
            refine (HM.out _).mono ?_
            rintro e2 w2 ⟨rfl, rfl⟩
            go_wp2_with fail
            go_meet
            exact ⟨rfl, Below.refl _ _⟩
          · have hz0 : ((p.length : Int) == 0) = false := beq_eq_false_iff_ne.2 (by omega)
            have hpe : p.isEmpty = false := by rw [← len0]; exact decide_eq_false h0
            have hv := Hvk.out
            rw [hpe] at hv
            have Hv := Lib.hid hv
            clear hv hpe
            go_wp2_with fail
            go_at_call 17
            refine (HM.out _).mono ?_
            rintro e2 w2 ⟨rfl, rfl⟩
            go_wp2_with fail
            go_at_call 18
            refine (HL.out _ (Hbel.out.alloc hbs _)).mono ?_
            rintro e3 w3 ⟨rfl, hb3⟩
            have Hb3 := Lib.hid hb3
            clear hb3
            go_wp2_with fail
            go_meet
            exact ⟨by rw [← Hv.out]; simp, by unfold Hid; simpa using Hb3.out⟩
        case rest =>
          obtain ⟨rfl, Hc⟩ := hcut
          have hcb : Below (wr.alloc (.cells #[.string t, .slice A3 p.length c3] 52)).heap.size (wr.alloc (.cells #[.string t, .slice A3 p.length c3] 52)) wc := by simpa using Hc.out
          have hr3 : Below wr.heap.size wr wc := ((Below.refl wr.heap.size wr).alloc (Nat.le_refl _) _).trans (hcb.mono (by simp))
          have HBB := Lib.hid (HB.out.trans (hr3.mono hbw0))
          have HEE := Lib.hid (HE.out.later hr3)
          clear hcb hr3 Hc Hvk HM HL
          cases vk
          case false =>
            go_wp2
            go_ret
            exact ⟨ret_bool (by rw [← Hans2.out]; simp), HBB.out⟩
          have hans := Hans2.out
          rw [Bool.true_and] at hans
          have Hans3 := Lib.hid hans
          clear hans Hans2
          go_wp2
          go_roundw
          case rel => exact ⟨j + 1, by go_num, hlt, Hans3.out, HBB.out, HEE.out⟩
          case measure => simp [intOf]; omega
      · obtain rfl : j = ats.length := by omega
        have hlt' : decide ((ats.length : Int) < (ats.length : Int)) = false := decide_eq_false (by omega)
        have hans := Hans.out
        rw [List.drop_length, List.all_nil, Bool.true_and] at hans
        have y0 := HE.out.cell 0
        have y1 := HE.out.cell 1
        have y2 := HE.out.cell 2
        have y3 := HE.out.cell 3
        have y4 := HE.out.cell 4
        have y5 := HE.out.cell 5
        simp at y0 y1 y2 y3 y4 y5
        have Hbel := Lib.hid hbel
        have Hans2 := Lib.hid hans
        clear hbel Hans hans
        go_upto_region 17 with fail
        go_cut [6] (fun v wx => v = .bool S ∧ wx = wr)
        case first =>
          have hve : val.isEmpty = !decide (0 < val.length) := by cases val <;> simp
          have hae : ats.isEmpty = !decide (0 < ats.length) := by cases ats <;> simp
          have hs := HS.out
          rw [hve, hae] at hs
          clear hve hae
          by_cases h0 : 0 < val.length
          · have hd : decide ((0 : Int) < (val.length : Int)) = true := decide_eq_true (by omega)
            rw [decide_eq_true h0] at hs
            have hs1 : S = true := by rw [← hs]; simp
            subst hs1
            clear hs
            go_wp2_with fail
            go_meet
            exact ⟨rfl, rfl⟩
          · have hd : decide ((0 : Int) < (val.length : Int)) = false := decide_eq_false (by omega)
            rw [decide_eq_false h0] at hs
            by_cases h1 : 0 < ats.length
            · have hd2 : decide ((0 : Int) < (ats.length : Int)) = true := decide_eq_true (by omega)
              rw [decide_eq_true h1] at hs
              have Hs := Lib.hid hs
              clear hs
              go_wp2_with fail
              go_meet
              exact ⟨by rw [← Hs.out]; rfl, rfl⟩
            · have hd2 : decide ((0 : Int) < (ats.length : Int)) = false := decide_eq_false (by omega)
              rw [decide_eq_false h1] at hs
              have Hs := Lib.hid hs
              clear hs
              go_wp2_with fail
              go_meet
              exact ⟨by rw [← Hs.out]; rfl, rfl⟩
        case rest =>
          obtain ⟨rfl, rfl⟩ := hcut
          cases lv
          case false =>
            go_wp2
            go_ret
            exact ⟨ret_bool (by rw [← Hans2.out]; rfl), HB.out⟩
          cases em
          case false =>
            go_wp2
            go_ret
            exact ⟨ret_bool (by rw [← Hans2.out]; rfl), HB.out⟩
          cases NM
          case false =>
            go_wp2_with fail
            go_at_call 17
            refine (HN.out _).mono ?_
            rintro e2 w2 ⟨rfl, rfl⟩
            go_wp2
            go_ret
            exact ⟨ret_bool (by rw [← Hans2.out]; rfl), HB.out⟩
          cases S
          case false =>
            go_wp2_with fail
            go_at_call 17
            refine (HN.out _).mono ?_
            rintro e2 w2 ⟨rfl, rfl⟩
            go_wp2
            go_ret
            exact ⟨ret_bool (by rw [← Hans2.out]; rfl), HB.out⟩
          go_wp2_with fail
          go_at_call 17
          refine (HN.out _).mono ?_
          rintro e2 w2 ⟨rfl, rfl⟩
          go_wp2_with fail
          go_at_call 18
          refine (HP.out _ Hbel.out).mono ?_
          rintro e3 w3 ⟨rfl, hb3⟩
          have HBB := Lib.hid (HB.out.trans (hb3.mono hbw0))
          clear hb3
          go_wp2
          go_ret
          exact ⟨ret_bool (by rw [← Hans2.out]; simp), HBB.out⟩
set_option maxHeartbeats 2000000 in
set_option maxRecDepth 100000 in
theorem lright_any {W0 : World} (hT : TabU W0) (ty level : Int) (text name : ByteArray) (val : List EL) (ats : List AT) (v u : Value) (fr tu : Int) (hv : PatAt W0 val v) (hu : LieAt (TsAt W0 ats) u ats.length)
    (hnm : name.size ≤ 4000000) (htx : text.size ≤ 4000000) (hsz : sizeEs val + sizeTs ats ≤ 4000000) (w : World) (hW : Below W0.heap.size W0 w) :
    Calls Tryd.prog 11 #[entV ty level text name v u fr tu] w fun e w' => e = .returned (.bool (rightB ty level text name val ats)) ∧ Below w.heap.size w w' := by
  unfold rightB
  by_cases h0 : ty = 0
  · subst h0
    rw [if_pos rfl]
    obtain ⟨A, c, rfl, _⟩ := hv
    obtain ⟨A2, c2, rfl, _⟩ := hu
    exact lright_com hT level text name A val.length c A2 ats.length c2 fr tu htx w hW
  rw [if_neg h0]
  by_cases h1 : ty = 1 ∨ ty = 2
  · rw [if_pos h1]
    exact lright_msg hT ty level h1 text name val ats v u fr tu hv hu hnm hsz w hW
  · rw [if_neg h1]
    obtain ⟨A, c, rfl, _⟩ := hv
    obtain ⟨A2, c2, rfl, _⟩ := hu
    have z0 : (ty == 0) = false := beq_eq_false_iff_ne.2 h0
    have z1 : (ty == 1) = false := beq_eq_false_iff_ne.2 (fun h => h1 (.inl h))
    have z2 : (ty == 2) = false := beq_eq_false_iff_ne.2 (fun h => h1 (.inr h))
    clear h0 h1 hsz
    unfold entV
    go_enter Tryd.func11, Tryd.ntmps11
    go_wp2
    go_ret
    exact ⟨rfl, by repeat' first | with_reducible exact Below.refl _ _ | with_reducible apply Below.setCell | with_reducible apply Below.alloc | (simp; done) | (simp; omega)⟩
end Go.Proofs.YtminidoiaplhjaaDoor
