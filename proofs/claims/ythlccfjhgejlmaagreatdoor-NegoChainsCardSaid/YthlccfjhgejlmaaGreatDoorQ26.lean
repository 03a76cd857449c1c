/-
  Several texts put together (part 26): what the law and the program call, walked; their contracts.
-/
import Derived.Test.YthlccfjhgejlmaaGreatDoorQ25
import Derived.Deep.RegionLaw
namespace Go.Proofs.YthlccfjhgejlmaaGreatDoor
open Go.RowKit Go.Shelf
set_option linter.unusedVariables false
set_option linter.unusedSimpArgs false
theorem TgBox.s4z {W W' : World} {b : Nat} {x : TG} (h : TgBox W b x) (q : Below W.heap.size W W') : W'.cell? ⟨b, 0, none⟩ = some (.string (mk x.t.L)) ∧ W'.cell? ⟨b, 1, none⟩ = some (.string (mk x.t.S)) ∧ W'.cell? ⟨b, 2, none⟩ = some (.string (mk x.t.R)) ∧ W'.cell? ⟨b, 3, none⟩ = some (.slice x.A x.t.vs.length x.c) ∧ b < W'.heap.size := by
  have h := TgBox.kept h q (BoxAt.lt h)
  have c := h.cells
  unfold Tg4 at c
  simp only [Nat.zero_add] at c
  exact ⟨c.1, c.2.1, c.2.2.1, c.2.2.2, BoxAt.lt h⟩
theorem flat_lenZ {α β : Type} {n : Nat} (f : α → List β) : ∀ l : List α, (∀ y ∈ l, (f y).length ≤ n) → (l.flatMap f).length ≤ l.length * n
  | [], _ => by simp
  | a :: r, h => by
    rw [List.flatMap_cons, List.length_append, List.length_cons]
    have h1 := h a (List.mem_cons_self ..)
    have h2 := flat_lenZ f r (fun y hy => h y (List.mem_cons_of_mem _ hy))
    rw [Nat.add_mul]
    omega
theorem chainG_lenZ {gw gt : List TG} {x : TG} (h : ∀ y ∈ gw, y.t.pieces.length ≤ 1000) (h1 : gw.length ≤ 30) (h2 : gt.length ≤ 30) : (chainG gw gt x).length ≤ 901801 := by
  unfold chainG
  have a := once_le ((onceT gw []).flatMap (fun y => askT (onceT gt []) y.t.pieces) ++ [x])
  rw [List.length_append] at a
  have b := flat_lenZ (n := 30060) (fun y : TG => askT (onceT gt []) y.t.pieces) (onceT gw []) (fun y hy => by
    have c := askT_len (ts := onceT gt []) (P := y.t.pieces) (n := 30) (by have := once_le gt; omega)
    have d := h y (mem_once hy)
    omega)
  have c := once_le gw
  simp only [List.length_cons, List.length_nil] at a
  have d : (onceT gw []).length * 30060 ≤ 30 * 30060 := Nat.mul_le_mul_right _ (by omega)
  omega
theorem gl_ofZ {G gw gt : List TG} {x : TG} (hm : G.map TG.t = (chainG gw gt x).map TG.t) (h : ∀ y ∈ gw, y.t.pieces.length ≤ 1000) (h1 : gw.length ≤ 20) (h2 : gt.length ≤ 20) : G.length ≤ 901801 := by
  have e := congrArg List.length hm
  rw [List.length_map, List.length_map] at e
  rw [e]
  exact chainG_lenZ h (by omega) (by omega)
theorem len_ofZ {gs : List TG} {ss : List ByteArray} (hm : gs.map TG.t = tagsOf ss) (h : ss.length ≤ 20) : gs.length ≤ 20 := by
  have h1 := congrArg List.length hm
  have h2 := tagsOf_len ss
  rw [List.length_map] at h1
  omega
theorem text_of {gs : List TG} {ss : List ByteArray} (hm : gs.map TG.t = tagsOf ss) : gs.map TG.text = (tagsOf ss).map TagT.text := by
  rw [← hm, List.map_map]; rfl
theorem texts_lens {ss : List ByteArray} (h : ∀ s ∈ ss, s.size ≤ 60) : ∀ p ∈ (tagsOf ss).map TagT.text, 0 < p.length ∧ p.length ≤ 100 := by
  intro p hp
  obtain ⟨t, ht, rfl⟩ := List.mem_map.1 hp
  obtain ⟨s, hs, e⟩ := List.mem_filterMap.1 (show t ∈ ss.filterMap tagS from ht)
  have h1 := (tagOf_size (show tagOf (splitH s.data.toList) = some t from e)).1
  have h2 : s.data.toList.length = s.size := by simp
  have h3 := h s hs
  have h4 := List.length_pos_iff.2 (join_nonnil t.pieces (pieces_ne (tagsOf_good t ht)) (pieces_full (tagsOf_good t ht)))
  exact ⟨h4, by omega⟩
theorem texts_few {ss : List ByteArray} (h : ss.length ≤ 20) : ((tagsOf ss).map TagT.text).length ≤ 20 := by
  rw [List.length_map]
  have := tagsOf_len ss
  omega
theorem law_of {G gw gt : List TG} {x : TG} {ws ts : List ByteArray} (hm : G.map TG.t = (chainG gw gt x).map TG.t) (h1 : gw.map TG.t = tagsOf ws) (h2 : gt.map TG.t = tagsOf ts) : lawChain ((tagsOf ws).map TagT.text) ((tagsOf ts).map TagT.text) x.t.text = G.map TG.text := by
  rw [← chain_law x.t tagsOf_good tagsOf_good, ← h1, ← h2, ← chain_map, ← hm, List.map_map]
  rfl
theorem same_true (va vb : Value) (a : List (List UInt8)) (w : World) (h1 : SL w va a) (h2 : SL w vb a) (hn : a.length ≤ 1000000) : Calls Tryz.prog 8 #[va, vb] w fun e w' => e = .returned (.bool true) ∧ Below w.heap.size w w' := by
  refine (same_any va vb a a w h1 h2 hn hn).mono ?_
  rintro e w' ⟨rfl, hb⟩
  exact ⟨by simp, hb⟩
set_option maxHeartbeats 32000000 in
set_option maxRecDepth 100000 in
theorem chains_law (va vb : Value) (ws ts : List ByteArray) (s2 : ByteArray) (w : World) (hiw : SAt w va ws) (hit : SAt w vb ts) (hn : ws.length ≤ maxLen) (hn2 : ts.length ≤ maxLen) (hM : MaxAt w) :
    Calls Tryz.prog 3 #[va, vb, .string s2] w fun e w' => e = .returned (.bool true) ∧ Below w.heap.size w w' := by
  have HM := Lib.hid hM
  have HIw := Lib.hid hiw
  have HIt := Lib.hid hit
  have HH := Lib.hid (head11_any w hM)
  clear hM hiw hit
  cases hw0 : shortB ws with
  | false =>
    have HHw := Lib.hid hw0
    clear hw0
    go_enter Tryz.func3, Tryz.ntmps3
    go_wp2_with fail
    go_at_call 4
    refine HH.out.mono ?_
    rintro e w1 ⟨rfl, b1⟩
    have HB1 := Lib.hid b1
    have HSw := Lib.hid (short_any va ws w1 (HIw.out.later b1) hn)
    have HSt := Lib.hid (short_any vb ts w1 (HIt.out.later b1) hn2)
    clear b1
    go_wp2_with fail
    go_at_call 5
    refine HSw.out.mono ?_
    rw [HHw.out]
    rintro e w1' ⟨rfl, rfl⟩
    go_wp2_with fail
    go_ret
    exact ⟨rfl, HB1.out⟩
  | true =>
    have HHw := Lib.hid hw0
    clear hw0
    cases ht0 : shortB ts with
    | false =>
      have HHt := Lib.hid ht0
      clear ht0
      go_enter Tryz.func3, Tryz.ntmps3
      go_wp2_with fail
      go_at_call 4
      refine HH.out.mono ?_
      rintro e w1 ⟨rfl, b1⟩
      have HB1 := Lib.hid b1
      have HSw := Lib.hid (short_any va ws w1 (HIw.out.later b1) hn)
      have HSt := Lib.hid (short_any vb ts w1 (HIt.out.later b1) hn2)
      clear b1
      go_wp2_with fail
      go_at_call 5
      refine HSw.out.mono ?_
      rw [HHw.out]
      rintro e w1' ⟨rfl, rfl⟩
      go_wp2_with fail
      go_at_call 5
      refine HSt.out.mono ?_
      rw [HHt.out]
      rintro e w1'' ⟨rfl, rfl⟩
      go_wp2_with fail
      go_ret
      exact ⟨rfl, HB1.out⟩
    | true =>
      have HHt := Lib.hid ht0
      clear ht0
      by_cases h2 : s2.size ≤ 60
      · have g2 : decide ((60 : Int) < (s2.size : Int)) = false := decide_eq_false (by omega)
        obtain ⟨hsw, hlw⟩ := shortB_of HHw.out
        obtain ⟨hst, hlt⟩ := shortB_of HHt.out
        have HLw := Lib.hid hsw
        have HLt := Lib.hid hst
        clear hsw hst
        cases ht2 : tagS s2 with
        | none =>
          have HT2 := Lib.hid ht2
          clear ht2
          go_enter Tryz.func3, Tryz.ntmps3
          go_wp2_with fail
          go_at_call 4
          refine HH.out.mono ?_
          rintro e w1 ⟨rfl, b1⟩
          have HB1 := Lib.hid b1
          have HSw := Lib.hid (short_any va ws w1 (HIw.out.later b1) hn)
          have HSt := Lib.hid (short_any vb ts w1 (HIt.out.later b1) hn2)
          clear b1
          go_wp2_with fail
          go_at_call 5
          refine HSw.out.mono ?_
          rw [HHw.out]
          rintro e w1' ⟨rfl, rfl⟩
          go_wp2_with fail
          go_at_call 5
          refine HSt.out.mono ?_
          rw [HHt.out]
          rintro e w1'' ⟨rfl, rfl⟩
          go_wp2_with fail
          go_at_call 6
          refine (ParseN.of (by omega) (HM.out.on HB1.out) HT2.out).at_.mono ?_
          rintro e w3 ⟨rfl, b3⟩
          have HB3 := Lib.hid (below_box1 (below_step HB1.out b3) zcells)
          clear b3
          go_wp2_with fail
          go_ret
          exact ⟨rfl, HB3.out⟩
        | some t2 =>
          have HT2 := Lib.hid ht2
          have HOk2 := Lib.hid (TagT.Ok.of ht2 (by have : s2.data.toList.length = s2.size := by simp
                                                   omega))
          clear ht2
          go_enter Tryz.func3, Tryz.ntmps3
          go_wp2_with fail
          go_at_call 4
          refine HH.out.mono ?_
          rintro e w1 ⟨rfl, b1⟩
          have HB1 := Lib.hid b1
          have HSw := Lib.hid (short_any va ws w1 (HIw.out.later b1) hn)
          have HSt := Lib.hid (short_any vb ts w1 (HIt.out.later b1) hn2)
          clear b1
          go_wp2_with fail
          go_at_call 5
          refine HSw.out.mono ?_
          rw [HHw.out]
          rintro e w1' ⟨rfl, rfl⟩
          go_wp2_with fail
          go_at_call 5
          refine HSt.out.mono ?_
          rw [HHt.out]
          rintro e w1'' ⟨rfl, rfl⟩
          go_wp2_with fail
          go_at_call 6
          refine (ParseY.of (by omega) (HM.out.on HB1.out) HT2.out).at_.mono ?_
          rintro e w3 ⟨A2, c2, rfl, v2, b3⟩
          obtain ⟨y, hy⟩ : ∃ y : TG, y = ⟨t2, A2, c2⟩ := ⟨_, rfl⟩
          obtain ⟨rfl, rfl, rfl⟩ : y.t = t2 ∧ y.A = A2 ∧ y.c = c2 := by rw [hy]; exact ⟨rfl, rfl, rfl⟩
          have HY3 := Lib.hid (show y.At w3 from ⟨HOk2.out, v2⟩)
          have HB3 := Lib.hid (below_step HB1.out b3)
          clear b3 v2 hy
          go_upto_region 8 with fail
          have hk2 : TgBox (w3.alloc (tgObj y)) w3.heap.size y := BoxAt.new _ _ _
          have hV := below_box1 (Below.refl w3.heap.size w3) (tgObj y)
          have HY0 := Lib.hid (HY3.out.later hV)
          have HB0 := Lib.hid (HB3.out.trans (hV.mono HB3.out.size))
          clear HY3 HB3 hV HT2 HB1 HSw HSt
          generalize w3.alloc (tgObj y) = W0 at *
          generalize w3.heap.size = m at *
          have HK2 := Lib.hid hk2
          have HIw0 := Lib.hid (HIw.out.later HB0.out)
          have HIt0 := Lib.hid (HIt.out.later HB0.out)
          clear hk2
          have HTw := Lib.hid (fun (W : World) (q : Below W0.heap.size W0 W) => tags_any va ws W (HIw0.out.later q) (by omega) (fun s hs => by have := HLw.out s hs; omega) (HM.out.on (HB0.out.trans (q.mono HB0.out.size))))
          have HTt := Lib.hid (fun (W : World) (q : Below W0.heap.size W0 W) => tags_any vb ts W (HIt0.out.later q) (by omega) (fun s hs => by have := HLt.out s hs; omega) (HM.out.on (HB0.out.trans (q.mono HB0.out.size))))
          have HFw := Lib.hid (fun (W : World) (q : Below W0.heap.size W0 W) => forms_any va ws W (HIw0.out.later q) (by omega) (fun s hs => by have := HLw.out s hs; omega))
          have HFt := Lib.hid (fun (W : World) (q : Below W0.heap.size W0 W) => forms_any vb ts W (HIt0.out.later q) (by omega) (fun s hs => by have := HLt.out s hs; omega))
          go_wp2_with fail
          go_at_call 7
          refine (HTw.out _ (Below.refl _ _)).mono ?_
          rintro e w4 ⟨u4, gw, rfl, ho4, hm4, ha4, q4⟩
          go_wp2_with fail
          go_at_call 7
          refine (HTt.out _ q4).mono ?_
          rintro e w5 ⟨u5, gt, rfl, ho5, hm5, ha5, b5⟩
          have q5 := below_step q4 b5
          have lw := len_ofZ hm4 hlw
          have lt := len_ofZ hm5 hlt
          go_wp2_with fail
          go_at_call 9
          refine (texts_any _ gw _ (ho4.at_.later b5) (fun z hz => (ha4 z hz).later b5) (by omega)).mono ?_
          rintro e w6 ⟨u6, rfl, ho6, b6⟩
          rw [text_of hm4] at ho6
          have q6 := below_step q5 b6
          go_wp2_with fail
          go_at_call 10
          refine (HFw.out _ q6).mono ?_
          rintro e w7 ⟨u7, rfl, ho7, b7⟩
          have q7 := below_step q6 b7
          go_wp2_with fail
          go_at_call 8
          refine (same_true _ _ ((tagsOf ws).map TagT.text) _ (ho6.sl.later b7) ho7.sl (Nat.le_trans (texts_few hlw) (by decide))).mono ?_
          rintro e w8 ⟨rfl, b8⟩
          have q8 := below_step q7 b8
          have p58 : Below w5.heap.size w5 w8 := below_step (below_step b6 b7) b8
          go_wp2_with fail
          go_at_call 9
          refine (texts_any _ gt _ (ho5.at_.later p58) (fun z hz => (ha5 z hz).later p58) (by omega)).mono ?_
          rintro e w9 ⟨u9, rfl, ho9, b9⟩
          rw [text_of hm5] at ho9
          have q9 := below_step q8 b9
          go_wp2_with fail
          go_at_call 10
          refine (HFt.out _ q9).mono ?_
          rintro e w10 ⟨u10, rfl, ho10, b10⟩
          have q10 := below_step q9 b10
          go_wp2_with fail
          go_at_call 8
          refine (same_true _ _ ((tagsOf ts).map TagT.text) _ (ho9.sl.later b10) ho10.sl (Nat.le_trans (texts_few hlt) (by decide))).mono ?_
          rintro e w11 ⟨rfl, b11⟩
          have q11 := below_step q10 b11
          have p511 : Below w5.heap.size w5 w11 := below_step (below_step (below_step p58 b9) b10) b11
          have HGw := Lib.hid ((ho4.at_.later b5).later p511)
          have HGt := Lib.hid (ho5.at_.later p511)
          have HAw := Lib.hid (fun z hz => ((ha4 z hz).later b5).later p511)
          have HAt := Lib.hid (fun z hz => (ha5 z hz).later p511)
          have HYg := Lib.hid (HY0.out.later q11)
          have HKg := Lib.hid (TgBox.kept HK2.out q11 (BoxAt.lt HK2.out))
          have HQg := Lib.hid q11
          have HBg := Lib.hid (HB0.out.trans (q11.mono HB0.out.size))
          have HMw := Lib.hid hm4
          have HMt := Lib.hid hm5
          clear ho4 hm4 ha4 q4 ho5 hm5 ha5 b5 q5 ho6 b6 q6 ho7 b7 q7 b8 q8 p58 ho9 b9 q9 ho10 b10 q10 b11 q11 p511 HY0 HK2
          generalize w11 = Wg at *
          have HFw2 := Lib.hid (fun (W : World) (q : Below Wg.heap.size Wg W) => HFw.out W (below_step HQg.out q))
          have HFt2 := Lib.hid (fun (W : World) (q : Below Wg.heap.size Wg W) => HFt.out W (below_step HQg.out q))
          have HSy := Lib.hid (fun (W : World) (q : Below Wg.heap.size Wg W) => stringG (HYg.out.later q))
          have HCh := Lib.hid (fun (W : World) (q : Below Wg.heap.size Wg W) => chain_any u4 u5 gw gt y W (HGw.out.later q) (HGt.out.later q) (fun z hz => (HAw.out z hz).later q) (fun z hz => (HAt.out z hz).later q) (HYg.out.later q) (by omega) (by omega) (HM.out.on (HBg.out.trans (q.mono HBg.out.size))))
          have HS := Lib.hid (show ∀ w', Below Wg.heap.size Wg w' → (w'.cell? ⟨m, 0, none⟩ = some (.string (mk y.t.L)) ∧ w'.cell? ⟨m, 1, none⟩ = some (.string (mk y.t.S)) ∧ w'.cell? ⟨m, 2, none⟩ = some (.string (mk y.t.R)) ∧ w'.cell? ⟨m, 3, none⟩ = some (.slice y.A y.t.vs.length y.c) ∧ m < w'.heap.size) from fun w' q => HKg.out.s4z q)
          have r0 := (HKg.out.s4z (Below.refl _ _)).1
          have r1 := (HKg.out.s4z (Below.refl _ _)).2.1
          have r2 := (HKg.out.s4z (Below.refl _ _)).2.2.1
          have r3 := (HKg.out.s4z (Below.refl _ _)).2.2.2.1
          have rz := (HKg.out.s4z (Below.refl _ _)).2.2.2.2
          go_wp2_with fail
          go_region_held3 (fun w' => w'.cell? ⟨m, 0, none⟩ = some (.string (mk y.t.L)) ∧ w'.cell? ⟨m, 1, none⟩ = some (.string (mk y.t.S)) ∧ w'.cell? ⟨m, 2, none⟩ = some (.string (mk y.t.R)) ∧ w'.cell? ⟨m, 3, none⟩ = some (.slice y.A y.t.vs.length y.c) ∧ m < w'.heap.size) (first | exact HS.out _ (by repeat' first | assumption | with_reducible exact Below.refl _ _ | with_reducible apply Below.drew | with_reducible apply below_box1)) (first
            | (go_at_call 11; (with_reducible refine (HCh.out _ (by repeat' first | assumption | with_reducible exact Below.refl _ _ | with_reducible apply Below.drew | with_reducible apply below_box1)).mono ?_); rintro e w21 ⟨u21, G, rfl, ho21, hm21, ha21, b21⟩; have q21 : Below Wg.heap.size Wg w21 := below_step (by repeat' first | assumption | with_reducible exact Below.refl _ _ | with_reducible apply Below.drew | with_reducible apply below_box1) b21; have hGl := gl_ofZ hm21 (fun z hz => (HAw.out z hz).ok.pieces) lw lt; have hlaw := law_of hm21 HMw.out HMt.out)
            | (go_at_call 9; refine (texts_any _ G _ (ho21.at_.later (by repeat' first | assumption | with_reducible exact Below.refl _ _ | with_reducible apply Below.drew | with_reducible apply below_box1)) (fun z hz => (ha21 z hz).later (by repeat' first | assumption | with_reducible exact Below.refl _ _ | with_reducible apply Below.drew | with_reducible apply below_box1)) (Nat.le_trans hGl (by decide))).mono ?_; rintro e w22 ⟨u22, rfl, ho22, b22⟩; have q22 : Below Wg.heap.size Wg w22 := below_step (by repeat' first | assumption | with_reducible exact Below.refl _ _ | with_reducible apply Below.drew | with_reducible apply below_box1) b22)
            | (go_at_call 10; (with_reducible refine (HFw2.out _ (by repeat' first | assumption | with_reducible exact Below.refl _ _ | with_reducible apply Below.drew | with_reducible apply below_box1)).mono ?_); rintro e w23 ⟨u23, rfl, ho23, b23⟩; have q23 : Below Wg.heap.size Wg w23 := below_step (by repeat' first | assumption | with_reducible exact Below.refl _ _ | with_reducible apply Below.drew | with_reducible apply below_box1) b23; have o22 := ho22.later b23)
            | (go_at_call 10; (with_reducible refine (HFt2.out _ (by repeat' first | assumption | with_reducible exact Below.refl _ _ | with_reducible apply Below.drew | with_reducible apply below_box1)).mono ?_); rintro e w24 ⟨u24, rfl, ho24, b24⟩; have q24 : Below Wg.heap.size Wg w24 := below_step (by repeat' first | assumption | with_reducible exact Below.refl _ _ | with_reducible apply Below.drew | with_reducible apply below_box1) b24; have o22b := o22.later b24; have o23 := ho23.later b24)
            | (go_at_call 13; (with_reducible refine (HSy.out _ (by repeat' first | assumption | with_reducible exact Below.refl _ _ | with_reducible apply Below.drew | with_reducible apply below_box1)).mono ?_); rintro e w25 ⟨rfl, b25⟩; have q25 : Below Wg.heap.size Wg w25 := below_step (by repeat' first | assumption | with_reducible exact Below.refl _ _ | with_reducible apply Below.drew | with_reducible apply below_box1) b25; have o22c := o22b.later b25; have o23b := o23.later b25; have o24 := ho24.later b25)
            | (go_at_call 12; refine (chainL_any _ _ ((tagsOf ws).map TagT.text) ((tagsOf ts).map TagT.text) y.t.text _ o23b.sl o24.sl (texts_few hlw) (texts_few hlt) (texts_lens HLw.out) (fun p hp => (texts_lens HLt.out p hp).2)).mono ?_; rintro e w26 ⟨u26, rfl, ho26, b26⟩; rw [hlaw] at ho26; have q26 : Below Wg.heap.size Wg w26 := below_step (by repeat' first | assumption | with_reducible exact Below.refl _ _ | with_reducible apply Below.drew | with_reducible apply below_box1) b26; have o22d := o22c.later b26)
            | (go_at_call 8; refine (same_true _ _ (G.map TG.text) _ o22d.sl ho26.sl (by rw [List.length_map]; exact Nat.le_trans hGl (by decide))).mono ?_; rintro e w27 ⟨rfl, b27⟩; have q27 : Below Wg.heap.size Wg w27 := below_step (by repeat' first | assumption | with_reducible exact Below.refl _ _ | with_reducible apply Below.drew | with_reducible apply below_box1) b27))
          all_goals
            go_wp2_with fail
            go_ret
            exact ⟨rfl, HBg.out.trans (Below.mono (by repeat' first | assumption | with_reducible exact Below.refl _ _ | with_reducible apply Below.drew | with_reducible apply below_box1) HBg.out.size)⟩
      · have g2 : decide ((60 : Int) < (s2.size : Int)) = true := decide_eq_true (by omega)
        go_enter Tryz.func3, Tryz.ntmps3
        go_wp2_with fail
        go_at_call 4
        refine HH.out.mono ?_
        rintro e w1 ⟨rfl, b1⟩
        have HB1 := Lib.hid b1
        have HSw := Lib.hid (short_any va ws w1 (HIw.out.later b1) hn)
        have HSt := Lib.hid (short_any vb ts w1 (HIt.out.later b1) hn2)
        clear b1
        go_wp2_with fail
        go_at_call 5
        refine HSw.out.mono ?_
        rw [HHw.out]
        rintro e w1' ⟨rfl, rfl⟩
        go_wp2_with fail
        go_at_call 5
        refine HSt.out.mono ?_
        rw [HHt.out]
        rintro e w1'' ⟨rfl, rfl⟩
        go_wp2_with fail
        go_ret
        exact ⟨rfl, HB1.out⟩
end Go.Proofs.YthlccfjhgejlmaaGreatDoor
