/-
  Several texts put together (part O4): what the law and the program call, walked; their contracts.
-/
import Derived.Test.YthlccfjhgejlmaaDoorQO1
import Derived.Test.YthlccfjhgejlmaaDoorQO3
import Derived.Deep.RegionLaw
namespace Go.Proofs.YthlccfjhgejlmaaDoor
open Go.RowKit Go.Shelf
set_option linter.unusedVariables false
set_option linter.unusedSimpArgs false
theorem TgBox.s4 {W W' : World} {b : Nat} {x : TG} (h : TgBox W b x) (q : Below W.heap.size W W') : W'.cell? ⟨b, 0, none⟩ = some (.string (mk x.t.L)) ∧ W'.cell? ⟨b, 1, none⟩ = some (.string (mk x.t.S)) ∧ W'.cell? ⟨b, 2, none⟩ = some (.string (mk x.t.R)) ∧ W'.cell? ⟨b, 3, none⟩ = some (.slice x.A x.t.vs.length x.c) ∧ b < W'.heap.size := by
  have h := TgBox.kept h q (BoxAt.lt h)
  have c := h.cells
  unfold Tg4 at c
  simp only [Nat.zero_add] at c
  exact ⟨c.1, c.2.1, c.2.2.1, c.2.2.2, BoxAt.lt h⟩
theorem TgBox.on {W W' : World} {b : Nat} {x : TG} (h : TgBox W b x) (q : Below W.heap.size W W') : TgBox W' b x := TgBox.kept h q (BoxAt.lt h)
theorem flat_len {α β : Type} {n : Nat} (f : α → List β) : ∀ l : List α, (∀ y ∈ l, (f y).length ≤ n) → (l.flatMap f).length ≤ l.length * n
  | [], _ => by simp
  | a :: r, h => by
    rw [List.flatMap_cons, List.length_append, List.length_cons]
    have h1 := h a (List.mem_cons_self ..)
    have h2 := flat_len f r (fun y hy => h y (List.mem_cons_of_mem _ hy))
    rw [Nat.add_mul]
    omega
theorem chainG_len {gw gt : List TG} {x : TG} (h : ∀ y ∈ gw, y.t.pieces.length ≤ 1000) (h1 : gw.length ≤ 30) (h2 : gt.length ≤ 30) : (chainG gw gt x).length ≤ 901801 := by
  unfold chainG
  have a := once_le ((onceT gw []).flatMap (fun y => askT (onceT gt []) y.t.pieces) ++ [x])
  rw [List.length_append] at a
  have b := flat_len (n := 30060) (fun y : TG => askT (onceT gt []) y.t.pieces) (onceT gw []) (fun y hy => by
    have c := askT_len (ts := onceT gt []) (P := y.t.pieces) (n := 30) (by have := once_le gt; omega)
    have d := h y (mem_once hy)
    omega)
  have c := once_le gw
  simp only [List.length_cons, List.length_nil] at a
  have d : (onceT gw []).length * 30060 ≤ 30 * 30060 := Nat.mul_le_mul_right _ (by omega)
  omega
theorem gl_of {G gw gt : List TG} {x : TG} (hm : G.map TG.t = (chainG gw gt x).map TG.t) (h : ∀ y ∈ gw, y.t.pieces.length ≤ 1000) (h1 : gw.length ≤ 20) (h2 : gt.length ≤ 20) : G.length ≤ 901801 := by
  have e := congrArg List.length hm
  rw [List.length_map, List.length_map] at e
  rw [e]
  exact chainG_len h (by omega) (by omega)
theorem len_of {gs : List TG} {ss : List ByteArray} (hm : gs.map TG.t = tagsOf ss) (h : ss.length ≤ 20) : gs.length ≤ 20 := by
  have h1 := congrArg List.length hm
  have h2 := tagsOf_len ss
  rw [List.length_map] at h1
  omega
theorem any_take {α : Type} {l : List α} {i : Nat} {x : α} (f : α → Bool) (h : l[i]? = some x) : (l.take (i + 1)).any f = ((l.take i).any f || f x) := by
  obtain ⟨hi, e⟩ := List.getElem?_eq_some_iff.1 h
  rw [List.take_succ_eq_append_getElem hi, List.any_append, e]
  simp
theorem eqB (a b : List UInt8) : ((mk a).toList == (mk b).toList) = decide (a = b) := by
  rw [Lib.toList_data, Lib.toList_data]
  show (a == b) = _
  rw [Bool.eq_iff_iff]
  simp
set_option maxHeartbeats 32000000 in
set_option maxRecDepth 100000 in
theorem ones_law (va vb : Value) (ws ts : List ByteArray) (s2 : ByteArray) (w : World) (hiw : SAt w va ws) (hit : SAt w vb ts) (hn : ws.length ≤ maxLen) (hn2 : ts.length ≤ maxLen) (hM : MaxAt w) :
    Calls Tryd.prog 3 #[va, vb, .string s2] w fun e w' => e = .returned (.bool true) ∧ Below w.heap.size w w' := by
  have HM := Lib.hid hM
  have HIw := Lib.hid hiw
  have HIt := Lib.hid hit
  have HH := Lib.hid (head11_any w hM)
  clear hM hiw hit
  cases hw0 : shortB ws with
  | false =>
    have HHw := Lib.hid hw0
    clear hw0
    go_enter Tryd.func3, Tryd.ntmps3
    go_wp2_with fail
    go_at_call 5
    refine HH.out.mono ?_
    rintro e w1 ⟨rfl, b1⟩
    have HB1 := Lib.hid b1
    have HSw := Lib.hid (short_any va ws w1 (HIw.out.later b1) hn)
    have HSt := Lib.hid (short_any vb ts w1 (HIt.out.later b1) hn2)
    clear b1
    go_wp2_with fail
    go_at_call 6
    refine HSw.out.mono ?_
    rw [HHw.out]
    rintro e w1' ⟨rfl, rfl⟩
    go_wp2_with fail
    go_ret
    exact ⟨rfl, HB1.out⟩
  | true =>
    have HHw := Lib.hid hw0
    clear hw0
    cases ht0 : shortB ts with
    | false =>
      have HHt := Lib.hid ht0
      clear ht0
      go_enter Tryd.func3, Tryd.ntmps3
      go_wp2_with fail
      go_at_call 5
      refine HH.out.mono ?_
      rintro e w1 ⟨rfl, b1⟩
      have HB1 := Lib.hid b1
      have HSw := Lib.hid (short_any va ws w1 (HIw.out.later b1) hn)
      have HSt := Lib.hid (short_any vb ts w1 (HIt.out.later b1) hn2)
      clear b1
      go_wp2_with fail
      go_at_call 6
      refine HSw.out.mono ?_
      rw [HHw.out]
      rintro e w1' ⟨rfl, rfl⟩
      go_wp2_with fail
      go_at_call 6
      refine HSt.out.mono ?_
      rw [HHt.out]
      rintro e w1'' ⟨rfl, rfl⟩
      go_wp2_with fail
      go_ret
      exact ⟨rfl, HB1.out⟩
    | true =>
      have HHt := Lib.hid ht0
      clear ht0
      by_cases h2 : s2.size ≤ 60
      · have g2 : decide ((60 : Int) < (s2.size : Int)) = false := decide_eq_false (by omega)
        obtain ⟨hsw, hlw⟩ := shortB_of HHw.out
        obtain ⟨hst, hlt20⟩ := shortB_of HHt.out
        have HLw := Lib.hid hsw
        have HLt := Lib.hid hst
        clear hsw hst
        cases ht2 : tagS s2 with
        | none =>
          have HT2 := Lib.hid ht2
          clear ht2
          go_enter Tryd.func3, Tryd.ntmps3
          go_wp2_with fail
          go_at_call 5
          refine HH.out.mono ?_
          rintro e w1 ⟨rfl, b1⟩
          have HB1 := Lib.hid b1
          have HSw := Lib.hid (short_any va ws w1 (HIw.out.later b1) hn)
          have HSt := Lib.hid (short_any vb ts w1 (HIt.out.later b1) hn2)
          clear b1
          go_wp2_with fail
          go_at_call 6
          refine HSw.out.mono ?_
          rw [HHw.out]
          rintro e w1' ⟨rfl, rfl⟩
          go_wp2_with fail
          go_at_call 6
          refine HSt.out.mono ?_
          rw [HHt.out]
          rintro e w1'' ⟨rfl, rfl⟩
          go_wp2_with fail
          go_at_call 7
          refine (ParseN.of (by omega) (HM.out.on HB1.out) HT2.out).at_.mono ?_
          rintro e w3 ⟨rfl, b3⟩
          have HB3 := Lib.hid (below_box1 (below_step HB1.out b3) zcells)
          clear b3
          go_wp2_with fail
          go_ret
          exact ⟨rfl, HB3.out⟩
        | some t2 =>
          have HT2 := Lib.hid ht2
          have HOk2 := Lib.hid (TagT.Ok.of ht2 (by have : s2.data.toList.length = s2.size := by simp
                                                   omega))
          clear ht2
          go_enter Tryd.func3, Tryd.ntmps3
          go_wp2_with fail
          go_at_call 5
          refine HH.out.mono ?_
          rintro e w1 ⟨rfl, b1⟩
          have HB1 := Lib.hid b1
          have HSw := Lib.hid (short_any va ws w1 (HIw.out.later b1) hn)
          have HSt := Lib.hid (short_any vb ts w1 (HIt.out.later b1) hn2)
          clear b1
          go_wp2_with fail
          go_at_call 6
          refine HSw.out.mono ?_
          rw [HHw.out]
          rintro e w1' ⟨rfl, rfl⟩
          go_wp2_with fail
          go_at_call 6
          refine HSt.out.mono ?_
          rw [HHt.out]
          rintro e w1'' ⟨rfl, rfl⟩
          go_wp2_with fail
          go_at_call 7
          refine (ParseY.of (by omega) (HM.out.on HB1.out) HT2.out).at_.mono ?_
          rintro e w3 ⟨A2, c2, rfl, v2, b3⟩
          obtain ⟨y, hy⟩ : ∃ y : TG, y = ⟨t2, A2, c2⟩ := ⟨_, rfl⟩
          obtain ⟨rfl, rfl, rfl⟩ : y.t = t2 ∧ y.A = A2 ∧ y.c = c2 := by rw [hy]; exact ⟨rfl, rfl, rfl⟩
          have HY3 := Lib.hid (show y.At w3 from ⟨HOk2.out, v2⟩)
          have HB3 := Lib.hid (below_step HB1.out b3)
          clear b3 v2 hy
          go_upto_region 8 with fail
          have hk2 : TgBox (w3.alloc (tgObj y)) w3.heap.size y := BoxAt.new _ _ _
          have hV := below_box1 (Below.refl w3.heap.size w3) (tgObj y)
          have HY0 := Lib.hid (HY3.out.later hV)
          have HB0 := Lib.hid (HB3.out.trans (hV.mono HB3.out.size))
          clear HY3 HB3 hV HT2 HB1 HSw HSt
          generalize w3.alloc (tgObj y) = W0 at *
          generalize w3.heap.size = m at *
          have HK2 := Lib.hid hk2
          have HIw0 := Lib.hid (HIw.out.later HB0.out)
          have HIt0 := Lib.hid (HIt.out.later HB0.out)
          have r0 := (HK2.out.s4 (Below.refl _ _)).1
          have r1 := (HK2.out.s4 (Below.refl _ _)).2.1
          have r2 := (HK2.out.s4 (Below.refl _ _)).2.2.1
          have r3 := (HK2.out.s4 (Below.refl _ _)).2.2.2.1
          have rz := (HK2.out.s4 (Below.refl _ _)).2.2.2.2
          clear hk2
          have HTw := Lib.hid (fun (W : World) (q : Below W0.heap.size W0 W) => tags_any va ws W (HIw0.out.later q) (by omega) (fun s hs => by have := HLw.out s hs; omega) (HM.out.on (HB0.out.trans (q.mono HB0.out.size))))
          have HTt := Lib.hid (fun (W : World) (q : Below W0.heap.size W0 W) => tags_any vb ts W (HIt0.out.later q) (by omega) (fun s hs => by have := HLt.out s hs; omega) (HM.out.on (HB0.out.trans (q.mono HB0.out.size))))
          have HS := Lib.hid (show ∀ w', Below W0.heap.size W0 w' → (w'.cell? ⟨m, 0, none⟩ = some (.string (mk y.t.L)) ∧ w'.cell? ⟨m, 1, none⟩ = some (.string (mk y.t.S)) ∧ w'.cell? ⟨m, 2, none⟩ = some (.string (mk y.t.R)) ∧ w'.cell? ⟨m, 3, none⟩ = some (.slice y.A y.t.vs.length y.c) ∧ m < w'.heap.size) from fun w' q => by
            have k0 := (HK2.out).s4 q
            exact ⟨k0.1, k0.2.1, k0.2.2.1, k0.2.2.2.1, k0.2.2.2.2⟩)
          go_region_held3 (fun w' => w'.cell? ⟨m, 0, none⟩ = some (.string (mk y.t.L)) ∧ w'.cell? ⟨m, 1, none⟩ = some (.string (mk y.t.S)) ∧ w'.cell? ⟨m, 2, none⟩ = some (.string (mk y.t.R)) ∧ w'.cell? ⟨m, 3, none⟩ = some (.slice y.A y.t.vs.length y.c) ∧ m < w'.heap.size) (first | exact HS.out _ (by repeat' first | assumption | with_reducible exact Below.refl _ _ | with_reducible apply Below.drew | with_reducible apply below_box1)) (first
            | (go_at_call 9; (with_reducible refine (HTw.out _ (by repeat' first | assumption | with_reducible exact Below.refl _ _ | with_reducible apply Below.drew | with_reducible apply below_box1)).mono ?_); rintro e w4 ⟨u4, gw, rfl, ho4, hm4, ha4, b4⟩; have q4 : Below W0.heap.size W0 w4 := below_step (by repeat' first | assumption | with_reducible exact Below.refl _ _ | with_reducible apply Below.drew | with_reducible apply below_box1) b4)
            | (go_at_call 9; (with_reducible refine (HTt.out _ (by repeat' first | assumption | with_reducible exact Below.refl _ _ | with_reducible apply Below.drew | with_reducible apply below_box1)).mono ?_); rintro e w5 ⟨u5, gt, rfl, ho5, hm5, ha5, b5⟩; have q5 : Below W0.heap.size W0 w5 := below_step (by repeat' first | assumption | with_reducible exact Below.refl _ _ | with_reducible apply Below.drew | with_reducible apply below_box1) b5; have lw := len_of hm4 hlw; have lt := len_of hm5 hlt20)
            | (go_at_call 8; refine (chain_any _ _ gw gt y _ (ho4.at_.later (by repeat' first | assumption | with_reducible exact Below.refl _ _ | with_reducible apply Below.drew | with_reducible apply below_box1)) (ho5.at_.later (by repeat' first | assumption | with_reducible exact Below.refl _ _ | with_reducible apply Below.drew | with_reducible apply below_box1)) (fun z hz => (ha4 z hz).later (by repeat' first | assumption | with_reducible exact Below.refl _ _ | with_reducible apply Below.drew | with_reducible apply below_box1)) (fun z hz => (ha5 z hz).later (by repeat' first | assumption | with_reducible exact Below.refl _ _ | with_reducible apply Below.drew | with_reducible apply below_box1)) (HY0.out.later (by repeat' first | assumption | with_reducible exact Below.refl _ _ | with_reducible apply Below.drew | with_reducible apply below_box1)) (Nat.le_trans lw (by decide)) (Nat.le_trans lt (by decide)) (HM.out.on (HB0.out.trans (Below.mono (by repeat' first | assumption | with_reducible exact Below.refl _ _ | with_reducible apply Below.drew | with_reducible apply below_box1) HB0.out.size)))).mono ?_; rintro e w6 ⟨u6, G, rfl, ho6, hm6, ha6, b6⟩; have q6 : Below W0.heap.size W0 w6 := below_step (by repeat' first | assumption | with_reducible exact Below.refl _ _ | with_reducible apply Below.drew | with_reducible apply below_box1) b6; have hGl : G.length ≤ 901801 := gl_of hm6 (fun z hz => (ha4 z hz).ok.pieces) lw lt))
          rw [chain_map, hm4, hm5] at hm6
          obtain ⟨A6, c6, rfl, hc6, hcs6⟩ := ho6.at_
          have HCs := Lib.hid hcs6
          have HMp := Lib.hid hm6
          have HA := Lib.hid ha6
          have HYg := Lib.hid (HY0.out.later q6)
          have HKg := Lib.hid (HK2.out.on q6)
          have HIwg := Lib.hid (HIw0.out.later q6)
          have HItg := Lib.hid (HIt0.out.later q6)
          have HBg := Lib.hid (HB0.out.trans (q6.mono HB0.out.size))
          clear ho4 hm4 ha4 b4 q4 ho5 hm5 ha5 b5 q5 ho6 hm6 ha6 b6 q6 hcs6 lw lt r0 r1 r2 r3 rz HS HY0 HK2 HIw0 HIt0 HB0
          have hG0 : (G.length : Int) ≤ 901801 := by omega
          have hc60 : (G.length : Int) ≤ (c6 : Int) := by omega
          generalize w6 = Wg at *
          go_wp2_with fail
          go_loopw [10, 50] (fun t10 t50 wr => ∃ (i : Nat) (b : Bool), t10 = .bool b ∧ t50 = .int .i64 i ∧ i ≤ G.length ∧ Hid (b = (G.take i).any (fun z => decide (z.t.text = y.t.text))) ∧ Hid (Below Wg.heap.size Wg wr)) (fun _ t50 _ => G.length - (intOf t50).toNat)
          case atStart => exact ⟨0, false, rfl, rfl, Nat.zero_le _, Lib.hid rfl, Lib.hid (Below.refl _ _)⟩
          case round =>
            obtain ⟨i, b, rfl, rfl, hi, HE, HB⟩ := hrel
            have hi0 : (i : Int) ≤ 901801 := by omega
            by_cases hlt : i < G.length
            · have f1 : decide ((i : Int) < (G.length : Int)) = true := decide_eq_true (by omega)
              have f2 : (i : Int) < (G.length : Int) := by omega
              have f3 : (i : Int) ≤ (c6 : Int) := by omega
              have f4 : i ≤ c6 := by omega
              obtain ⟨gb, rfl, hgb, hcx⟩ := HCs.out (by omega)
              obtain ⟨z, hz⟩ : ∃ z, G[i]? = some z := ⟨_, List.getElem?_eq_getElem hlt⟩
              have HZ := Lib.hid hz
              have hzA := HA.out z (List.mem_of_getElem? hz)
              obtain ⟨g0, g1, g2, g3⟩ := hcx i z hz
              have g0 := (HB.out.cell (p := ⟨gb, i * 4, none⟩) hgb).trans g0
              have g1 := (HB.out.cell (p := ⟨gb, i * 4 + 1, none⟩) hgb).trans g1
              have g2 := (HB.out.cell (p := ⟨gb, i * 4 + 2, none⟩) hgb).trans g2
              have g3 := (HB.out.cell (p := ⟨gb, i * 4 + 3, none⟩) hgb).trans g3
              have hgr : gb < wr.heap.size := Nat.lt_of_lt_of_le hgb HB.out.size
              have HCx := Lib.hid hcx
              have HGb := Lib.hid hgb
              have HZA := Lib.hid hzA
              clear hcx hzA hz hgb
              go_upto_region 13 with fail
              have hkz : TgBox (wr.alloc (tgObj z)) wr.heap.size z := BoxAt.new _ _ _
              have hV := HB.out.trans ((below_box1 (Below.refl wr.heap.size wr) (tgObj z)).mono HB.out.size)
              clear HB g0 g1 g2 g3 hgr
              generalize wr.alloc (tgObj z) = V1 at *
              generalize wr.heap.size = kz at *
              have HB1 := Lib.hid hV
              have HKz := Lib.hid hkz
              clear hV hkz
              go_wp2_with fail
              go_loopw [59] (fun t59 wr => ∃ (j : Nat), t59 = .int .i64 j ∧ j ≤ i ∧ Hid (Below V1.heap.size V1 wr)) (fun t59 _ => i - (intOf t59).toNat)
              case atStart => exact ⟨0, rfl, Nat.zero_le _, Lib.hid (Below.refl _ _)⟩
              case round =>
                obtain ⟨j, rfl, hj, HBj⟩ := hrel
                have hj0 : (j : Int) ≤ 901801 := by omega
                have hqg := below_step HB1.out HBj.out
                by_cases hji : j < i
                · have f5 : decide ((j : Int) < (i : Int)) = true := decide_eq_true (by omega)
                  have f6 : (j : Int) < (i : Int) := by omega
                  obtain ⟨u, hu⟩ : ∃ u, G[j]? = some u := ⟨_, List.getElem?_eq_getElem (by omega)⟩
                  obtain ⟨g0, g1, g2, g3⟩ := HCx.out j u hu
                  have g0 := (hqg.cell (p := ⟨gb, j * 4, none⟩) HGb.out).trans g0
                  have g1 := (hqg.cell (p := ⟨gb, j * 4 + 1, none⟩) HGb.out).trans g1
                  have g2 := (hqg.cell (p := ⟨gb, j * 4 + 2, none⟩) HGb.out).trans g2
                  have g3 := (hqg.cell (p := ⟨gb, j * 4 + 3, none⟩) HGb.out).trans g3
                  have hgr : gb < wr.heap.size := Nat.lt_of_lt_of_le HGb.out hqg.size
                  have gne : ((mk u.t.text).toList == (mk z.t.text).toList) = false := by
                    rw [eqB]
                    apply decide_eq_false
                    intro e
                    have hnd : (G.map fun x => x.t.text).Nodup := by
                      have := chain_nodup (tagsOf ws) (tagsOf ts) y.t
                      rw [← HMp.out, List.map_map] at this
                      exact this
                    have h1 : (G.map fun x => x.t.text)[j]? = some u.t.text := by rw [List.getElem?_map, hu]; rfl
                    have h2 : (G.map fun x => x.t.text)[i]? = some z.t.text := by rw [List.getElem?_map, HZ.out]; rfl
                    have := (List.getElem?_inj (by rw [List.length_map]; omega) hnd).1 (h1.trans (by rw [h2, e]))
                    omega
                  have huA := (HA.out u (List.mem_of_getElem? hu)).later hqg
                  have hW := below_box1 (Below.refl wr.heap.size wr) (tgObj u)
                  have HSu := Lib.hid (fun (W : World) (q : Below (wr.alloc (tgObj u)).heap.size (wr.alloc (tgObj u)) W) => stringG ((huA.later hW).later q))
                  have HSz := Lib.hid (fun (W : World) (q : Below (wr.alloc (tgObj u)).heap.size (wr.alloc (tgObj u)) W) => stringG (((HZA.out.later hqg).later hW).later q))
                  clear huA hu hqg
                  go_upto_region 16 with fail
                  have hku : TgBox (wr.alloc (tgObj u)) wr.heap.size u := BoxAt.new _ _ _
                  have HKz2 := Lib.hid (HKz.out.on (HBj.out.trans (hW.mono HBj.out.size)))
                  have HBv := Lib.hid (HBj.out.trans (hW.mono HBj.out.size))
                  clear g0 g1 g2 g3 hgr hW HBj
                  generalize wr.alloc (tgObj u) = V2 at *
                  generalize wr.heap.size = ku at *
                  have HKu := Lib.hid hku
                  clear hku
                  have p0 := (HKu.out.s4 (Below.refl _ _)).1
                  have p1 := (HKu.out.s4 (Below.refl _ _)).2.1
                  have p2 := (HKu.out.s4 (Below.refl _ _)).2.2.1
                  have p3 := (HKu.out.s4 (Below.refl _ _)).2.2.2.1
                  have pz := (HKu.out.s4 (Below.refl _ _)).2.2.2.2
                  have HS2 := Lib.hid (show ∀ w', Below V2.heap.size V2 w' → (w'.cell? ⟨ku, 0, none⟩ = some (.string (mk u.t.L)) ∧ w'.cell? ⟨ku, 1, none⟩ = some (.string (mk u.t.S)) ∧ w'.cell? ⟨ku, 2, none⟩ = some (.string (mk u.t.R)) ∧ w'.cell? ⟨ku, 3, none⟩ = some (.slice u.A u.t.vs.length u.c) ∧ ku < w'.heap.size ∧ w'.cell? ⟨kz, 0, none⟩ = some (.string (mk z.t.L)) ∧ w'.cell? ⟨kz, 1, none⟩ = some (.string (mk z.t.S)) ∧ w'.cell? ⟨kz, 2, none⟩ = some (.string (mk z.t.R)) ∧ w'.cell? ⟨kz, 3, none⟩ = some (.slice z.A z.t.vs.length z.c) ∧ kz < w'.heap.size) from fun w' q => by
                    have k0 := (HKu.out).s4 q
                    have k1 := (HKz2.out).s4 q
                    exact ⟨k0.1, k0.2.1, k0.2.2.1, k0.2.2.2.1, k0.2.2.2.2, k1.1, k1.2.1, k1.2.2.1, k1.2.2.2.1, k1.2.2.2.2⟩)
                  go_region_held3 (fun w' => w'.cell? ⟨ku, 0, none⟩ = some (.string (mk u.t.L)) ∧ w'.cell? ⟨ku, 1, none⟩ = some (.string (mk u.t.S)) ∧ w'.cell? ⟨ku, 2, none⟩ = some (.string (mk u.t.R)) ∧ w'.cell? ⟨ku, 3, none⟩ = some (.slice u.A u.t.vs.length u.c) ∧ ku < w'.heap.size ∧ w'.cell? ⟨kz, 0, none⟩ = some (.string (mk z.t.L)) ∧ w'.cell? ⟨kz, 1, none⟩ = some (.string (mk z.t.S)) ∧ w'.cell? ⟨kz, 2, none⟩ = some (.string (mk z.t.R)) ∧ w'.cell? ⟨kz, 3, none⟩ = some (.slice z.A z.t.vs.length z.c) ∧ kz < w'.heap.size) (first | exact HS2.out _ (by repeat' first | assumption | with_reducible exact Below.refl _ _ | with_reducible apply Below.drew | with_reducible apply below_box1)) (first
                    | (go_at_call 10; (with_reducible refine (HSu.out _ (by repeat' first | assumption | with_reducible exact Below.refl _ _ | with_reducible apply Below.drew | with_reducible apply below_box1)).mono ?_); rintro e w8 ⟨rfl, b_w8⟩; have q_w8 : Below V2.heap.size V2 w8 := below_step (by repeat' first | assumption | with_reducible exact Below.refl _ _ | with_reducible apply Below.drew | with_reducible apply below_box1) b_w8)
                    | (go_at_call 10; (with_reducible refine (HSz.out _ (by repeat' first | assumption | with_reducible exact Below.refl _ _ | with_reducible apply Below.drew | with_reducible apply below_box1)).mono ?_); rintro e w9 ⟨rfl, b_w9⟩; have q_w9 : Below V2.heap.size V2 w9 := below_step (by repeat' first | assumption | with_reducible exact Below.refl _ _ | with_reducible apply Below.drew | with_reducible apply below_box1) b_w9))
                  all_goals
                    go_wp2_with fail
                    exact ⟨⟨j + 1, by go_num, by omega, Lib.hid (HBv.out.trans (Below.mono (by repeat' first | assumption | with_reducible exact Below.refl _ _ | with_reducible apply Below.drew | with_reducible apply below_box1) HBv.out.size))⟩, by simp [intOf]; omega⟩
                · obtain rfl : i = j := by omega
                  have f5 : decide ((i : Int) < (i : Int)) = false := decide_eq_false (by omega)
                  have HQ := Lib.hid hqg
                  have HKz3 := Lib.hid (HKz.out.on HBj.out)
                  have HKy3 := Lib.hid (HKg.out.on hqg)
                  have HZ3 := Lib.hid (HZA.out.later hqg)
                  have HY3 := Lib.hid (HYg.out.later hqg)
                  obtain ⟨e, he⟩ : ∃ e, decide (z.t.text = y.t.text) = e := ⟨_, rfl⟩
                  have he2 : ((mk z.t.text).toList == (mk y.t.text).toList) = e := by rw [eqB]; exact he
                  have HEe := Lib.hid he
                  clear hqg he HKz HBj HCs HB1
                  cases b with
                  | true =>
                    have p0 := (HKz3.out.s4 (Below.refl _ _)).1
                    have p1 := (HKz3.out.s4 (Below.refl _ _)).2.1
                    have p2 := (HKz3.out.s4 (Below.refl _ _)).2.2.1
                    have p3 := (HKz3.out.s4 (Below.refl _ _)).2.2.2.1
                    have pz := (HKz3.out.s4 (Below.refl _ _)).2.2.2.2
                    have r0 := (HKy3.out.s4 (Below.refl _ _)).1
                    have r1 := (HKy3.out.s4 (Below.refl _ _)).2.1
                    have r2 := (HKy3.out.s4 (Below.refl _ _)).2.2.1
                    have r3 := (HKy3.out.s4 (Below.refl _ _)).2.2.2.1
                    have rz := (HKy3.out.s4 (Below.refl _ _)).2.2.2.2
                    go_wp2_with fail
                    go_quiet (fail)
                    go_wp2_with fail
                    obtain ⟨V4, hV4⟩ : ∃ V4, wr.drewN nq = V4 := ⟨_, rfl⟩
                    rw [hV4]
                    have hq4 : Below wr.heap.size wr V4 := by rw [← hV4]; exact below_drewN (Below.refl _ _) _
                    clear hV4
                    have HQ4 := Lib.hid (below_step HQ.out hq4)
                    have HKz4 := Lib.hid (HKz3.out.on hq4)
                    have HKy4 := Lib.hid (HKy3.out.on hq4)
                    have HZ4 := Lib.hid (HZ3.out.later hq4)
                    have HY4 := Lib.hid (HY3.out.later hq4)
                    clear p0 p1 p2 p3 pz r0 r1 r2 r3 rz hq4 HQ HKz3 HKy3 HZ3 HY3
                    have HSz4 := Lib.hid (fun (W : World) (q : Below V4.heap.size V4 W) => stringG (HZ4.out.later q))
                    have HSy4 := Lib.hid (fun (W : World) (q : Below V4.heap.size V4 W) => stringG (HY4.out.later q))
                    have p0 := (HKz4.out.s4 (Below.refl _ _)).1
                    have p1 := (HKz4.out.s4 (Below.refl _ _)).2.1
                    have p2 := (HKz4.out.s4 (Below.refl _ _)).2.2.1
                    have p3 := (HKz4.out.s4 (Below.refl _ _)).2.2.2.1
                    have pz := (HKz4.out.s4 (Below.refl _ _)).2.2.2.2
                    have r0 := (HKy4.out.s4 (Below.refl _ _)).1
                    have r1 := (HKy4.out.s4 (Below.refl _ _)).2.1
                    have r2 := (HKy4.out.s4 (Below.refl _ _)).2.2.1
                    have r3 := (HKy4.out.s4 (Below.refl _ _)).2.2.2.1
                    have rz := (HKy4.out.s4 (Below.refl _ _)).2.2.2.2
                    have HS4 := Lib.hid (show ∀ w', Below V4.heap.size V4 w' → (w'.cell? ⟨kz, 0, none⟩ = some (.string (mk z.t.L)) ∧ w'.cell? ⟨kz, 1, none⟩ = some (.string (mk z.t.S)) ∧ w'.cell? ⟨kz, 2, none⟩ = some (.string (mk z.t.R)) ∧ w'.cell? ⟨kz, 3, none⟩ = some (.slice z.A z.t.vs.length z.c) ∧ kz < w'.heap.size ∧ w'.cell? ⟨m, 0, none⟩ = some (.string (mk y.t.L)) ∧ w'.cell? ⟨m, 1, none⟩ = some (.string (mk y.t.S)) ∧ w'.cell? ⟨m, 2, none⟩ = some (.string (mk y.t.R)) ∧ w'.cell? ⟨m, 3, none⟩ = some (.slice y.A y.t.vs.length y.c) ∧ m < w'.heap.size) from fun w' q => by
                      have k0 := (HKz4.out).s4 q
                      have k1 := (HKy4.out).s4 q
                      exact ⟨k0.1, k0.2.1, k0.2.2.1, k0.2.2.2.1, k0.2.2.2.2, k1.1, k1.2.1, k1.2.2.1, k1.2.2.2.1, k1.2.2.2.2⟩)
                    go_region_held3 (fun w' => w'.cell? ⟨kz, 0, none⟩ = some (.string (mk z.t.L)) ∧ w'.cell? ⟨kz, 1, none⟩ = some (.string (mk z.t.S)) ∧ w'.cell? ⟨kz, 2, none⟩ = some (.string (mk z.t.R)) ∧ w'.cell? ⟨kz, 3, none⟩ = some (.slice z.A z.t.vs.length z.c) ∧ kz < w'.heap.size ∧ w'.cell? ⟨m, 0, none⟩ = some (.string (mk y.t.L)) ∧ w'.cell? ⟨m, 1, none⟩ = some (.string (mk y.t.S)) ∧ w'.cell? ⟨m, 2, none⟩ = some (.string (mk y.t.R)) ∧ w'.cell? ⟨m, 3, none⟩ = some (.slice y.A y.t.vs.length y.c) ∧ m < w'.heap.size) (first | exact HS4.out _ (by repeat' first | assumption | with_reducible exact Below.refl _ _ | with_reducible apply Below.drew | with_reducible apply below_box1)) (first
                      | (go_at_call 10; (with_reducible refine (HSz4.out _ (by repeat' first | assumption | with_reducible exact Below.refl _ _ | with_reducible apply Below.drew | with_reducible apply below_box1)).mono ?_); rintro e w10 ⟨rfl, b_w10⟩; have q_w10 : Below V4.heap.size V4 w10 := below_step (by repeat' first | assumption | with_reducible exact Below.refl _ _ | with_reducible apply Below.drew | with_reducible apply below_box1) b_w10)
                      | (go_at_call 10; (with_reducible refine (HSy4.out _ (by repeat' first | assumption | with_reducible exact Below.refl _ _ | with_reducible apply Below.drew | with_reducible apply below_box1)).mono ?_); rintro e w11 ⟨rfl, b_w11⟩; have q_w11 : Below V4.heap.size V4 w11 := below_step (by repeat' first | assumption | with_reducible exact Below.refl _ _ | with_reducible apply Below.drew | with_reducible apply below_box1) b_w11))
                    have hq11 : Below V4.heap.size V4 w11 := q_w11
                    have HQ11 := Lib.hid (below_step HQ4.out hq11)
                    have HKz11 := Lib.hid (HKz4.out.on hq11)
                    have HZ11 := Lib.hid (HZ4.out.later hq11)
                    clear p0 p1 p2 p3 pz r0 r1 r2 r3 rz hq11 HQ4 HKz4 HKy4 HZ4 HY4 HSz4 HSy4 HS4 b_w10 q_w10 b_w11 q_w11
                    have HBw11 := Lib.hid (HBg.out.trans (HQ11.out.mono HBg.out.size))
                    have HTt11 := Lib.hid (tags_any vb ts w11 (HItg.out.later HQ11.out) (by omega) (fun s hs => by have := HLt.out s hs; omega) (HM.out.on HBw11.out))
                    go_wp2_with fail
                    go_at_call 9
                    refine HTt11.out.mono ?_
                    rintro e' w12 ⟨ux, X, rfl, hox, hmx, hax, b12⟩
                    have hxl := len_of hmx hlt20
                    obtain ⟨Ax, cx, rfl, hcx, hcsx⟩ := hox.at_
                    have HCx2 := Lib.hid hcsx
                    have HMx := Lib.hid hmx
                    have HAx := Lib.hid hax
                    have HQ12 := Lib.hid (below_step HQ11.out b12)
                    have HKz12 := Lib.hid (HKz11.out.on b12)
                    have HZ12 := Lib.hid (HZ11.out.later b12)
                    clear hox hmx hax b12 hcsx HTt11 HQ11 HKz11 HZ11 HBw11
                    have hx0 : (X.length : Int) ≤ 20 := by omega
                    go_wp2_with fail
                    go_loopw [15, 85] (fun t15 t85 wr => ∃ (j : Nat) (c : Bool), t15 = .bool c ∧ t85 = .int .i64 j ∧ j ≤ X.length ∧ Hid (c = (e || (X.take j).any (fun x => (tagsOf ws).any (fun v => tieB z.t x.t v)))) ∧ Hid (Below w12.heap.size w12 wr)) (fun _ t85 _ => X.length - (intOf t85).toNat)
                    case atStart => exact ⟨0, e, rfl, rfl, Nat.zero_le _, Lib.hid (by simp), Lib.hid (Below.refl _ _)⟩
                    case round =>
                      obtain ⟨j, c, rfl, rfl, hj, HC, HBj⟩ := hrel
                      have hj0 : (j : Int) ≤ 20 := by omega
                      by_cases hjx : j < X.length
                      · have f5 : decide ((j : Int) < (X.length : Int)) = true := decide_eq_true (by omega)
                        have f6 : (j : Int) < (X.length : Int) := by omega
                        obtain ⟨x, hx⟩ : ∃ x, X[j]? = some x := ⟨_, List.getElem?_eq_getElem hjx⟩
                        obtain ⟨bx, rfl, hbx, hcx3⟩ := HCx2.out (by omega)
                        obtain ⟨g0, g1, g2, g3⟩ := hcx3 j x hx
                        have g0 := (HBj.out.cell (p := ⟨bx, j * 4, none⟩) hbx).trans g0
                        have g1 := (HBj.out.cell (p := ⟨bx, j * 4 + 1, none⟩) hbx).trans g1
                        have g2 := (HBj.out.cell (p := ⟨bx, j * 4 + 2, none⟩) hbx).trans g2
                        have g3 := (HBj.out.cell (p := ⟨bx, j * 4 + 3, none⟩) hbx).trans g3
                        have hgr : bx < wr.heap.size := Nat.lt_of_lt_of_le hbx HBj.out.size
                        have hW := below_box1 (Below.refl wr.heap.size wr) (tgObj x)
                        have HXA := Lib.hid (((HAx.out x (List.mem_of_getElem? hx)).later HBj.out).later hW)
                        have HZ6 := Lib.hid ((HZ12.out.later HBj.out).later hW)
                        have HKz6 := Lib.hid ((HKz12.out.on HBj.out).on hW)
                        have HQ6 := Lib.hid (below_step (below_step HQ12.out HBj.out) hW)
                        have HBj6 := Lib.hid (below_step HBj.out hW)
                        have HXx := Lib.hid hx
                        clear hcx3 hx hbx HBj
                        go_upto_region 24 with fail
                        have hkx : TgBox (wr.alloc (tgObj x)) wr.heap.size x := BoxAt.new _ _ _
                        clear g0 g1 g2 g3 hgr hW
                        generalize wr.alloc (tgObj x) = V6 at *
                        generalize wr.heap.size = kx at *
                        have HKx6 := Lib.hid hkx
                        clear hkx
                        have HTw6 := Lib.hid (tags_any va ws V6 (HIwg.out.later HQ6.out) (by omega) (fun s hs => by have := HLw.out s hs; omega) (HM.out.on (HBg.out.trans (HQ6.out.mono HBg.out.size))))
                        go_wp2_with fail
                        go_at_call 9
                        refine HTw6.out.mono ?_
                        rintro e' w13 ⟨uy, Y, rfl, hoy, hmy, hay, b13⟩
                        have hyl := len_of hmy hlw
                        obtain ⟨Ay, cy, rfl, hcy, hcsy⟩ := hoy.at_
                        have HCy := Lib.hid hcsy
                        have HMy := Lib.hid hmy
                        have HAy := Lib.hid hay
                        have HQ13 := Lib.hid (below_step HQ6.out b13)
                        have HBj13 := Lib.hid (below_step HBj6.out b13)
                        have HKz13 := Lib.hid (HKz6.out.on b13)
                        have HKx13 := Lib.hid (HKx6.out.on b13)
                        have HZ13 := Lib.hid (HZ6.out.later b13)
                        have HX13 := Lib.hid (HXA.out.later b13)
                        clear hoy hmy hay b13 hcsy HTw6 HQ6 HKz6 HZ6 HKx6 HXA HBj6
                        have hy0 : (Y.length : Int) ≤ 20 := by omega
                        go_wp2_with fail
                        go_loopw [15, 92] (fun t15 t92 wr => ∃ (k : Nat) (c' : Bool), t15 = .bool c' ∧ t92 = .int .i64 k ∧ k ≤ Y.length ∧ Hid (c' = (c || (Y.take k).any (fun v => tieB z.t x.t v.t))) ∧ Hid (Below w13.heap.size w13 wr)) (fun _ t92 _ => Y.length - (intOf t92).toNat)
                        case atStart => exact ⟨0, c, rfl, rfl, Nat.zero_le _, Lib.hid (by simp), Lib.hid (Below.refl _ _)⟩
                        case round =>
                          obtain ⟨k, c', rfl, rfl, hk, HC2, HBk⟩ := hrel
                          have hk0 : (k : Int) ≤ 20 := by omega
                          by_cases hky : k < Y.length
                          · have f7 : decide ((k : Int) < (Y.length : Int)) = true := decide_eq_true (by omega)
                            have f8 : (k : Int) < (Y.length : Int) := by omega
                            obtain ⟨v, hv⟩ : ∃ v, Y[k]? = some v := ⟨_, List.getElem?_eq_getElem hky⟩
                            obtain ⟨bv, rfl, hbv, hcv3⟩ := HCy.out (by omega)
                            obtain ⟨g0, g1, g2, g3⟩ := hcv3 k v hv
                            have g0 := (HBk.out.cell (p := ⟨bv, k * 4, none⟩) hbv).trans g0
                            have g1 := (HBk.out.cell (p := ⟨bv, k * 4 + 1, none⟩) hbv).trans g1
                            have g2 := (HBk.out.cell (p := ⟨bv, k * 4 + 2, none⟩) hbv).trans g2
                            have g3 := (HBk.out.cell (p := ⟨bv, k * 4 + 3, none⟩) hbv).trans g3
                            have hgr : bv < wr.heap.size := Nat.lt_of_lt_of_le hbv HBk.out.size
                            have hW := below_box1 (Below.refl wr.heap.size wr) (tgObj v)
                            have HVA := Lib.hid (((HAy.out v (List.mem_of_getElem? hv)).later HBk.out).later hW)
                            have HZ7 := Lib.hid ((HZ13.out.later HBk.out).later hW)
                            have HX7 := Lib.hid ((HX13.out.later HBk.out).later hW)
                            have HKz7 := Lib.hid ((HKz13.out.on HBk.out).on hW)
                            have HKx7 := Lib.hid ((HKx13.out.on HBk.out).on hW)
                            have HBk7 := Lib.hid (below_step HBk.out hW)
                            have HAt := Lib.hid (any_take (fun v : TG => tieB z.t x.t v.t) hv)
                            clear hcv3 hv hbv HBk
                            go_upto_region 27 with fail
                            have hkv : TgBox (wr.alloc (tgObj v)) wr.heap.size v := BoxAt.new _ _ _
                            clear g0 g1 g2 g3 hgr hW
                            generalize wr.alloc (tgObj v) = V7 at *
                            generalize wr.heap.size = kv at *
                            have HKv7 := Lib.hid hkv
                            clear hkv
                            obtain ⟨tx, htx⟩ : ∃ tx, decide (x.t.text = z.t.text) = tx := ⟨_, rfl⟩
                            have htx2 : ((mk x.t.text).toList == (mk z.t.text).toList) = tx := by rw [eqB]; exact htx
                            obtain ⟨p1, hp1⟩ : ∃ p, fitsT z.t v.t = p := ⟨_, rfl⟩
                            obtain ⟨p2, hp2⟩ : ∃ p, fitsT v.t z.t = p := ⟨_, rfl⟩
                            have HTie := Lib.hid (show tieB z.t x.t v.t = (tx && (p1 || p2)) by unfold tieB; rw [htx, hp1, hp2])
                            have HSx7 := Lib.hid (fun (W : World) (q : Below V7.heap.size V7 W) => stringG (HX7.out.later q))
                            have HSz7 := Lib.hid (fun (W : World) (q : Below V7.heap.size V7 W) => stringG (HZ7.out.later q))
                            have hF1 := fun (W : World) (q : Below V7.heap.size V7 W) => fitsTo HZ7.out.ok HVA.out.ok (HZ7.out.later q).vs (HVA.out.later q).vs
                            have hF2 := fun (W : World) (q : Below V7.heap.size V7 W) => fitsTo HVA.out.ok HZ7.out.ok (HVA.out.later q).vs (HZ7.out.later q).vs
                            rw [hp1] at hF1
                            rw [hp2] at hF2
                            have HF1 := Lib.hid hF1
                            have HF2 := Lib.hid hF2
                            clear hF1 hF2 htx hp1 hp2
                            have a0 := (HKx7.out.s4 (Below.refl _ _)).1
                            have a1 := (HKx7.out.s4 (Below.refl _ _)).2.1
                            have a2 := (HKx7.out.s4 (Below.refl _ _)).2.2.1
                            have a3 := (HKx7.out.s4 (Below.refl _ _)).2.2.2.1
                            have az := (HKx7.out.s4 (Below.refl _ _)).2.2.2.2
                            have d0 := (HKz7.out.s4 (Below.refl _ _)).1
                            have d1 := (HKz7.out.s4 (Below.refl _ _)).2.1
                            have d2 := (HKz7.out.s4 (Below.refl _ _)).2.2.1
                            have d3 := (HKz7.out.s4 (Below.refl _ _)).2.2.2.1
                            have dz := (HKz7.out.s4 (Below.refl _ _)).2.2.2.2
                            have q0 := (HKv7.out.s4 (Below.refl _ _)).1
                            have q1 := (HKv7.out.s4 (Below.refl _ _)).2.1
                            have q2 := (HKv7.out.s4 (Below.refl _ _)).2.2.1
                            have q3 := (HKv7.out.s4 (Below.refl _ _)).2.2.2.1
                            have qz := (HKv7.out.s4 (Below.refl _ _)).2.2.2.2
                            cases c' with
                            | true =>
                              go_quiet (fail)
                              go_wp2_with fail
                              refine ⟨⟨k + 1, true, rfl, by go_num, hky, Lib.hid ?_, Lib.hid (below_drewN HBk7.out _)⟩, by simp [intOf]; omega⟩
                              rw [HAt.out, ← Bool.or_assoc, ← HC2.out]; rfl
                            | false =>
                              cases tx with
                              | false =>
                                have HS7 := Lib.hid (show ∀ w', Below V7.heap.size V7 w' → (w'.cell? ⟨kx, 0, none⟩ = some (.string (mk x.t.L)) ∧ w'.cell? ⟨kx, 1, none⟩ = some (.string (mk x.t.S)) ∧ w'.cell? ⟨kx, 2, none⟩ = some (.string (mk x.t.R)) ∧ w'.cell? ⟨kx, 3, none⟩ = some (.slice x.A x.t.vs.length x.c) ∧ kx < w'.heap.size ∧ w'.cell? ⟨kz, 0, none⟩ = some (.string (mk z.t.L)) ∧ w'.cell? ⟨kz, 1, none⟩ = some (.string (mk z.t.S)) ∧ w'.cell? ⟨kz, 2, none⟩ = some (.string (mk z.t.R)) ∧ w'.cell? ⟨kz, 3, none⟩ = some (.slice z.A z.t.vs.length z.c) ∧ kz < w'.heap.size ∧ w'.cell? ⟨kv, 0, none⟩ = some (.string (mk v.t.L)) ∧ w'.cell? ⟨kv, 1, none⟩ = some (.string (mk v.t.S)) ∧ w'.cell? ⟨kv, 2, none⟩ = some (.string (mk v.t.R)) ∧ w'.cell? ⟨kv, 3, none⟩ = some (.slice v.A v.t.vs.length v.c) ∧ kv < w'.heap.size) from fun w' q => by
                                  have k0 := (HKx7.out).s4 q
                                  have k1 := (HKz7.out).s4 q
                                  have k2 := (HKv7.out).s4 q
                                  exact ⟨k0.1, k0.2.1, k0.2.2.1, k0.2.2.2.1, k0.2.2.2.2, k1.1, k1.2.1, k1.2.2.1, k1.2.2.2.1, k1.2.2.2.2, k2.1, k2.2.1, k2.2.2.1, k2.2.2.2.1, k2.2.2.2.2⟩)
                                have hq0 : Below V7.heap.size V7 V7.drew := (Below.refl _ _).drew
                                refine wp_region_held_drew (S := (fun w' => w'.cell? ⟨kx, 0, none⟩ = some (.string (mk x.t.L)) ∧ w'.cell? ⟨kx, 1, none⟩ = some (.string (mk x.t.S)) ∧ w'.cell? ⟨kx, 2, none⟩ = some (.string (mk x.t.R)) ∧ w'.cell? ⟨kx, 3, none⟩ = some (.slice x.A x.t.vs.length x.c) ∧ kx < w'.heap.size ∧ w'.cell? ⟨kz, 0, none⟩ = some (.string (mk z.t.L)) ∧ w'.cell? ⟨kz, 1, none⟩ = some (.string (mk z.t.S)) ∧ w'.cell? ⟨kz, 2, none⟩ = some (.string (mk z.t.R)) ∧ w'.cell? ⟨kz, 3, none⟩ = some (.slice z.A z.t.vs.length z.c) ∧ kz < w'.heap.size ∧ w'.cell? ⟨kv, 0, none⟩ = some (.string (mk v.t.L)) ∧ w'.cell? ⟨kv, 1, none⟩ = some (.string (mk v.t.S)) ∧ w'.cell? ⟨kv, 2, none⟩ = some (.string (mk v.t.R)) ∧ w'.cell? ⟨kv, 3, none⟩ = some (.slice v.A v.t.vs.length v.c) ∧ kv < w'.heap.size)) (by kernel_rfl) (HS7.out _ hq0) (fun hHeld => ?_)
                                refine wpAnyH_take (i := 0) (v := ?_) rfl (by kernel_rfl) (by kernel_rfl) (by kernel_rfl) (fun _ _ _ h => h) (Or.inl ⟨by kernel_rfl, ?_⟩) (by assumption) ?_
                                rotate_left
                                · intro w0 hSw; (try dsimp only at hSw); (go_simp <;> with_reducible rfl)
                                try simp only [Act.put, List.setIfInBounds_toArray, List.set_cons_zero, List.set_cons_succ]
                                refine wpAnyH_take (i := 1) (v := ?_) rfl (by kernel_rfl) (by kernel_rfl) (by kernel_rfl) (fun _ _ _ h => h) (Or.inl ⟨by kernel_rfl, ?_⟩) (by assumption) ?_
                                rotate_left
                                · intro w0 hSw; (try dsimp only at hSw); (go_simp <;> with_reducible rfl)
                                try simp only [Act.put, List.setIfInBounds_toArray, List.set_cons_zero, List.set_cons_succ]
                                refine wpAnyH_take (i := 2) (v := ?_) rfl (by kernel_rfl) (by kernel_rfl) (by kernel_rfl) (fun _ _ _ h => h) (Or.inl ⟨by kernel_rfl, ?_⟩) (by assumption) ?_
                                rotate_left
                                · intro w0 hSw; (try dsimp only at hSw); (go_simp <;> with_reducible rfl)
                                try simp only [Act.put, List.setIfInBounds_toArray, List.set_cons_zero, List.set_cons_succ]
                                refine wpAnyH_take (i := 4) (v := ?_) rfl (by kernel_rfl) (by kernel_rfl) (by kernel_rfl) (fun _ _ _ h => h) (Or.inl ⟨by kernel_rfl, ?_⟩) (by assumption) ?_
                                rotate_left
                                · intro w0 hSw; (try dsimp only at hSw); (go_simp <;> with_reducible rfl)
                                try simp only [Act.put, List.setIfInBounds_toArray, List.set_cons_zero, List.set_cons_succ]
                                refine wpAnyH_ready (rs := [3]) (by kernel_rfl) (by simp) ?_
                                refine AllReadyH.cons rfl (fun K hK => ?_) AllReadyH.nil
                                go_simp
                                go_at_call 10
                                refine (HSx7.out _ hq0).mono ?_
                                rintro e' w21 ⟨rfl, b_w21⟩
                                have q_w21 : Below V7.heap.size V7 w21 := below_step hq0 b_w21
                                go_wp2_with fail
                                refine hK.out _ _ (HS7.out _ q_w21) (fun hHeld2 => ?_)
                                clear hHeld hK K
                                have hHeld := hHeld2
                                clear hHeld2
                                try simp only [Act.put, List.setIfInBounds_toArray, List.set_cons_zero, List.set_cons_succ]
                                refine wpAnyH_ready (rs := [5]) (by kernel_rfl) (by simp) ?_
                                refine AllReadyH.cons rfl (fun K hK => ?_) AllReadyH.nil
                                go_simp
                                go_at_call 10
                                refine (HSz7.out _ q_w21).mono ?_
                                rintro e' w22 ⟨rfl, b_w22⟩
                                have q_w22 : Below V7.heap.size V7 w22 := below_step q_w21 b_w22
                                go_wp2_with fail
                                refine hK.out _ _ (HS7.out _ q_w22) (fun hHeld2 => ?_)
                                clear hHeld hK K
                                have hHeld := hHeld2
                                clear hHeld2
                                try simp only [Act.put, List.setIfInBounds_toArray, List.set_cons_zero, List.set_cons_succ]
                                refine wpAnyH_take (i := 6) (v := ?_) rfl (by kernel_rfl) (by kernel_rfl) (by kernel_rfl) (fun _ _ _ h => h) (Or.inl ⟨by kernel_rfl, ?_⟩) (by assumption) ?_
                                rotate_left
                                · intro w0 hSw; (try dsimp only at hSw); (go_simp <;> with_reducible rfl)
                                try simp only [Act.put, List.setIfInBounds_toArray, List.set_cons_zero, List.set_cons_succ]
                                refine wpAnyH_take (i := 7) (v := ?_) rfl (by kernel_rfl) (by kernel_rfl) (by kernel_rfl) (fun _ _ _ h => h) (Or.inl ⟨by kernel_rfl, ?_⟩) (by assumption) ?_
                                rotate_left
                                · intro w0 hSw; (try dsimp only at hSw); (go_simp <;> with_reducible rfl)
                                try simp only [Act.put, List.setIfInBounds_toArray, List.set_cons_zero, List.set_cons_succ]
                                refine wpAnyH_take (i := 8) (v := undef) rfl (by kernel_rfl) (by kernel_rfl) (by kernel_rfl) (fun _ _ _ h => h) (Or.inr ⟨by kernel_rfl, rfl⟩) (by assumption) ?_
                                try simp only [Act.put, List.setIfInBounds_toArray, List.set_cons_zero, List.set_cons_succ]
                                refine wpAnyH_take (i := 9) (v := undef) rfl (by kernel_rfl) (by kernel_rfl) (by kernel_rfl) (fun _ _ _ h => h) (Or.inr ⟨by kernel_rfl, rfl⟩) (by assumption) ?_
                                try simp only [Act.put, List.setIfInBounds_toArray, List.set_cons_zero, List.set_cons_succ]
                                refine wpAnyH_take (i := 10) (v := undef) rfl (by kernel_rfl) (by kernel_rfl) (by kernel_rfl) (fun _ _ _ h => h) (Or.inr ⟨by kernel_rfl, rfl⟩) (by assumption) ?_
                                try simp only [Act.put, List.setIfInBounds_toArray, List.set_cons_zero, List.set_cons_succ]
                                refine wpAnyH_take (i := 11) (v := undef) rfl (by kernel_rfl) (by kernel_rfl) (by kernel_rfl) (fun _ _ _ h => h) (Or.inr ⟨by kernel_rfl, rfl⟩) (by assumption) ?_
                                try simp only [Act.put, List.setIfInBounds_toArray, List.set_cons_zero, List.set_cons_succ]
                                refine wpAnyH_take (i := 12) (v := undef) rfl (by kernel_rfl) (by kernel_rfl) (by kernel_rfl) (fun _ _ _ h => h) (Or.inr ⟨by kernel_rfl, rfl⟩) (by assumption) ?_
                                try simp only [Act.put, List.setIfInBounds_toArray, List.set_cons_zero, List.set_cons_succ]
                                refine wpAnyH_take (i := 13) (v := undef) rfl (by kernel_rfl) (by kernel_rfl) (by kernel_rfl) (fun _ _ _ h => h) (Or.inr ⟨by kernel_rfl, rfl⟩) (by assumption) ?_
                                try simp only [Act.put, List.setIfInBounds_toArray, List.set_cons_zero, List.set_cons_succ]
                                refine wpAnyH_take (i := 14) (v := undef) rfl (by kernel_rfl) (by kernel_rfl) (by kernel_rfl) (fun _ _ _ h => h) (Or.inr ⟨by kernel_rfl, rfl⟩) (by assumption) ?_
                                try simp only [Act.put, List.setIfInBounds_toArray, List.set_cons_zero, List.set_cons_succ]
                                refine wpAnyH_take (i := 15) (v := undef) rfl (by kernel_rfl) (by kernel_rfl) (by kernel_rfl) (fun _ _ _ h => h) (Or.inr ⟨by kernel_rfl, rfl⟩) (by assumption) ?_
                                try simp only [Act.put, List.setIfInBounds_toArray, List.set_cons_zero, List.set_cons_succ]
                                refine wpAnyH_take (i := 16) (v := ?_) rfl (by kernel_rfl) (by kernel_rfl) (by kernel_rfl) (fun _ _ _ h => h) (Or.inl ⟨by kernel_rfl, ?_⟩) (by assumption) ?_
                                rotate_left
                                · intro w0 hSw; (try dsimp only at hSw); (go_simp <;> with_reducible rfl)
                                try simp only [Act.put, List.setIfInBounds_toArray, List.set_cons_zero, List.set_cons_succ]
                                refine wpAnyH_take (i := 17) (v := ?_) rfl (by kernel_rfl) (by kernel_rfl) (by kernel_rfl) (fun _ _ _ h => h) (Or.inl ⟨by kernel_rfl, ?_⟩) (by assumption) ?_
                                rotate_left
                                · intro w0 hSw; (try dsimp only at hSw); (go_simp <;> with_reducible rfl)
                                try simp only [Act.put, List.setIfInBounds_toArray, List.set_cons_zero, List.set_cons_succ]
                                refine wpAnyH_take (i := 18) (v := ?_) rfl (by kernel_rfl) (by kernel_rfl) (by kernel_rfl) (fun _ _ _ h => h) (Or.inl ⟨by kernel_rfl, ?_⟩) (by assumption) ?_
                                rotate_left
                                · intro w0 hSw; (try dsimp only at hSw); (go_simp <;> with_reducible rfl)
                                try simp only [Act.put, List.setIfInBounds_toArray, List.set_cons_zero, List.set_cons_succ]
                                refine wpAnyH_done (by kernel_rfl) ?_ _
                                all_goals
                                  go_wp2_with fail
                                  refine ⟨⟨k + 1, _, rfl, by go_num, hky, Lib.hid ?_, Lib.hid (HBk7.out.trans (Below.mono (by repeat' first | assumption | with_reducible exact Below.refl _ _ | with_reducible apply Below.drew | with_reducible apply below_box1) HBk7.out.size))⟩, by simp [intOf]; omega⟩
                                  rw [HAt.out, ← Bool.or_assoc, ← HC2.out, HTie.out]
                                  simp
                              | true =>
                                cases p1 with
                                | true =>
                                  have HS7 := Lib.hid (show ∀ w', Below V7.heap.size V7 w' → (w'.cell? ⟨kx, 0, none⟩ = some (.string (mk x.t.L)) ∧ w'.cell? ⟨kx, 1, none⟩ = some (.string (mk x.t.S)) ∧ w'.cell? ⟨kx, 2, none⟩ = some (.string (mk x.t.R)) ∧ w'.cell? ⟨kx, 3, none⟩ = some (.slice x.A x.t.vs.length x.c) ∧ kx < w'.heap.size ∧ w'.cell? ⟨kz, 0, none⟩ = some (.string (mk z.t.L)) ∧ w'.cell? ⟨kz, 1, none⟩ = some (.string (mk z.t.S)) ∧ w'.cell? ⟨kz, 2, none⟩ = some (.string (mk z.t.R)) ∧ w'.cell? ⟨kz, 3, none⟩ = some (.slice z.A z.t.vs.length z.c) ∧ kz < w'.heap.size ∧ w'.cell? ⟨kv, 0, none⟩ = some (.string (mk v.t.L)) ∧ w'.cell? ⟨kv, 1, none⟩ = some (.string (mk v.t.S)) ∧ w'.cell? ⟨kv, 2, none⟩ = some (.string (mk v.t.R)) ∧ w'.cell? ⟨kv, 3, none⟩ = some (.slice v.A v.t.vs.length v.c) ∧ kv < w'.heap.size) from fun w' q => by
                                    have k0 := (HKx7.out).s4 q
                                    have k1 := (HKz7.out).s4 q
                                    have k2 := (HKv7.out).s4 q
                                    exact ⟨k0.1, k0.2.1, k0.2.2.1, k0.2.2.2.1, k0.2.2.2.2, k1.1, k1.2.1, k1.2.2.1, k1.2.2.2.1, k1.2.2.2.2, k2.1, k2.2.1, k2.2.2.1, k2.2.2.2.1, k2.2.2.2.2⟩)
                                  have hq0 : Below V7.heap.size V7 V7.drew := (Below.refl _ _).drew
                                  refine wp_region_held_drew (S := (fun w' => w'.cell? ⟨kx, 0, none⟩ = some (.string (mk x.t.L)) ∧ w'.cell? ⟨kx, 1, none⟩ = some (.string (mk x.t.S)) ∧ w'.cell? ⟨kx, 2, none⟩ = some (.string (mk x.t.R)) ∧ w'.cell? ⟨kx, 3, none⟩ = some (.slice x.A x.t.vs.length x.c) ∧ kx < w'.heap.size ∧ w'.cell? ⟨kz, 0, none⟩ = some (.string (mk z.t.L)) ∧ w'.cell? ⟨kz, 1, none⟩ = some (.string (mk z.t.S)) ∧ w'.cell? ⟨kz, 2, none⟩ = some (.string (mk z.t.R)) ∧ w'.cell? ⟨kz, 3, none⟩ = some (.slice z.A z.t.vs.length z.c) ∧ kz < w'.heap.size ∧ w'.cell? ⟨kv, 0, none⟩ = some (.string (mk v.t.L)) ∧ w'.cell? ⟨kv, 1, none⟩ = some (.string (mk v.t.S)) ∧ w'.cell? ⟨kv, 2, none⟩ = some (.string (mk v.t.R)) ∧ w'.cell? ⟨kv, 3, none⟩ = some (.slice v.A v.t.vs.length v.c) ∧ kv < w'.heap.size)) (by kernel_rfl) (HS7.out _ hq0) (fun hHeld => ?_)
                                  refine wpAnyH_take (i := 0) (v := ?_) rfl (by kernel_rfl) (by kernel_rfl) (by kernel_rfl) (fun _ _ _ h => h) (Or.inl ⟨by kernel_rfl, ?_⟩) (by assumption) ?_
                                  rotate_left
                                  · intro w0 hSw; (try dsimp only at hSw); (go_simp <;> with_reducible rfl)
                                  try simp only [Act.put, List.setIfInBounds_toArray, List.set_cons_zero, List.set_cons_succ]
                                  refine wpAnyH_take (i := 1) (v := ?_) rfl (by kernel_rfl) (by kernel_rfl) (by kernel_rfl) (fun _ _ _ h => h) (Or.inl ⟨by kernel_rfl, ?_⟩) (by assumption) ?_
                                  rotate_left
                                  · intro w0 hSw; (try dsimp only at hSw); (go_simp <;> with_reducible rfl)
                                  try simp only [Act.put, List.setIfInBounds_toArray, List.set_cons_zero, List.set_cons_succ]
                                  refine wpAnyH_take (i := 2) (v := ?_) rfl (by kernel_rfl) (by kernel_rfl) (by kernel_rfl) (fun _ _ _ h => h) (Or.inl ⟨by kernel_rfl, ?_⟩) (by assumption) ?_
                                  rotate_left
                                  · intro w0 hSw; (try dsimp only at hSw); (go_simp <;> with_reducible rfl)
                                  try simp only [Act.put, List.setIfInBounds_toArray, List.set_cons_zero, List.set_cons_succ]
                                  refine wpAnyH_take (i := 4) (v := ?_) rfl (by kernel_rfl) (by kernel_rfl) (by kernel_rfl) (fun _ _ _ h => h) (Or.inl ⟨by kernel_rfl, ?_⟩) (by assumption) ?_
                                  rotate_left
                                  · intro w0 hSw; (try dsimp only at hSw); (go_simp <;> with_reducible rfl)
                                  try simp only [Act.put, List.setIfInBounds_toArray, List.set_cons_zero, List.set_cons_succ]
                                  refine wpAnyH_ready (rs := [3]) (by kernel_rfl) (by simp) ?_
                                  refine AllReadyH.cons rfl (fun K hK => ?_) AllReadyH.nil
                                  go_simp
                                  go_at_call 10
                                  refine (HSx7.out _ hq0).mono ?_
                                  rintro e' w21 ⟨rfl, b_w21⟩
                                  have q_w21 : Below V7.heap.size V7 w21 := below_step hq0 b_w21
                                  go_wp2_with fail
                                  refine hK.out _ _ (HS7.out _ q_w21) (fun hHeld2 => ?_)
                                  clear hHeld hK K
                                  have hHeld := hHeld2
                                  clear hHeld2
                                  try simp only [Act.put, List.setIfInBounds_toArray, List.set_cons_zero, List.set_cons_succ]
                                  refine wpAnyH_ready (rs := [5]) (by kernel_rfl) (by simp) ?_
                                  refine AllReadyH.cons rfl (fun K hK => ?_) AllReadyH.nil
                                  go_simp
                                  go_at_call 10
                                  refine (HSz7.out _ q_w21).mono ?_
                                  rintro e' w22 ⟨rfl, b_w22⟩
                                  have q_w22 : Below V7.heap.size V7 w22 := below_step q_w21 b_w22
                                  go_wp2_with fail
                                  refine hK.out _ _ (HS7.out _ q_w22) (fun hHeld2 => ?_)
                                  clear hHeld hK K
                                  have hHeld := hHeld2
                                  clear hHeld2
                                  try simp only [Act.put, List.setIfInBounds_toArray, List.set_cons_zero, List.set_cons_succ]
                                  refine wpAnyH_take (i := 6) (v := ?_) rfl (by kernel_rfl) (by kernel_rfl) (by kernel_rfl) (fun _ _ _ h => h) (Or.inl ⟨by kernel_rfl, ?_⟩) (by assumption) ?_
                                  rotate_left
                                  · intro w0 hSw; (try dsimp only at hSw); (go_simp <;> with_reducible rfl)
                                  try simp only [Act.put, List.setIfInBounds_toArray, List.set_cons_zero, List.set_cons_succ]
                                  refine wpAnyH_take (i := 7) (v := ?_) rfl (by kernel_rfl) (by kernel_rfl) (by kernel_rfl) (fun _ _ _ h => h) (Or.inl ⟨by kernel_rfl, ?_⟩) (by assumption) ?_
                                  rotate_left
                                  · intro w0 hSw; (try dsimp only at hSw); (go_simp <;> with_reducible rfl)
                                  try simp only [Act.put, List.setIfInBounds_toArray, List.set_cons_zero, List.set_cons_succ]
                                  refine wpAnyH_take (i := 8) (v := ?_) rfl (by kernel_rfl) (by kernel_rfl) (by kernel_rfl) (fun _ _ _ h => h) (Or.inl ⟨by kernel_rfl, ?_⟩) (by assumption) ?_
                                  rotate_left
                                  · intro w0 hSw; (try dsimp only at hSw); (go_simp <;> with_reducible rfl)
                                  try simp only [Act.put, List.setIfInBounds_toArray, List.set_cons_zero, List.set_cons_succ]
                                  refine wpAnyH_take (i := 9) (v := ?_) rfl (by kernel_rfl) (by kernel_rfl) (by kernel_rfl) (fun _ _ _ h => h) (Or.inl ⟨by kernel_rfl, ?_⟩) (by assumption) ?_
                                  rotate_left
                                  · intro w0 hSw; (try dsimp only at hSw); (go_simp <;> with_reducible rfl)
                                  try simp only [Act.put, List.setIfInBounds_toArray, List.set_cons_zero, List.set_cons_succ]
                                  refine wpAnyH_ready (rs := [10]) (by kernel_rfl) (by simp) ?_
                                  refine AllReadyH.cons rfl (fun K hK => ?_) AllReadyH.nil
                                  go_simp
                                  go_at_call 11
                                  refine (HF1.out _ q_w22).mono ?_
                                  rintro e' w23 ⟨rfl, b_w23⟩
                                  have q_w23 : Below V7.heap.size V7 w23 := below_step q_w22 b_w23
                                  go_wp2_with fail
                                  refine hK.out _ _ (HS7.out _ q_w23) (fun hHeld2 => ?_)
                                  clear hHeld hK K
                                  have hHeld := hHeld2
                                  clear hHeld2
                                  try simp only [Act.put, List.setIfInBounds_toArray, List.set_cons_zero, List.set_cons_succ]
                                  refine wpAnyH_take (i := 11) (v := ?_) rfl (by kernel_rfl) (by kernel_rfl) (by kernel_rfl) (fun _ _ _ h => h) (Or.inl ⟨by kernel_rfl, ?_⟩) (by assumption) ?_
                                  rotate_left
                                  · intro w0 hSw; (try dsimp only at hSw); (go_simp <;> with_reducible rfl)
                                  try simp only [Act.put, List.setIfInBounds_toArray, List.set_cons_zero, List.set_cons_succ]
                                  refine wpAnyH_take (i := 12) (v := undef) rfl (by kernel_rfl) (by kernel_rfl) (by kernel_rfl) (fun _ _ _ h => h) (Or.inr ⟨by kernel_rfl, rfl⟩) (by assumption) ?_
                                  try simp only [Act.put, List.setIfInBounds_toArray, List.set_cons_zero, List.set_cons_succ]
                                  refine wpAnyH_take (i := 13) (v := undef) rfl (by kernel_rfl) (by kernel_rfl) (by kernel_rfl) (fun _ _ _ h => h) (Or.inr ⟨by kernel_rfl, rfl⟩) (by assumption) ?_
                                  try simp only [Act.put, List.setIfInBounds_toArray, List.set_cons_zero, List.set_cons_succ]
                                  refine wpAnyH_take (i := 14) (v := undef) rfl (by kernel_rfl) (by kernel_rfl) (by kernel_rfl) (fun _ _ _ h => h) (Or.inr ⟨by kernel_rfl, rfl⟩) (by assumption) ?_
                                  try simp only [Act.put, List.setIfInBounds_toArray, List.set_cons_zero, List.set_cons_succ]
                                  refine wpAnyH_take (i := 15) (v := ?_) rfl (by kernel_rfl) (by kernel_rfl) (by kernel_rfl) (fun _ _ _ h => h) (Or.inl ⟨by kernel_rfl, ?_⟩) (by assumption) ?_
                                  rotate_left
                                  · intro w0 hSw; (try dsimp only at hSw); (go_simp <;> with_reducible rfl)
                                  try simp only [Act.put, List.setIfInBounds_toArray, List.set_cons_zero, List.set_cons_succ]
                                  refine wpAnyH_take (i := 16) (v := ?_) rfl (by kernel_rfl) (by kernel_rfl) (by kernel_rfl) (fun _ _ _ h => h) (Or.inl ⟨by kernel_rfl, ?_⟩) (by assumption) ?_
                                  rotate_left
                                  · intro w0 hSw; (try dsimp only at hSw); (go_simp <;> with_reducible rfl)
                                  try simp only [Act.put, List.setIfInBounds_toArray, List.set_cons_zero, List.set_cons_succ]
                                  refine wpAnyH_take (i := 17) (v := ?_) rfl (by kernel_rfl) (by kernel_rfl) (by kernel_rfl) (fun _ _ _ h => h) (Or.inl ⟨by kernel_rfl, ?_⟩) (by assumption) ?_
                                  rotate_left
                                  · intro w0 hSw; (try dsimp only at hSw); (go_simp <;> with_reducible rfl)
                                  try simp only [Act.put, List.setIfInBounds_toArray, List.set_cons_zero, List.set_cons_succ]
                                  refine wpAnyH_take (i := 18) (v := ?_) rfl (by kernel_rfl) (by kernel_rfl) (by kernel_rfl) (fun _ _ _ h => h) (Or.inl ⟨by kernel_rfl, ?_⟩) (by assumption) ?_
                                  rotate_left
                                  · intro w0 hSw; (try dsimp only at hSw); (go_simp <;> with_reducible rfl)
                                  try simp only [Act.put, List.setIfInBounds_toArray, List.set_cons_zero, List.set_cons_succ]
                                  refine wpAnyH_done (by kernel_rfl) ?_ _
                                  all_goals
                                    go_wp2_with fail
                                    refine ⟨⟨k + 1, _, rfl, by go_num, hky, Lib.hid ?_, Lib.hid (HBk7.out.trans (Below.mono (by repeat' first | assumption | with_reducible exact Below.refl _ _ | with_reducible apply Below.drew | with_reducible apply below_box1) HBk7.out.size))⟩, by simp [intOf]; omega⟩
                                    rw [HAt.out, ← Bool.or_assoc, ← HC2.out, HTie.out]
                                    simp
                                | false =>
                                  have HS7 := Lib.hid (show ∀ w', Below V7.heap.size V7 w' → (w'.cell? ⟨kx, 0, none⟩ = some (.string (mk x.t.L)) ∧ w'.cell? ⟨kx, 1, none⟩ = some (.string (mk x.t.S)) ∧ w'.cell? ⟨kx, 2, none⟩ = some (.string (mk x.t.R)) ∧ w'.cell? ⟨kx, 3, none⟩ = some (.slice x.A x.t.vs.length x.c) ∧ kx < w'.heap.size ∧ w'.cell? ⟨kz, 0, none⟩ = some (.string (mk z.t.L)) ∧ w'.cell? ⟨kz, 1, none⟩ = some (.string (mk z.t.S)) ∧ w'.cell? ⟨kz, 2, none⟩ = some (.string (mk z.t.R)) ∧ w'.cell? ⟨kz, 3, none⟩ = some (.slice z.A z.t.vs.length z.c) ∧ kz < w'.heap.size ∧ w'.cell? ⟨kv, 0, none⟩ = some (.string (mk v.t.L)) ∧ w'.cell? ⟨kv, 1, none⟩ = some (.string (mk v.t.S)) ∧ w'.cell? ⟨kv, 2, none⟩ = some (.string (mk v.t.R)) ∧ w'.cell? ⟨kv, 3, none⟩ = some (.slice v.A v.t.vs.length v.c) ∧ kv < w'.heap.size) from fun w' q => by
                                    have k0 := (HKx7.out).s4 q
                                    have k1 := (HKz7.out).s4 q
                                    have k2 := (HKv7.out).s4 q
                                    exact ⟨k0.1, k0.2.1, k0.2.2.1, k0.2.2.2.1, k0.2.2.2.2, k1.1, k1.2.1, k1.2.2.1, k1.2.2.2.1, k1.2.2.2.2, k2.1, k2.2.1, k2.2.2.1, k2.2.2.2.1, k2.2.2.2.2⟩)
                                  go_region_held3 (fun w' => w'.cell? ⟨kx, 0, none⟩ = some (.string (mk x.t.L)) ∧ w'.cell? ⟨kx, 1, none⟩ = some (.string (mk x.t.S)) ∧ w'.cell? ⟨kx, 2, none⟩ = some (.string (mk x.t.R)) ∧ w'.cell? ⟨kx, 3, none⟩ = some (.slice x.A x.t.vs.length x.c) ∧ kx < w'.heap.size ∧ w'.cell? ⟨kz, 0, none⟩ = some (.string (mk z.t.L)) ∧ w'.cell? ⟨kz, 1, none⟩ = some (.string (mk z.t.S)) ∧ w'.cell? ⟨kz, 2, none⟩ = some (.string (mk z.t.R)) ∧ w'.cell? ⟨kz, 3, none⟩ = some (.slice z.A z.t.vs.length z.c) ∧ kz < w'.heap.size ∧ w'.cell? ⟨kv, 0, none⟩ = some (.string (mk v.t.L)) ∧ w'.cell? ⟨kv, 1, none⟩ = some (.string (mk v.t.S)) ∧ w'.cell? ⟨kv, 2, none⟩ = some (.string (mk v.t.R)) ∧ w'.cell? ⟨kv, 3, none⟩ = some (.slice v.A v.t.vs.length v.c) ∧ kv < w'.heap.size) (first | exact HS7.out _ (by repeat' first | assumption | with_reducible exact Below.refl _ _ | with_reducible apply Below.drew | with_reducible apply below_box1)) (first
                                    | (go_at_call 10; (with_reducible refine (HSx7.out _ (by repeat' first | assumption | with_reducible exact Below.refl _ _ | with_reducible apply Below.drew | with_reducible apply below_box1)).mono ?_); rintro e w21 ⟨rfl, b_w21⟩; have q_w21 : Below V7.heap.size V7 w21 := below_step (by repeat' first | assumption | with_reducible exact Below.refl _ _ | with_reducible apply Below.drew | with_reducible apply below_box1) b_w21)
                                    | (go_at_call 10; (with_reducible refine (HSz7.out _ (by repeat' first | assumption | with_reducible exact Below.refl _ _ | with_reducible apply Below.drew | with_reducible apply below_box1)).mono ?_); rintro e w22 ⟨rfl, b_w22⟩; have q_w22 : Below V7.heap.size V7 w22 := below_step (by repeat' first | assumption | with_reducible exact Below.refl _ _ | with_reducible apply Below.drew | with_reducible apply below_box1) b_w22)
                                    | (go_at_call 11; (with_reducible refine (HF1.out _ (by repeat' first | assumption | with_reducible exact Below.refl _ _ | with_reducible apply Below.drew | with_reducible apply below_box1)).mono ?_); rintro e w23 ⟨rfl, b_w23⟩; have q_w23 : Below V7.heap.size V7 w23 := below_step (by repeat' first | assumption | with_reducible exact Below.refl _ _ | with_reducible apply Below.drew | with_reducible apply below_box1) b_w23)
                                    | (go_at_call 11; (with_reducible refine (HF2.out _ (by repeat' first | assumption | with_reducible exact Below.refl _ _ | with_reducible apply Below.drew | with_reducible apply below_box1)).mono ?_); rintro e w24 ⟨rfl, b_w24⟩; have q_w24 : Below V7.heap.size V7 w24 := below_step (by repeat' first | assumption | with_reducible exact Below.refl _ _ | with_reducible apply Below.drew | with_reducible apply below_box1) b_w24))
                                  all_goals
                                    go_wp2_with fail
                                    refine ⟨⟨k + 1, _, rfl, by go_num, hky, Lib.hid ?_, Lib.hid (HBk7.out.trans (Below.mono (by repeat' first | assumption | with_reducible exact Below.refl _ _ | with_reducible apply Below.drew | with_reducible apply below_box1) HBk7.out.size))⟩, by simp [intOf]; omega⟩
                                    rw [HAt.out, ← Bool.or_assoc, ← HC2.out, HTie.out]
                                    simp
                          · obtain rfl : k = Y.length := by omega
                            have f7 : decide ((Y.length : Int) < (Y.length : Int)) = false := decide_eq_false (by omega)
                            have HCe := Lib.hid (show c' = (c || (tagsOf ws).any (fun v => tieB z.t x.t v)) by
                              rw [HC2.out, List.take_length, ← HMy.out, List.any_map]; rfl)
                            go_wp2_with fail
                            refine ⟨⟨j + 1, c', rfl, by go_num, hjx, Lib.hid ?_, Lib.hid (below_step HBj13.out HBk.out)⟩, by simp [intOf]; omega⟩
                            rw [any_take (fun x : TG => (tagsOf ws).any (fun v => tieB z.t x.t v)) HXx.out, ← Bool.or_assoc, ← HC.out, HCe.out]
                      · obtain rfl : j = X.length := by omega
                        have f5 : decide ((X.length : Int) < (X.length : Int)) = false := decide_eq_false (by omega)
                        have hct : c = true := by
                          rw [HC.out, List.take_length]
                          have h1 : (X.any fun x => (tagsOf ws).any fun v => tieB z.t x.t v) = (tagsOf ts).any fun x => (tagsOf ws).any fun v => tieB z.t x v := by
                            rw [← HMx.out, List.any_map]; rfl
                          rw [h1]
                          have hzm : z.t ∈ chainU (tagsOf ws) (tagsOf ts) y.t := by
                            rw [← HMp.out]
                            exact List.mem_map_of_mem (List.mem_of_getElem? HZ.out)
                          rcases chain_tie hzm with h | h
                          · rw [← HEe.out, decide_eq_true h]; rfl
                          · rw [h]; exact Bool.or_true _
                        subst hct
                        go_wp2_with fail
                        refine ⟨⟨i + 1, true, rfl, by go_num, hlt, Lib.hid ?_, Lib.hid (below_step HQ12.out HBj.out)⟩, by simp [intOf]; omega⟩
                        rw [any_take (fun z : TG => decide (z.t.text = y.t.text)) HZ.out, ← HE.out, HEe.out]
                        rfl
                  | false =>
                    have p0 := (HKz3.out.s4 (Below.refl _ _)).1
                    have p1 := (HKz3.out.s4 (Below.refl _ _)).2.1
                    have p2 := (HKz3.out.s4 (Below.refl _ _)).2.2.1
                    have p3 := (HKz3.out.s4 (Below.refl _ _)).2.2.2.1
                    have pz := (HKz3.out.s4 (Below.refl _ _)).2.2.2.2
                    have r0 := (HKy3.out.s4 (Below.refl _ _)).1
                    have r1 := (HKy3.out.s4 (Below.refl _ _)).2.1
                    have r2 := (HKy3.out.s4 (Below.refl _ _)).2.2.1
                    have r3 := (HKy3.out.s4 (Below.refl _ _)).2.2.2.1
                    have rz := (HKy3.out.s4 (Below.refl _ _)).2.2.2.2
                    have HSz3 := Lib.hid (fun (W : World) (q : Below wr.heap.size wr W) => stringG (HZ3.out.later q))
                    have HSy3 := Lib.hid (fun (W : World) (q : Below wr.heap.size wr W) => stringG (HY3.out.later q))
                    go_wp2_with fail
                    have HS3 := Lib.hid (show ∀ w', Below wr.heap.size wr w' → (w'.cell? ⟨kz, 0, none⟩ = some (.string (mk z.t.L)) ∧ w'.cell? ⟨kz, 1, none⟩ = some (.string (mk z.t.S)) ∧ w'.cell? ⟨kz, 2, none⟩ = some (.string (mk z.t.R)) ∧ w'.cell? ⟨kz, 3, none⟩ = some (.slice z.A z.t.vs.length z.c) ∧ kz < w'.heap.size ∧ w'.cell? ⟨m, 0, none⟩ = some (.string (mk y.t.L)) ∧ w'.cell? ⟨m, 1, none⟩ = some (.string (mk y.t.S)) ∧ w'.cell? ⟨m, 2, none⟩ = some (.string (mk y.t.R)) ∧ w'.cell? ⟨m, 3, none⟩ = some (.slice y.A y.t.vs.length y.c) ∧ m < w'.heap.size) from fun w' q => by
                      have k0 := (HKz3.out).s4 q
                      have k1 := (HKy3.out).s4 q
                      exact ⟨k0.1, k0.2.1, k0.2.2.1, k0.2.2.2.1, k0.2.2.2.2, k1.1, k1.2.1, k1.2.2.1, k1.2.2.2.1, k1.2.2.2.2⟩)
                    go_region_held3 (fun w' => w'.cell? ⟨kz, 0, none⟩ = some (.string (mk z.t.L)) ∧ w'.cell? ⟨kz, 1, none⟩ = some (.string (mk z.t.S)) ∧ w'.cell? ⟨kz, 2, none⟩ = some (.string (mk z.t.R)) ∧ w'.cell? ⟨kz, 3, none⟩ = some (.slice z.A z.t.vs.length z.c) ∧ kz < w'.heap.size ∧ w'.cell? ⟨m, 0, none⟩ = some (.string (mk y.t.L)) ∧ w'.cell? ⟨m, 1, none⟩ = some (.string (mk y.t.S)) ∧ w'.cell? ⟨m, 2, none⟩ = some (.string (mk y.t.R)) ∧ w'.cell? ⟨m, 3, none⟩ = some (.slice y.A y.t.vs.length y.c) ∧ m < w'.heap.size) (first | exact HS3.out _ (by repeat' first | assumption | with_reducible exact Below.refl _ _ | with_reducible apply Below.drew | with_reducible apply below_box1)) (first
                      | (go_at_call 10; (with_reducible refine (HSz3.out _ (by repeat' first | assumption | with_reducible exact Below.refl _ _ | with_reducible apply Below.drew | with_reducible apply below_box1)).mono ?_); rintro e w14 ⟨rfl, b_w14⟩; have q_w14 : Below wr.heap.size wr w14 := below_step (by repeat' first | assumption | with_reducible exact Below.refl _ _ | with_reducible apply Below.drew | with_reducible apply below_box1) b_w14)
                      | (go_at_call 10; (with_reducible refine (HSy3.out _ (by repeat' first | assumption | with_reducible exact Below.refl _ _ | with_reducible apply Below.drew | with_reducible apply below_box1)).mono ?_); rintro e V4 ⟨rfl, b_V4⟩; have q_V4 : Below wr.heap.size wr V4 := below_step (by repeat' first | assumption | with_reducible exact Below.refl _ _ | with_reducible apply Below.drew | with_reducible apply below_box1) b_V4))
                    go_wp2_with fail
                    have hq4 : Below wr.heap.size wr V4 := q_V4
                    clear HSz3 HSy3 HS3 b_w14 q_w14 b_V4 q_V4
                    have HQ4 := Lib.hid (below_step HQ.out hq4)
                    have HKz4 := Lib.hid (HKz3.out.on hq4)
                    have HKy4 := Lib.hid (HKy3.out.on hq4)
                    have HZ4 := Lib.hid (HZ3.out.later hq4)
                    have HY4 := Lib.hid (HY3.out.later hq4)
                    clear p0 p1 p2 p3 pz r0 r1 r2 r3 rz hq4 HQ HKz3 HKy3 HZ3 HY3
                    have HSz4 := Lib.hid (fun (W : World) (q : Below V4.heap.size V4 W) => stringG (HZ4.out.later q))
                    have HSy4 := Lib.hid (fun (W : World) (q : Below V4.heap.size V4 W) => stringG (HY4.out.later q))
                    have p0 := (HKz4.out.s4 (Below.refl _ _)).1
                    have p1 := (HKz4.out.s4 (Below.refl _ _)).2.1
                    have p2 := (HKz4.out.s4 (Below.refl _ _)).2.2.1
                    have p3 := (HKz4.out.s4 (Below.refl _ _)).2.2.2.1
                    have pz := (HKz4.out.s4 (Below.refl _ _)).2.2.2.2
                    have r0 := (HKy4.out.s4 (Below.refl _ _)).1
                    have r1 := (HKy4.out.s4 (Below.refl _ _)).2.1
                    have r2 := (HKy4.out.s4 (Below.refl _ _)).2.2.1
                    have r3 := (HKy4.out.s4 (Below.refl _ _)).2.2.2.1
                    have rz := (HKy4.out.s4 (Below.refl _ _)).2.2.2.2
                    have HS4 := Lib.hid (show ∀ w', Below V4.heap.size V4 w' → (w'.cell? ⟨kz, 0, none⟩ = some (.string (mk z.t.L)) ∧ w'.cell? ⟨kz, 1, none⟩ = some (.string (mk z.t.S)) ∧ w'.cell? ⟨kz, 2, none⟩ = some (.string (mk z.t.R)) ∧ w'.cell? ⟨kz, 3, none⟩ = some (.slice z.A z.t.vs.length z.c) ∧ kz < w'.heap.size ∧ w'.cell? ⟨m, 0, none⟩ = some (.string (mk y.t.L)) ∧ w'.cell? ⟨m, 1, none⟩ = some (.string (mk y.t.S)) ∧ w'.cell? ⟨m, 2, none⟩ = some (.string (mk y.t.R)) ∧ w'.cell? ⟨m, 3, none⟩ = some (.slice y.A y.t.vs.length y.c) ∧ m < w'.heap.size) from fun w' q => by
                      have k0 := (HKz4.out).s4 q
                      have k1 := (HKy4.out).s4 q
                      exact ⟨k0.1, k0.2.1, k0.2.2.1, k0.2.2.2.1, k0.2.2.2.2, k1.1, k1.2.1, k1.2.2.1, k1.2.2.2.1, k1.2.2.2.2⟩)
                    go_region_held3 (fun w' => w'.cell? ⟨kz, 0, none⟩ = some (.string (mk z.t.L)) ∧ w'.cell? ⟨kz, 1, none⟩ = some (.string (mk z.t.S)) ∧ w'.cell? ⟨kz, 2, none⟩ = some (.string (mk z.t.R)) ∧ w'.cell? ⟨kz, 3, none⟩ = some (.slice z.A z.t.vs.length z.c) ∧ kz < w'.heap.size ∧ w'.cell? ⟨m, 0, none⟩ = some (.string (mk y.t.L)) ∧ w'.cell? ⟨m, 1, none⟩ = some (.string (mk y.t.S)) ∧ w'.cell? ⟨m, 2, none⟩ = some (.string (mk y.t.R)) ∧ w'.cell? ⟨m, 3, none⟩ = some (.slice y.A y.t.vs.length y.c) ∧ m < w'.heap.size) (first | exact HS4.out _ (by repeat' first | assumption | with_reducible exact Below.refl _ _ | with_reducible apply Below.drew | with_reducible apply below_box1)) (first
                      | (go_at_call 10; (with_reducible refine (HSz4.out _ (by repeat' first | assumption | with_reducible exact Below.refl _ _ | with_reducible apply Below.drew | with_reducible apply below_box1)).mono ?_); rintro e w10 ⟨rfl, b_w10⟩; have q_w10 : Below V4.heap.size V4 w10 := below_step (by repeat' first | assumption | with_reducible exact Below.refl _ _ | with_reducible apply Below.drew | with_reducible apply below_box1) b_w10)
                      | (go_at_call 10; (with_reducible refine (HSy4.out _ (by repeat' first | assumption | with_reducible exact Below.refl _ _ | with_reducible apply Below.drew | with_reducible apply below_box1)).mono ?_); rintro e w11 ⟨rfl, b_w11⟩; have q_w11 : Below V4.heap.size V4 w11 := below_step (by repeat' first | assumption | with_reducible exact Below.refl _ _ | with_reducible apply Below.drew | with_reducible apply below_box1) b_w11))
                    have hq11 : Below V4.heap.size V4 w11 := q_w11
                    have HQ11 := Lib.hid (below_step HQ4.out hq11)
                    have HKz11 := Lib.hid (HKz4.out.on hq11)
                    have HZ11 := Lib.hid (HZ4.out.later hq11)
                    clear p0 p1 p2 p3 pz r0 r1 r2 r3 rz hq11 HQ4 HKz4 HKy4 HZ4 HY4 HSz4 HSy4 HS4 b_w10 q_w10 b_w11 q_w11
                    have HBw11 := Lib.hid (HBg.out.trans (HQ11.out.mono HBg.out.size))
                    have HTt11 := Lib.hid (tags_any vb ts w11 (HItg.out.later HQ11.out) (by omega) (fun s hs => by have := HLt.out s hs; omega) (HM.out.on HBw11.out))
                    go_wp2_with fail
                    go_at_call 9
                    refine HTt11.out.mono ?_
                    rintro e' w12 ⟨ux, X, rfl, hox, hmx, hax, b12⟩
                    have hxl := len_of hmx hlt20
                    obtain ⟨Ax, cx, rfl, hcx, hcsx⟩ := hox.at_
                    have HCx2 := Lib.hid hcsx
                    have HMx := Lib.hid hmx
                    have HAx := Lib.hid hax
                    have HQ12 := Lib.hid (below_step HQ11.out b12)
                    have HKz12 := Lib.hid (HKz11.out.on b12)
                    have HZ12 := Lib.hid (HZ11.out.later b12)
                    clear hox hmx hax b12 hcsx HTt11 HQ11 HKz11 HZ11 HBw11
                    have hx0 : (X.length : Int) ≤ 20 := by omega
                    go_wp2_with fail
                    go_loopw [15, 85] (fun t15 t85 wr => ∃ (j : Nat) (c : Bool), t15 = .bool c ∧ t85 = .int .i64 j ∧ j ≤ X.length ∧ Hid (c = (e || (X.take j).any (fun x => (tagsOf ws).any (fun v => tieB z.t x.t v)))) ∧ Hid (Below w12.heap.size w12 wr)) (fun _ t85 _ => X.length - (intOf t85).toNat)
                    case atStart => exact ⟨0, e, rfl, rfl, Nat.zero_le _, Lib.hid (by simp), Lib.hid (Below.refl _ _)⟩
                    case round =>
                      obtain ⟨j, c, rfl, rfl, hj, HC, HBj⟩ := hrel
                      have hj0 : (j : Int) ≤ 20 := by omega
                      by_cases hjx : j < X.length
                      · have f5 : decide ((j : Int) < (X.length : Int)) = true := decide_eq_true (by omega)
                        have f6 : (j : Int) < (X.length : Int) := by omega
                        obtain ⟨x, hx⟩ : ∃ x, X[j]? = some x := ⟨_, List.getElem?_eq_getElem hjx⟩
                        obtain ⟨bx, rfl, hbx, hcx3⟩ := HCx2.out (by omega)
                        obtain ⟨g0, g1, g2, g3⟩ := hcx3 j x hx
                        have g0 := (HBj.out.cell (p := ⟨bx, j * 4, none⟩) hbx).trans g0
                        have g1 := (HBj.out.cell (p := ⟨bx, j * 4 + 1, none⟩) hbx).trans g1
                        have g2 := (HBj.out.cell (p := ⟨bx, j * 4 + 2, none⟩) hbx).trans g2
                        have g3 := (HBj.out.cell (p := ⟨bx, j * 4 + 3, none⟩) hbx).trans g3
                        have hgr : bx < wr.heap.size := Nat.lt_of_lt_of_le hbx HBj.out.size
                        have hW := below_box1 (Below.refl wr.heap.size wr) (tgObj x)
                        have HXA := Lib.hid (((HAx.out x (List.mem_of_getElem? hx)).later HBj.out).later hW)
                        have HZ6 := Lib.hid ((HZ12.out.later HBj.out).later hW)
                        have HKz6 := Lib.hid ((HKz12.out.on HBj.out).on hW)
                        have HQ6 := Lib.hid (below_step (below_step HQ12.out HBj.out) hW)
                        have HBj6 := Lib.hid (below_step HBj.out hW)
                        have HXx := Lib.hid hx
                        clear hcx3 hx hbx HBj
                        go_upto_region 24 with fail
                        have hkx : TgBox (wr.alloc (tgObj x)) wr.heap.size x := BoxAt.new _ _ _
                        clear g0 g1 g2 g3 hgr hW
                        generalize wr.alloc (tgObj x) = V6 at *
                        generalize wr.heap.size = kx at *
                        have HKx6 := Lib.hid hkx
                        clear hkx
                        have HTw6 := Lib.hid (tags_any va ws V6 (HIwg.out.later HQ6.out) (by omega) (fun s hs => by have := HLw.out s hs; omega) (HM.out.on (HBg.out.trans (HQ6.out.mono HBg.out.size))))
                        go_wp2_with fail
                        go_at_call 9
                        refine HTw6.out.mono ?_
                        rintro e' w13 ⟨uy, Y, rfl, hoy, hmy, hay, b13⟩
                        have hyl := len_of hmy hlw
                        obtain ⟨Ay, cy, rfl, hcy, hcsy⟩ := hoy.at_
                        have HCy := Lib.hid hcsy
                        have HMy := Lib.hid hmy
                        have HAy := Lib.hid hay
                        have HQ13 := Lib.hid (below_step HQ6.out b13)
                        have HBj13 := Lib.hid (below_step HBj6.out b13)
                        have HKz13 := Lib.hid (HKz6.out.on b13)
                        have HKx13 := Lib.hid (HKx6.out.on b13)
                        have HZ13 := Lib.hid (HZ6.out.later b13)
                        have HX13 := Lib.hid (HXA.out.later b13)
                        clear hoy hmy hay b13 hcsy HTw6 HQ6 HKz6 HZ6 HKx6 HXA HBj6
                        have hy0 : (Y.length : Int) ≤ 20 := by omega
                        go_wp2_with fail
                        go_loopw [15, 92] (fun t15 t92 wr => ∃ (k : Nat) (c' : Bool), t15 = .bool c' ∧ t92 = .int .i64 k ∧ k ≤ Y.length ∧ Hid (c' = (c || (Y.take k).any (fun v => tieB z.t x.t v.t))) ∧ Hid (Below w13.heap.size w13 wr)) (fun _ t92 _ => Y.length - (intOf t92).toNat)
                        case atStart => exact ⟨0, c, rfl, rfl, Nat.zero_le _, Lib.hid (by simp), Lib.hid (Below.refl _ _)⟩
                        case round =>
                          obtain ⟨k, c', rfl, rfl, hk, HC2, HBk⟩ := hrel
                          have hk0 : (k : Int) ≤ 20 := by omega
                          by_cases hky : k < Y.length
                          · have f7 : decide ((k : Int) < (Y.length : Int)) = true := decide_eq_true (by omega)
                            have f8 : (k : Int) < (Y.length : Int) := by omega
                            obtain ⟨v, hv⟩ : ∃ v, Y[k]? = some v := ⟨_, List.getElem?_eq_getElem hky⟩
                            obtain ⟨bv, rfl, hbv, hcv3⟩ := HCy.out (by omega)
                            obtain ⟨g0, g1, g2, g3⟩ := hcv3 k v hv
                            have g0 := (HBk.out.cell (p := ⟨bv, k * 4, none⟩) hbv).trans g0
                            have g1 := (HBk.out.cell (p := ⟨bv, k * 4 + 1, none⟩) hbv).trans g1
                            have g2 := (HBk.out.cell (p := ⟨bv, k * 4 + 2, none⟩) hbv).trans g2
                            have g3 := (HBk.out.cell (p := ⟨bv, k * 4 + 3, none⟩) hbv).trans g3
                            have hgr : bv < wr.heap.size := Nat.lt_of_lt_of_le hbv HBk.out.size
                            have hW := below_box1 (Below.refl wr.heap.size wr) (tgObj v)
                            have HVA := Lib.hid (((HAy.out v (List.mem_of_getElem? hv)).later HBk.out).later hW)
                            have HZ7 := Lib.hid ((HZ13.out.later HBk.out).later hW)
                            have HX7 := Lib.hid ((HX13.out.later HBk.out).later hW)
                            have HKz7 := Lib.hid ((HKz13.out.on HBk.out).on hW)
                            have HKx7 := Lib.hid ((HKx13.out.on HBk.out).on hW)
                            have HBk7 := Lib.hid (below_step HBk.out hW)
                            have HAt := Lib.hid (any_take (fun v : TG => tieB z.t x.t v.t) hv)
                            clear hcv3 hv hbv HBk
                            go_upto_region 27 with fail
                            have hkv : TgBox (wr.alloc (tgObj v)) wr.heap.size v := BoxAt.new _ _ _
                            clear g0 g1 g2 g3 hgr hW
                            generalize wr.alloc (tgObj v) = V7 at *
                            generalize wr.heap.size = kv at *
                            have HKv7 := Lib.hid hkv
                            clear hkv
                            obtain ⟨tx, htx⟩ : ∃ tx, decide (x.t.text = z.t.text) = tx := ⟨_, rfl⟩
                            have htx2 : ((mk x.t.text).toList == (mk z.t.text).toList) = tx := by rw [eqB]; exact htx
                            obtain ⟨p1, hp1⟩ : ∃ p, fitsT z.t v.t = p := ⟨_, rfl⟩
                            obtain ⟨p2, hp2⟩ : ∃ p, fitsT v.t z.t = p := ⟨_, rfl⟩
                            have HTie := Lib.hid (show tieB z.t x.t v.t = (tx && (p1 || p2)) by unfold tieB; rw [htx, hp1, hp2])
                            have HSx7 := Lib.hid (fun (W : World) (q : Below V7.heap.size V7 W) => stringG (HX7.out.later q))
                            have HSz7 := Lib.hid (fun (W : World) (q : Below V7.heap.size V7 W) => stringG (HZ7.out.later q))
                            have hF1 := fun (W : World) (q : Below V7.heap.size V7 W) => fitsTo HZ7.out.ok HVA.out.ok (HZ7.out.later q).vs (HVA.out.later q).vs
                            have hF2 := fun (W : World) (q : Below V7.heap.size V7 W) => fitsTo HVA.out.ok HZ7.out.ok (HVA.out.later q).vs (HZ7.out.later q).vs
                            rw [hp1] at hF1
                            rw [hp2] at hF2
                            have HF1 := Lib.hid hF1
                            have HF2 := Lib.hid hF2
                            clear hF1 hF2 htx hp1 hp2
                            have a0 := (HKx7.out.s4 (Below.refl _ _)).1
                            have a1 := (HKx7.out.s4 (Below.refl _ _)).2.1
                            have a2 := (HKx7.out.s4 (Below.refl _ _)).2.2.1
                            have a3 := (HKx7.out.s4 (Below.refl _ _)).2.2.2.1
                            have az := (HKx7.out.s4 (Below.refl _ _)).2.2.2.2
                            have d0 := (HKz7.out.s4 (Below.refl _ _)).1
                            have d1 := (HKz7.out.s4 (Below.refl _ _)).2.1
                            have d2 := (HKz7.out.s4 (Below.refl _ _)).2.2.1
                            have d3 := (HKz7.out.s4 (Below.refl _ _)).2.2.2.1
                            have dz := (HKz7.out.s4 (Below.refl _ _)).2.2.2.2
                            have q0 := (HKv7.out.s4 (Below.refl _ _)).1
                            have q1 := (HKv7.out.s4 (Below.refl _ _)).2.1
                            have q2 := (HKv7.out.s4 (Below.refl _ _)).2.2.1
                            have q3 := (HKv7.out.s4 (Below.refl _ _)).2.2.2.1
                            have qz := (HKv7.out.s4 (Below.refl _ _)).2.2.2.2
                            cases c' with
                            | true =>
                              go_quiet (fail)
                              go_wp2_with fail
                              refine ⟨⟨k + 1, true, rfl, by go_num, hky, Lib.hid ?_, Lib.hid (below_drewN HBk7.out _)⟩, by simp [intOf]; omega⟩
                              rw [HAt.out, ← Bool.or_assoc, ← HC2.out]; rfl
                            | false =>
                              cases tx with
                              | false =>
                                have HS7 := Lib.hid (show ∀ w', Below V7.heap.size V7 w' → (w'.cell? ⟨kx, 0, none⟩ = some (.string (mk x.t.L)) ∧ w'.cell? ⟨kx, 1, none⟩ = some (.string (mk x.t.S)) ∧ w'.cell? ⟨kx, 2, none⟩ = some (.string (mk x.t.R)) ∧ w'.cell? ⟨kx, 3, none⟩ = some (.slice x.A x.t.vs.length x.c) ∧ kx < w'.heap.size ∧ w'.cell? ⟨kz, 0, none⟩ = some (.string (mk z.t.L)) ∧ w'.cell? ⟨kz, 1, none⟩ = some (.string (mk z.t.S)) ∧ w'.cell? ⟨kz, 2, none⟩ = some (.string (mk z.t.R)) ∧ w'.cell? ⟨kz, 3, none⟩ = some (.slice z.A z.t.vs.length z.c) ∧ kz < w'.heap.size ∧ w'.cell? ⟨kv, 0, none⟩ = some (.string (mk v.t.L)) ∧ w'.cell? ⟨kv, 1, none⟩ = some (.string (mk v.t.S)) ∧ w'.cell? ⟨kv, 2, none⟩ = some (.string (mk v.t.R)) ∧ w'.cell? ⟨kv, 3, none⟩ = some (.slice v.A v.t.vs.length v.c) ∧ kv < w'.heap.size) from fun w' q => by
                                  have k0 := (HKx7.out).s4 q
                                  have k1 := (HKz7.out).s4 q
                                  have k2 := (HKv7.out).s4 q
                                  exact ⟨k0.1, k0.2.1, k0.2.2.1, k0.2.2.2.1, k0.2.2.2.2, k1.1, k1.2.1, k1.2.2.1, k1.2.2.2.1, k1.2.2.2.2, k2.1, k2.2.1, k2.2.2.1, k2.2.2.2.1, k2.2.2.2.2⟩)
                                have hq0 : Below V7.heap.size V7 V7.drew := (Below.refl _ _).drew
                                refine wp_region_held_drew (S := (fun w' => w'.cell? ⟨kx, 0, none⟩ = some (.string (mk x.t.L)) ∧ w'.cell? ⟨kx, 1, none⟩ = some (.string (mk x.t.S)) ∧ w'.cell? ⟨kx, 2, none⟩ = some (.string (mk x.t.R)) ∧ w'.cell? ⟨kx, 3, none⟩ = some (.slice x.A x.t.vs.length x.c) ∧ kx < w'.heap.size ∧ w'.cell? ⟨kz, 0, none⟩ = some (.string (mk z.t.L)) ∧ w'.cell? ⟨kz, 1, none⟩ = some (.string (mk z.t.S)) ∧ w'.cell? ⟨kz, 2, none⟩ = some (.string (mk z.t.R)) ∧ w'.cell? ⟨kz, 3, none⟩ = some (.slice z.A z.t.vs.length z.c) ∧ kz < w'.heap.size ∧ w'.cell? ⟨kv, 0, none⟩ = some (.string (mk v.t.L)) ∧ w'.cell? ⟨kv, 1, none⟩ = some (.string (mk v.t.S)) ∧ w'.cell? ⟨kv, 2, none⟩ = some (.string (mk v.t.R)) ∧ w'.cell? ⟨kv, 3, none⟩ = some (.slice v.A v.t.vs.length v.c) ∧ kv < w'.heap.size)) (by kernel_rfl) (HS7.out _ hq0) (fun hHeld => ?_)
                                refine wpAnyH_take (i := 0) (v := ?_) rfl (by kernel_rfl) (by kernel_rfl) (by kernel_rfl) (fun _ _ _ h => h) (Or.inl ⟨by kernel_rfl, ?_⟩) (by assumption) ?_
                                rotate_left
                                · intro w0 hSw; (try dsimp only at hSw); (go_simp <;> with_reducible rfl)
                                try simp only [Act.put, List.setIfInBounds_toArray, List.set_cons_zero, List.set_cons_succ]
                                refine wpAnyH_take (i := 1) (v := ?_) rfl (by kernel_rfl) (by kernel_rfl) (by kernel_rfl) (fun _ _ _ h => h) (Or.inl ⟨by kernel_rfl, ?_⟩) (by assumption) ?_
                                rotate_left
                                · intro w0 hSw; (try dsimp only at hSw); (go_simp <;> with_reducible rfl)
                                try simp only [Act.put, List.setIfInBounds_toArray, List.set_cons_zero, List.set_cons_succ]
                                refine wpAnyH_take (i := 2) (v := ?_) rfl (by kernel_rfl) (by kernel_rfl) (by kernel_rfl) (fun _ _ _ h => h) (Or.inl ⟨by kernel_rfl, ?_⟩) (by assumption) ?_
                                rotate_left
                                · intro w0 hSw; (try dsimp only at hSw); (go_simp <;> with_reducible rfl)
                                try simp only [Act.put, List.setIfInBounds_toArray, List.set_cons_zero, List.set_cons_succ]
                                refine wpAnyH_take (i := 4) (v := ?_) rfl (by kernel_rfl) (by kernel_rfl) (by kernel_rfl) (fun _ _ _ h => h) (Or.inl ⟨by kernel_rfl, ?_⟩) (by assumption) ?_
                                rotate_left
                                · intro w0 hSw; (try dsimp only at hSw); (go_simp <;> with_reducible rfl)
                                try simp only [Act.put, List.setIfInBounds_toArray, List.set_cons_zero, List.set_cons_succ]
                                refine wpAnyH_ready (rs := [3]) (by kernel_rfl) (by simp) ?_
                                refine AllReadyH.cons rfl (fun K hK => ?_) AllReadyH.nil
                                go_simp
                                go_at_call 10
                                refine (HSx7.out _ hq0).mono ?_
                                rintro e' w21 ⟨rfl, b_w21⟩
                                have q_w21 : Below V7.heap.size V7 w21 := below_step hq0 b_w21
                                go_wp2_with fail
                                refine hK.out _ _ (HS7.out _ q_w21) (fun hHeld2 => ?_)
                                clear hHeld hK K
                                have hHeld := hHeld2
                                clear hHeld2
                                try simp only [Act.put, List.setIfInBounds_toArray, List.set_cons_zero, List.set_cons_succ]
                                refine wpAnyH_ready (rs := [5]) (by kernel_rfl) (by simp) ?_
                                refine AllReadyH.cons rfl (fun K hK => ?_) AllReadyH.nil
                                go_simp
                                go_at_call 10
                                refine (HSz7.out _ q_w21).mono ?_
                                rintro e' w22 ⟨rfl, b_w22⟩
                                have q_w22 : Below V7.heap.size V7 w22 := below_step q_w21 b_w22
                                go_wp2_with fail
                                refine hK.out _ _ (HS7.out _ q_w22) (fun hHeld2 => ?_)
                                clear hHeld hK K
                                have hHeld := hHeld2
                                clear hHeld2
                                try simp only [Act.put, List.setIfInBounds_toArray, List.set_cons_zero, List.set_cons_succ]
                                refine wpAnyH_take (i := 6) (v := ?_) rfl (by kernel_rfl) (by kernel_rfl) (by kernel_rfl) (fun _ _ _ h => h) (Or.inl ⟨by kernel_rfl, ?_⟩) (by assumption) ?_
                                rotate_left
                                · intro w0 hSw; (try dsimp only at hSw); (go_simp <;> with_reducible rfl)
                                try simp only [Act.put, List.setIfInBounds_toArray, List.set_cons_zero, List.set_cons_succ]
                                refine wpAnyH_take (i := 7) (v := ?_) rfl (by kernel_rfl) (by kernel_rfl) (by kernel_rfl) (fun _ _ _ h => h) (Or.inl ⟨by kernel_rfl, ?_⟩) (by assumption) ?_
                                rotate_left
                                · intro w0 hSw; (try dsimp only at hSw); (go_simp <;> with_reducible rfl)
                                try simp only [Act.put, List.setIfInBounds_toArray, List.set_cons_zero, List.set_cons_succ]
                                refine wpAnyH_take (i := 8) (v := undef) rfl (by kernel_rfl) (by kernel_rfl) (by kernel_rfl) (fun _ _ _ h => h) (Or.inr ⟨by kernel_rfl, rfl⟩) (by assumption) ?_
                                try simp only [Act.put, List.setIfInBounds_toArray, List.set_cons_zero, List.set_cons_succ]
                                refine wpAnyH_take (i := 9) (v := undef) rfl (by kernel_rfl) (by kernel_rfl) (by kernel_rfl) (fun _ _ _ h => h) (Or.inr ⟨by kernel_rfl, rfl⟩) (by assumption) ?_
                                try simp only [Act.put, List.setIfInBounds_toArray, List.set_cons_zero, List.set_cons_succ]
                                refine wpAnyH_take (i := 10) (v := undef) rfl (by kernel_rfl) (by kernel_rfl) (by kernel_rfl) (fun _ _ _ h => h) (Or.inr ⟨by kernel_rfl, rfl⟩) (by assumption) ?_
                                try simp only [Act.put, List.setIfInBounds_toArray, List.set_cons_zero, List.set_cons_succ]
                                refine wpAnyH_take (i := 11) (v := undef) rfl (by kernel_rfl) (by kernel_rfl) (by kernel_rfl) (fun _ _ _ h => h) (Or.inr ⟨by kernel_rfl, rfl⟩) (by assumption) ?_
                                try simp only [Act.put, List.setIfInBounds_toArray, List.set_cons_zero, List.set_cons_succ]
                                refine wpAnyH_take (i := 12) (v := undef) rfl (by kernel_rfl) (by kernel_rfl) (by kernel_rfl) (fun _ _ _ h => h) (Or.inr ⟨by kernel_rfl, rfl⟩) (by assumption) ?_
                                try simp only [Act.put, List.setIfInBounds_toArray, List.set_cons_zero, List.set_cons_succ]
                                refine wpAnyH_take (i := 13) (v := undef) rfl (by kernel_rfl) (by kernel_rfl) (by kernel_rfl) (fun _ _ _ h => h) (Or.inr ⟨by kernel_rfl, rfl⟩) (by assumption) ?_
                                try simp only [Act.put, List.setIfInBounds_toArray, List.set_cons_zero, List.set_cons_succ]
                                refine wpAnyH_take (i := 14) (v := undef) rfl (by kernel_rfl) (by kernel_rfl) (by kernel_rfl) (fun _ _ _ h => h) (Or.inr ⟨by kernel_rfl, rfl⟩) (by assumption) ?_
                                try simp only [Act.put, List.setIfInBounds_toArray, List.set_cons_zero, List.set_cons_succ]
                                refine wpAnyH_take (i := 15) (v := undef) rfl (by kernel_rfl) (by kernel_rfl) (by kernel_rfl) (fun _ _ _ h => h) (Or.inr ⟨by kernel_rfl, rfl⟩) (by assumption) ?_
                                try simp only [Act.put, List.setIfInBounds_toArray, List.set_cons_zero, List.set_cons_succ]
                                refine wpAnyH_take (i := 16) (v := ?_) rfl (by kernel_rfl) (by kernel_rfl) (by kernel_rfl) (fun _ _ _ h => h) (Or.inl ⟨by kernel_rfl, ?_⟩) (by assumption) ?_
                                rotate_left
                                · intro w0 hSw; (try dsimp only at hSw); (go_simp <;> with_reducible rfl)
                                try simp only [Act.put, List.setIfInBounds_toArray, List.set_cons_zero, List.set_cons_succ]
                                refine wpAnyH_take (i := 17) (v := ?_) rfl (by kernel_rfl) (by kernel_rfl) (by kernel_rfl) (fun _ _ _ h => h) (Or.inl ⟨by kernel_rfl, ?_⟩) (by assumption) ?_
                                rotate_left
                                · intro w0 hSw; (try dsimp only at hSw); (go_simp <;> with_reducible rfl)
                                try simp only [Act.put, List.setIfInBounds_toArray, List.set_cons_zero, List.set_cons_succ]
                                refine wpAnyH_take (i := 18) (v := ?_) rfl (by kernel_rfl) (by kernel_rfl) (by kernel_rfl) (fun _ _ _ h => h) (Or.inl ⟨by kernel_rfl, ?_⟩) (by assumption) ?_
                                rotate_left
                                · intro w0 hSw; (try dsimp only at hSw); (go_simp <;> with_reducible rfl)
                                try simp only [Act.put, List.setIfInBounds_toArray, List.set_cons_zero, List.set_cons_succ]
                                refine wpAnyH_done (by kernel_rfl) ?_ _
                                all_goals
                                  go_wp2_with fail
                                  refine ⟨⟨k + 1, _, rfl, by go_num, hky, Lib.hid ?_, Lib.hid (HBk7.out.trans (Below.mono (by repeat' first | assumption | with_reducible exact Below.refl _ _ | with_reducible apply Below.drew | with_reducible apply below_box1) HBk7.out.size))⟩, by simp [intOf]; omega⟩
                                  rw [HAt.out, ← Bool.or_assoc, ← HC2.out, HTie.out]
                                  simp
                              | true =>
                                cases p1 with
                                | true =>
                                  have HS7 := Lib.hid (show ∀ w', Below V7.heap.size V7 w' → (w'.cell? ⟨kx, 0, none⟩ = some (.string (mk x.t.L)) ∧ w'.cell? ⟨kx, 1, none⟩ = some (.string (mk x.t.S)) ∧ w'.cell? ⟨kx, 2, none⟩ = some (.string (mk x.t.R)) ∧ w'.cell? ⟨kx, 3, none⟩ = some (.slice x.A x.t.vs.length x.c) ∧ kx < w'.heap.size ∧ w'.cell? ⟨kz, 0, none⟩ = some (.string (mk z.t.L)) ∧ w'.cell? ⟨kz, 1, none⟩ = some (.string (mk z.t.S)) ∧ w'.cell? ⟨kz, 2, none⟩ = some (.string (mk z.t.R)) ∧ w'.cell? ⟨kz, 3, none⟩ = some (.slice z.A z.t.vs.length z.c) ∧ kz < w'.heap.size ∧ w'.cell? ⟨kv, 0, none⟩ = some (.string (mk v.t.L)) ∧ w'.cell? ⟨kv, 1, none⟩ = some (.string (mk v.t.S)) ∧ w'.cell? ⟨kv, 2, none⟩ = some (.string (mk v.t.R)) ∧ w'.cell? ⟨kv, 3, none⟩ = some (.slice v.A v.t.vs.length v.c) ∧ kv < w'.heap.size) from fun w' q => by
                                    have k0 := (HKx7.out).s4 q
                                    have k1 := (HKz7.out).s4 q
                                    have k2 := (HKv7.out).s4 q
                                    exact ⟨k0.1, k0.2.1, k0.2.2.1, k0.2.2.2.1, k0.2.2.2.2, k1.1, k1.2.1, k1.2.2.1, k1.2.2.2.1, k1.2.2.2.2, k2.1, k2.2.1, k2.2.2.1, k2.2.2.2.1, k2.2.2.2.2⟩)
                                  have hq0 : Below V7.heap.size V7 V7.drew := (Below.refl _ _).drew
                                  refine wp_region_held_drew (S := (fun w' => w'.cell? ⟨kx, 0, none⟩ = some (.string (mk x.t.L)) ∧ w'.cell? ⟨kx, 1, none⟩ = some (.string (mk x.t.S)) ∧ w'.cell? ⟨kx, 2, none⟩ = some (.string (mk x.t.R)) ∧ w'.cell? ⟨kx, 3, none⟩ = some (.slice x.A x.t.vs.length x.c) ∧ kx < w'.heap.size ∧ w'.cell? ⟨kz, 0, none⟩ = some (.string (mk z.t.L)) ∧ w'.cell? ⟨kz, 1, none⟩ = some (.string (mk z.t.S)) ∧ w'.cell? ⟨kz, 2, none⟩ = some (.string (mk z.t.R)) ∧ w'.cell? ⟨kz, 3, none⟩ = some (.slice z.A z.t.vs.length z.c) ∧ kz < w'.heap.size ∧ w'.cell? ⟨kv, 0, none⟩ = some (.string (mk v.t.L)) ∧ w'.cell? ⟨kv, 1, none⟩ = some (.string (mk v.t.S)) ∧ w'.cell? ⟨kv, 2, none⟩ = some (.string (mk v.t.R)) ∧ w'.cell? ⟨kv, 3, none⟩ = some (.slice v.A v.t.vs.length v.c) ∧ kv < w'.heap.size)) (by kernel_rfl) (HS7.out _ hq0) (fun hHeld => ?_)
                                  refine wpAnyH_take (i := 0) (v := ?_) rfl (by kernel_rfl) (by kernel_rfl) (by kernel_rfl) (fun _ _ _ h => h) (Or.inl ⟨by kernel_rfl, ?_⟩) (by assumption) ?_
                                  rotate_left
                                  · intro w0 hSw; (try dsimp only at hSw); (go_simp <;> with_reducible rfl)
                                  try simp only [Act.put, List.setIfInBounds_toArray, List.set_cons_zero, List.set_cons_succ]
                                  refine wpAnyH_take (i := 1) (v := ?_) rfl (by kernel_rfl) (by kernel_rfl) (by kernel_rfl) (fun _ _ _ h => h) (Or.inl ⟨by kernel_rfl, ?_⟩) (by assumption) ?_
                                  rotate_left
                                  · intro w0 hSw; (try dsimp only at hSw); (go_simp <;> with_reducible rfl)
                                  try simp only [Act.put, List.setIfInBounds_toArray, List.set_cons_zero, List.set_cons_succ]
                                  refine wpAnyH_take (i := 2) (v := ?_) rfl (by kernel_rfl) (by kernel_rfl) (by kernel_rfl) (fun _ _ _ h => h) (Or.inl ⟨by kernel_rfl, ?_⟩) (by assumption) ?_
                                  rotate_left
                                  · intro w0 hSw; (try dsimp only at hSw); (go_simp <;> with_reducible rfl)
                                  try simp only [Act.put, List.setIfInBounds_toArray, List.set_cons_zero, List.set_cons_succ]
                                  refine wpAnyH_take (i := 4) (v := ?_) rfl (by kernel_rfl) (by kernel_rfl) (by kernel_rfl) (fun _ _ _ h => h) (Or.inl ⟨by kernel_rfl, ?_⟩) (by assumption) ?_
                                  rotate_left
                                  · intro w0 hSw; (try dsimp only at hSw); (go_simp <;> with_reducible rfl)
                                  try simp only [Act.put, List.setIfInBounds_toArray, List.set_cons_zero, List.set_cons_succ]
                                  refine wpAnyH_ready (rs := [3]) (by kernel_rfl) (by simp) ?_
                                  refine AllReadyH.cons rfl (fun K hK => ?_) AllReadyH.nil
                                  go_simp
                                  go_at_call 10
                                  refine (HSx7.out _ hq0).mono ?_
                                  rintro e' w21 ⟨rfl, b_w21⟩
                                  have q_w21 : Below V7.heap.size V7 w21 := below_step hq0 b_w21
                                  go_wp2_with fail
                                  refine hK.out _ _ (HS7.out _ q_w21) (fun hHeld2 => ?_)
                                  clear hHeld hK K
                                  have hHeld := hHeld2
                                  clear hHeld2
                                  try simp only [Act.put, List.setIfInBounds_toArray, List.set_cons_zero, List.set_cons_succ]
                                  refine wpAnyH_ready (rs := [5]) (by kernel_rfl) (by simp) ?_
                                  refine AllReadyH.cons rfl (fun K hK => ?_) AllReadyH.nil
                                  go_simp
                                  go_at_call 10
                                  refine (HSz7.out _ q_w21).mono ?_
                                  rintro e' w22 ⟨rfl, b_w22⟩
                                  have q_w22 : Below V7.heap.size V7 w22 := below_step q_w21 b_w22
                                  go_wp2_with fail
                                  refine hK.out _ _ (HS7.out _ q_w22) (fun hHeld2 => ?_)
                                  clear hHeld hK K
                                  have hHeld := hHeld2
                                  clear hHeld2
                                  try simp only [Act.put, List.setIfInBounds_toArray, List.set_cons_zero, List.set_cons_succ]
                                  refine wpAnyH_take (i := 6) (v := ?_) rfl (by kernel_rfl) (by kernel_rfl) (by kernel_rfl) (fun _ _ _ h => h) (Or.inl ⟨by kernel_rfl, ?_⟩) (by assumption) ?_
                                  rotate_left
                                  · intro w0 hSw; (try dsimp only at hSw); (go_simp <;> with_reducible rfl)
                                  try simp only [Act.put, List.setIfInBounds_toArray, List.set_cons_zero, List.set_cons_succ]
                                  refine wpAnyH_take (i := 7) (v := ?_) rfl (by kernel_rfl) (by kernel_rfl) (by kernel_rfl) (fun _ _ _ h => h) (Or.inl ⟨by kernel_rfl, ?_⟩) (by assumption) ?_
                                  rotate_left
                                  · intro w0 hSw; (try dsimp only at hSw); (go_simp <;> with_reducible rfl)
                                  try simp only [Act.put, List.setIfInBounds_toArray, List.set_cons_zero, List.set_cons_succ]
                                  refine wpAnyH_take (i := 8) (v := ?_) rfl (by kernel_rfl) (by kernel_rfl) (by kernel_rfl) (fun _ _ _ h => h) (Or.inl ⟨by kernel_rfl, ?_⟩) (by assumption) ?_
                                  rotate_left
                                  · intro w0 hSw; (try dsimp only at hSw); (go_simp <;> with_reducible rfl)
                                  try simp only [Act.put, List.setIfInBounds_toArray, List.set_cons_zero, List.set_cons_succ]
                                  refine wpAnyH_take (i := 9) (v := ?_) rfl (by kernel_rfl) (by kernel_rfl) (by kernel_rfl) (fun _ _ _ h => h) (Or.inl ⟨by kernel_rfl, ?_⟩) (by assumption) ?_
                                  rotate_left
                                  · intro w0 hSw; (try dsimp only at hSw); (go_simp <;> with_reducible rfl)
                                  try simp only [Act.put, List.setIfInBounds_toArray, List.set_cons_zero, List.set_cons_succ]
                                  refine wpAnyH_ready (rs := [10]) (by kernel_rfl) (by simp) ?_
                                  refine AllReadyH.cons rfl (fun K hK => ?_) AllReadyH.nil
                                  go_simp
                                  go_at_call 11
                                  refine (HF1.out _ q_w22).mono ?_
                                  rintro e' w23 ⟨rfl, b_w23⟩
                                  have q_w23 : Below V7.heap.size V7 w23 := below_step q_w22 b_w23
                                  go_wp2_with fail
                                  refine hK.out _ _ (HS7.out _ q_w23) (fun hHeld2 => ?_)
                                  clear hHeld hK K
                                  have hHeld := hHeld2
                                  clear hHeld2
                                  try simp only [Act.put, List.setIfInBounds_toArray, List.set_cons_zero, List.set_cons_succ]
                                  refine wpAnyH_take (i := 11) (v := ?_) rfl (by kernel_rfl) (by kernel_rfl) (by kernel_rfl) (fun _ _ _ h => h) (Or.inl ⟨by kernel_rfl, ?_⟩) (by assumption) ?_
                                  rotate_left
                                  · intro w0 hSw; (try dsimp only at hSw); (go_simp <;> with_reducible rfl)
                                  try simp only [Act.put, List.setIfInBounds_toArray, List.set_cons_zero, List.set_cons_succ]
                                  refine wpAnyH_take (i := 12) (v := undef) rfl (by kernel_rfl) (by kernel_rfl) (by kernel_rfl) (fun _ _ _ h => h) (Or.inr ⟨by kernel_rfl, rfl⟩) (by assumption) ?_
                                  try simp only [Act.put, List.setIfInBounds_toArray, List.set_cons_zero, List.set_cons_succ]
                                  refine wpAnyH_take (i := 13) (v := undef) rfl (by kernel_rfl) (by kernel_rfl) (by kernel_rfl) (fun _ _ _ h => h) (Or.inr ⟨by kernel_rfl, rfl⟩) (by assumption) ?_
                                  try simp only [Act.put, List.setIfInBounds_toArray, List.set_cons_zero, List.set_cons_succ]
                                  refine wpAnyH_take (i := 14) (v := undef) rfl (by kernel_rfl) (by kernel_rfl) (by kernel_rfl) (fun _ _ _ h => h) (Or.inr ⟨by kernel_rfl, rfl⟩) (by assumption) ?_
                                  try simp only [Act.put, List.setIfInBounds_toArray, List.set_cons_zero, List.set_cons_succ]
                                  refine wpAnyH_take (i := 15) (v := ?_) rfl (by kernel_rfl) (by kernel_rfl) (by kernel_rfl) (fun _ _ _ h => h) (Or.inl ⟨by kernel_rfl, ?_⟩) (by assumption) ?_
                                  rotate_left
                                  · intro w0 hSw; (try dsimp only at hSw); (go_simp <;> with_reducible rfl)
                                  try simp only [Act.put, List.setIfInBounds_toArray, List.set_cons_zero, List.set_cons_succ]
                                  refine wpAnyH_take (i := 16) (v := ?_) rfl (by kernel_rfl) (by kernel_rfl) (by kernel_rfl) (fun _ _ _ h => h) (Or.inl ⟨by kernel_rfl, ?_⟩) (by assumption) ?_
                                  rotate_left
                                  · intro w0 hSw; (try dsimp only at hSw); (go_simp <;> with_reducible rfl)
                                  try simp only [Act.put, List.setIfInBounds_toArray, List.set_cons_zero, List.set_cons_succ]
                                  refine wpAnyH_take (i := 17) (v := ?_) rfl (by kernel_rfl) (by kernel_rfl) (by kernel_rfl) (fun _ _ _ h => h) (Or.inl ⟨by kernel_rfl, ?_⟩) (by assumption) ?_
                                  rotate_left
                                  · intro w0 hSw; (try dsimp only at hSw); (go_simp <;> with_reducible rfl)
                                  try simp only [Act.put, List.setIfInBounds_toArray, List.set_cons_zero, List.set_cons_succ]
                                  refine wpAnyH_take (i := 18) (v := ?_) rfl (by kernel_rfl) (by kernel_rfl) (by kernel_rfl) (fun _ _ _ h => h) (Or.inl ⟨by kernel_rfl, ?_⟩) (by assumption) ?_
                                  rotate_left
                                  · intro w0 hSw; (try dsimp only at hSw); (go_simp <;> with_reducible rfl)
                                  try simp only [Act.put, List.setIfInBounds_toArray, List.set_cons_zero, List.set_cons_succ]
                                  refine wpAnyH_done (by kernel_rfl) ?_ _
                                  all_goals
                                    go_wp2_with fail
                                    refine ⟨⟨k + 1, _, rfl, by go_num, hky, Lib.hid ?_, Lib.hid (HBk7.out.trans (Below.mono (by repeat' first | assumption | with_reducible exact Below.refl _ _ | with_reducible apply Below.drew | with_reducible apply below_box1) HBk7.out.size))⟩, by simp [intOf]; omega⟩
                                    rw [HAt.out, ← Bool.or_assoc, ← HC2.out, HTie.out]
                                    simp
                                | false =>
                                  have HS7 := Lib.hid (show ∀ w', Below V7.heap.size V7 w' → (w'.cell? ⟨kx, 0, none⟩ = some (.string (mk x.t.L)) ∧ w'.cell? ⟨kx, 1, none⟩ = some (.string (mk x.t.S)) ∧ w'.cell? ⟨kx, 2, none⟩ = some (.string (mk x.t.R)) ∧ w'.cell? ⟨kx, 3, none⟩ = some (.slice x.A x.t.vs.length x.c) ∧ kx < w'.heap.size ∧ w'.cell? ⟨kz, 0, none⟩ = some (.string (mk z.t.L)) ∧ w'.cell? ⟨kz, 1, none⟩ = some (.string (mk z.t.S)) ∧ w'.cell? ⟨kz, 2, none⟩ = some (.string (mk z.t.R)) ∧ w'.cell? ⟨kz, 3, none⟩ = some (.slice z.A z.t.vs.length z.c) ∧ kz < w'.heap.size ∧ w'.cell? ⟨kv, 0, none⟩ = some (.string (mk v.t.L)) ∧ w'.cell? ⟨kv, 1, none⟩ = some (.string (mk v.t.S)) ∧ w'.cell? ⟨kv, 2, none⟩ = some (.string (mk v.t.R)) ∧ w'.cell? ⟨kv, 3, none⟩ = some (.slice v.A v.t.vs.length v.c) ∧ kv < w'.heap.size) from fun w' q => by
                                    have k0 := (HKx7.out).s4 q
                                    have k1 := (HKz7.out).s4 q
                                    have k2 := (HKv7.out).s4 q
                                    exact ⟨k0.1, k0.2.1, k0.2.2.1, k0.2.2.2.1, k0.2.2.2.2, k1.1, k1.2.1, k1.2.2.1, k1.2.2.2.1, k1.2.2.2.2, k2.1, k2.2.1, k2.2.2.1, k2.2.2.2.1, k2.2.2.2.2⟩)
                                  go_region_held3 (fun w' => w'.cell? ⟨kx, 0, none⟩ = some (.string (mk x.t.L)) ∧ w'.cell? ⟨kx, 1, none⟩ = some (.string (mk x.t.S)) ∧ w'.cell? ⟨kx, 2, none⟩ = some (.string (mk x.t.R)) ∧ w'.cell? ⟨kx, 3, none⟩ = some (.slice x.A x.t.vs.length x.c) ∧ kx < w'.heap.size ∧ w'.cell? ⟨kz, 0, none⟩ = some (.string (mk z.t.L)) ∧ w'.cell? ⟨kz, 1, none⟩ = some (.string (mk z.t.S)) ∧ w'.cell? ⟨kz, 2, none⟩ = some (.string (mk z.t.R)) ∧ w'.cell? ⟨kz, 3, none⟩ = some (.slice z.A z.t.vs.length z.c) ∧ kz < w'.heap.size ∧ w'.cell? ⟨kv, 0, none⟩ = some (.string (mk v.t.L)) ∧ w'.cell? ⟨kv, 1, none⟩ = some (.string (mk v.t.S)) ∧ w'.cell? ⟨kv, 2, none⟩ = some (.string (mk v.t.R)) ∧ w'.cell? ⟨kv, 3, none⟩ = some (.slice v.A v.t.vs.length v.c) ∧ kv < w'.heap.size) (first | exact HS7.out _ (by repeat' first | assumption | with_reducible exact Below.refl _ _ | with_reducible apply Below.drew | with_reducible apply below_box1)) (first
                                    | (go_at_call 10; (with_reducible refine (HSx7.out _ (by repeat' first | assumption | with_reducible exact Below.refl _ _ | with_reducible apply Below.drew | with_reducible apply below_box1)).mono ?_); rintro e w21 ⟨rfl, b_w21⟩; have q_w21 : Below V7.heap.size V7 w21 := below_step (by repeat' first | assumption | with_reducible exact Below.refl _ _ | with_reducible apply Below.drew | with_reducible apply below_box1) b_w21)
                                    | (go_at_call 10; (with_reducible refine (HSz7.out _ (by repeat' first | assumption | with_reducible exact Below.refl _ _ | with_reducible apply Below.drew | with_reducible apply below_box1)).mono ?_); rintro e w22 ⟨rfl, b_w22⟩; have q_w22 : Below V7.heap.size V7 w22 := below_step (by repeat' first | assumption | with_reducible exact Below.refl _ _ | with_reducible apply Below.drew | with_reducible apply below_box1) b_w22)
                                    | (go_at_call 11; (with_reducible refine (HF1.out _ (by repeat' first | assumption | with_reducible exact Below.refl _ _ | with_reducible apply Below.drew | with_reducible apply below_box1)).mono ?_); rintro e w23 ⟨rfl, b_w23⟩; have q_w23 : Below V7.heap.size V7 w23 := below_step (by repeat' first | assumption | with_reducible exact Below.refl _ _ | with_reducible apply Below.drew | with_reducible apply below_box1) b_w23)
                                    | (go_at_call 11; (with_reducible refine (HF2.out _ (by repeat' first | assumption | with_reducible exact Below.refl _ _ | with_reducible apply Below.drew | with_reducible apply below_box1)).mono ?_); rintro e w24 ⟨rfl, b_w24⟩; have q_w24 : Below V7.heap.size V7 w24 := below_step (by repeat' first | assumption | with_reducible exact Below.refl _ _ | with_reducible apply Below.drew | with_reducible apply below_box1) b_w24))
                                  all_goals
                                    go_wp2_with fail
                                    refine ⟨⟨k + 1, _, rfl, by go_num, hky, Lib.hid ?_, Lib.hid (HBk7.out.trans (Below.mono (by repeat' first | assumption | with_reducible exact Below.refl _ _ | with_reducible apply Below.drew | with_reducible apply below_box1) HBk7.out.size))⟩, by simp [intOf]; omega⟩
                                    rw [HAt.out, ← Bool.or_assoc, ← HC2.out, HTie.out]
                                    simp
                          · obtain rfl : k = Y.length := by omega
                            have f7 : decide ((Y.length : Int) < (Y.length : Int)) = false := decide_eq_false (by omega)
                            have HCe := Lib.hid (show c' = (c || (tagsOf ws).any (fun v => tieB z.t x.t v)) by
                              rw [HC2.out, List.take_length, ← HMy.out, List.any_map]; rfl)
                            go_wp2_with fail
                            refine ⟨⟨j + 1, c', rfl, by go_num, hjx, Lib.hid ?_, Lib.hid (below_step HBj13.out HBk.out)⟩, by simp [intOf]; omega⟩
                            rw [any_take (fun x : TG => (tagsOf ws).any (fun v => tieB z.t x.t v)) HXx.out, ← Bool.or_assoc, ← HC.out, HCe.out]
                      · obtain rfl : j = X.length := by omega
                        have f5 : decide ((X.length : Int) < (X.length : Int)) = false := decide_eq_false (by omega)
                        have hct : c = true := by
                          rw [HC.out, List.take_length]
                          have h1 : (X.any fun x => (tagsOf ws).any fun v => tieB z.t x.t v) = (tagsOf ts).any fun x => (tagsOf ws).any fun v => tieB z.t x v := by
                            rw [← HMx.out, List.any_map]; rfl
                          rw [h1]
                          have hzm : z.t ∈ chainU (tagsOf ws) (tagsOf ts) y.t := by
                            rw [← HMp.out]
                            exact List.mem_map_of_mem (List.mem_of_getElem? HZ.out)
                          rcases chain_tie hzm with h | h
                          · rw [← HEe.out, decide_eq_true h]; rfl
                          · rw [h]; exact Bool.or_true _
                        subst hct
                        go_wp2_with fail
                        refine ⟨⟨i + 1, e, rfl, by go_num, hlt, Lib.hid ?_, Lib.hid (below_step HQ12.out HBj.out)⟩, by simp [intOf]; omega⟩
                        rw [any_take (fun z : TG => decide (z.t.text = y.t.text)) HZ.out, ← HE.out, HEe.out]
                        rfl
            · obtain rfl : i = G.length := by omega
              have f1 : decide ((G.length : Int) < (G.length : Int)) = false := decide_eq_false (by omega)
              have hbt : b = true := by
                rw [HE.out, List.take_length, List.any_eq_true]
                obtain ⟨q, hq, e⟩ := chain_last (tagsOf ws) (tagsOf ts) y.t
                rw [← HMp.out] at hq
                obtain ⟨z, hz, rfl⟩ := List.mem_map.1 hq
                exact ⟨z, hz, decide_eq_true e⟩
              subst hbt
              go_wp2_with fail
              go_ret
              exact ⟨rfl, HBg.out.trans (HB.out.mono HBg.out.size)⟩
      · have g2 : decide ((60 : Int) < (s2.size : Int)) = true := decide_eq_true (by omega)
        go_enter Tryd.func3, Tryd.ntmps3
        go_wp2_with fail
        go_at_call 5
        refine HH.out.mono ?_
        rintro e w1 ⟨rfl, b1⟩
        have HB1 := Lib.hid b1
        have HSw := Lib.hid (short_any va ws w1 (HIw.out.later b1) hn)
        have HSt := Lib.hid (short_any vb ts w1 (HIt.out.later b1) hn2)
        clear b1
        go_wp2_with fail
        go_at_call 6
        refine HSw.out.mono ?_
        rw [HHw.out]
        rintro e w1' ⟨rfl, rfl⟩
        go_wp2_with fail
        go_at_call 6
        refine HSt.out.mono ?_
        rw [HHt.out]
        rintro e w1'' ⟨rfl, rfl⟩
        go_wp2_with fail
        go_ret
        exact ⟨rfl, HB1.out⟩
end Go.Proofs.YthlccfjhgejlmaaDoor
