/-
  Several texts put together (part 21): what the law and the program call, walked; their contracts.
-/
import Derived.Test.YthlccfjhgejlmaaGreatDoorQ20
import Derived.Deep.QuietTactic
import Derived.BigQuiet
namespace Go.Proofs.YthlccfjhgejlmaaGreatDoor
open Go.RowKit Go.Shelf Go.ChangeMaps
set_option linter.unusedVariables false
set_option linter.unusedSimpArgs false
attribute [-go_sem] Builtin.append_
def chainG (ws ts : List TG) (x : TG) : List TG := onceT ((onceT ws []).flatMap (fun y => askT (onceT ts []) y.t.pieces) ++ [x]) []
theorem mem_once {l : List TG} {x : TG} (h : x ∈ onceT l []) : x ∈ l := by
  rcases once_mem l [] x h with h | h
  · cases h
  · exact h
theorem once_le (l : List TG) : (onceT l []).length ≤ l.length := by have := once_len l []; simpa using this
abbrev tgObj (x : TG) : Obj := .cells #[.string (mk x.t.L), .string (mk x.t.S), .string (mk x.t.R), .slice x.A x.t.vs.length x.c] 26
abbrev tgV (x : TG) : Value := .agg #[.string (mk x.t.L), .string (mk x.t.S), .string (mk x.t.R), .slice x.A x.t.vs.length x.c]
theorem TgBox.kept {W W' : World} {b n : Nat} {x : TG} (h : TgBox W b x) (g : Below n W W') (hn : b < n) : TgBox W' b x := (g.block b hn).trans h
theorem map_set_t {gs : List TG} {i : Nat} {y : TG} (h : gs[i]? = some y) (A : Option Addr) (c : Nat) : (gs.set i ⟨y.t, A, c⟩).map TG.t = gs.map TG.t := by
  rw [List.map_set]
  apply List.ext_getElem?
  intro j
  rw [List.getElem?_set]
  split
  · next e =>
    subst e
    split
    · rw [List.getElem?_map, h]; rfl
    · next hh =>
      rw [List.length_map] at hh
      have := (List.getElem?_eq_some_iff.1 h).1
      omega
  · rfl
set_option maxHeartbeats 32000000 in
set_option maxRecDepth 100000 in
theorem chain_any (wv tv : Value) (ws ts : List TG) (x : TG) (w : World) (hw : TgsAt w wv ws) (ht : TgsAt w tv ts) (haw : ∀ y ∈ ws, y.At w) (hat : ∀ y ∈ ts, y.At w) (hx : x.At w) (lw : ws.length ≤ 30) (lt : ts.length ≤ 30) (hM : MaxAt w) :
    Calls Tryz.prog 11 #[wv, tv, .agg #[.string (mk x.t.L), .string (mk x.t.S), .string (mk x.t.R), .slice x.A x.t.vs.length x.c]] w fun e w' => ∃ u gs, e = .returned u ∧ OwnTg w.heap.size w' u gs ∧ gs.map TG.t = (chainG ws ts x).map TG.t ∧ (∀ y ∈ gs, y.At w') ∧ Below w.heap.size w w' := by
  obtain ⟨i0, hinf, hz0, hz1, hz2⟩ := info_parts infoTg
  have hb1 : Below w.heap.size w ((w.alloc (tgObj x)).alloc (.cells brCells 45)) := ((Below.refl _ _).alloc (Nat.le_refl _) _).alloc (by simp) _
  have hT1 : TgBox ((w.alloc (tgObj x)).alloc (.cells brCells 45)) w.heap.size x := BoxAt.alloc (BoxAt.new w _ _) _
  have hR1 : BoxAt ((w.alloc (tgObj x)).alloc (.cells brCells 45)) (w.heap.size + 1) brCells 45 := BoxAt.new' _ _ _ _ (by simp)
  have HO := Lib.hid (once_any tv ts ((w.alloc (tgObj x)).alloc (.cells brCells 45)) (ht.later hb1) (fun y hy => (hat y hy).later hb1) (by omega))
  have HW := Lib.hid hw
  have HAw := Lib.hid haw
  have HAt := Lib.hid hat
  have HX := Lib.hid hx
  have HM := Lib.hid hM
  have HB1 := Lib.hid hb1
  have HT1 := Lib.hid hT1
  have HR1 := Lib.hid hR1
  clear hw ht haw hat hx hM hb1 hT1 hR1
  go_enter Tryz.func11, Tryz.ntmps11
  go_wp2_with fail
  go_at_call 23
  refine HO.out.mono ?_
  rintro e w2 ⟨u1, rfl, hown1, b2⟩
  obtain ⟨T, hTT⟩ : ∃ T, onceT ts [] = T := ⟨_, rfl⟩
  have hTl : T.length ≤ 30 := by rw [← hTT]; have := once_le ts; omega
  have hTm : ∀ y ∈ T, y ∈ ts := fun y hy => mem_once (by rw [hTT]; exact hy)
  rw [hTT] at hown1
  have HTT := Lib.hid hTT
  have HTm := Lib.hid hTm
  obtain ⟨A1, c1, rfl, hcells⟩ := hown1.at_
  have HB2 := Lib.hid (HB1.out.trans (b2.mono HB1.out.size))
  have HT2 := Lib.hid (show TgBox w2 w.heap.size x from HT1.out.later b2)
  have HS2 := Lib.hid (St.start (W := w2) (B := w.heap.size + 1) (BoxAt.later HR1.out b2) (Nat.le_refl _))
  have hlo : ∀ b, A1 = some ⟨b, 0, none⟩ → w.heap.size + 2 ≤ b := fun b e => by
    have := (World.ownsRow.lt hown1 b (by rw [e]; rfl)).1
    simpa using this
  have HCl := Lib.hid hcells
  have HLo := Lib.hid hlo
  clear hown1 b2 HO HT1 HR1 HB1 hTT hTm hcells hlo
  have hw2 := HB2.out.size
  have hT0 : (T.length : Int) ≤ 30 := by omega
  go_wp2_with fail
  go_loopw [17] (fun t17 wr => ∃ (i : Nat) (N' : Pth → Option ND), t17 = .int .i64 i ∧ i ≤ T.length ∧ Hid (St (w.heap.size + 1) wr (w.heap.size + 1) N') ∧ Hid (∀ q, cont N' q = Csp (T.take i) q) ∧ Hid (Fr (rootN (w.heap.size + 1)) N' w2 wr) ∧ Hid (Below (w.heap.size + 1) w2 wr)) (fun t17 _ => T.length - (intOf t17).toNat)
  case atStart => exact ⟨0, _, rfl, Nat.zero_le _, HS2, Lib.hid (fun q => cont_start _ q), Lib.hid (Fr.of_below (Below.refl _ _)), Lib.hid (Below.refl _ _)⟩
  case round =>
    obtain ⟨i, N', rfl, hi, HS, HC, HF, HB⟩ := hrel
    have hi0 : (i : Int) ≤ 30 := by omega
    have hwr := HF.out.size
    have HBw := Lib.hid (HB2.out.trans (HB.out.mono (by omega)))
    have hwr0 := HBw.out.size
    by_cases hlt : i < T.length
    · have f1 : decide ((i : Int) < (T.length : Int)) = true := decide_eq_true (by omega)
      have f2 : (i : Int) < (T.length : Int) := by omega
      obtain ⟨b, rfl, hb, hcx⟩ := HCl.out.2 (by omega)
      have hbl := HLo.out b rfl
      have hy := hcx i _ (List.getElem?_eq_getElem hlt)
      have hyA := (HAt.out _ (HTm.out _ (List.getElem_mem hlt))).later HBw.out
      have htk : T.take (i + 1) = T.take i ++ [T[i]] := List.take_succ_eq_append_getElem hlt
      generalize T[i] = y at *
      obtain ⟨g0, g1, g2, g3⟩ := hy
      have nb : ¬ TB (rootN (w.heap.size + 1)) b := fun e => by have := tb_start e; omega
      have g0 := HF.out.cell hb g0 nb
      have g1 := HF.out.cell hb g1 nb
      have g2 := HF.out.cell hb g2 nb
      have g3 := HF.out.cell hb g3 nb
      have hbr : b < wr.heap.size := by omega
      have hV : Below wr.heap.size wr (wr.alloc (tgObj y)) := (Below.refl _ _).alloc (Nat.le_refl _) _
      have HAd := Lib.hid (add_anyN (B := w.heap.size + 1) (HS.out.later hV) (by simp; omega) (T.take i) y (hyA.later hV) (HM.out.on (HBw.out.trans (hV.mono hwr0))) HC.out (by rw [List.length_take]; omega))
      have hTy : TgBox (wr.alloc (tgObj y)) wr.heap.size y := BoxAt.new _ _ _
      obtain ⟨y0, y1, y2, y3⟩ := hTy.cells
      have HTk := Lib.hid htk
      clear hcx hyA htk hV hTy nb
      go_wp2_with fail
      go_at_call 24
      refine HAd.out.mono ?_
      rintro e w4 ⟨rfl, N2, hs4, hc4, hf4, hb4⟩
      have hV : Below wr.heap.size wr (wr.alloc (tgObj y)) := (Below.refl _ _).alloc (Nat.le_refl _) _
      have HS4 := Lib.hid hs4
      have HC4 := Lib.hid (show ∀ q, cont N2 q = Csp (T.take (i + 1)) q by rw [HTk.out]; exact hc4)
      have HF4 := Lib.hid (HF.out.trans ((Fr.of_below hV).trans hf4))
      have HB4 := Lib.hid (HB.out.trans ((hV.mono (by omega)).trans hb4))
      clear hs4 hc4 hf4 hb4 hV HAd g0 g1 g2 g3 y0 y1 y2 y3
      go_wp2_with fail
      exact ⟨⟨i + 1, N2, by go_num, hlt, HS4, HC4, HF4, HB4⟩, by simp [intOf]; omega⟩
    · obtain rfl : i = T.length := by omega
      have f1 : decide ((T.length : Int) < (T.length : Int)) = false := decide_eq_false (by omega)
      have HC1 := Lib.hid (show ∀ q, cont N' q = Csp T q by have := HC.out; rw [List.take_length] at this; exact this)
      have HTx := Lib.hid (TgBox.kept HT2.out HB.out (Nat.lt_succ_self _))
      have HOw := Lib.hid (once_any wv ws wr (HW.out.later HBw.out) (fun y hy => (HAw.out y hy).later HBw.out) (by omega))
      clear HC HF HB HT2 HS2 HCl HLo
      go_wp2_with fail
      go_at_call 23
      refine HOw.out.mono ?_
      rintro e w6 ⟨u2, rfl, hown2, b6⟩
      obtain ⟨Z, hZZ⟩ : ∃ Z, onceT ws [] = Z := ⟨_, rfl⟩
      have hZl : Z.length ≤ 30 := by rw [← hZZ]; have := once_le ws; omega
      have hZm : ∀ y ∈ Z, y ∈ ws := fun y hy => mem_once (by rw [hZZ]; exact hy)
      rw [hZZ] at hown2
      have HZZ := Lib.hid hZZ
      have HZm := Lib.hid hZm
      obtain ⟨A2, c2, rfl, hcells⟩ := hown2.at_
      have HB6 := Lib.hid (HBw.out.trans (b6.mono hwr0))
      have HS6 := Lib.hid (HS.out.later b6)
      have HT6 := Lib.hid (show TgBox w6 w.heap.size x from HTx.out.later b6)
      have HCl := Lib.hid hcells
      have hw6 := HB6.out.size
      have hx6 : w.heap.size < w6.heap.size := BoxAt.lt HT6.out
      have hZ0 : (Z.length : Int) ≤ 30 := by omega
      have hpre := HS.out.pre
      have HPre := Lib.hid hpre
      have HLN := Lib.hid (show ∀ q m, N' q = some m → m.I.length ≤ 10000 ∧ m.F.length ≤ 10000 from fun q m hm => by
        obtain ⟨e1, e2⟩ := cont_some HC1.out hm
        rw [e1, e2]
        have := sp_len T q
        omega)
      clear hown2 b6 HOw HTx HS hZZ hZm hcells hpre HBw
      go_wp2_with fail
      go_loopw [10, 27] (fun t10 t27 wr => ∃ (i : Nat) (acc : List TG), t27 = .int .i64 i ∧ i ≤ Z.length ∧ acc.length ≤ i * 30060 ∧ Hid (acc = (Z.take i).flatMap (fun y => askT T y.t.pieces)) ∧ Hid (OwnTg w6.heap.size wr t10 acc) ∧ Hid (Below w6.heap.size w6 wr)) (fun _ t27 _ => Z.length - (intOf t27).toNat)
      case atStart => exact ⟨0, [], rfl, Nat.zero_le _, Nat.zero_le _, Lib.hid rfl, Lib.hid (OwnTg.nil _ _), Lib.hid (Below.refl _ _)⟩
      case round =>
        obtain ⟨i, acc, rfl, hi, hal, HE, HO, HB⟩ := hrel
        have hi0 : (i : Int) ≤ 30 := by omega
        have hwq := HB.out.size
        have HBq := Lib.hid (HB6.out.trans (HB.out.mono hw6))
        by_cases hlt : i < Z.length
        · have f1 : decide ((i : Int) < (Z.length : Int)) = true := decide_eq_true (by omega)
          have f2 : (i : Int) < (Z.length : Int) := by omega
          obtain ⟨b, rfl, hb, hcx⟩ := HCl.out.2 (by omega)
          have hy := hcx i _ (List.getElem?_eq_getElem hlt)
          have hyA := (HAw.out _ (HZm.out _ (List.getElem_mem hlt))).later HBq.out
          have htk : Z.take (i + 1) = Z.take i ++ [Z[i]] := List.take_succ_eq_append_getElem hlt
          generalize Z[i] = y at *
          obtain ⟨g0, g1, g2, g3⟩ := hy
          have g0 := (HB.out.cell (p := ⟨b, i * 4, none⟩) hb).trans g0
          have g1 := (HB.out.cell (p := ⟨b, i * 4 + 1, none⟩) hb).trans g1
          have g2 := (HB.out.cell (p := ⟨b, i * 4 + 2, none⟩) hb).trans g2
          have g3 := (HB.out.cell (p := ⟨b, i * 4 + 3, none⟩) hb).trans g3
          have hbr : b < wr.heap.size := by omega
          have hV : Below wr.heap.size wr (wr.alloc (tgObj y)) := (Below.refl _ _).alloc (Nat.le_refl _) _
          have hBV := HBq.out.trans (hV.mono (by omega))
          have HPy := Lib.hid (show askN N' y.t.pieces = askT T y.t.pieces from ask_eq HC1.out HPre.out (pieces_ne hyA.ok.good))
          have hyl := askT_len (ts := T) (P := y.t.pieces) hTl
          have hyp := hyA.ok.pieces
          have HAs := Lib.hid (callsIn_wide.1 (asked_in (B := w.heap.size + 1) 3 (by omega) (HS6.out.later (HB.out.trans (hV.mono hwq))) (by simp; omega) y (hyA.later hV) (HM.out.on hBV) HLN.out))
          have hTy : TgBox (wr.alloc (tgObj y)) wr.heap.size y := BoxAt.new _ _ _
          obtain ⟨y0, y1, y2, y3⟩ := hTy.cells
          have HTk := Lib.hid htk
          have HV := Lib.hid hV
          clear hcx hyA htk hV hTy hBV
          go_wp2_with fail
          go_at_call 25
          refine HAs.out.mono ?_
          rintro e w7 ⟨u3, rfl, hown3, b7⟩
          rw [HPy.out] at hown3
          have hb7 : Below wr.heap.size wr w7 := HV.out.trans (b7.mono HV.out.size)
          obtain ⟨v8, w8, hap, hown8, hgr8⟩ := run_spread (HO.out.later hb7) hown3 (by omega) (by have := hb7.size; omega)
          obtain ⟨acc2, hacc2⟩ : ∃ acc2, acc ++ askT T y.t.pieces = acc2 := ⟨_, rfl⟩
          have hal2 : acc2.length ≤ (i + 1) * 30060 := by rw [← hacc2, List.length_append]; omega
          rw [hacc2] at hown8
          obtain ⟨A8, c8, rfl, _⟩ := hown8.slice
          obtain ⟨A3, c3, rfl, _⟩ := hown3.slice
          have HB8 := Lib.hid ((HB.out.trans (hb7.mono hwq)).grown hgr8 (by have := hb7.size; omega) (fun k e => (World.ownsRow.lt HO.out k e).1))
          have HO8 := Lib.hid hown8
          have HE8 := Lib.hid (show acc2 = (Z.take (i + 1)).flatMap (fun y => askT T y.t.pieces) by
            rw [← hacc2, HTk.out, List.flatMap_append, HE.out]
            simp)
          clear hacc2 hown8 hgr8 hown3 b7 hb7 HAs HV g0 g1 g2 g3 y0 y1 y2 y3
          go_wp2_with fail
          exact ⟨⟨i + 1, acc2, by go_num, hlt, hal2, HE8, HO8, HB8⟩, by simp [intOf]; omega⟩
        · obtain rfl : i = Z.length := by omega
          have f1 : decide ((Z.length : Int) < (Z.length : Int)) = false := decide_eq_false (by omega)
          rw [List.take_length] at HE
          have hTx : TgBox wr w.heap.size x := TgBox.kept HT6.out HB.out (by omega)
          obtain ⟨x0, x1, x2, x3⟩ := hTx.cells
          have hxq : w.heap.size < wr.heap.size := by omega
          have hRow := World.ownsRow.alloc HO.out (tgObj x)
          have hNew : TgBox (wr.alloc (tgObj x)) wr.heap.size x := BoxAt.new _ _ _
          have HNew := Lib.hid hNew
          have hacl : acc.length ≤ 901800 := by omega
          have hwq6 : w6.heap.size ≤ (wr.alloc (tgObj x)).heap.size := by simp; omega
          clear hTx hNew
          go_wp2_with (at_builtin; refine wpList_append_own _ rfl _ _ 29 rfl w6.heap.size 26 i0 zTg 4 72 Tryz.underlying29 hinf hz0 hz1 hz2 rfl (by decide) _ _ _ rfl hRow ⟨wr.heap.size, 0, none⟩ 1 1 x.cells rfl rfl HNew.out.news (tgOne x) (by unfold maxLen; omega) (by omega) hwq6 ?_; intro v' w9 hown' hgrow hnil)
          have hown9 := OwnTg.push hown'
          have hb9 : Below w6.heap.size wr w9 := ((Below.refl _ wr).alloc hwq _).grown hgrow hwq6 (fun k e => (World.ownsRow.lt HO.out k e).1)
          have HB9 := Lib.hid (HBq.out.trans (hb9.mono hw6))
          have HOn := Lib.hid (once_any v' (acc ++ [x]) w9 hown9.at_ (fun y hy => by
            rcases List.mem_append.1 hy with h | h
            · rw [HE.out] at h
              obtain ⟨z, _, h⟩ := List.mem_flatMap.1 h
              exact (HAt.out _ (HTm.out _ (askT_mem h))).later HB9.out
            · rw [List.mem_singleton] at h
              rw [h]
              exact HX.out.later HB9.out) (by rw [List.length_append]; simp; omega))
          clear hown' hgrow hnil hRow hb9 hown9 HNew hwq6 x0 x1 x2 x3
          go_wp2_with fail
          go_at_call 23
          refine HOn.out.mono ?_
          rintro e w10 ⟨u4, rfl, hown4, b10⟩
          obtain ⟨G, hGG⟩ : ∃ G, onceT (acc ++ [x]) [] = G := ⟨_, rfl⟩
          have hGl : G.length ≤ 901801 := by rw [← hGG]; have := once_le (acc ++ [x]); rw [List.length_append] at this; simp at this; omega
          rw [hGG] at hown4
          have HGG := Lib.hid (show G = chainG ws ts x by
            unfold chainG
            rw [HTT.out, HZZ.out, ← HE.out, hGG])
          have hw9 := HB9.out.size
          have HB10 := Lib.hid (HB9.out.trans (b10.mono hw9))
          have HGA := Lib.hid (show ∀ y ∈ G, y.At w10 ∧ ∀ a, y.A = some a → u4.ownBlock ≠ some a.block from fun y hy => by
            have hy0 : y.At w := by
              rw [← hGG] at hy
              rcases List.mem_append.1 (mem_once hy) with h | h
              · rw [HE.out] at h
                obtain ⟨z, _, h⟩ := List.mem_flatMap.1 h
                exact HAt.out _ (HTm.out _ (askT_mem h))
              · rw [List.mem_singleton] at h
                rw [h]
                exact HX.out
            refine ⟨hy0.later HB10.out, fun a ha e => ?_⟩
            have h1 := (World.ownsRow.lt hown4 _ e).1
            rcases hy0.vs.2 with ⟨h0, _⟩ | ⟨b, off, cap, e2, hb, _⟩
            · rw [ha] at h0; cases h0
            · rw [ha] at e2; injection e2 with e3; injection e3 with e4; rw [e4] at h1; simp at h1; omega)
          obtain ⟨A4, c4, rfl, _⟩ := hown4.slice
          have HO10 := Lib.hid hown4
          have hG0 : (G.length : Int) ≤ 901801 := by omega
          clear hown4 b10 HOn hGG HB9 HE HO HB HBq
          go_wp2_with fail
          go_loopw [43] (fun t43 wr => ∃ (i : Nat) (gs : List TG), t43 = .int .i64 i ∧ i ≤ G.length ∧ gs.length = G.length ∧ Hid (gs.map TG.t = G.map TG.t) ∧ Hid (OwnTg w9.heap.size wr (.slice A4 G.length c4) gs) ∧ Hid (∀ y ∈ gs, y.At wr ∧ ∀ a, y.A = some a → (Value.slice A4 G.length c4).ownBlock ≠ some a.block) ∧ Hid (Below w.heap.size w wr)) (fun t43 _ => G.length - (intOf t43).toNat)
          case atStart => exact ⟨0, G, rfl, Nat.zero_le _, rfl, Lib.hid rfl, HO10, HGA, HB10⟩
          case round =>
            obtain ⟨i, gs, rfl, hi, hgl, HE, HO, HA, HB⟩ := hrel
            have hi0 : (i : Int) ≤ 901801 := by omega
            by_cases hlt : i < G.length
            · have f1 : decide ((i : Int) < (G.length : Int)) = true := decide_eq_true (by omega)
              have f2 : (i : Int) < (G.length : Int) := by omega
              have hlt2 : i < gs.length := by omega
              obtain ⟨gb, hA4⟩ : ∃ gb, A4 = some ⟨gb, 0, none⟩ := by
                rcases HO.out.2 with ⟨e, h0⟩ | ⟨g, cap, cur, e, _⟩
                · omega
                · injection e with e1; exact ⟨g, e1⟩
              subst hA4
              have hgi := List.getElem?_eq_getElem hlt2
              have hyA := HA.out _ (List.getElem_mem hlt2)
              obtain ⟨y, hyy⟩ : ∃ y, gs[i] = y := ⟨_, rfl⟩
              rw [hyy] at hgi hyA
              obtain ⟨bb, e1, hbb, hcx⟩ : ∃ b, some (⟨gb, 0, none⟩ : Addr) = some ⟨b, 0, none⟩ ∧ b < wr.heap.size ∧ ∀ j x, gs[j]? = some x → Tg4 wr b (j * 4) x := by
                obtain ⟨A, c, e, _, h⟩ := HO.out.at_
                injection e with e1
                rw [← e1] at h
                exact h (by omega)
              cases e1
              obtain ⟨_, _, _, g3⟩ := hcx i y hgi
              have HCv := Lib.hid (cloneV hyA.1)
              have HGi := Lib.hid hgi
              have hgb : w9.heap.size ≤ gb := (World.ownsRow.lt HO.out gb rfl).1
              clear hcx hyA hgi hyy
              go_wp2_with fail
              go_at_call 26
              refine HCv.out.mono ?_
              rintro e w11 ⟨A5, c5, rfl, hv5, b11, hn5⟩
              have hO11 := HO.out.later b11
              obtain ⟨cur, hcur⟩ : ∃ cur, w11.heap[gb]? = some (.cells cur 26 (0, 0)) := by
                rcases hO11.2 with ⟨e, h0⟩ | ⟨g, cap, cur, e, _, hg, _⟩
                · omega
                · injection e with e1; injection e1 with e1; injection e1 with e1; subst e1; exact ⟨cur, hg⟩
              have s1 := (b11.cell (p := ⟨gb, i * 4 + 3, none⟩) hbb).trans g3
              have s2 : w11.frozen? ⟨gb, i * 4 + 3, none⟩ = false := Lib.frozen_of_heap hcur _
              have hb11 : gb < w11.heap.size := Nat.lt_of_lt_of_le hbb b11.size
              have HO11 := Lib.hid hO11
              have HV5 := Lib.hid hv5
              have HN5 := Lib.hid hn5
              have HB11 := Lib.hid b11
              clear hO11 hv5 hn5 b11 hcur HCv g3
              go_wp2_with fail
              refine ⟨⟨i + 1, gs.set i ⟨y.t, A5, c5⟩, by go_num, hlt, by rw [List.length_set]; exact hgl, Lib.hid (by rw [map_set_t HGi.out]; exact HE.out), Lib.hid ?_, Lib.hid (fun z hz => ?_), Lib.hid ?_⟩, by simp [intOf]; omega⟩
              · unfold OwnTg
                rw [← tgCells_set gs i y A5 c5 HGi.out, List.length_set]
                have h9 := HO11.out
                unfold OwnTg at h9
                rw [hgl] at h9 ⊢
                exact ownsRow_cellSet h9 _ _
              · rcases List.mem_or_eq_of_mem_set hz with h | h
                · have h1 := HA.out z h
                  exact ⟨(h1.1.later HB11.out).grown (grown_cell _ _ _ _) (fun a ha => h1.2 a ha), h1.2⟩
                · subst h
                  have hne : ∀ a, A5 = some a → some gb ≠ some a.block := fun a ha e => by
                    have := HN5.out a ha
                    cases e
                    omega
                  have hyo : y.t.Ok := (HA.out y (List.mem_of_getElem? HGi.out)).1.ok
                  exact ⟨TG.At.grown (x := ⟨y.t, A5, c5⟩) ⟨hyo, HV5.out⟩ (grown_cell _ _ _ _) hne, hne⟩
              · exact (HB.out.trans (HB11.out.mono HB.out.size)).setCell (by show w.heap.size ≤ gb; omega) _
            · obtain rfl : i = G.length := by omega
              have f1 : decide ((G.length : Int) < (G.length : Int)) = false := decide_eq_false (by omega)
              go_wp2
              go_ret
              refine ⟨_, gs, rfl, ownsRow_base' HO.out hw9, by rw [HE.out, HGG.out], fun y hy => (HA.out y hy).1, HB.out⟩
end Go.Proofs.YthlccfjhgejlmaaGreatDoor

namespace Go.Proofs.YthlccfjhgejlmaaGreatDoor
open Go.RowKit Go.Shelf
set_option linter.unusedVariables false
set_option linter.unusedSimpArgs false
def onceU : List TagT → List TagT → List TagT
  | [], acc => acc
  | x :: r, acc => onceU r (if x.text ∈ acc.map TagT.text then acc else acc ++ [x])
def IspU (ts : List TagT) (q : Pth) : List TagT := ts.filter (fun t => t.pieces == q)
def FspU (ts : List TagT) (q : Pth) : List TagT := if q.isEmpty then [] else ts.filter (fun t => q.isPrefixOf t.pieces)
def askU (ts : List TagT) (P : Pth) : List TagT := IspU ts P ++ FspU ts P ++ (presR [] P).flatMap (IspU ts)
def chainU (ws ts : List TagT) (x : TagT) : List TagT := onceU ((onceU ws []).flatMap (fun y => askU (onceU ts []) y.pieces) ++ [x]) []
theorem once_map : ∀ (l acc : List TG), (onceT l acc).map TG.t = onceU (l.map TG.t) (acc.map TG.t)
  | [], acc => rfl
  | x :: r, acc => by
    rw [onceT, List.map_cons, onceU, once_map r]
    have e : (acc.map TG.t).map TagT.text = acc.map TG.text := by rw [List.map_map]; rfl
    rw [e]
    show onceU _ (List.map TG.t (if x.text ∈ List.map TG.text acc then acc else acc ++ [x])) = onceU _ (if x.text ∈ List.map TG.text acc then _ else _)
    split
    · rfl
    · rw [List.map_append]; rfl
theorem isp_map (ts : List TG) (q : Pth) : (Isp ts q).map TG.t = IspU (ts.map TG.t) q := by
  unfold Isp IspU
  rw [List.filter_map]
  rfl
theorem fsp_map (ts : List TG) (q : Pth) : (Fsp ts q).map TG.t = FspU (ts.map TG.t) q := by
  unfold Fsp FspU
  split
  · rfl
  · rw [List.filter_map]; rfl
theorem ask_map (ts : List TG) (P : Pth) : (askT ts P).map TG.t = askU (ts.map TG.t) P := by
  unfold askT askU
  rw [List.map_append, List.map_append, isp_map, fsp_map, List.map_flatMap]
  congr 1
  apply congrFun
  apply congrArg
  funext q
  exact isp_map ts q
theorem chain_map (ws ts : List TG) (x : TG) : (chainG ws ts x).map TG.t = chainU (ws.map TG.t) (ts.map TG.t) x.t := by
  unfold chainG chainU
  rw [once_map, List.map_append, List.map_flatMap]
  have e1 : (onceT ws []).map TG.t = onceU (ws.map TG.t) [] := once_map ws []
  have e2 : (onceT ts []).map TG.t = onceU (ts.map TG.t) [] := once_map ts []
  rw [← e1, ← e2]
  have e3 : ∀ l : List TG, l.flatMap (fun a => (askT (onceT ts []) a.t.pieces).map TG.t) = (l.map TG.t).flatMap (fun y => askU ((onceT ts []).map TG.t) y.pieces) := by
    intro l
    rw [List.flatMap_map]
    apply congrFun
    apply congrArg
    funext a
    exact ask_map _ _
  rw [e3]
  rfl
def OwnS (B : Nat) (W : World) (v : Value) (l : List (List UInt8)) : Prop := W.ownsRow B 9 1 v l.length (l.map fun p => .string (mk p))
def SL (W : World) (v : Value) (l : List (List UInt8)) : Prop := ∃ A c, v = .slice A l.length c ∧ (0 < l.length → ∃ b, A = some ⟨b, 0, none⟩ ∧ b < W.heap.size ∧ ∀ (j : Nat) p, l[j]? = some p → W.cell? ⟨b, j, none⟩ = some (.string (mk p)))
theorem SL.later {W W' : World} {v : Value} {l : List (List UInt8)} (h : SL W v l) (g : Below W.heap.size W W') : SL W' v l := by
  obtain ⟨A, c, rfl, h⟩ := h
  refine ⟨A, c, rfl, fun h0 => ?_⟩
  obtain ⟨b, rfl, hb, hc⟩ := h h0
  exact ⟨b, rfl, Nat.lt_of_lt_of_le hb g.size, fun j p hp => (g.cell (p := ⟨b, j, none⟩) hb).trans (hc j p hp)⟩
theorem OwnS.sl {B : Nat} {W : World} {v : Value} {l : List (List UInt8)} (h : OwnS B W v l) : SL W v l := by
  rcases h.2 with ⟨rfl, h0⟩ | ⟨g, cap, cur, rfl, _, hg, _⟩
  · exact ⟨none, 0, by rw [h0], fun h => by omega⟩
  · refine ⟨_, _, rfl, fun _ => ⟨g, rfl, (Array.getElem?_eq_some_iff.1 hg).1, fun j p hp => ?_⟩⟩
    have := World.ownsRow.cells h (g := g) rfl j (.string (mk p)) (by rw [List.getElem?_map, hp]; rfl)
    rw [add_zero] at this
    simpa using this
theorem OwnS.later {B : Nat} {W W' : World} {v : Value} {l : List (List UInt8)} (h : OwnS B W v l) (g : Below W.heap.size W W') : OwnS B W' v l := ownsRow_later h g
theorem OwnS.empty (w : World) : OwnS w.heap.size (w.alloc (.cells #[] 9)) (.slice (some ⟨w.heap.size, 0, none⟩) 0 0) [] :=
  ⟨rfl, .inr ⟨w.heap.size, 0, #[], rfl, Nat.le_refl _, World.alloc_heap_new w _, Nat.le_refl _, Nat.zero_le _, rfl, rfl⟩⟩
theorem OwnS.push {B : Nat} {W : World} {v : Value} {l : List (List UInt8)} {p : List UInt8} (h : W.ownsRow B 9 1 v (l.length + 1) (l.map (fun p => Value.string (mk p)) ++ [.string (mk p)])) : OwnS B W v (l ++ [p]) := by
  unfold OwnS
  rw [List.map_append, List.length_append]
  exact h
theorem OwnS.out {B : Nat} {W : World} {v : Value} {l : List (List UInt8)} (h : OwnS B W v l) : ∃ A c, v = .slice A l.length c ∧ l.length ≤ c := row_out h
theorem box_strs (w : World) (l : List ByteArray) (cs : Array Value) (h : cs = (l.map Value.string).toArray) {W : World} {b : Nat} (hb : BoxAt W b cs 9) (n : Nat) : SAt W (.slice (some ⟨b, 0, none⟩) l.length n) l := by
  refine ⟨_, n, rfl, fun _ => ⟨b, 0, rfl, hb.lt, fun j hj => ?_⟩⟩
  have h1 : W.heap[b]? = some (.cells cs 9 (0, 0)) := hb
  have h2 : cs[j]? = some (.string (l[j]?.getD ByteArray.empty)) := by
    rw [h, List.getElem?_toArray, List.getElem?_map, List.getElem?_eq_getElem hj]; rfl
  rw [Nat.zero_add]
  simp [World.cell?, h1, h2]
theorem box_sl {W : World} {b : Nat} {cs : Array Value} (l : List (List UInt8)) (h : cs = (l.map fun p => Value.string (mk p)).toArray) (hb : BoxAt W b cs 9) (n : Nat) : SL W (.slice (some ⟨b, 0, none⟩) l.length n) l := by
  refine ⟨_, _, rfl, fun _ => ⟨b, rfl, hb.lt, fun j p hp => ?_⟩⟩
  have h1 : W.heap[b]? = some (.cells cs 9 (0, 0)) := hb
  have h2 : cs[j]? = some (.string (mk p)) := by
    rw [h, List.getElem?_toArray, List.getElem?_map, hp]; rfl
  simp [World.cell?, h1, h2]
end Go.Proofs.YthlccfjhgejlmaaGreatDoor

namespace Go.Proofs.YthlccfjhgejlmaaGreatDoor
open Go.RowKit Go.Shelf
set_option linter.unusedVariables false
set_option linter.unusedSimpArgs false
theorem infoS : (Tryz.prog.info? 9).map (fun i => (i.zero, i.size, i.bytes)) = some (some (.string ⟨#[]⟩), 1, 16) := by kernel_rfl
set_option maxHeartbeats 8000000 in
set_option maxRecDepth 100000 in
theorem texts_any (v : Value) (l : List TG) (w : World) (hl : TgsAt w v l) (ha : ∀ x ∈ l, x.At w) (hn : l.length ≤ 1000000) :
    Calls Tryz.prog 9 #[v] w fun e w' => ∃ u, e = .returned u ∧ OwnS w.heap.size w' u (l.map TG.text) ∧ Below w.heap.size w w' := by
  obtain ⟨A, c, rfl, hc, hcs⟩ := hl
  obtain ⟨i0, hinf, hz0, hz1, hz2⟩ := info_parts infoS
  have HA := Lib.hid ha
  have HCs := Lib.hid hcs
  have hn0 : (l.length : Int) ≤ 1000000 := by omega
  clear ha hcs
  go_enter Tryz.func9, Tryz.ntmps9
  go_wp2
  go_loopw [3, 9] (fun t3 t9 wr => ∃ (i : Nat) (acc : List (List UInt8)), t9 = .int .i64 i ∧ i ≤ l.length ∧ acc.length = i ∧ Hid (acc = (l.take i).map TG.text) ∧ Hid (OwnS w.heap.size wr t3 acc) ∧ Hid (Below w.heap.size w wr)) (fun _ t9 _ => l.length - (intOf t9).toNat)
  case atStart => exact ⟨0, [], rfl, Nat.zero_le _, rfl, Lib.hid rfl, Lib.hid (OwnS.empty w), Lib.hid ((Below.refl _ _).alloc (Nat.le_refl _) _)⟩
  case round =>
    obtain ⟨i, acc, rfl, hi, hac, HE, HW, HB⟩ := hrel
    have hi0 : (i : Int) ≤ 1000000 := by omega
    by_cases hlt : i < l.length
    · have f1 : decide ((i : Int) < (l.length : Int)) = true := decide_eq_true (by omega)
      have f2 : (i : Int) < (l.length : Int) := by omega
      obtain ⟨b, rfl, hb, hcx⟩ := HCs.out (by omega)
      have hx := hcx i _ (List.getElem?_eq_getElem hlt)
      have hxA := HA.out _ (List.getElem_mem hlt)
      have htk : l.take (i + 1) = l.take i ++ [l[i]] := List.take_succ_eq_append_getElem hlt
      generalize l[i] = x at *
      obtain ⟨g0, g1, g2, g3⟩ := hx
      have g0 := (HB.out.cell (p := ⟨b, i * 4, none⟩) hb).trans g0
      have g1 := (HB.out.cell (p := ⟨b, i * 4 + 1, none⟩) hb).trans g1
      have g2 := (HB.out.cell (p := ⟨b, i * 4 + 2, none⟩) hb).trans g2
      have g3 := (HB.out.cell (p := ⟨b, i * 4 + 3, none⟩) hb).trans g3
      have hbr : b < wr.heap.size := Nat.lt_of_lt_of_le hb HB.out.size
      have hws := HB.out.size
      have hV : Below wr.heap.size wr (wr.alloc (tgObj x)) := (Below.refl _ _).alloc (Nat.le_refl _) _
      have HSt := Lib.hid (stringG ((hxA.later HB.out).later hV))
      have HW1 := Lib.hid (HW.out.later hV)
      have HB1 := Lib.hid (HB.out.trans (hV.mono hws))
      have hTy : TgBox (wr.alloc (tgObj x)) wr.heap.size x := BoxAt.new _ _ _
      obtain ⟨y0, y1, y2, y3⟩ := hTy.cells
      have HE1 := Lib.hid (show acc ++ [x.text] = (l.take (i + 1)).map TG.text by rw [htk, List.map_append, HE.out]; rfl)
      clear hcx hxA htk hV hTy
      go_wp2_with fail
      go_at_call 13
      refine HSt.out.mono ?_
      rintro e w2 ⟨rfl, b2⟩
      have HB2 := Lib.hid (HB1.out.trans (b2.mono HB1.out.size))
      have HW2 := Lib.hid (HW1.out.later b2)
      have hw2 := HB2.out.size
      have hRow := World.ownsRow.alloc HW2.out (.cells #[.string (mk x.t.text)] 9)
      have HNew := Lib.hid (BoxAt.new w2 #[.string (mk x.t.text)] 9)
      clear HSt HW1 HB1 b2 g0 g1 g2 g3 y0 y1 y2 y3
      go_wp2_with (at_builtin; refine wpList_append_own _ rfl _ _ 22 rfl w.heap.size 9 i0 (.string ⟨#[]⟩) 1 16 Tryz.underlying22 hinf hz0 hz1 hz2 rfl (by decide) _ _ _ rfl hRow ⟨w2.heap.size, 0, none⟩ 1 1 [.string (mk x.t.text)] rfl rfl (by intro j u hj; rw [add_zero]; match j, hj with | 0, hj => simp at hj; subst hj; exact HNew.out.cell 0) (by intro u hu; simp at hu; subst hu; rfl) (by unfold maxLen; omega) (by omega) (by simp; omega) ?_; intro v' w4 hown' hgrow hnil)
      have HW4 := Lib.hid (show OwnS w.heap.size w4 v' (acc ++ [x.text]) from OwnS.push hown')
      have HB4 := Lib.hid (((HB2.out.alloc (by omega) _).grown hgrow (by simp; omega) (fun k e => (World.ownsRow.lt HW2.out k e).1)))
      clear hown' hgrow hnil hRow
      go_wp2_with fail
      exact ⟨⟨i + 1, acc ++ [x.text], by go_num, hlt, by simp; omega, HE1, HW4, HB4⟩, by simp [intOf]; omega⟩
    · obtain rfl : i = l.length := by omega
      have f1 : decide ((l.length : Int) < (l.length : Int)) = false := decide_eq_false (by omega)
      have hE := HE.out
      rw [List.take_length] at hE
      go_wp2
      go_ret
      rw [← hE]
      exact ⟨_, rfl, HW.out, HB.out⟩
set_option maxHeartbeats 8000000 in
set_option maxRecDepth 100000 in
theorem same_any (va vb : Value) (a b : List (List UInt8)) (w : World) (h1 : SL w va a) (h2 : SL w vb b) (hn : a.length ≤ 1000000) (hn2 : b.length ≤ 1000000) :
    Calls Tryz.prog 8 #[va, vb] w fun e w' => e = .returned (.bool (decide (a = b))) ∧ Below w.heap.size w w' := by
  obtain ⟨A, c, rfl, ha⟩ := h1
  obtain ⟨A', c', rfl, hb⟩ := h2
  have hn0 : (a.length : Int) ≤ 1000000 := by omega
  have hn1 : (b.length : Int) ≤ 1000000 := by omega
  by_cases hlen : a.length = b.length
  · have f0 : ((a.length : Int) == (b.length : Int)) = true := by rw [hlen]; exact beq_self_eq_true _
    have Ha := Lib.hid ha
    have Hb := Lib.hid hb
    have HLen := Lib.hid hlen
    clear ha hb
    go_enter Tryz.func8, Tryz.ntmps8
    clear hlen
    go_wp2
    go_loopw [13] (fun t13 wr => ∃ (i : Nat), t13 = .int .i64 i ∧ i ≤ a.length ∧ Hid (a.take i = b.take i) ∧ Hid (Below w.heap.size w wr)) (fun t13 _ => a.length - (intOf t13).toNat)
    case atStart => exact ⟨0, rfl, Nat.zero_le _, Lib.hid rfl, Lib.hid (Below.refl _ _)⟩
    case round =>
      obtain ⟨i, rfl, hi, HE, HB⟩ := hrel
      have hi0 : (i : Int) ≤ 1000000 := by omega
      by_cases hlt : i < a.length
      · have f1 : decide ((i : Int) < (a.length : Int)) = true := decide_eq_true (by omega)
        have f2 : (i : Int) < (a.length : Int) := by omega
        have hlt2 : i < b.length := by have := HLen.out; omega
        have f3 : (i : Int) < (b.length : Int) := by omega
        obtain ⟨ka, rfl, hka, hca⟩ := Ha.out (by omega)
        obtain ⟨kb, rfl, hkb, hcb⟩ := Hb.out (by omega)
        have c1 := (HB.out.cell (p := ⟨ka, i, none⟩) hka).trans (hca i _ (List.getElem?_eq_getElem hlt))
        have c2 := (HB.out.cell (p := ⟨kb, i, none⟩) hkb).trans (hcb i _ (List.getElem?_eq_getElem hlt2))
        have t1 : a.take (i + 1) = a.take i ++ [a[i]] := List.take_succ_eq_append_getElem hlt
        have t2 : b.take (i + 1) = b.take i ++ [b[i]] := List.take_succ_eq_append_getElem hlt2
        have e1 : ∀ (h : i < a.length), a[i]? = some a[i] := fun h => List.getElem?_eq_getElem h
        have HNe := Lib.hid (show a[i] ≠ b[i] → a ≠ b from fun h e => h (by subst e; rfl))
        have z1 : ka < wr.heap.size := Nat.lt_of_lt_of_le hka HB.out.size
        have z2 : kb < wr.heap.size := Nat.lt_of_lt_of_le hkb HB.out.size
        clear e1
        generalize a[i] = p at *
        generalize b[i] = q at *
        have HT1 := Lib.hid t1
        have HT2 := Lib.hid t2
        clear hca hcb t1 t2
        by_cases hpq : p = q
        · have g1 : (mk p).toList == (mk q).toList := by rw [hpq]; exact beq_self_eq_true _
          have HE2 := Lib.hid (show a.take (i + 1) = b.take (i + 1) by rw [HT1.out, HT2.out, HE.out, hpq])
          clear hpq
          go_wp2
          go_quiet (fail)
          go_wp2
          exact ⟨⟨i + 1, by go_num, hlt, HE2, Lib.hid (below_drewN HB.out _)⟩, by simp [intOf]; omega⟩
        · have g1 : ((mk p).toList == (mk q).toList) = false := by
            rw [beq_eq_false_iff_ne]
            intro h
            apply hpq
            rw [Lib.toList_data, Lib.toList_data] at h
            exact h
          have HD := Lib.hid (show decide (a = b) = false from decide_eq_false (HNe.out hpq))
          clear hpq
          go_wp2
          go_quiet (fail)
          go_wp2
          go_ret
          exact ⟨by rw [HD.out]; rfl, below_drewN HB.out _⟩
      · obtain rfl : i = a.length := by omega
        have f1 : decide ((a.length : Int) < (a.length : Int)) = false := decide_eq_false (by omega)
        have HD := Lib.hid (show decide (a = b) = true from decide_eq_true (by have := HE.out; rw [List.take_length, HLen.out, List.take_length] at this; exact this))
        go_wp2
        go_ret
        exact ⟨by rw [HD.out]; rfl, HB.out⟩
  · have f0 : ((a.length : Int) == (b.length : Int)) = false := by rw [beq_eq_false_iff_ne]; omega
    have HD := Lib.hid (show decide (a = b) = false from decide_eq_false (fun e => hlen (by rw [e])))
    go_enter Tryz.func8, Tryz.ntmps8
    clear hlen ha hb
    go_wp2
    go_ret
    exact ⟨by rw [HD.out]; rfl, Below.refl _ _⟩
end Go.Proofs.YthlccfjhgejlmaaGreatDoor
