/-
  Several texts put together (part 19): what the law and the program call, walked; their contracts.
-/
import Derived.Test.YthlccfjhgejlmaaGreatDoorQ18
namespace Go.Proofs.YthlccfjhgejlmaaGreatDoor
open Go.RowKit Go.Shelf Go.ChangeMaps
set_option linter.unusedVariables false
set_option linter.unusedSimpArgs false
theorem drew_own {B : Nat} {W : World} {v : Value} {l : List TG} (h : OwnTg B W v l) (o : Obj) : (W.drew.alloc o).ownsRow B 26 4 v l.length (tgCells l) := World.ownsRow.alloc (w := W.drew) h o
theorem own_someN {w : World} {B : Nat} {e : TypeId} {size : Nat} {v : Value} {n : Nat} {xs : List Value} (h : w.ownsRow B e size v (n + 1) xs) : ∃ g cap, v = .slice (some ⟨g, 0, none⟩) (n + 1) cap := by
  rcases h.2 with ⟨rfl, h0⟩ | ⟨g, cap, cur, rfl, _⟩
  · omega
  · exact ⟨_, _, rfl⟩
theorem sp_len (ts : List TG) (q : Pth) : (Isp ts q).length ≤ ts.length ∧ (Fsp ts q).length ≤ ts.length := by
  refine ⟨List.length_filter_le _ _, ?_⟩
  unfold Fsp
  split
  · simp
  · exact List.length_filter_le _ _
theorem cmi_len {ts : List TG} {x : TG} {i : Nat} {q : Pth} {I F : List TG} (h : (Cmi ts x i q).getD ([], []) = (I, F)) : I.length ≤ ts.length + 1 ∧ F.length ≤ ts.length + 1 := by
  obtain ⟨h1, h2⟩ := sp_len ts q
  unfold Cmi at h
  split at h
  · simp only [Option.getD_some, Prod.mk.injEq] at h
    obtain ⟨rfl, rfl⟩ := h
    refine ⟨by omega, ?_⟩
    rw [List.length_append]
    split <;> simp <;> omega
  · simp only [Option.getD_none, Prod.mk.injEq] at h
    obtain ⟨rfl, rfl⟩ := h
    simp
set_option maxHeartbeats 16000000 in
set_option maxRecDepth 100000 in
theorem add_anyN {B : Nat} {w : World} {rb : Nat} {N : Pth → Option ND} (h : St B w rb N) (hB : B ≤ w.heap.size) (ts : List TG) (x : TG) (hx : x.At w) (hM : MaxAt w) (hC : ∀ q, cont N q = Csp ts q) (hts : ts.length ≤ 1000000) :
    Calls Tryz.prog 24 #[.pointer (some ⟨rb, 0, none⟩), .agg #[.string (mk x.t.L), .string (mk x.t.S), .string (mk x.t.R), .slice x.A x.t.vs.length x.c]] w fun e w' => e = .returned (.tuple #[]) ∧
      ∃ N', St B w' rb N' ∧ (∀ q, cont N' q = Csp (ts ++ [x]) q) ∧ Fr N N' w w' ∧ Below B w w' := by
  obtain ⟨i0, hinf, hz0, hz1, hz2⟩ := info_parts infoTg
  have hb1 : Below w.heap.size w (w.alloc (.cells #[.string (mk x.t.L), .string (mk x.t.S), .string (mk x.t.R), .slice x.A x.t.vs.length x.c] 26)) := (Below.refl _ _).alloc (Nat.le_refl _) _
  have hP := partsN (hx.later hb1) (hM.on hb1)
  have hok := hx.ok
  have hpl : x.t.pieces.length ≤ 1000 := hok.pieces
  have HPne := Lib.hid (pieces_ne hok.good)
  have HSt := Lib.hid h
  have HC := Lib.hid hC
  have HB1 := Lib.hid hb1
  have HTx := Lib.hid (show TgBox (w.alloc (.cells #[.string (mk x.t.L), .string (mk x.t.S), .string (mk x.t.R), .slice x.A x.t.vs.length x.c] 26)) w.heap.size x from BoxAt.new w _ _)
  have HGe := Lib.hid (fun k e => (h.ge k e).2)
  have HP := Lib.hid hP
  clear h hC hx hM hb1 hP hok
  go_enter Tryz.func24, Tryz.ntmps24
  go_wp2_with fail
  go_at_call 49
  refine HP.out.mono ?_
  rintro e w2 ⟨pb, rfl, hpb, hpl2, hpc, b2⟩
  have hpb1 : w.heap.size < pb := by simp at hpb; omega
  have HB2 := Lib.hid (HB1.out.trans (b2.mono HB1.out.size))
  have HT2 := Lib.hid (show TgBox w2 w.heap.size x from HTx.out.later b2)
  have HPc := Lib.hid hpc
  have hw2 := HB2.out.size
  have hx2 : w.heap.size < w2.heap.size := BoxAt.lt HT2.out
  obtain ⟨r, hr, hrb⟩ := HSt.out.root
  have HR := Lib.hid (HSt.out.later HB2.out)
  have HRt := Lib.hid hr
  have HFr0 := Lib.hid (show Fr N N w w2 from Fr.of_below HB2.out)
  subst hrb
  obtain ⟨P, hPP⟩ : ∃ P, x.t.pieces = P := ⟨_, rfl⟩
  have HPP := Lib.hid hPP
  rw [hPP] at hpl HPc ⊢
  rw [hPP] at HPne
  have hpl0 : (P.length : Int) ≤ 1000 := by omega
  clear hpb hpc b2 hr hPP HTx HB1 HP
  go_wp2_with fail
  go_loopw [0, 9] (fun t0 t9 wr => ∃ (i : Nat) (N' : Pth → Option ND) (n' : ND), t9 = .int .i64 i ∧ i ≤ P.length ∧ t0 = .pointer (some ⟨n'.b, 0, none⟩) ∧ Hid (N' (P.take i) = some n') ∧ Hid (St B wr r.b N') ∧ Hid (∀ q, cont N' q = Cmi ts x i q) ∧ Hid (Fr N N' w2 wr) ∧ Hid (Below B w wr)) (fun _ t9 _ => P.length - (intOf t9).toNat)
  case atStart => exact ⟨0, N, r, rfl, Nat.zero_le _, rfl, Lib.hid (by rw [List.take_zero]; exact HRt.out), HR, Lib.hid (fun q => by rw [cmi_zero]; exact HC.out q), Lib.hid (Fr.of_below (Below.refl _ _)), Lib.hid (HB2.out.mono hB)⟩
  case round =>
    obtain ⟨i, N', n', rfl, hi, rfl, HN, HS, HCn, HF, HB⟩ := hrel
    have hi0 : (i : Int) ≤ 1000 := by omega
    have hT : TgBox wr w.heap.size x := HF.out.box HT2.out (fun e => by have := HGe.out _ e; omega)
    have hwr := HF.out.size
    obtain ⟨o, ho⟩ := HS.out.own
    have hxr : w.heap.size < wr.heap.size := by omega
    have hBr : B ≤ wr.heap.size := by omega
    by_cases hlt : i < P.length
    · have f1 : decide ((i : Int) < (P.length : Int)) = true := decide_eq_true (by omega)
      have f2 : (i : Int) < (P.length : Int) := by omega
      have hk0 := HPc.out i _ (List.getElem?_eq_getElem hlt)
      have htk : P.take (i + 1) = P.take i ++ [P[i]] := List.take_succ_eq_append_getElem hlt
      generalize P[i] = k at *
      have hk := HF.out.cell hpl2 hk0 (fun e => by have := HGe.out _ e; omega)
      have hpr : pb < wr.heap.size := by omega
      have HG := Lib.hid (grown_any HS.out hBr HN.out k)
      have HTr := Lib.hid hT
      have HTk := Lib.hid htk
      clear hk0 htk hT ho
      go_wp2_with fail
      go_at_call 50
      refine HG.out.mono ?_
      rintro e w3 ⟨N1, n1, rfl, hs1, hn1, hc1, hf1, b3⟩
      have HS1 := Lib.hid hs1
      have HN1 := Lib.hid hn1
      have HF1 := Lib.hid (HF.out.trans hf1)
      have HB3 := Lib.hid (HB.out.trans b3)
      have hcx : (Cmi ts x i (P.take (i + 1))).getD ([], []) = (n1.I, n1.F) := by
        have h1 := hc1 (P.take i ++ [k])
        rw [if_pos rfl] at h1
        rw [HTk.out, ← HCn.out]
        unfold cont at h1
        rw [hn1] at h1
        simp only [Option.map_some, Option.some.injEq] at h1
        exact h1.symm
      have hlen := (cmi_len hcx).2
      have HCx := Lib.hid hcx
      have HC1 := Lib.hid hc1
      have hT3 : TgBox w3 w.heap.size x := HF1.out.box HT2.out (fun e => by have := HGe.out _ e; omega)
      have HT3 := Lib.hid hT3
      obtain ⟨x0, x1, x2, x3⟩ := hT3.cells
      obtain ⟨o, ho⟩ := hs1.own
      obtain ⟨hnd, hon⟩ := ho _ _ hn1
      obtain ⟨_, ne1, _⟩ := owns_ne hon
      have hw3 := HF1.out.size
      have hnb := hnd.lts.1
      have c1 : w3.cell? ⟨n1.b, 1, none⟩ = some n1.fv := hnd.box.cell 1
      have E1 := Lib.hid (fun o => show (w3.drew.alloc o).cell? ⟨n1.b, 1, none⟩ = some n1.fv from BoxAt.cell (BoxAt.alloc (w := w3.drew) hnd.box o) 1)
      have G1 := Lib.hid (fun o => Lib.frozen_of_heap (BoxAt.alloc (w := w3.drew) hnd.box o) 1)
      have L1 := Lib.hid (fun o => BoxAt.lt (BoxAt.alloc (w := w3.drew) hnd.box o))
      have HRow := Lib.hid (show OwnTg B w3 n1.fv n1.F from hnd.ov)
      have HNe := Lib.hid (show some n1.b ≠ n1.fv.ownBlock from fun e => ne1 _ e.symm rfl)
      have B1 := Lib.hid (show n1.F.length + 1 ≤ maxLen by unfold maxLen; omega)
      have B2 := Lib.hid (show (n1.F.length + 1) * 72 ≤ 140737488355328 by omega)
      have B3 := Lib.hid (show B ≤ w3.heap.size by have := hs1.ge; have := hnd.lo; omega)
      obtain ⟨FA, Fc, hfv, _⟩ := HRow.out.slice
      have HFv := Lib.hid hfv
      have HNew := Lib.hid (show TgBox (w3.drew.alloc (.cells #[.string (mk x.t.L), .string (mk x.t.S), .string (mk x.t.R), .slice x.A x.t.vs.length x.c] 26)) w3.heap.size x from BoxAt.new w3.drew _ _)
      clear hs1 hn1 hc1 hf1 b3 hcx hT3 ho hnd hon ne1 HG hfv
      go_wp2_with fail
      go_region_law (refine step_append_wh rfl (.tmp 20) (.tmp 22) 29 rfl B 26 i0 zTg 4 72 Tryz.underlying29 hinf hz0 hz1 hz2 rfl (by decide) n1.fv n1.F.length (tgCells n1.F) (by simp [Act.eval, Act.put]) (drew_own HRow.out _) ⟨w3.heap.size, 0, none⟩ 1 1 x.cells (by simp [Act.eval, Act.put]) rfl HNew.out.news (tgOne x) B1.out B2.out (by show B ≤ (w3.alloc _).heap.size; rw [World.size_alloc]; exact Nat.le_succ_of_le B3.out) (by decide) ?_; intro v' w' hown hgrow hwh; obtain ⟨gA, cA, rfl⟩ := own_someN hown; have s1 := hgrow.cell (a := ⟨n1.b, 1, none⟩) (E1.out _) HNe.out; have r1 := (World.frozen?_of_block (a := ⟨n1.b, 1, none⟩) (hgrow.block n1.b (L1.out _) HNe.out)).trans (G1.out _); have hOwn := Lib.hid hown; have hGrow := Lib.hid hgrow; have hWh := Lib.hid hwh; clear hown hgrow hwh)
      all_goals
        go_wp2_with fail
        have hV : Below w3.heap.size w3 (w3.drew.alloc (.cells #[.string (mk x.t.L), .string (mk x.t.S), .string (mk x.t.R), .slice x.A x.t.vs.length x.c] 26)) := (Below.refl w3.heap.size w3).drew.alloc (Nat.le_refl _) _
        obtain ⟨s4, f4, b4⟩ := (HS1.out.later hV).fit HN1.out (x := x) hOwn.out hGrow.out hWh.out
        have HS4 := Lib.hid s4
        have HF4 := Lib.hid (HF1.out.trans ((Fr.of_below hV).trans f4))
        have HB4 := Lib.hid (HB3.out.trans ((hV.mono B3.out).trans b4))
        clear s4 f4 b4
        refine ⟨⟨i + 1, _, { n1 with fv := .slice (some ⟨gA, 0, none⟩) (n1.F.length + 1) cA, F := n1.F ++ [x] }, by go_num, hlt, rfl, Lib.hid (by rw [HTk.out]; exact setN_same _ _ _), HS4, Lib.hid (fun q => ?_), HF4, HB4⟩, by simp [intOf]; omega⟩
        have hst := cmi_step (ts := ts) (x := x) (i := i) (I := n1.I) (F := n1.F) (by rw [HPP.out]; exact hlt) (by rw [HPP.out]; exact HCx.out) q
        rw [HPP.out, HTk.out] at hst
        rw [← hst]
        unfold cont
        by_cases hq : q = P.take i ++ [k]
        · rw [if_pos hq, hq, setN_same]
          rfl
        · rw [if_neg hq, setN_other hq]
          have := HC1.out q
          rw [if_neg hq] at this
          unfold cont at this
          rw [this]
          exact HCn.out q
    · obtain rfl : i = P.length := by omega
      have f1 : decide ((P.length : Int) < (P.length : Int)) = false := decide_eq_false (by omega)
      have hN := HN.out
      rw [List.take_length] at hN
      have hcx : Cmi ts x P.length P = some (n'.I, n'.F) := by
        rw [← HCn.out P]
        unfold cont
        rw [hN]
        rfl
      have hlen : n'.I.length ≤ ts.length + 1 := (cmi_len (ts := ts) (x := x) (i := P.length) (q := P) (I := n'.I) (F := n'.F) (by rw [hcx]; rfl)).1
      have HCx := Lib.hid hcx
      have HN1 := Lib.hid hN
      have HTr := Lib.hid hT
      obtain ⟨x0, x1, x2, x3⟩ := hT.cells
      obtain ⟨hnd, hon⟩ := ho _ _ hN
      obtain ⟨ne0, _⟩ := owns_ne hon
      have hnb := hnd.lts.1
      have c1 : wr.cell? ⟨n'.b, 0, none⟩ = some n'.iv := hnd.box.cell 0
      have E1 := Lib.hid (fun o => show (wr.drew.alloc o).cell? ⟨n'.b, 0, none⟩ = some n'.iv from BoxAt.cell (BoxAt.alloc (w := wr.drew) hnd.box o) 0)
      have G1 := Lib.hid (fun o => Lib.frozen_of_heap (BoxAt.alloc (w := wr.drew) hnd.box o) 0)
      have L1 := Lib.hid (fun o => BoxAt.lt (BoxAt.alloc (w := wr.drew) hnd.box o))
      have HRow := Lib.hid (show OwnTg B wr n'.iv n'.I from hnd.oi)
      have HNe := Lib.hid (show some n'.b ≠ n'.iv.ownBlock from fun e => ne0 _ e.symm rfl)
      have B1 := Lib.hid (show n'.I.length + 1 ≤ maxLen by unfold maxLen; omega)
      have B2 := Lib.hid (show (n'.I.length + 1) * 72 ≤ 140737488355328 by omega)
      have B3 := Lib.hid (show B ≤ wr.heap.size by have := hnd.lo; omega)
      have HNew := Lib.hid (show TgBox (wr.drew.alloc (.cells #[.string (mk x.t.L), .string (mk x.t.S), .string (mk x.t.R), .slice x.A x.t.vs.length x.c] 26)) wr.heap.size x from BoxAt.new wr.drew _ _)
      clear hcx hT ho hnd hon ne0 hN
      go_wp2_with fail
      go_region_law (refine step_append_wh rfl (.tmp 31) (.tmp 33) 29 rfl B 26 i0 zTg 4 72 Tryz.underlying29 hinf hz0 hz1 hz2 rfl (by decide) n'.iv n'.I.length (tgCells n'.I) (by simp [Act.eval, Act.put]) (drew_own HRow.out _) ⟨wr.heap.size, 0, none⟩ 1 1 x.cells (by simp [Act.eval, Act.put]) rfl HNew.out.news (tgOne x) B1.out B2.out (by show B ≤ (wr.alloc _).heap.size; rw [World.size_alloc]; exact Nat.le_succ_of_le B3.out) (by decide) ?_; intro v' w' hown hgrow hwh; obtain ⟨gA, cA, rfl⟩ := own_someN hown; have s1 := hgrow.cell (a := ⟨n'.b, 0, none⟩) (E1.out _) HNe.out; have r1 := (World.frozen?_of_block (a := ⟨n'.b, 0, none⟩) (hgrow.block n'.b (L1.out _) HNe.out)).trans (G1.out _); have hOwn := Lib.hid hown; have hGrow := Lib.hid hgrow; have hWh := Lib.hid hwh; clear hown hgrow hwh)
      all_goals
        go_wp2_with fail
        go_end0
        have hV : Below wr.heap.size wr (wr.drew.alloc (.cells #[.string (mk x.t.L), .string (mk x.t.S), .string (mk x.t.R), .slice x.A x.t.vs.length x.c] 26)) := (Below.refl wr.heap.size wr).drew.alloc (Nat.le_refl _) _
        obtain ⟨s4, f4, b4⟩ := (HS.out.later hV).its HN1.out (x := x) hOwn.out hGrow.out hWh.out
        refine ⟨rfl, _, s4, fun q => ?_, HFr0.out.trans (HF.out.trans ((Fr.of_below hV).trans f4)), HB.out.trans ((hV.mono B3.out).trans b4)⟩
        have hst := cmi_end (ts := ts) (x := x) (I := n'.I) (F := n'.F) (by rw [HPP.out]; exact HPne.out) (by rw [HPP.out]; exact HCx.out) q
        rw [HPP.out] at hst
        rw [← hst]
        unfold cont
        by_cases hq : q = P
        · rw [if_pos hq, hq, setN_same]
          rfl
        · rw [if_neg hq, setN_other hq]
          exact HCn.out q
end Go.Proofs.YthlccfjhgejlmaaGreatDoor

namespace Go.Proofs.YthlccfjhgejlmaaGreatDoor
open Go.RowKit Go.Shelf Go.ChangeMaps
set_option linter.unusedVariables false
set_option linter.unusedSimpArgs false
def walkN (N : Pth → Option ND) (pre : Pth) : Pth → List ND
  | [] => []
  | k :: r => match N (pre ++ [k]) with
    | none => []
    | some n => n :: walkN N (pre ++ [k]) r
theorem walk_len (N : Pth → Option ND) : ∀ (P pre : Pth), (walkN N pre P).length ≤ P.length
  | [], pre => Nat.le_refl _
  | k :: r, pre => by
    rw [walkN]
    split
    · exact Nat.zero_le _
    · simpa using walk_len N r _
theorem walk_mem (N : Pth → Option ND) : ∀ (P pre : Pth) (n : ND), n ∈ walkN N pre P → ∃ q, N q = some n
  | [], pre, n, h => by simp [walkN] at h
  | k :: r, pre, n, h => by
    rw [walkN] at h
    split at h
    · simp at h
    · next m hm =>
      rcases List.mem_cons.1 h with h | h
      · exact ⟨_, by rw [h]; exact hm⟩
      · exact walk_mem N r _ n h
abbrev nbs (l : List ND) : List Value := l.map fun n => ptrV n.b
def OwnNb (B : Nat) (W : World) (v : Value) (l : List ND) : Prop := W.ownsRow B 78 1 v l.length (nbs l)
theorem infoNb : (Tryz.prog.info? 78).map (fun i => (i.zero, i.size, i.bytes)) = some (some (.pointer none), 1, 8) := by kernel_rfl
theorem run_look_nil {P : Program} {t k e : TypeId} (ht : P.underlying t = some (.map k e)) (hk : P.underlying k = some .string) (w : World) {z : Value} (hz : (zeroValue e).run P w = .ok z w) (n : ByteArray) :
    (Instr.lookup t (.map none) (.string n) false).run P w = .ok z w := by
  have hc := check_str hk w true n
  have h1 : (Instr.findKey k (.string n) []).run P w = .ok none w := by
    have hn : Instr.findNow .string (.string n) [] 0 = some none := rfl
    simp [Instr.findKey, run_underlying hk, hn, Result.andThen]
  simp [Instr.lookup, run_underlying ht, hc, h1, hz, Result.andThen]
theorem ptrE_none (w : World) : (binOp .eql 78 (.pointer none) (.pointer none)).run Tryz.prog w = .ok (.bool true) w := by kernel_rfl
theorem ptrE_some (b : Nat) (w : World) : (binOp .eql 78 (.pointer (some ⟨b, 0, none⟩)) (.pointer none)).run Tryz.prog w = .ok (.bool false) w := by kernel_rfl
theorem kidLook {B : Nat} {W : World} {n : ND} (h : NdAt B W n) (k : List UInt8) : (Instr.lookup 43 (.map n.mb) (.string (mk k)) false).run Tryz.prog W = .ok (((lookK k n.ks).map ptrV).getD (.pointer none)) W := by
  cases hm : n.mb with
  | none =>
    rw [h.mn hm, run_look_nil Tryz.underlying43 Tryz.underlying9 W (ptrZero _)]
    rfl
  | some m =>
    rw [run_look_w Tryz.underlying43 Tryz.underlying9 W (ptrZero _) m (kidsV n.ks) (h.mp m hm).1 (mk k), look_kids]
set_option maxHeartbeats 8000000 in
set_option maxRecDepth 100000 in
theorem path_any {B : Nat} {w : World} {rb : Nat} {N : Pth → Option ND} (h : St B w rb N) (P : Pth) (pb c : Nat) (hpb : pb < w.heap.size) (hP : ∀ (j : Nat) p, P[j]? = some p → w.cell? ⟨pb, j, none⟩ = some (.string (mk p))) (hn : P.length ≤ 1000) :
    Calls Tryz.prog 51 #[.pointer (some ⟨rb, 0, none⟩), .slice (some ⟨pb, 0, none⟩) P.length c] w fun e w' => ∃ u, e = .returned u ∧ OwnNb w.heap.size w' u (walkN N [] P) ∧ Below w.heap.size w w' := by
  obtain ⟨i0, hinf, hz0, hz1, hz2⟩ := info_parts infoNb
  have q0 := ptrE_none
  have q1 := ptrE_some
  have HSt := Lib.hid h
  have HP := Lib.hid hP
  have hn0 : (P.length : Int) ≤ 1000 := by omega
  obtain ⟨r, hr, hrb⟩ := h.root
  subst hrb
  have HR := Lib.hid hr
  clear h hP hr
  go_enter Tryz.func51, Tryz.ntmps51
  go_wp2
  go_loopw [0, 5, 10] (fun t0 t5 t10 wr => ∃ (i : Nat) (acc : List ND) (n : ND), t10 = .int .i64 i ∧ i ≤ P.length ∧ acc.length = i ∧ t0 = .pointer (some ⟨n.b, 0, none⟩) ∧ Hid (N (P.take i) = some n) ∧ Hid (walkN N [] P = acc ++ walkN N (P.take i) (P.drop i)) ∧ Hid (OwnNb w.heap.size wr t5 acc) ∧ Hid (Below w.heap.size w wr)) (fun _ _ t10 _ => P.length - (intOf t10).toNat)
  case atStart => exact ⟨0, [], r, rfl, Nat.zero_le _, rfl, rfl, HR, Lib.hid rfl, Lib.hid (World.ownsRow_nil _ _ _ _), Lib.hid (Below.refl _ _)⟩
  case round =>
    obtain ⟨i, acc, n, rfl, hi, hac, rfl, HN, HE, HW, HB⟩ := hrel
    have hi0 : (i : Int) ≤ 1000 := by omega
    by_cases hlt : i < P.length
    · have f1 : decide ((i : Int) < (P.length : Int)) = true := decide_eq_true (by omega)
      have f2 : (i : Int) < (P.length : Int) := by omega
      have hk0 := (HB.out.cell (p := ⟨pb, i, none⟩) hpb).trans (HP.out i _ (List.getElem?_eq_getElem hlt))
      have htk : P.take (i + 1) = P.take i ++ [P[i]] := List.take_succ_eq_append_getElem hlt
      have hdr : P.drop i = P[i] :: P.drop (i + 1) := List.drop_eq_getElem_cons hlt
      generalize P[i] = k at *
      have hpr : pb < wr.heap.size := Nat.lt_of_lt_of_le hpb HB.out.size
      have hSr := HSt.out.later HB.out
      obtain ⟨o, ho⟩ := hSr.own
      have hnd := (ho _ _ HN.out).1
      have c2 : wr.cell? ⟨n.b, 2, none⟩ = some (.map n.mb) := hnd.box.cell 2
      have hnl := hnd.lts.1
      have hlk := kidLook hnd k
      rw [hSr.link _ _ HN.out k] at hlk
      have HTk := Lib.hid htk
      have HDr := Lib.hid hdr
      clear htk hdr hSr ho hnd
      cases hk : N (P.take i ++ [k]) with
      | none =>
        rw [hk] at hlk
        simp only [Option.map_none, Option.getD_none] at hlk
        have HK := Lib.hid hk
        clear hk
        go_wp2
        go_ret
        refine ⟨_, rfl, ?_, HB.out⟩
        have := HE.out
        rw [HDr.out, walkN, HK.out] at this
        rw [this]
        simp only [List.append_nil]
        exact HW.out
      | some m =>
        rw [hk] at hlk
        simp only [Option.map_some, Option.getD_some, ptrV] at hlk
        have HE2 := Lib.hid (show walkN N [] P = (acc ++ [m]) ++ walkN N (P.take (i + 1)) (P.drop (i + 1)) by
          have := HE.out
          rw [HDr.out, walkN, hk] at this
          rw [this, HTk.out, List.append_assoc]
          rfl)
        have HK := Lib.hid (show N (P.take (i + 1)) = some m by rw [HTk.out]; exact hk)
        have hRow := World.ownsRow.alloc HW.out (.cells #[.pointer (some ⟨m.b, 0, none⟩)] 78)
        have HNew := Lib.hid (BoxAt.new wr #[.pointer (some ⟨m.b, 0, none⟩)] 78)
        have hws := HB.out.size
        have HB1 := Lib.hid (below_new HB.out (Nat.le_refl _) (.cells #[.pointer (some ⟨m.b, 0, none⟩)] 78))
        clear hk
        go_wp2_with (at_builtin; refine wpList_append_own _ rfl _ _ 81 rfl w.heap.size 78 i0 (.pointer none) 1 8 Tryz.underlying81 hinf hz0 hz1 hz2 rfl (by decide) _ _ _ rfl hRow ⟨wr.heap.size, 0, none⟩ 1 1 [.pointer (some ⟨m.b, 0, none⟩)] rfl rfl (by intro j u hj; rw [add_zero]; match j, hj with | 0, hj => simp at hj; subst hj; exact HNew.out.cell 0) (by intro u hu; simp at hu; subst hu; rfl) (by unfold maxLen; omega) (by omega) (by simp; omega) ?_; intro v' w4 hown' hgrow hnil)
        have HW4 := Lib.hid (show OwnNb w.heap.size w4 v' (acc ++ [m]) by
          unfold OwnNb
          rw [List.length_append, nbs, List.map_append]
          exact hown')
        have HB4 := Lib.hid (HB1.out.grown hgrow (by simp; omega) (fun k e => (World.ownsRow.lt HW.out k e).1))
        clear hown' hgrow hnil hRow
        go_wp2_with fail
        refine ⟨⟨i + 1, acc ++ [m], m, by go_num, hlt, by simp; omega, rfl, HK, HE2, HW4, HB4⟩, by simp [intOf]; omega⟩
    · obtain rfl : i = P.length := by omega
      have f1 : decide ((P.length : Int) < (P.length : Int)) = false := decide_eq_false (by omega)
      have HO2 := Lib.hid (show walkN N [] P = acc by have := HE.out; rw [List.drop_length, walkN, List.append_nil] at this; exact this)
      go_wp2
      go_ret
      refine ⟨_, rfl, ?_, HB.out⟩
      rw [HO2.out]
      exact HW.out
end Go.Proofs.YthlccfjhgejlmaaGreatDoor
