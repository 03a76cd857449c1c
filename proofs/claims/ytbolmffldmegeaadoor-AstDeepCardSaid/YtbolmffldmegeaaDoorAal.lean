/-
  Package ast: allHold; isInBraces; the questions of braces.
-/
import Derived.Test.YtbolmffldmegeaaDoorAil
import Derived.Deep.LoopGhost
namespace Go.Proofs.YtbolmffldmegeaaDoor
open Go.RowKit
set_option linter.unusedVariables false
set_option linter.unusedSimpArgs false

/-- A call of it enters it. -/
def Enters (N : FuncId) : Prop := ∀ (args : Array Value) (w : World), (callFunc N args).run Tryd.prog w = .ok (.enter N args) w
/-- Each question that D lets in is asked so. -/
def QC (W0 : World) (qb : Nat) (D : Qn → Prop) : Prop := ∀ q, D q → ∀ fv w qs, IsQ W0 qb fv q w → QsAt W0 qb qs w → total qs + q.size ≤ qMax →
  ∃ N caps, fv = .func (.func N) #[] caps ∧ Enters N ∧ Calls Tryd.prog N caps w (Asked W0 qb D qs w q.ans (q.size - 1))
theorem QsAt.pop {W0 : World} {qb : Nat} {qs : List Qn} {q : Qn} {w : World} (h : QsAt W0 qb (qs ++ [q]) w) :
    ∃ g cap fv n, w.cell? ⟨qb, 0, none⟩ = some (.slice (some ⟨g, 0, none⟩) (n + 1) cap) ∧ w.frozen? ⟨qb, 0, none⟩ = false ∧ n + 1 ≤ cap ∧ cap ≤ maxLen ∧ n = qs.length ∧ w.cell? ⟨g, n, none⟩ = some fv ∧ IsQ W0 qb fv q w ∧
      QsAt W0 qb qs (w.setCell ⟨qb, 0, none⟩ (.slice (some ⟨g, 0, none⟩) n cap)) ∧ StepQ W0.heap.size qb w (w.setCell ⟨qb, 0, none⟩ (.slice (some ⟨g, 0, none⟩) n cap)) := by
  have hold := h.old
  obtain ⟨fvs, ⟨h1, v, h2, h3⟩, h4, h5⟩ := h
  obtain ⟨fs, f, rfl, h6, h7⟩ := h4.pop
  rw [List.length_append, List.length_singleton] at h3
  have hl := h6.len
  have h3' := h3
  obtain ⟨_, g2⟩ := h3'
  rcases g2 with ⟨_, h0⟩ | ⟨g, cap, cur, rfl, hg, hh, hn, hcap, hcs, htk⟩
  · omega
  have hst : StepQ W0.heap.size qb w (w.setCell ⟨qb, 0, none⟩ (.slice (some ⟨g, 0, none⟩) fs.length cap)) :=
    ⟨(Below.refl _ _).setCell (p := ⟨qb, 0, none⟩) h1 _, (Lib.OthersKept.refl _ _ _).setCell ⟨qb, 0, none⟩ rfl _⟩
  refine ⟨g, cap, f, fs.length, h2.cell 0, Lib.frozen_of_heap h2 0, hn, hcap, hl, ?_, h7, ⟨fs, ⟨h1, .slice (some ⟨g, 0, none⟩) fs.length cap, ?_, ?_⟩, h6.step h2 hst, h5.trans hst.below⟩, hst⟩
  · rw [Lib.cell_of_heap hh]
    have e1 : (cur.toList.take ((fs.length + 1) * 1))[fs.length]? = some f := by rw [htk]; simp
    rw [List.getElem?_take_of_lt (by omega)] at e1
    simpa using e1
  · unfold BoxAt at h2 ⊢
    simp [World.setCell, Array.getElem?_modify, h2]
  · have hp := ownsRow_pop (by simp) h3
    refine ownsRow_setCell_other hp ?_ _
    exact Lib.ownBlock_ne hp h2 (by decide)
theorem QsAt.none {W0 : World} {qb : Nat} {w : World} (h : QsAt W0 qb [] w) : ∃ ao cap, w.cell? ⟨qb, 0, none⟩ = some (.slice ao 0 cap) := by
  obtain ⟨fvs, ⟨h1, v, h2, h3⟩, h4, h5⟩ := h
  have hl := h4.len
  have : fvs = [] := List.eq_nil_of_length_eq_zero hl
  subst this
  rcases h3.2 with ⟨rfl, _⟩ | ⟨g, cap, cur, rfl, _⟩
  · exact ⟨_, _, h2.cell 0⟩
  · exact ⟨_, _, h2.cell 0⟩
set_option maxHeartbeats 2000000 in
set_option maxRecDepth 1000000 in
theorem allHold_any {W0 : World} {qb : Nat} {D : Qn → Prop} (HQ : QC W0 qb D) (qs : List Qn) (w : World) (hq : QsAt W0 qb qs w) (hD : ∀ q ∈ qs, D q) (hn : total qs ≤ qMax) :
    Calls Tryd.prog 16 #[pt qb] w fun e w' => e = .returned (.bool (answers qs)) ∧ Below W0.heap.size w w' := by
  have Hq := Lib.hid hq
  have HD := Lib.hid hD
  have Hn := Lib.hid hn
  obtain ⟨ANS, hANS⟩ : ∃ b, answers qs = b := ⟨_, rfl⟩
  rw [hANS]
  have HA := Lib.hid hANS
  have HC := Lib.hid HQ
  clear hq hD hn hANS HQ
  unfold pt
  go_enter Tryd.func16, Tryd.ntmps16
  go_wp2
  go_loopg [] (total qs + 1) (fun gk wr => ∃ qs' : List Qn, Hid (QsAt W0 qb qs' wr) ∧ Hid (∀ q ∈ qs', D q) ∧ total qs' < gk ∧ Hid (total qs' ≤ qMax) ∧ Hid (answers qs' = ANS) ∧ Hid (Below W0.heap.size w wr))
  case atStart => exact ⟨qs, Hq.out, HD.out, by omega, Hn.out, HA.out, Below.refl _ _⟩
  case round =>
    obtain ⟨qs', Hqs, HDs, hlt, Hns, Hans, Hbel⟩ := hrel
    clear Hq HD Hn HA
    rcases List.eq_nil_or_concat qs' with rfl | ⟨qs1, q, rfl⟩
    · obtain ⟨ao, cap, c0⟩ := Hqs.out.none
      go_wp2
      go_ret
      exact ⟨by rw [← Hans.out]; rfl, Hbel.out⟩
    · have hqs := Hqs.out
      rw [List.concat_eq_append] at hqs
      obtain ⟨g, cap, fv, n, c0, f0, hn1, hn2, hn3, c1, hIs, hq2, hst⟩ := hqs.pop
      have hDs := HDs.out
      rw [List.concat_eq_append] at hDs
      have hans := Hans.out
      rw [List.concat_eq_append, answers_append] at hans
      have hns := Hns.out
      rw [List.concat_eq_append, total_append] at hns hlt
      have htq : total [q] = q.size := by simp [total]
      rw [htq] at hns hlt
      have hp := q.size_pos
      obtain ⟨v, hbx⟩ := hqs.box
      obtain ⟨N, caps, rfl, hE, hcall⟩ := HC.out q (hDs q (by simp)) fv _ qs1 (hIs.step hbx hst) hq2 hns
      have HCall := Lib.hid hcall
      have Hst := Lib.hid hst
      have HDs1 := Lib.hid (fun x (hx : x ∈ qs1) => hDs x (List.mem_append_left _ hx))
      have Hans1 := Lib.hid hans
      have Hns1 := Lib.hid hns
      have Hn3 := Lib.hid hn3
      have hnm : (n : Int) + 1 ≤ 9223372036854775807 := by unfold maxLen at hn2; omega
      unfold maxLen at hn2
      unfold Enters at hE
      clear hcall hst hDs hans hns hn3 hIs hq2 hbx hqs Hqs HDs Hns Hans htq
      have hd1 : decide ((0 : Int) < (n : Int) + 1) = true := decide_eq_true (by omega)
      have hnc : n ≤ cap := by omega
      go_wp2_with fail
      refine HCall.out.mono ?_
      rintro e w2 ⟨r, new, rfl, h1, h2, h3, h4, h5⟩
      have hbel : Below W0.heap.size w w2 := (Hbel.out.trans Hst.out.below).trans h2.below
      have H1 := Lib.hid h1
      have H4 := Lib.hid h4
      have H5 := Lib.hid h5
      have Hbel2 := Lib.hid hbel
      clear h1 h2 h4 h5 hbel
      cases r
      case false =>
        go_wp2
        go_ret
        exact ⟨ret_bool (by rw [← Hans1.out]; simp [answers, H4.out]), Hbel2.out⟩
      go_wp2
      go_roundg (total (qs1 ++ new) + 1)
      case measure => rw [total_append]; omega
      case rel =>
        refine ⟨qs1 ++ new, H1.out, ?_, by omega, ?_, ?_, Hbel2.out⟩
        · intro x hx
          rcases List.mem_append.1 hx with h | h
          · exact HDs1.out x h
          · exact H5.out x h
        · have := Hns1.out
          show _ ≤ _
          rw [total_append]
          omega
        · show _ = _
          rw [answers_append, ← Hans1.out]
          simp [answers, H4.out]

/-- The cells of an expression in memory, as they are handed on. -/
theorem cells_ex {W : World} {k : Int} {t n a : ByteArray} {al : List AR} {i : Option EX} {vs : List VA} {c : C7} (h : ExAt W (.mk k t n a al i vs) c) :
    ∃ A1 c1 p A2 c2, c = ⟨.int .i64 k, .string t, .string n, .string a, .slice A1 al.length c1, .pointer p, .slice A2 vs.length c2⟩ ∧ LieAt (AsAt W al) (.slice A1 al.length c1) al.length ∧ OAt W i (.pointer p) ∧ LieAt (VsAt W vs) (.slice A2 vs.length c2) vs.length := by
  rw [ExAt] at h
  obtain ⟨h1, h2, h3, h4, h5, h6, h7⟩ := h
  obtain ⟨A1, c1, e1, r1⟩ := h5
  obtain ⟨A2, c2, e2, r2⟩ := h7
  obtain ⟨p, e3⟩ : ∃ p, c.i = .pointer p := by
    cases i with
    | none => simp only [OAt] at h6; exact ⟨_, h6⟩
    | some e => simp only [OAt] at h6; obtain ⟨_, _, _, e, _⟩ := h6; exact ⟨_, e⟩
  refine ⟨A1, c1, p, A2, c2, ?_, ⟨_, _, rfl, r1⟩, by rw [← e3]; exact h6, ⟨_, _, rfl, r2⟩⟩
  cases c
  simp_all
set_option maxHeartbeats 2000000 in
set_option maxRecDepth 1000000 in
theorem inBraces_asks {W0 : World} {qb : Nat} {D : Qn → Prop} (k : Int) (t n a : ByteArray) (A1 : Option Addr) (n1 c1 : Nat) (i : Option Addr) (A2 : Option Addr) (n2 c2 : Nat) (b o : Nat) (hb : b < W0.heap.size) (hc : CellsAt W0 b o ⟨.int .i64 k, .string t, .string n, .string a, .slice A1 n1 c1, .pointer i, .slice A2 n2 c2⟩) (d : Nat) (hd : d ≤ 21) (w : World) (bI : Bool) (m : Nat)
    (hS : k = 7 → d ≤ 20 → Asks W0 qb D 64 #[pt qb, exV k t n a A1 n1 c1 i A2 n2 c2, .int .i64 d] w bI m)
    (hI : k ≠ 7 → d ≤ 20 → Asks W0 qb D 65 #[pt qb, exV k t n a A1 n1 c1 i A2 n2 c2, .int .i64 d] w bI m) :
    Asks W0 qb D 44 #[pt qb, .pointer (some ⟨b, o, none⟩), .int .i64 d] w (decide (d ≤ 20) && bI) m := by
  intro qs hq hn
  have Hq := Lib.hid hq
  have Hn := Lib.hid hn
  have hbel := hq.below
  obtain ⟨c0, c1', c2', c3, c4, c5, c6⟩ := hc
  rw [← hbel.cell (p := ⟨b, o, none⟩) hb] at c0
  rw [← hbel.cell (p := ⟨b, o + 1, none⟩) hb] at c1'
  rw [← hbel.cell (p := ⟨b, o + 2, none⟩) hb] at c2'
  rw [← hbel.cell (p := ⟨b, o + 3, none⟩) hb] at c3
  rw [← hbel.cell (p := ⟨b, o + 4, none⟩) hb] at c4
  rw [← hbel.cell (p := ⟨b, o + 5, none⟩) hb] at c5
  rw [← hbel.cell (p := ⟨b, o + 6, none⟩) hb] at c6
  clear hq hn hbel
  by_cases h20 : d ≤ 20
  · have hd1 : decide ((20 : Int) < (d : Int)) = false := decide_eq_false (by omega)
    have hd2 : decide (20 < d) = false := decide_eq_false (by omega)
    rw [decide_eq_true h20, Bool.true_and]
    by_cases h7 : k = 7
    · have hz : (k == 7) = true := beq_iff_eq.2 h7
      have HS := Lib.hid (hS h7 h20 qs Hq.out Hn.out)
      clear hS hI h7
      unfold pt
      unfold exV pt at HS
      go_enter Tryd.func44, Tryd.ntmps44
      go_wp2_with fail
      go_at_call 64
      refine HS.out.mono ?_
      rintro e w2 ⟨r, new, rfl, h1, h2, h3, h4, h5⟩
      have H4 := Lib.hid h4
      clear h4
      go_wp2
      go_ret
      exact ⟨r, new, rfl, h1, h2, h3, H4.out, h5⟩
    · have hz : (k == 7) = false := beq_eq_false_iff_ne.2 h7
      have HS := Lib.hid (hI h7 h20 qs Hq.out Hn.out)
      clear hS hI h7
      unfold pt
      unfold exV pt at HS
      go_enter Tryd.func44, Tryd.ntmps44
      go_wp2_with fail
      go_at_call 65
      refine HS.out.mono ?_
      rintro e w2 ⟨r, new, rfl, h1, h2, h3, h4, h5⟩
      have H4 := Lib.hid h4
      clear h4
      go_wp2
      go_ret
      exact ⟨r, new, rfl, h1, h2, h3, H4.out, h5⟩
  · have hd1 : decide ((20 : Int) < (d : Int)) = true := decide_eq_true (by omega)
    have hd2 : decide (20 < d) = true := decide_eq_true (by omega)
    rw [decide_eq_false h20, Bool.false_and]
    clear hS hI
    unfold pt
    go_enter Tryd.func44, Tryd.ntmps44
    go_wp2
    go_ret
    exact Asked.plain Hq.out (StepQ.refl _ _ _) rfl
end Go.Proofs.YtbolmffldmegeaaDoor
