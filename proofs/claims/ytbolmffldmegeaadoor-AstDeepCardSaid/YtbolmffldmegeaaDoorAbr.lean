/-
  Package ast: the questions of braces; those of variables within nests.
-/
import Derived.Test.YtbolmffldmegeaaDoorAal
namespace Go.Proofs.YtbolmffldmegeaaDoor
open Go.RowKit
set_option linter.unusedVariables false
set_option linter.unusedSimpArgs false

theorem enters_pat : Enters 43 := fun args w => by go_simp
theorem enters_inl : Enters 85 := fun args w => by go_simp
theorem enters_arg : Enters 98 := fun args w => by go_simp
set_option maxHeartbeats 1000000 in
theorem brc_call {W0 : World} {qb : Nat} {D : Qn → Prop} {N : FuncId} (hN : N = 43 ∨ N = 85) (k1 k2 k3 : Nat) (p : Option Addr) (d : Nat) (hd : d ≤ 20) (w : World) (qs : List Qn) (b : Bool) (m : Nat)
    (h1 : BoxAt w k1 #[pt qb] 52) (h2 : BoxAt w k2 #[.pointer p] 33) (h3 : BoxAt w k3 #[.int .i64 d] 3)
    (h : Calls Tryd.prog 44 #[pt qb, .pointer p, .int .i64 ((d + 1 : Nat) : Int)] w (Asked W0 qb D qs w b m)) :
    Calls Tryd.prog N #[pt k1, pt k2, pt k3] w (Asked W0 qb D qs w b m) := by
  have c1 := h1.cell 0
  have c2 := h2.cell 0
  have c3 := h3.cell 0
  have l1 := h1.lt
  have l2 := h2.lt
  have l3 := h3.lt
  have hd0 : (0 : Int) ≤ (d : Int) := by omega
  have hd1 : (d : Int) ≤ 20 := by omega
  have e1 : ((d + 1 : Nat) : Int) = (d : Int) + 1 := by omega
  rw [e1] at h
  have H := Lib.hid h
  clear h h1 h2 h3 e1 hd
  unfold pt at *
  simp at c1 c2 c3
  rcases hN with rfl | rfl
  · go_enter Tryd.func43, Tryd.ntmps43
    go_wp2_with fail
    go_at_call 44
    refine H.out.mono ?_
    rintro e w2 ⟨r, new, rfl, h1, h2, h3, h4, h5⟩
    have H4 := Lib.hid h4
    clear h4
    go_wp2
    go_ret
    exact ⟨r, new, rfl, h1, h2, h3, H4.out, h5⟩
  · go_enter Tryd.func85, Tryd.ntmps85
    go_wp2_with fail
    go_at_call 44
    refine H.out.mono ?_
    rintro e w2 ⟨r, new, rfl, h1, h2, h3, h4, h5⟩
    have H4 := Lib.hid h4
    clear h4
    go_wp2
    go_ret
    exact ⟨r, new, rfl, h1, h2, h3, H4.out, h5⟩

/-- A variable within nests. -/
def nvE : EX → Bool
  | .mk k t n a [] none [] => k == 2 && decide (n.size ≤ 1000)
  | .mk k t n a [] (some e) [] => k == 6 && nvE e
  | _ => false
def Nd (q : Qn) : Prop := ∃ e d, q = .may .brc e d ∧ nvE e = true
theorem emp_nil : emp ⟨#[]⟩ = true := by unfold emp; rw [Lib.toList_data]; rfl
theorem nd_qc {W0 : World} {qb : Nat} (hT : TabU W0) : QC W0 qb Nd := by
  rintro q ⟨e, d, rfl, hnv⟩ fv w qs hIs hq hn
  obtain ⟨N, k1, k2, k3, p, d', hN, rfl, hd, rfl, b1, b2, b3, hO⟩ := hIs
  simp only [OAt] at hO
  obtain ⟨b, o, c, rfl, hb, hc, hE⟩ := hO
  refine ⟨N, _, rfl, by rcases hN with rfl | rfl; exact enters_pat; exact enters_inl, ?_⟩
  refine brc_call hN k1 k2 k3 _ d' hd w qs _ _ b1 b2 b3 ?_
  cases e with
  | mk k t n a al i vs =>
    obtain ⟨A1, c1, pi, A2, c2, rfl, hA, hi, hV⟩ := cells_ex hE
    have hk7 : k ≠ 7 := by
      rintro rfl
      cases al <;> cases i <;> cases vs <;> simp [nvE] at hnv
    have hok : okE .brc (.mk k t n a al i vs) (d' + 1) = (decide (d' + 1 ≤ 20) && okE .inl (.mk k t n a al i vs) (d' + 1)) := by
      rw [okE, okE]
      simp [hk7]
    rw [show (Qn.may .brc (EX.mk k t n a al i vs) (d' + 1)).ans = (decide (d' + 1 ≤ 20) && okE .inl (.mk k t n a al i vs) (d' + 1)) from hok]
    have hsz : total qs + (EX.mk k t n a al i vs).size ≤ qMax := hn
    rw [EX.size] at hsz
    have hszq : (Qn.may .brc (.mk k t n a al i vs) (d' + 1)).size - 1 = t.size + n.size + a.size + sizeAs al + sizeO i + sizeVs vs := by
      show (EX.mk k t n a al i vs).size - 1 = _
      rw [EX.size]
      omega
    rw [hszq]
    refine (inBraces_asks k t n a A1 al.length c1 pi A2 vs.length c2 b o hb hc (d' + 1) (by omega) w (okE .inl (.mk k t n a al i vs) (d' + 1)) _ (fun h => absurd h hk7) (fun _ hd20 => ?_)) qs hq (by omega)
    cases al with
    | cons x r => simp [nvE] at hnv
    | nil =>
      cases vs with
      | cons x r => cases i <;> simp [nvE] at hnv
      | nil =>
        cases i with
        | none =>
          simp [nvE] at hnv
          obtain ⟨rfl, hn1⟩ := hnv
          simp only [OAt] at hi
          cases hi
          have h := inl2 (W0 := W0) (qb := qb) (D := Nd) t n a A1 0 c1 none A2 0 c2 (d' + 1) w (by omega)
          have e1 : okE .inl (.mk 2 t n a [] none []) (d' + 1) = (isNameV n && bareB t ⟨#[]⟩ a 0 none 0) := by
            rw [okE]
            unfold inlP bareB
            rw [emp_nil]
            simp
          rw [e1]
          intro qs' hq' hn'
          exact (h qs' hq' (by omega)).mono fun e w' hh => Asked.pre (StepQ.refl _ _ _) hh (Nat.zero_le _)
        | some ex =>
          simp [nvE] at hnv
          obtain ⟨rfl, hn1⟩ := hnv
          have h := inl6 (W0 := W0) (qb := qb) (D := Nd) (some ex) t n a A1 0 c1 pi A2 0 c2 (d' + 1) w hd20 hi (fun ex' he => by cases he; exact ⟨ex, _, rfl, hn1⟩)
          have e1 : okE .inl (.mk 6 t n a [] (some ex) []) (d' + 1) = (okO .brc (some ex) (d' + 1 + 1) && bareB t n a 0 none 0) := by
            rw [okE]
            unfold inlP bareB
            simp [Bool.and_assoc]
          rw [e1]
          intro qs' hq' hn'
          exact (h qs' hq' (by omega)).mono fun e w' hh => Asked.pre (StepQ.refl _ _ _) hh (by omega)
end Go.Proofs.YtbolmffldmegeaaDoor
