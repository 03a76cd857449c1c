/-
  TagLess: the law walked.
-/
import Derived.Test.YtldmldgkjkgkcaaDoorTgLFits
import Derived.Test.YtldmldgkjkgkcaaDoorTgLess2
import Derived.Deep.RegionHeld3
import Derived.IntWalk
namespace Go.Proofs.YtldmldgkjkgkcaaDoor
open Go.RowKit Go.Shelf
set_option linter.unusedVariables false
set_option linter.unusedSimpArgs false

theorem off_new {W : World} {t : TagT} {A : Option Addr} {c : Nat} (h : VarsAt W t A c) : Off A W.heap.size := by
  intro x hx
  rcases h.2 with ⟨e, _⟩ | ⟨b, o, d, e, hb, _⟩
  · simp only [Value.slice.injEq] at e; obtain ⟨rfl, _, _⟩ := e; cases hx
  · simp only [Value.slice.injEq] at e; obtain ⟨rfl, _, _⟩ := e; cases hx; simp only; omega
theorem vars_off {W : World} {t : TagT} {A : Option Addr} {c b o : Nat} {v : Value} (h : VarsAt W t A c) (hf : Off A b) : VarsAt (W.setCell ⟨b, o, none⟩ v) t A c := by
  refine ⟨h.1, ?_⟩
  rcases h.2 with e | ⟨vb, vo, d, e, hb, hc⟩
  · exact .inl e
  · refine .inr ⟨vb, vo, d, e, by simpa using hb, fun j hj => ?_⟩
    have hne : b ≠ vb := by
      simp only [Value.slice.injEq] at e
      obtain ⟨rfl, _, _⟩ := e
      exact fun e2 => hf _ rfl e2.symm
    rw [World.cell?_setCell_other _ _ _ _ (by simp [hne])]
    exact hc j hj
theorem row_off {W : World} {P : List (List UInt8)} {rb b o : Nat} {v : Value} (h : RowIn W rb P) (hne : rb ≠ b) : RowIn (W.setCell ⟨b, o, none⟩ v) rb P :=
  ⟨by simpa using h.1, fun j p hp => by rw [World.cell?_setCell_other _ _ _ _ (by simp [hne.symm])]; exact h.2 j p hp⟩
theorem Box4.set0 {W : World} {b : Nat} {x v0 v1 v2 v3 : Value} (h : Box4 W b v0 v1 v2 v3) : Box4 (W.setCell ⟨b, 0, none⟩ x) b x v1 v2 v3 := by
  obtain ⟨c0, c1, c2, c3, f0, f1, f2, f3, z⟩ := h
  refine ⟨World.cell?_setCell_same _ _ _ c0, ?_, ?_, ?_, by simpa using f0, by simpa using f1, by simpa using f2, by simpa using f3, by simpa using z⟩
  all_goals rw [World.cell?_setCell_other _ _ _ _ (by simp)]; assumption
theorem TagIn.put {W : World} {b : Nat} {t u : TagT} {A A' : Option Addr} {c c' : Nat} (h : TagIn W b t A c) (hv : VarsAt W u A' c') (hf : Off A' b) :
    TagIn ((((W.setCell ⟨b, 0, none⟩ (.string (mk u.L))).setCell ⟨b, 1, none⟩ (.string (mk u.S))).setCell ⟨b, 2, none⟩ (.string (mk u.R))).setCell ⟨b, 3, none⟩ (.slice A' u.vs.length c')) b u A' c' :=
  ⟨h.1.set0.set1.set2.set3, vars_off (vars_off (vars_off (vars_off hv hf) hf) hf) hf⟩
theorem twoX_keep {w W W1 : World} {k2 k3 l2 l3 rb : Nat} {p q r s : TagT} {A1 A2 B1 B2 : Option Addr} {c1 c2 d1 d2 : Nat} {P : List (List UInt8)} (hb : Below W.heap.size W W1) (h : W.cell? ⟨k2, 0, none⟩ = some (.string (mk p.L)) ∧ W.cell? ⟨k2, 1, none⟩ = some (.string (mk p.S)) ∧ W.cell? ⟨k2, 2, none⟩ = some (.string (mk p.R)) ∧ W.cell? ⟨k2, 3, none⟩ = some (.slice A1 p.vs.length c1) ∧ W.cell? ⟨k3, 0, none⟩ = some (.string (mk q.L)) ∧ W.cell? ⟨k3, 1, none⟩ = some (.string (mk q.S)) ∧ W.cell? ⟨k3, 2, none⟩ = some (.string (mk q.R)) ∧ W.cell? ⟨k3, 3, none⟩ = some (.slice A2 q.vs.length c2) ∧ k2 < W.heap.size ∧ k3 < W.heap.size ∧ VarsAt W p A1 c1 ∧ VarsAt W q A2 c2 ∧ Below w.heap.size w W ∧ TagIn W l2 r B1 d1 ∧ TagIn W l3 s B2 d2 ∧ RowIn W rb P) : W1.cell? ⟨k2, 0, none⟩ = some (.string (mk p.L)) ∧ W1.cell? ⟨k2, 1, none⟩ = some (.string (mk p.S)) ∧ W1.cell? ⟨k2, 2, none⟩ = some (.string (mk p.R)) ∧ W1.cell? ⟨k2, 3, none⟩ = some (.slice A1 p.vs.length c1) ∧ W1.cell? ⟨k3, 0, none⟩ = some (.string (mk q.L)) ∧ W1.cell? ⟨k3, 1, none⟩ = some (.string (mk q.S)) ∧ W1.cell? ⟨k3, 2, none⟩ = some (.string (mk q.R)) ∧ W1.cell? ⟨k3, 3, none⟩ = some (.slice A2 q.vs.length c2) ∧ k2 < W1.heap.size ∧ k3 < W1.heap.size ∧ VarsAt W1 p A1 c1 ∧ VarsAt W1 q A2 c2 ∧ Below w.heap.size w W1 ∧ TagIn W1 l2 r B1 d1 ∧ TagIn W1 l3 s B2 d2 ∧ RowIn W1 rb P := by
  obtain ⟨a0, a1, a2, a3, b0, b1, b2, b3, z2, z3, v1, v2, hB, t1, t2, r1⟩ := h
  obtain ⟨a0, a1, a2, a3, b0, b1, b2, b3, z2, z3, v1, v2, hB⟩ := two_keep hb ⟨a0, a1, a2, a3, b0, b1, b2, b3, z2, z3, v1, v2, hB⟩
  exact ⟨a0, a1, a2, a3, b0, b1, b2, b3, z2, z3, v1, v2, hB, t1.later hb, t2.later hb, r1.later hb⟩
theorem twoX_start {w W : World} {k2 k3 l2 l3 rb : Nat} {p q r s : TagT} {A1 A2 B1 B2 : Option Addr} {c1 c2 d1 d2 : Nat} {P : List (List UInt8)} (h1 : TagIn W k2 p A1 c1) (h2 : TagIn W k3 q A2 c2) (hB : Below w.heap.size w W) (h3 : TagIn W l2 r B1 d1) (h4 : TagIn W l3 s B2 d2) (h5 : RowIn W rb P) : W.cell? ⟨k2, 0, none⟩ = some (.string (mk p.L)) ∧ W.cell? ⟨k2, 1, none⟩ = some (.string (mk p.S)) ∧ W.cell? ⟨k2, 2, none⟩ = some (.string (mk p.R)) ∧ W.cell? ⟨k2, 3, none⟩ = some (.slice A1 p.vs.length c1) ∧ W.cell? ⟨k3, 0, none⟩ = some (.string (mk q.L)) ∧ W.cell? ⟨k3, 1, none⟩ = some (.string (mk q.S)) ∧ W.cell? ⟨k3, 2, none⟩ = some (.string (mk q.R)) ∧ W.cell? ⟨k3, 3, none⟩ = some (.slice A2 q.vs.length c2) ∧ k2 < W.heap.size ∧ k3 < W.heap.size ∧ VarsAt W p A1 c1 ∧ VarsAt W q A2 c2 ∧ Below w.heap.size w W ∧ TagIn W l2 r B1 d1 ∧ TagIn W l3 s B2 d2 ∧ RowIn W rb P := by
  obtain ⟨a0, a1, a2, a3, b0, b1, b2, b3, z2, z3, v1, v2, hB⟩ := two_start h1 h2 hB
  exact ⟨a0, a1, a2, a3, b0, b1, b2, b3, z2, z3, v1, v2, hB, h3, h4, h5⟩
theorem twoX_out {w W : World} {k2 k3 l2 l3 rb : Nat} {p q r s : TagT} {A1 A2 B1 B2 : Option Addr} {c1 c2 d1 d2 : Nat} {P : List (List UInt8)} (h : W.cell? ⟨k2, 0, none⟩ = some (.string (mk p.L)) ∧ W.cell? ⟨k2, 1, none⟩ = some (.string (mk p.S)) ∧ W.cell? ⟨k2, 2, none⟩ = some (.string (mk p.R)) ∧ W.cell? ⟨k2, 3, none⟩ = some (.slice A1 p.vs.length c1) ∧ W.cell? ⟨k3, 0, none⟩ = some (.string (mk q.L)) ∧ W.cell? ⟨k3, 1, none⟩ = some (.string (mk q.S)) ∧ W.cell? ⟨k3, 2, none⟩ = some (.string (mk q.R)) ∧ W.cell? ⟨k3, 3, none⟩ = some (.slice A2 q.vs.length c2) ∧ k2 < W.heap.size ∧ k3 < W.heap.size ∧ VarsAt W p A1 c1 ∧ VarsAt W q A2 c2 ∧ Below w.heap.size w W ∧ TagIn W l2 r B1 d1 ∧ TagIn W l3 s B2 d2 ∧ RowIn W rb P) : TagIn W l2 r B1 d1 ∧ TagIn W l3 s B2 d2 ∧ RowIn W rb P ∧ Below w.heap.size w W := by
  obtain ⟨_, _, _, _, _, _, _, _, _, _, _, _, hB, t1, t2, r1⟩ := h
  exact ⟨t1, t2, r1, hB⟩
theorem three_keep {w W W1 : World} {b3 b11 rb : Nat} {t : TagT} {A : Option Addr} {c : Nat} (hb : Below W.heap.size W W1) (h : W.cell? ⟨b3, 0, none⟩ = some (.string (mk t.L)) ∧ W.cell? ⟨b3, 1, none⟩ = some (.string (mk t.S)) ∧ W.cell? ⟨b3, 2, none⟩ = some (.string (mk t.R)) ∧ W.cell? ⟨b3, 3, none⟩ = some (.slice A t.vs.length c) ∧ W.cell? ⟨b11, 0, none⟩ = some (.string ⟨#[]⟩) ∧ W.cell? ⟨rb, 0, none⟩ = some (.string (mk t.L)) ∧ b3 < W.heap.size ∧ b11 < W.heap.size ∧ rb < W.heap.size ∧ VarsAt W t A c ∧ Below w.heap.size w W) : W1.cell? ⟨b3, 0, none⟩ = some (.string (mk t.L)) ∧ W1.cell? ⟨b3, 1, none⟩ = some (.string (mk t.S)) ∧ W1.cell? ⟨b3, 2, none⟩ = some (.string (mk t.R)) ∧ W1.cell? ⟨b3, 3, none⟩ = some (.slice A t.vs.length c) ∧ W1.cell? ⟨b11, 0, none⟩ = some (.string ⟨#[]⟩) ∧ W1.cell? ⟨rb, 0, none⟩ = some (.string (mk t.L)) ∧ b3 < W1.heap.size ∧ b11 < W1.heap.size ∧ rb < W1.heap.size ∧ VarsAt W1 t A c ∧ Below w.heap.size w W1 := by
  obtain ⟨a0, a1, a2, a3, u0, r0, z3, z11, zr, v1, hB⟩ := h
  exact ⟨(hb.cell (p := ⟨b3, 0, none⟩) z3).trans a0, (hb.cell (p := ⟨b3, 1, none⟩) z3).trans a1, (hb.cell (p := ⟨b3, 2, none⟩) z3).trans a2, (hb.cell (p := ⟨b3, 3, none⟩) z3).trans a3, (hb.cell (p := ⟨b11, 0, none⟩) z11).trans u0, (hb.cell (p := ⟨rb, 0, none⟩) zr).trans r0, Nat.lt_of_lt_of_le z3 hb.size, Nat.lt_of_lt_of_le z11 hb.size, Nat.lt_of_lt_of_le zr hb.size, v1.later hb, below_step hB hb⟩
theorem three_end {w W : World} {b3 b11 rb : Nat} {t : TagT} {A : Option Addr} {c : Nat} (h : W.cell? ⟨b3, 0, none⟩ = some (.string (mk t.L)) ∧ W.cell? ⟨b3, 1, none⟩ = some (.string (mk t.S)) ∧ W.cell? ⟨b3, 2, none⟩ = some (.string (mk t.R)) ∧ W.cell? ⟨b3, 3, none⟩ = some (.slice A t.vs.length c) ∧ W.cell? ⟨b11, 0, none⟩ = some (.string ⟨#[]⟩) ∧ W.cell? ⟨rb, 0, none⟩ = some (.string (mk t.L)) ∧ b3 < W.heap.size ∧ b11 < W.heap.size ∧ rb < W.heap.size ∧ VarsAt W t A c ∧ Below w.heap.size w W) : Below w.heap.size w W := h.2.2.2.2.2.2.2.2.2.2

/-- Between two rounds: a tag of so many pieces, and the parts. -/
structure LessAt (w W : World) (P : List (List UInt8)) (b3 rb n : Nat) (t : TagT) (A : Option Addr) (c : Nat) : Prop where
  pieces : t.pieces = P.take n
  ok : t.Ok
  tag : TagIn W b3 t A c
  off : Off A b3
  row : RowIn W rb P
  below : Below w.heap.size w W

set_option maxRecDepth 1000000 in
set_option maxHeartbeats 8000000 in
theorem less_law (s : ByteArray) (hz : s.size ≤ 9223372036854775807) (w : World) (hM : MaxAt w) : Calls Tryd.prog 5 #[.string s] w fun e w' => e = .returned (.bool true) ∧ Below w.heap.size w w' := by
  have HM := Lib.hid hM
  clear hM
  by_cases hs : 100 < s.size
  · go_enter Tryd.func5, Tryd.ntmps5
    go_wp2_with fail
    go_at_call 7
    refine (head_any w HM.out).mono ?_
    rintro e w1 ⟨rfl, b1⟩
    go_wp2_with fail
    go_ret
    exact ⟨rfl, b1⟩
  have hs5 : s.size ≤ 100000 := by omega
  cases ht : tagOf (splitH s.data.toList) with
  | none =>
    have HT := Lib.hid ht
    clear ht
    go_enter Tryd.func5, Tryd.ntmps5
    go_wp2_with fail
    go_at_call 7
    refine (head_any w HM.out).mono ?_
    rintro e w1 ⟨rfl, b1⟩
    have B1 := Lib.hid b1
    clear b1
    go_wp2_with fail
    go_at_call 8
    refine (ParseN.of hs5 (HM.out.on B1.out) HT.out).at_.mono ?_
    rintro e w2 ⟨rfl, b2⟩
    go_wp2_with fail
    go_ret
    exact ⟨rfl, below_box1 (below_step B1.out b2) _⟩
  | some t0 =>
    have kt := TagT.Ok.of ht (by simp; omega)
    have KT := Lib.hid kt
    have HT := Lib.hid ht
    clear ht kt
    go_enter Tryd.func5, Tryd.ntmps5
    go_wp2_with fail
    go_at_call 7
    refine (head_any w HM.out).mono ?_
    rintro e w1 ⟨rfl, b1⟩
    have B1 := Lib.hid b1
    clear b1
    go_wp2_with fail
    go_at_call 8
    refine (ParseY.of hs5 (HM.out.on B1.out) HT.out).at_.mono ?_
    rintro e w2 ⟨A1, c1, rfl, v1, b2⟩
    have B2 := Lib.hid (below_box1 (below_step B1.out b2) (tagCells t0 A1 c1))
    have T2 := Lib.hid (TagIn.new v1)
    have hb3 : w.heap.size ≤ w2.heap.size := (below_step B1.out b2).size
    have O2 := Lib.hid (off_new v1)
    clear B1 b2 v1
    go_upto_region 6 with fail
    generalize w2.heap.size = b3 at *
    generalize w2.alloc (tagCells t0 A1 c1) = W2 at *
    obtain ⟨⟨x0, x1, x2, x3, _⟩, _⟩ := T2.out
    go_wp2_with fail
    go_at_call 10
    refine (stringT KT.out T2.out.2).mono ?_
    rintro e w4 ⟨rfl, b4⟩
    have B4 := Lib.hid (below_step B2.out b4)
    have T4 := Lib.hid (T2.out.later b4)
    clear b4 B2 T2 x0 x1 x2 x3
    go_wp2_with fail
    go_at_call 11
    refine (splitT2 KT.out w4 T4.out.1.2.2.2.2.2.2.2.2).mono ?_
    rintro e w5 ⟨rb, rc, rfl, ⟨r1, r2, r3⟩, b5⟩
    have R5 : Hid (RowIn w5 rb t0.pieces) := Lib.hid ⟨r1, r3⟩
    obtain ⟨P, hP⟩ : ∃ P, t0.pieces = P := ⟨_, rfl⟩
    obtain ⟨pn, hpn⟩ : ∃ n, P.length = n := ⟨_, rfl⟩
    have hp1 : pn ≤ 1000 := by rw [← hpn, ← hP]; exact KT.out.pieces
    have hp0 : 1 ≤ pn := by rw [← hpn, ← hP]; exact List.length_pos_iff.2 (pieces_ne KT.out.good)
    have L5 := Lib.hid (show LessAt w w5 P b3 rb pn t0 A1 c1 from ⟨by rw [hP, ← hpn, List.take_length], KT.out, T4.out.later b5, O2.out, by rw [← hP]; exact R5.out, below_step B4.out b5⟩)
    rw [hP, hpn]
    have HPN := Lib.hid hpn
    have HR2 := Lib.hid r2
    clear b5 B4 T4 r1 r2 r3 R5 O2 hP hpn
    go_wp2_with fail
    go_loopw [6] (fun i wr => ∃ (n : Nat) (t : TagT) (A : Option Addr) (c : Nat), 1 ≤ n ∧ n ≤ pn ∧ i = .int .i64 n ∧ LessAt w wr P b3 rb n t A c) (fun i _ => (intOf i).toNat)
    case atStart => exact ⟨pn, t0, A1, c1, hp0, Nat.le_refl _, rfl, L5.out⟩
    case round =>
      clear L5
      obtain ⟨n, t, A, c, hn1, hn2, rfl, hL⟩ := hrel
      have hpl : t.pieces.length = n := by rw [hL.pieces, List.length_take, HPN.out]; omega
      have K := Lib.hid hL.ok
      have T := Lib.hid hL.tag
      have O := Lib.hid hL.off
      have R := Lib.hid hL.row
      have B0 := Lib.hid hL.below
      have HP := Lib.hid hL.pieces
      clear hL
      obtain ⟨⟨x0, x1, x2, x3, _⟩, _⟩ := T.out
      by_cases h1 : 1 < n
      · obtain ⟨m, rfl⟩ : ∃ m, n = m + 1 := ⟨n - 1, by omega⟩
        have hlp : t.less.pieces = t.pieces.dropLast := less_pieces K.out.good (by omega)
        have hlm : t.less.pieces.length = m := by rw [hlp, List.length_dropLast, hpl]; omega
        have K7 := Lib.hid (less_ok K.out (by omega))
        have hfit := less_fits K.out.good (by omega)
        have hlt := less_len K.out.good (by omega)
        have HP7 := Lib.hid (show t.less.pieces = P.take m by rw [hlp, HP.out, List.dropLast_eq_take, List.take_take, List.length_take, HPN.out]; congr 1; omega)
        have hgeN : decide ((mk t.text).size ≤ (mk t.less.text).size) = false := by rw [mk_size, mk_size]; exact decide_eq_false (by omega)
        have cL := fun (b : Nat) (hb : b < wr.heap.size) => lessY2 K.out (by omega) T.out.2 hb
        have CL := Lib.hid (cL b3 T.out.1.2.2.2.2.2.2.2.2)
        have HLM := Lib.hid hlm
        have HFI := Lib.hid hfit
        have HPL := Lib.hid hpl
        have HGE := Lib.hid hgeN
        have ht7 : (mk t.less.text).size ≤ 100000 := by rw [mk_size]; have := K7.out.text; omega
        have HT7 := Lib.hid (show tagOf (splitH (mk t.less.text).data.toList) = some t.less from tagOf_text K7.out.good)
        clear hlp hlm hfit hlt hpl hgeN cL
        go_wp2_with fail
        go_at_call 13
        refine CL.out.mono ?_
        rintro e w6 ⟨A7, c7, rfl, ⟨v7, o7⟩, b6⟩
        have B7 := Lib.hid (below_box1 (below_step B0.out b6) (tagCells t.less A7 c7))
        have T7 := Lib.hid ((T.out.later b6).alloc (tagCells t.less A7 c7))
        have R7 := Lib.hid ((R.out.later b6).later ((Below.refl _ _).alloc (Nat.le_refl _) (tagCells t.less A7 c7)))
        have U7 := Lib.hid (TagIn.new v7)
        have O7 := Lib.hid o7
        clear v7 o7 b6 B0 T R CL x0 x1 x2 x3
        go_upto_region 13 with fail
        generalize w6.heap.size = b7 at *
        generalize w6.alloc (tagCells t.less A7 c7) = W7 at *
        have start := twoX_start T7.out U7.out B7.out T7.out U7.out R7.out
        have C1 := Lib.hid (show ∀ W, (W.cell? ⟨b3, 0, none⟩ = some (.string (mk t.L)) ∧ W.cell? ⟨b3, 1, none⟩ = some (.string (mk t.S)) ∧ W.cell? ⟨b3, 2, none⟩ = some (.string (mk t.R)) ∧ W.cell? ⟨b3, 3, none⟩ = some (.slice A t.vs.length c) ∧ W.cell? ⟨b7, 0, none⟩ = some (.string (mk t.less.L)) ∧ W.cell? ⟨b7, 1, none⟩ = some (.string (mk t.less.S)) ∧ W.cell? ⟨b7, 2, none⟩ = some (.string (mk t.less.R)) ∧ W.cell? ⟨b7, 3, none⟩ = some (.slice A7 t.less.vs.length c7) ∧ b3 < W.heap.size ∧ b7 < W.heap.size ∧ VarsAt W t A c ∧ VarsAt W t.less A7 c7 ∧ Below w.heap.size w W ∧ TagIn W b3 t A c ∧ TagIn W b7 t.less A7 c7 ∧ RowIn W rb P) → Calls Tryd.prog 12 #[.agg #[.string (mk t.L), .string (mk t.S), .string (mk t.R), .slice A t.vs.length c], .agg #[.string (mk t.less.L), .string (mk t.less.S), .string (mk t.less.R), .slice A7 t.less.vs.length c7]] W fun e W' => e = .returned (.bool true) ∧ Below W.heap.size W W' from fun W h => by rw [← HFI.out]; exact fitsTo K.out K7.out (h.2.2.2.2.2.2.2.2.2.2.1) (h.2.2.2.2.2.2.2.2.2.2.2.1))
        have C2 := Lib.hid (show ∀ W, (W.cell? ⟨b3, 0, none⟩ = some (.string (mk t.L)) ∧ W.cell? ⟨b3, 1, none⟩ = some (.string (mk t.S)) ∧ W.cell? ⟨b3, 2, none⟩ = some (.string (mk t.R)) ∧ W.cell? ⟨b3, 3, none⟩ = some (.slice A t.vs.length c) ∧ W.cell? ⟨b7, 0, none⟩ = some (.string (mk t.less.L)) ∧ W.cell? ⟨b7, 1, none⟩ = some (.string (mk t.less.S)) ∧ W.cell? ⟨b7, 2, none⟩ = some (.string (mk t.less.R)) ∧ W.cell? ⟨b7, 3, none⟩ = some (.slice A7 t.less.vs.length c7) ∧ b3 < W.heap.size ∧ b7 < W.heap.size ∧ VarsAt W t A c ∧ VarsAt W t.less A7 c7 ∧ Below w.heap.size w W ∧ TagIn W b3 t A c ∧ TagIn W b7 t.less A7 c7 ∧ RowIn W rb P) → Calls Tryd.prog 10 #[.agg #[.string (mk t.L), .string (mk t.S), .string (mk t.R), .slice A t.vs.length c]] W fun e W' => e = .returned (.string (mk t.text)) ∧ Below W.heap.size W W' from fun W h => stringT K.out (h.2.2.2.2.2.2.2.2.2.2.1))
        have C3 := Lib.hid (show ∀ W, (W.cell? ⟨b3, 0, none⟩ = some (.string (mk t.L)) ∧ W.cell? ⟨b3, 1, none⟩ = some (.string (mk t.S)) ∧ W.cell? ⟨b3, 2, none⟩ = some (.string (mk t.R)) ∧ W.cell? ⟨b3, 3, none⟩ = some (.slice A t.vs.length c) ∧ W.cell? ⟨b7, 0, none⟩ = some (.string (mk t.less.L)) ∧ W.cell? ⟨b7, 1, none⟩ = some (.string (mk t.less.S)) ∧ W.cell? ⟨b7, 2, none⟩ = some (.string (mk t.less.R)) ∧ W.cell? ⟨b7, 3, none⟩ = some (.slice A7 t.less.vs.length c7) ∧ b3 < W.heap.size ∧ b7 < W.heap.size ∧ VarsAt W t A c ∧ VarsAt W t.less A7 c7 ∧ Below w.heap.size w W ∧ TagIn W b3 t A c ∧ TagIn W b7 t.less A7 c7 ∧ RowIn W rb P) → Calls Tryd.prog 10 #[.agg #[.string (mk t.less.L), .string (mk t.less.S), .string (mk t.less.R), .slice A7 t.less.vs.length c7]] W fun e W' => e = .returned (.string (mk t.less.text)) ∧ Below W.heap.size W W' from fun W h => stringT K7.out (h.2.2.2.2.2.2.2.2.2.2.2.1))
        have C4 := Lib.hid (show ∀ W, (W.cell? ⟨b3, 0, none⟩ = some (.string (mk t.L)) ∧ W.cell? ⟨b3, 1, none⟩ = some (.string (mk t.S)) ∧ W.cell? ⟨b3, 2, none⟩ = some (.string (mk t.R)) ∧ W.cell? ⟨b3, 3, none⟩ = some (.slice A t.vs.length c) ∧ W.cell? ⟨b7, 0, none⟩ = some (.string (mk t.less.L)) ∧ W.cell? ⟨b7, 1, none⟩ = some (.string (mk t.less.S)) ∧ W.cell? ⟨b7, 2, none⟩ = some (.string (mk t.less.R)) ∧ W.cell? ⟨b7, 3, none⟩ = some (.slice A7 t.less.vs.length c7) ∧ b3 < W.heap.size ∧ b7 < W.heap.size ∧ VarsAt W t A c ∧ VarsAt W t.less A7 c7 ∧ Below w.heap.size w W ∧ TagIn W b3 t A c ∧ TagIn W b7 t.less A7 c7 ∧ RowIn W rb P) → Calls Tryd.prog 11 #[.string (mk t.less.text)] W fun e W' => ∃ q d, e = .returned (.slice (some ⟨q, 0, none⟩) m d) ∧ Below W.heap.size W W' from fun W h => (splitT K7.out W).mono fun e W' ⟨q, d, he, _, hb⟩ => ⟨q, d, by rw [he, HLM.out], hb⟩)
        have wr1 : IntKind.i64.wrap ((m : Int) + 1 - 1) = (m : Int) := by rw [show (m : Int) + 1 - 1 = m by omega]; exact IntWalk.i64_in _ (by omega)
        have wr2 : IntKind.i64.wrap (m : Int) = (m : Int) := IntWalk.i64_in _ (by omega)
        have hge := HGE.out
        have HST := Lib.hid start
        clear start
        go_cut [64] (fun v wx => v = .bool false ∧ TagIn wx b3 t A c ∧ TagIn wx b7 t.less A7 c7 ∧ RowIn wx rb P ∧ Below w.heap.size w wx)
        case first =>
          go_region_held3 (fun w' => w'.cell? ⟨b3, 0, none⟩ = some (.string (mk t.L)) ∧ w'.cell? ⟨b3, 1, none⟩ = some (.string (mk t.S)) ∧ w'.cell? ⟨b3, 2, none⟩ = some (.string (mk t.R)) ∧ w'.cell? ⟨b3, 3, none⟩ = some (.slice A t.vs.length c) ∧ w'.cell? ⟨b7, 0, none⟩ = some (.string (mk t.less.L)) ∧ w'.cell? ⟨b7, 1, none⟩ = some (.string (mk t.less.S)) ∧ w'.cell? ⟨b7, 2, none⟩ = some (.string (mk t.less.R)) ∧ w'.cell? ⟨b7, 3, none⟩ = some (.slice A7 t.less.vs.length c7) ∧ b3 < w'.heap.size ∧ b7 < w'.heap.size ∧ VarsAt w' t A c ∧ VarsAt w' t.less A7 c7 ∧ Below w.heap.size w w' ∧ TagIn w' b3 t A c ∧ TagIn w' b7 t.less A7 c7 ∧ RowIn w' rb P)
            (first | (exact twoX_keep (by assumption) (by assumption)) | (exact twoX_keep (Below.refl _ _).drew HST.out) | go_keep)
            (first | (go_at_call 12; (with_reducible refine (C1.out _ (by assumption)).mono ?_); rintro e w5 ⟨rfl, hb5⟩) | (go_at_call 10; (with_reducible refine (C2.out _ (by assumption)).mono ?_); rintro e w5 ⟨rfl, hb5⟩) | (go_at_call 10; (with_reducible refine (C3.out _ (by assumption)).mono ?_); rintro e w5 ⟨rfl, hb5⟩) | (go_at_call 11; (with_reducible refine (C4.out _ (by assumption)).mono ?_); rintro e w5 ⟨q5, d5, rfl, hb5⟩))

          go_wp2_with fail
          go_meet
          exact ⟨rfl, twoX_out (by assumption)⟩
        case rest =>
          obtain ⟨rfl, tA, tU, rR, bB⟩ := hcut
          have T8 := Lib.hid tA
          have U8 := Lib.hid tU
          have R8 := Lib.hid rR
          have B8 := Lib.hid bB
          clear tA tU rR bB hge wr1 wr2 HST C1 C2 C3 C4 T7 U7 R7 B7
          obtain ⟨⟨y0, y1, y2, y3, _⟩, _⟩ := U8.out
          go_wp2_with fail
          go_at_call 10
          refine (stringT K7.out U8.out.2).mono ?_
          rintro e w9 ⟨rfl, b⟩
          have T9 := Lib.hid (T8.out.later b)
          have U9 := Lib.hid (U8.out.later b)
          have R9 := Lib.hid (R8.out.later b)
          have B9 := Lib.hid (below_step B8.out b)
          clear T8 U8 R8 B8 b y0 y1 y2 y3
          go_wp2_with fail
          go_at_call 8
          refine (ParseY.of ht7 (HM.out.on B9.out) HT7.out).at_.mono ?_
          rintro e w10 ⟨A9, c9, rfl, v9, b⟩
          have T10 := Lib.hid ((T9.out.later b).alloc (tagCells t.less A9 c9))
          have U10 := Lib.hid ((U9.out.later b).alloc (tagCells t.less A9 c9))
          have R10 := Lib.hid ((R9.out.later b).later ((Below.refl _ _).alloc (Nat.le_refl _) (tagCells t.less A9 c9)))
          have V10 := Lib.hid (TagIn.new v9)
          have B10 := Lib.hid (below_box1 (below_step B9.out b) (tagCells t.less A9 c9))
          clear T9 U9 R9 B9 b v9
          go_upto_region 16 with fail
          generalize w10.heap.size = b9 at *
          generalize w10.alloc (tagCells t.less A9 c9) = W10 at *
          have HST := Lib.hid (twoX_start V10.out U10.out B10.out T10.out U10.out R10.out)
          have D1 := Lib.hid (show ∀ W, (W.cell? ⟨b9, 0, none⟩ = some (.string (mk t.less.L)) ∧ W.cell? ⟨b9, 1, none⟩ = some (.string (mk t.less.S)) ∧ W.cell? ⟨b9, 2, none⟩ = some (.string (mk t.less.R)) ∧ W.cell? ⟨b9, 3, none⟩ = some (.slice A9 t.less.vs.length c9) ∧ W.cell? ⟨b7, 0, none⟩ = some (.string (mk t.less.L)) ∧ W.cell? ⟨b7, 1, none⟩ = some (.string (mk t.less.S)) ∧ W.cell? ⟨b7, 2, none⟩ = some (.string (mk t.less.R)) ∧ W.cell? ⟨b7, 3, none⟩ = some (.slice A7 t.less.vs.length c7) ∧ b9 < W.heap.size ∧ b7 < W.heap.size ∧ VarsAt W t.less A9 c9 ∧ VarsAt W t.less A7 c7 ∧ Below w.heap.size w W ∧ TagIn W b3 t A c ∧ TagIn W b7 t.less A7 c7 ∧ RowIn W rb P) → Calls Tryd.prog 10 #[.agg #[.string (mk t.less.L), .string (mk t.less.S), .string (mk t.less.R), .slice A9 t.less.vs.length c9]] W fun e W' => e = .returned (.string (mk t.less.text)) ∧ Below W.heap.size W W' from fun W h => stringT K7.out (h.2.2.2.2.2.2.2.2.2.2.1))
          have D2 := Lib.hid (show ∀ W, (W.cell? ⟨b9, 0, none⟩ = some (.string (mk t.less.L)) ∧ W.cell? ⟨b9, 1, none⟩ = some (.string (mk t.less.S)) ∧ W.cell? ⟨b9, 2, none⟩ = some (.string (mk t.less.R)) ∧ W.cell? ⟨b9, 3, none⟩ = some (.slice A9 t.less.vs.length c9) ∧ W.cell? ⟨b7, 0, none⟩ = some (.string (mk t.less.L)) ∧ W.cell? ⟨b7, 1, none⟩ = some (.string (mk t.less.S)) ∧ W.cell? ⟨b7, 2, none⟩ = some (.string (mk t.less.R)) ∧ W.cell? ⟨b7, 3, none⟩ = some (.slice A7 t.less.vs.length c7) ∧ b9 < W.heap.size ∧ b7 < W.heap.size ∧ VarsAt W t.less A9 c9 ∧ VarsAt W t.less A7 c7 ∧ Below w.heap.size w W ∧ TagIn W b3 t A c ∧ TagIn W b7 t.less A7 c7 ∧ RowIn W rb P) → Calls Tryd.prog 10 #[.agg #[.string (mk t.less.L), .string (mk t.less.S), .string (mk t.less.R), .slice A7 t.less.vs.length c7]] W fun e W' => e = .returned (.string (mk t.less.text)) ∧ Below W.heap.size W W' from fun W h => stringT K7.out (h.2.2.2.2.2.2.2.2.2.2.2.1))
          go_cut [79] (fun v wx => v = .bool false ∧ TagIn wx b3 t A c ∧ TagIn wx b7 t.less A7 c7 ∧ RowIn wx rb P ∧ Below w.heap.size w wx)
          case first =>
            go_region_held3 (fun w' => w'.cell? ⟨b9, 0, none⟩ = some (.string (mk t.less.L)) ∧ w'.cell? ⟨b9, 1, none⟩ = some (.string (mk t.less.S)) ∧ w'.cell? ⟨b9, 2, none⟩ = some (.string (mk t.less.R)) ∧ w'.cell? ⟨b9, 3, none⟩ = some (.slice A9 t.less.vs.length c9) ∧ w'.cell? ⟨b7, 0, none⟩ = some (.string (mk t.less.L)) ∧ w'.cell? ⟨b7, 1, none⟩ = some (.string (mk t.less.S)) ∧ w'.cell? ⟨b7, 2, none⟩ = some (.string (mk t.less.R)) ∧ w'.cell? ⟨b7, 3, none⟩ = some (.slice A7 t.less.vs.length c7) ∧ b9 < w'.heap.size ∧ b7 < w'.heap.size ∧ VarsAt w' t.less A9 c9 ∧ VarsAt w' t.less A7 c7 ∧ Below w.heap.size w w' ∧ TagIn w' b3 t A c ∧ TagIn w' b7 t.less A7 c7 ∧ RowIn w' rb P)
              (first | (exact twoX_keep (by assumption) (by assumption)) | (exact twoX_keep (Below.refl _ _).drew HST.out) | go_keep)
              (first | (go_at_call 10; (with_reducible refine (D1.out _ (by assumption)).mono ?_); rintro e w5 ⟨rfl, hb5⟩) | (go_at_call 10; (with_reducible refine (D2.out _ (by assumption)).mono ?_); rintro e w5 ⟨rfl, hb5⟩))

            go_wp2_with fail
            go_meet
            exact ⟨rfl, twoX_out (by assumption)⟩
          case rest =>
            obtain ⟨rfl, tA, tU, rR, bB⟩ := hcut
            have T11 := Lib.hid tA
            have U11 := Lib.hid tU
            have R11 := Lib.hid rR
            have B11 := Lib.hid bB
            clear tA tU rR bB
            obtain ⟨⟨x0, x1, x2, x3, f0, f1, f2, f3, _⟩, _⟩ := T11.out
            obtain ⟨⟨y0, y1, y2, y3, _⟩, _⟩ := U11.out
            go_wp2
            go_roundw
            case rel => exact ⟨m, t.less, A7, c7, by omega, by omega, by go_num, HP7.out, K7.out, T11.out.put U11.out.2 O7.out, O7.out, row_off (row_off (row_off (row_off R11.out HR2.out) HR2.out) HR2.out) HR2.out, below_set4 B11.out hb3⟩
            case measure => first | (simp [intOf]; done) | (simp [intOf]; omega)
      · have HN1 := Lib.hid (show n = 1 by omega)
        have h1z : ¬ (1 : Int) < (n : Int) := by omega
        have h1d : decide ((1 : Int) < (n : Int)) = false := decide_eq_false h1z
        have h1e : (n : Int) ≤ 1 := by omega
        rw [HN1.out] at hpl
        have hNL := fun (W : World) => lessN (A := A) (c := c) (W := W) K.out hpl
        have NL := Lib.hid hNL
        have hrow0 : wr.cell? ⟨rb, 0, none⟩ = some (.string (mk t.L)) := by
          have h0 := head_piece K.out.good
          rw [HP.out, HN1.out, List.getElem?_take] at h0
          simp at h0
          exact R.out.2 0 _ h0
        have htxt : mk t.text = mk t.L := by rw [one_text K.out.good hpl]
        have HTX := Lib.hid htxt
        have HR0 := Lib.hid hrow0
        clear hpl hNL hrow0 htxt
        go_wp2_with fail
        go_at_call 13
        refine (NL.out _).mono ?_
        rintro e w6 ⟨rfl, b⟩
        have T6 := Lib.hid (T.out.later b)
        have R6 := Lib.hid (R.out.later b)
        have B6 := Lib.hid (below_step B0.out b)
        have h60 : w6.cell? ⟨rb, 0, none⟩ = some (.string (mk t.L)) := (b.cell (p := ⟨rb, 0, none⟩) R.out.1).trans HR0.out
        have hal := Lib.hid ((Below.refl w6.heap.size w6).alloc (Nat.le_refl _) (.cells #[.string ⟨#[]⟩, .string ⟨#[]⟩, .string ⟨#[]⟩, .slice none 0 0] 25))
        have T7 := Lib.hid (T6.out.later hal.out)
        have R7 := Lib.hid (R6.out.later hal.out)
        have B7 := Lib.hid (below_step B6.out hal.out)
        have H70 := Lib.hid ((hal.out.cell (p := ⟨rb, 0, none⟩) R6.out.1).trans h60)
        have X7 := Lib.hid (Box4.new w6 (.string ⟨#[]⟩) (.string ⟨#[]⟩) (.string ⟨#[]⟩) (.slice none 0 0) 25)
        clear T R B0 b h60 T6 R6 B6 HR0 hal x0 x1 x2 x3
        go_upto_region 20 with fail
        generalize w6.heap.size = b11 at *
        generalize w6.alloc (.cells #[.string ⟨#[]⟩, .string ⟨#[]⟩, .string ⟨#[]⟩, .slice none 0 0] 25) = W7 at *
        have HST := Lib.hid (show W7.cell? ⟨b3, 0, none⟩ = some (.string (mk t.L)) ∧ W7.cell? ⟨b3, 1, none⟩ = some (.string (mk t.S)) ∧ W7.cell? ⟨b3, 2, none⟩ = some (.string (mk t.R)) ∧ W7.cell? ⟨b3, 3, none⟩ = some (.slice A t.vs.length c) ∧ W7.cell? ⟨b11, 0, none⟩ = some (.string ⟨#[]⟩) ∧ W7.cell? ⟨rb, 0, none⟩ = some (.string (mk t.L)) ∧ b3 < W7.heap.size ∧ b11 < W7.heap.size ∧ rb < W7.heap.size ∧ VarsAt W7 t A c ∧ Below w.heap.size w W7 from ⟨T7.out.1.1, T7.out.1.2.1, T7.out.1.2.2.1, T7.out.1.2.2.2.1, X7.out.1, H70.out, T7.out.1.2.2.2.2.2.2.2.2, X7.out.2.2.2.2.2.2.2.2, R7.out.1, T7.out.2, B7.out⟩)
        have D1 := Lib.hid (show ∀ W, (W.cell? ⟨b3, 0, none⟩ = some (.string (mk t.L)) ∧ W.cell? ⟨b3, 1, none⟩ = some (.string (mk t.S)) ∧ W.cell? ⟨b3, 2, none⟩ = some (.string (mk t.R)) ∧ W.cell? ⟨b3, 3, none⟩ = some (.slice A t.vs.length c) ∧ W.cell? ⟨b11, 0, none⟩ = some (.string ⟨#[]⟩) ∧ W.cell? ⟨rb, 0, none⟩ = some (.string (mk t.L)) ∧ b3 < W.heap.size ∧ b11 < W.heap.size ∧ rb < W.heap.size ∧ VarsAt W t A c ∧ Below w.heap.size w W) → Calls Tryd.prog 10 #[.agg #[.string (mk t.L), .string (mk t.S), .string (mk t.R), .slice A t.vs.length c]] W fun e W' => e = .returned (.string (mk t.L)) ∧ Below W.heap.size W W' from fun W h => (stringT K.out h.2.2.2.2.2.2.2.2.2.1).mono fun e W' ⟨he, hb⟩ => ⟨by rw [he, HTX.out], hb⟩)
        have hp00 : 0 < pn := hp0
        clear h1z h1d h1e h1
        go_region_held3 (fun w' => w'.cell? ⟨b3, 0, none⟩ = some (.string (mk t.L)) ∧ w'.cell? ⟨b3, 1, none⟩ = some (.string (mk t.S)) ∧ w'.cell? ⟨b3, 2, none⟩ = some (.string (mk t.R)) ∧ w'.cell? ⟨b3, 3, none⟩ = some (.slice A t.vs.length c) ∧ w'.cell? ⟨b11, 0, none⟩ = some (.string ⟨#[]⟩) ∧ w'.cell? ⟨rb, 0, none⟩ = some (.string (mk t.L)) ∧ b3 < w'.heap.size ∧ b11 < w'.heap.size ∧ rb < w'.heap.size ∧ VarsAt w' t A c ∧ Below w.heap.size w w')
          (first | (exact three_keep (by assumption) (by assumption)) | (exact three_keep (Below.refl _ _).drew HST.out) | go_keep)
          (first | (go_at_call 10; (with_reducible refine (D1.out _ (by assumption)).mono ?_); rintro e w5 ⟨rfl, hb5⟩))

        go_wp2
        go_ret
        exact ⟨rfl, three_end (by assumption)⟩
end Go.Proofs.YtldmldgkjkgkcaaDoor
