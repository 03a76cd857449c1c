/-
  TagFits: the law walked.
-/
import Derived.Test.YtldmldgkjkgkcaaDoorTgHead
import Derived.Test.YtldmldgkjkgkcaaDoorTgLaw3
import Derived.Deep.QuietTactic
import Derived.BigQuiet
import Derived.Deep.RegionHeld3
namespace Go.Proofs.YtldmldgkjkgkcaaDoor
open Go.RowKit Go.Shelf
set_option linter.unusedVariables false
set_option linter.unusedSimpArgs false

/-- What the law's split gives of a tag's text. -/
theorem splitT {t : TagT} (k : t.Ok) (w : World) : Calls Tryd.prog 11 #[.string (mk t.text)] w fun e W' => ∃ b c, e = .returned (.slice (some ⟨b, 0, none⟩) t.pieces.length c) ∧ (b < W'.heap.size ∧ ∀ j p, t.pieces[j]? = some p → W'.cell? ⟨b, j, none⟩ = some (.string (mk p))) ∧ Below w.heap.size w W' := by
  have h := split_any (mk t.text) w (by rw [mk_size]; have := k.text; omega)
  rw [mk_data, split_text k.good] at h
  refine h.mono ?_
  rintro e W' ⟨v, rfl, ⟨b, c, rfl, h1, h2, h3⟩, hb⟩
  rw [List.length_map] at h3 ⊢
  refine ⟨b, c, rfl, ⟨h2, fun j p hp => ?_⟩, hb⟩
  obtain ⟨hlt, hq⟩ := List.getElem?_eq_some_iff.1 hp
  have := h3 j hlt
  rw [Nat.zero_add] at this
  rw [this]
  simp [hp]
/-- A row of a tag's pieces that stands in the world. -/
def RowIn (W : World) (b : Nat) (P : List (List UInt8)) : Prop := b < W.heap.size ∧ ∀ j p, P[j]? = some p → W.cell? ⟨b, j, none⟩ = some (.string (mk p))
theorem RowIn.later {W W1 : World} {b : Nat} {P : List (List UInt8)} (h : RowIn W b P) (hb : Below W.heap.size W W1) : RowIn W1 b P :=
  ⟨Nat.lt_of_lt_of_le h.1 hb.size, fun j p hp => (hb.cell (p := ⟨b, j, none⟩) h.1).trans (h.2 j p hp)⟩

/-- The law's test so far. -/
def wantB (P Q : List (List UInt8)) (k : Nat) : Bool := decide (Q.length ≤ P.length) && decide (P.take k = Q.take k)
theorem wantB_zero (P Q : List (List UInt8)) : wantB P Q 0 = decide (Q.length ≤ P.length) := by simp [wantB]
theorem wantB_all (t u : TagT) : wantB t.pieces u.pieces u.pieces.length = fitsT t u := by
  unfold wantB fitsT; rw [List.take_length]
theorem wantB_false {P Q : List (List UInt8)} {k : Nat} (h : wantB P Q k = false) : wantB P Q (k + 1) = false := by
  unfold wantB at *
  cases e : decide (Q.length ≤ P.length)
  · rfl
  · rw [e] at h
    simp only [Bool.true_and, decide_eq_false_iff_not] at h ⊢
    intro e2
    apply h
    have := congrArg (List.take k) e2
    simpa [List.take_take] using this
theorem wantB_true {P Q : List (List UInt8)} {k : Nat} {p q : List UInt8} (h : wantB P Q k = true) (hp : P[k]? = some p) (hq : Q[k]? = some q) : wantB P Q (k + 1) = decide (p = q) := by
  unfold wantB at *
  simp only [Bool.and_eq_true, decide_eq_true_eq] at h
  obtain ⟨h1, rfl⟩ := List.getElem?_eq_some_iff.1 hp
  obtain ⟨h2, rfl⟩ := List.getElem?_eq_some_iff.1 hq
  rw [decide_eq_true h.1, Bool.true_and, decide_eq_decide, List.take_succ_eq_append_getElem h1, List.take_succ_eq_append_getElem h2, h.2]
  simp only [List.append_cancel_left_eq, List.cons.injEq, and_true]
theorem wantB_len {P Q : List (List UInt8)} {k : Nat} (h : wantB P Q k = true) : Q.length ≤ P.length := by
  unfold wantB at h
  simp only [Bool.and_eq_true, decide_eq_true_eq] at h
  exact h.1
theorem fitsT_self (t : TagT) : fitsT t t = true := by simp [fitsT]
theorem fitsT_both {t u : TagT} (h : fitsT t u = true) (h2 : fitsT u t = true) : t.pieces = u.pieces := by
  unfold fitsT at h h2
  simp only [Bool.and_eq_true, decide_eq_true_eq] at h h2
  have e : t.pieces.length = u.pieces.length := by omega
  have := h.2
  rwa [← e, List.take_length] at this
theorem mk_beq (p q : List UInt8) : ((mk p).toList == (mk q).toList) = decide (p = q) := by
  rw [Lib.toList_data, Lib.toList_data, mk_data, mk_data, Bool.eq_iff_iff]
  simp
theorem two_keep {w W W1 : World} {k2 k3 : Nat} {t u : TagT} {A1 A2 : Option Addr} {c1 c2 : Nat} (hb : Below W.heap.size W W1) (h : W.cell? ⟨k2, 0, none⟩ = some (.string (mk t.L)) ∧ W.cell? ⟨k2, 1, none⟩ = some (.string (mk t.S)) ∧ W.cell? ⟨k2, 2, none⟩ = some (.string (mk t.R)) ∧ W.cell? ⟨k2, 3, none⟩ = some (.slice A1 t.vs.length c1) ∧ W.cell? ⟨k3, 0, none⟩ = some (.string (mk u.L)) ∧ W.cell? ⟨k3, 1, none⟩ = some (.string (mk u.S)) ∧ W.cell? ⟨k3, 2, none⟩ = some (.string (mk u.R)) ∧ W.cell? ⟨k3, 3, none⟩ = some (.slice A2 u.vs.length c2) ∧ k2 < W.heap.size ∧ k3 < W.heap.size ∧ VarsAt W t A1 c1 ∧ VarsAt W u A2 c2 ∧ Below w.heap.size w W) : W1.cell? ⟨k2, 0, none⟩ = some (.string (mk t.L)) ∧ W1.cell? ⟨k2, 1, none⟩ = some (.string (mk t.S)) ∧ W1.cell? ⟨k2, 2, none⟩ = some (.string (mk t.R)) ∧ W1.cell? ⟨k2, 3, none⟩ = some (.slice A1 t.vs.length c1) ∧ W1.cell? ⟨k3, 0, none⟩ = some (.string (mk u.L)) ∧ W1.cell? ⟨k3, 1, none⟩ = some (.string (mk u.S)) ∧ W1.cell? ⟨k3, 2, none⟩ = some (.string (mk u.R)) ∧ W1.cell? ⟨k3, 3, none⟩ = some (.slice A2 u.vs.length c2) ∧ k2 < W1.heap.size ∧ k3 < W1.heap.size ∧ VarsAt W1 t A1 c1 ∧ VarsAt W1 u A2 c2 ∧ Below w.heap.size w W1 := by
  obtain ⟨a0, a1, a2, a3, b0, b1, b2, b3, z2, z3, v1, v2, hB⟩ := h
  exact ⟨(hb.cell (p := ⟨k2, 0, none⟩) z2).trans a0, (hb.cell (p := ⟨k2, 1, none⟩) z2).trans a1, (hb.cell (p := ⟨k2, 2, none⟩) z2).trans a2, (hb.cell (p := ⟨k2, 3, none⟩) z2).trans a3, (hb.cell (p := ⟨k3, 0, none⟩) z3).trans b0, (hb.cell (p := ⟨k3, 1, none⟩) z3).trans b1, (hb.cell (p := ⟨k3, 2, none⟩) z3).trans b2, (hb.cell (p := ⟨k3, 3, none⟩) z3).trans b3, Nat.lt_of_lt_of_le z2 hb.size, Nat.lt_of_lt_of_le z3 hb.size, v1.later hb, v2.later hb, below_step hB hb⟩
theorem two_start {w W : World} {k2 k3 : Nat} {t u : TagT} {A1 A2 : Option Addr} {c1 c2 : Nat} (h1 : TagIn W k2 t A1 c1) (h2 : TagIn W k3 u A2 c2) (hB : Below w.heap.size w W) : W.cell? ⟨k2, 0, none⟩ = some (.string (mk t.L)) ∧ W.cell? ⟨k2, 1, none⟩ = some (.string (mk t.S)) ∧ W.cell? ⟨k2, 2, none⟩ = some (.string (mk t.R)) ∧ W.cell? ⟨k2, 3, none⟩ = some (.slice A1 t.vs.length c1) ∧ W.cell? ⟨k3, 0, none⟩ = some (.string (mk u.L)) ∧ W.cell? ⟨k3, 1, none⟩ = some (.string (mk u.S)) ∧ W.cell? ⟨k3, 2, none⟩ = some (.string (mk u.R)) ∧ W.cell? ⟨k3, 3, none⟩ = some (.slice A2 u.vs.length c2) ∧ k2 < W.heap.size ∧ k3 < W.heap.size ∧ VarsAt W t A1 c1 ∧ VarsAt W u A2 c2 ∧ Below w.heap.size w W :=
  ⟨h1.1.1, h1.1.2.1, h1.1.2.2.1, h1.1.2.2.2.1, h2.1.1, h2.1.2.1, h2.1.2.2.1, h2.1.2.2.2.1, h1.1.2.2.2.2.2.2.2.2, h2.1.2.2.2.2.2.2.2.2, h1.2, h2.2, hB⟩
theorem two_end {w W : World} {k2 k3 : Nat} {t u : TagT} {A1 A2 : Option Addr} {c1 c2 : Nat} (h : W.cell? ⟨k2, 0, none⟩ = some (.string (mk t.L)) ∧ W.cell? ⟨k2, 1, none⟩ = some (.string (mk t.S)) ∧ W.cell? ⟨k2, 2, none⟩ = some (.string (mk t.R)) ∧ W.cell? ⟨k2, 3, none⟩ = some (.slice A1 t.vs.length c1) ∧ W.cell? ⟨k3, 0, none⟩ = some (.string (mk u.L)) ∧ W.cell? ⟨k3, 1, none⟩ = some (.string (mk u.S)) ∧ W.cell? ⟨k3, 2, none⟩ = some (.string (mk u.R)) ∧ W.cell? ⟨k3, 3, none⟩ = some (.slice A2 u.vs.length c2) ∧ k2 < W.heap.size ∧ k3 < W.heap.size ∧ VarsAt W t A1 c1 ∧ VarsAt W u A2 c2 ∧ Below w.heap.size w W) : Below w.heap.size w W := h.2.2.2.2.2.2.2.2.2.2.2.2

set_option maxRecDepth 1000000 in
set_option maxHeartbeats 8000000 in
theorem fits_law (a b : ByteArray) (hz : a.size ≤ 9223372036854775807) (hz2 : b.size ≤ 9223372036854775807) (w : World) (hM : MaxAt w) : Calls Tryd.prog 4 #[.string a, .string b] w fun e w' => e = .returned (.bool true) ∧ Below w.heap.size w w' := by
  have HM := Lib.hid hM
  clear hM
  by_cases hs : 100 < a.size
  · go_enter Tryd.func4, Tryd.ntmps4
    go_wp2_with fail
    go_at_call 7
    refine (head_any w HM.out).mono ?_
    rintro e w1 ⟨rfl, b1⟩
    go_wp2_with fail
    go_ret
    exact ⟨rfl, b1⟩
  by_cases hs2 : 100 < b.size
  · go_enter Tryd.func4, Tryd.ntmps4
    go_wp2_with fail
    go_at_call 7
    refine (head_any w HM.out).mono ?_
    rintro e w1 ⟨rfl, b1⟩
    go_wp2_with fail
    go_ret
    exact ⟨rfl, b1⟩
  have ha5 : a.size ≤ 100000 := by omega
  have hb5 : b.size ≤ 100000 := by omega
  cases ht : tagOf (splitH a.data.toList) with
  | none =>
    have HT := Lib.hid ht
    clear ht
    have key : ∃ (L S R : ByteArray) (A : Option Addr) (n c : Nat) (ok : Bool), True := ⟨⟨#[]⟩, ⟨#[]⟩, ⟨#[]⟩, none, 0, 0, true, trivial⟩
    cases hu : tagOf (splitH b.data.toList) with
    | none =>
      have HU := Lib.hid hu
      clear hu
      go_enter Tryd.func4, Tryd.ntmps4
      go_wp2_with fail
      go_at_call 7
      refine (head_any w HM.out).mono ?_
      rintro e w1 ⟨rfl, b1⟩
      have B1 := Lib.hid b1
      clear b1
      go_wp2_with fail
      go_at_call 8
      refine (ParseN.of ha5 (HM.out.on B1.out) HT.out).at_.mono ?_
      rintro e w2 ⟨rfl, b2⟩
      have B2 := Lib.hid (below_box1 (below_step B1.out b2) (.cells #[.string ⟨#[]⟩, .string ⟨#[]⟩, .string ⟨#[]⟩, .slice none 0 0] 25))
      clear B1 b2
      go_wp2_with fail
      go_at_call 8
      refine (ParseN.of hb5 (HM.out.on B2.out) HU.out).at_.mono ?_
      rintro e w3 ⟨rfl, b3⟩
      go_wp2_with fail
      go_ret
      exact ⟨rfl, below_box1 (below_step B2.out b3) _⟩
    | some u =>
      have HU := Lib.hid hu
      clear hu
      go_enter Tryd.func4, Tryd.ntmps4
      go_wp2_with fail
      go_at_call 7
      refine (head_any w HM.out).mono ?_
      rintro e w1 ⟨rfl, b1⟩
      have B1 := Lib.hid b1
      clear b1
      go_wp2_with fail
      go_at_call 8
      refine (ParseN.of ha5 (HM.out.on B1.out) HT.out).at_.mono ?_
      rintro e w2 ⟨rfl, b2⟩
      have B2 := Lib.hid (below_box1 (below_step B1.out b2) (.cells #[.string ⟨#[]⟩, .string ⟨#[]⟩, .string ⟨#[]⟩, .slice none 0 0] 25))
      clear B1 b2
      go_wp2_with fail
      go_at_call 8
      refine (ParseY.of hb5 (HM.out.on B2.out) HU.out).at_.mono ?_
      rintro e w3 ⟨A1, c1, rfl, v1, b3⟩
      have B3 := Lib.hid (below_step B2.out b3)
      clear b3 v1
      go_wp2_with fail
      go_ret
      exact ⟨rfl, below_box1 B3.out _⟩
  | some t =>
    have kt := TagT.Ok.of ht (by simp; omega)
    have KT := Lib.hid kt
    have HT := Lib.hid ht
    clear ht kt
    cases hu : tagOf (splitH b.data.toList) with
    | none =>
      have HU := Lib.hid hu
      clear hu
      go_enter Tryd.func4, Tryd.ntmps4
      go_wp2_with fail
      go_at_call 7
      refine (head_any w HM.out).mono ?_
      rintro e w1 ⟨rfl, b1⟩
      have B1 := Lib.hid b1
      clear b1
      go_wp2_with fail
      go_at_call 8
      refine (ParseY.of ha5 (HM.out.on B1.out) HT.out).at_.mono ?_
      rintro e w2 ⟨A1, c1, rfl, v1, b2⟩
      have B2 := Lib.hid (below_box1 (below_step B1.out b2) (tagCells t A1 c1))
      clear B1 b2 v1
      go_wp2_with fail
      go_at_call 8
      refine (ParseN.of hb5 (HM.out.on B2.out) HU.out).at_.mono ?_
      rintro e w3 ⟨rfl, b3⟩
      have B3 := Lib.hid (below_step B2.out b3)
      clear b3
      go_wp2_with fail
      go_ret
      exact ⟨rfl, below_box1 B3.out _⟩
    | some u =>
      have ku := TagT.Ok.of hu (by simp; omega)
      have KU := Lib.hid ku
      have HU := Lib.hid hu
      clear hu ku
      go_enter Tryd.func4, Tryd.ntmps4
      go_wp2_with fail
      go_at_call 7
      refine (head_any w HM.out).mono ?_
      rintro e w1 ⟨rfl, b1⟩
      have B1 := Lib.hid b1
      clear b1
      go_wp2_with fail
      go_at_call 8
      refine (ParseY.of ha5 (HM.out.on B1.out) HT.out).at_.mono ?_
      rintro e w2 ⟨A1, c1, rfl, v1, b2⟩
      have B2 := Lib.hid (below_box1 (below_step B1.out b2) (tagCells t A1 c1))
      have T2 := Lib.hid (TagIn.new v1)
      clear B1 b2 v1
      go_upto_region 6 with fail
      generalize w2.heap.size = k2 at *
      generalize w2.alloc (tagCells t A1 c1) = W2 at *
      go_wp2_with fail
      go_at_call 8
      refine (ParseY.of hb5 (HM.out.on B2.out) HU.out).at_.mono ?_
      rintro e w3 ⟨A2, c2, rfl, v2, b3⟩
      have B3 := Lib.hid (below_box1 (below_step B2.out b3) (tagCells u A2 c2))
      have T3 := Lib.hid ((T2.out.later b3).alloc (tagCells u A2 c2))
      have U3 := Lib.hid (TagIn.new v2)
      clear B2 T2 b3 v2
      go_upto_region 9 with fail
      generalize w3.heap.size = k3 at *
      generalize w3.alloc (tagCells u A2 c2) = W3 at *
      obtain ⟨⟨x0, x1, x2, x3, _⟩, _⟩ := T3.out
      go_wp2_with fail
      go_at_call 10
      refine (stringT KT.out T3.out.2).mono ?_
      rintro e w4 ⟨rfl, b4⟩
      have B4 := Lib.hid (below_step B3.out b4)
      have T4 := Lib.hid (T3.out.later b4)
      have U4 := Lib.hid (U3.out.later b4)
      clear b4 B3 T3 U3 x0 x1 x2 x3
      go_wp2_with fail
      go_at_call 11
      refine (splitT KT.out w4).mono ?_
      rintro e w5 ⟨rb, rc, rfl, r1, b5⟩
      have B5 := Lib.hid (below_step B4.out b5)
      have T5 := Lib.hid (T4.out.later b5)
      have U5 := Lib.hid (U4.out.later b5)
      have R5 : Hid (RowIn w5 rb t.pieces) := Lib.hid r1
      clear b5 B4 T4 U4 r1
      obtain ⟨⟨y0, y1, y2, y3, _⟩, _⟩ := U5.out
      go_wp2_with fail
      go_at_call 10
      refine (stringT KU.out U5.out.2).mono ?_
      rintro e w6 ⟨rfl, b6⟩
      have B6 := Lib.hid (below_step B5.out b6)
      have T6 := Lib.hid (T5.out.later b6)
      have U6 := Lib.hid (U5.out.later b6)
      have R6 := Lib.hid (R5.out.later b6)
      clear b6 B5 T5 U5 R5 y0 y1 y2 y3
      go_wp2_with fail
      go_at_call 11
      refine (splitT KU.out w6).mono ?_
      rintro e w7 ⟨qb, qc, rfl, r1, b7⟩
      have B7 := Lib.hid (below_step B6.out b7)
      have T7 := Lib.hid (T6.out.later b7)
      have U7 := Lib.hid (U6.out.later b7)
      have R7 := Lib.hid (R6.out.later b7)
      have Q7 : Hid (RowIn w7 qb u.pieces) := Lib.hid r1
      clear b7 B6 T6 U6 R6 r1
      obtain ⟨pn, hpn⟩ : ∃ n, t.pieces.length = n := ⟨_, rfl⟩
      obtain ⟨qn, hqn⟩ : ∃ n, u.pieces.length = n := ⟨_, rfl⟩
      have hp1 : pn ≤ 1000 := by rw [← hpn]; exact KT.out.pieces
      have hq1 : qn ≤ 1000 := by rw [← hqn]; exact KU.out.pieces
      rw [hpn, hqn]
      have HPN := Lib.hid hpn
      have HQN := Lib.hid hqn
      clear hpn hqn
      go_wp2_with fail
      have w0e : decide (qn ≤ pn) = wantB t.pieces u.pieces 0 := by rw [wantB_zero, HPN.out, HQN.out]
      rw [w0e]
      clear w0e
      go_loopw [11, 52] (fun c i wr => ∃ k : Nat, k ≤ qn ∧ i = .int .i64 k ∧ c = .bool (wantB t.pieces u.pieces k) ∧ Below w7.heap.size w7 wr) (fun _ i _ => qn - (intOf i).toNat)
      case atStart => exact ⟨0, Nat.zero_le _, rfl, rfl, Below.refl _ _⟩
      case round =>
        obtain ⟨k, hk, rfl, rfl, hb⟩ := hrel
        have B8 := Lib.hid (below_step B7.out hb)
        have HBW := Lib.hid hb
        have T8 := Lib.hid (T7.out.later hb)
        have U8 := Lib.hid (U7.out.later hb)
        have R8 := Lib.hid (R7.out.later hb)
        have Q8 := Lib.hid (Q7.out.later hb)
        clear hb
        by_cases hlt : k < qn
        · obtain ⟨q, hq⟩ : ∃ q, u.pieces[k]? = some q := by
            have : k < u.pieces.length := by rw [HQN.out]; exact hlt
            exact ⟨u.pieces[k], List.getElem?_eq_getElem this⟩
          cases hw : wantB t.pieces u.pieces k
          · have hN := Lib.hid (wantB_false hw)
            clear hw hq
            go_wp2_with fail
            go_quiet (fail)
            go_wp2
            go_roundw
            case rel => exact ⟨k + 1, by omega, by go_num, by rw [hN.out], below_drewN HBW.out _⟩
            case measure => simp [intOf]; omega
          · have hlen := wantB_len hw
            rw [HPN.out, HQN.out] at hlen
            obtain ⟨p, hp⟩ : ∃ p, t.pieces[k]? = some p := by
              have : k < t.pieces.length := by rw [HPN.out]; omega
              exact ⟨t.pieces[k], List.getElem?_eq_getElem this⟩
            have hN := Lib.hid (wantB_true hw hp hq)
            have d1 : wr.cell? ⟨rb, k, none⟩ = some (.string (mk p)) := R8.out.2 k p hp
            have d2 : wr.cell? ⟨qb, k, none⟩ = some (.string (mk q)) := Q8.out.2 k q hq
            have hkp : k < pn := by omega
            obtain ⟨c, hc⟩ : ∃ c, decide (p = q) = c := ⟨_, rfl⟩
            have hmb : ((mk p).toList == (mk q).toList) = c := by rw [mk_beq]; exact hc
            rw [hc] at hN
            clear hw hq hp hc
            go_wp2_with fail
            go_quiet (fail)
            go_wp2
            go_roundw
            case rel => exact ⟨k + 1, by omega, by go_num, by rw [hN.out], below_drewN HBW.out _⟩
            case measure => simp [intOf]; omega
        · obtain rfl : k = qn := by omega
          have hwf : wantB t.pieces u.pieces k = fitsT t u := by rw [← wantB_all, HQN.out]
          rw [hwf]
          clear hwf
          have start := two_start T8.out U8.out B8.out
          have Ftu : ∀ W, (W.cell? ⟨k2, 0, none⟩ = some (.string (mk t.L)) ∧ W.cell? ⟨k2, 1, none⟩ = some (.string (mk t.S)) ∧ W.cell? ⟨k2, 2, none⟩ = some (.string (mk t.R)) ∧ W.cell? ⟨k2, 3, none⟩ = some (.slice A1 t.vs.length c1) ∧ W.cell? ⟨k3, 0, none⟩ = some (.string (mk u.L)) ∧ W.cell? ⟨k3, 1, none⟩ = some (.string (mk u.S)) ∧ W.cell? ⟨k3, 2, none⟩ = some (.string (mk u.R)) ∧ W.cell? ⟨k3, 3, none⟩ = some (.slice A2 u.vs.length c2) ∧ k2 < W.heap.size ∧ k3 < W.heap.size ∧ VarsAt W t A1 c1 ∧ VarsAt W u A2 c2 ∧ Below w.heap.size w W) → Calls Tryd.prog 12 #[.agg #[.string (mk t.L), .string (mk t.S), .string (mk t.R), .slice A1 t.vs.length c1], .agg #[.string (mk u.L), .string (mk u.S), .string (mk u.R), .slice A2 u.vs.length c2]] W fun e W' => e = .returned (.bool (fitsT t u)) ∧ Below W.heap.size W W' :=
            fun W h => fitsTo KT.out KU.out h.2.2.2.2.2.2.2.2.2.2.1 h.2.2.2.2.2.2.2.2.2.2.2.1
          have Fut : ∀ W, (W.cell? ⟨k2, 0, none⟩ = some (.string (mk t.L)) ∧ W.cell? ⟨k2, 1, none⟩ = some (.string (mk t.S)) ∧ W.cell? ⟨k2, 2, none⟩ = some (.string (mk t.R)) ∧ W.cell? ⟨k2, 3, none⟩ = some (.slice A1 t.vs.length c1) ∧ W.cell? ⟨k3, 0, none⟩ = some (.string (mk u.L)) ∧ W.cell? ⟨k3, 1, none⟩ = some (.string (mk u.S)) ∧ W.cell? ⟨k3, 2, none⟩ = some (.string (mk u.R)) ∧ W.cell? ⟨k3, 3, none⟩ = some (.slice A2 u.vs.length c2) ∧ k2 < W.heap.size ∧ k3 < W.heap.size ∧ VarsAt W t A1 c1 ∧ VarsAt W u A2 c2 ∧ Below w.heap.size w W) → Calls Tryd.prog 12 #[.agg #[.string (mk u.L), .string (mk u.S), .string (mk u.R), .slice A2 u.vs.length c2], .agg #[.string (mk t.L), .string (mk t.S), .string (mk t.R), .slice A1 t.vs.length c1]] W fun e W' => e = .returned (.bool (fitsT u t)) ∧ Below W.heap.size W W' :=
            fun W h => fitsTo KU.out KT.out h.2.2.2.2.2.2.2.2.2.2.2.1 h.2.2.2.2.2.2.2.2.2.2.1
          have Ftt : ∀ W, (W.cell? ⟨k2, 0, none⟩ = some (.string (mk t.L)) ∧ W.cell? ⟨k2, 1, none⟩ = some (.string (mk t.S)) ∧ W.cell? ⟨k2, 2, none⟩ = some (.string (mk t.R)) ∧ W.cell? ⟨k2, 3, none⟩ = some (.slice A1 t.vs.length c1) ∧ W.cell? ⟨k3, 0, none⟩ = some (.string (mk u.L)) ∧ W.cell? ⟨k3, 1, none⟩ = some (.string (mk u.S)) ∧ W.cell? ⟨k3, 2, none⟩ = some (.string (mk u.R)) ∧ W.cell? ⟨k3, 3, none⟩ = some (.slice A2 u.vs.length c2) ∧ k2 < W.heap.size ∧ k3 < W.heap.size ∧ VarsAt W t A1 c1 ∧ VarsAt W u A2 c2 ∧ Below w.heap.size w W) → Calls Tryd.prog 12 #[.agg #[.string (mk t.L), .string (mk t.S), .string (mk t.R), .slice A1 t.vs.length c1], .agg #[.string (mk t.L), .string (mk t.S), .string (mk t.R), .slice A1 t.vs.length c1]] W fun e W' => e = .returned (.bool true) ∧ Below W.heap.size W W' :=
            fun W h => by rw [← fitsT_self t]; exact fitsTo KT.out KT.out h.2.2.2.2.2.2.2.2.2.2.1 h.2.2.2.2.2.2.2.2.2.2.1
          have St : ∀ W, (W.cell? ⟨k2, 0, none⟩ = some (.string (mk t.L)) ∧ W.cell? ⟨k2, 1, none⟩ = some (.string (mk t.S)) ∧ W.cell? ⟨k2, 2, none⟩ = some (.string (mk t.R)) ∧ W.cell? ⟨k2, 3, none⟩ = some (.slice A1 t.vs.length c1) ∧ W.cell? ⟨k3, 0, none⟩ = some (.string (mk u.L)) ∧ W.cell? ⟨k3, 1, none⟩ = some (.string (mk u.S)) ∧ W.cell? ⟨k3, 2, none⟩ = some (.string (mk u.R)) ∧ W.cell? ⟨k3, 3, none⟩ = some (.slice A2 u.vs.length c2) ∧ k2 < W.heap.size ∧ k3 < W.heap.size ∧ VarsAt W t A1 c1 ∧ VarsAt W u A2 c2 ∧ Below w.heap.size w W) → Calls Tryd.prog 10 #[.agg #[.string (mk t.L), .string (mk t.S), .string (mk t.R), .slice A1 t.vs.length c1]] W fun e W' => e = .returned (.string (mk t.text)) ∧ Below W.heap.size W W' :=
            fun W h => stringT KT.out h.2.2.2.2.2.2.2.2.2.2.1
          have Su : ∀ W, (W.cell? ⟨k2, 0, none⟩ = some (.string (mk t.L)) ∧ W.cell? ⟨k2, 1, none⟩ = some (.string (mk t.S)) ∧ W.cell? ⟨k2, 2, none⟩ = some (.string (mk t.R)) ∧ W.cell? ⟨k2, 3, none⟩ = some (.slice A1 t.vs.length c1) ∧ W.cell? ⟨k3, 0, none⟩ = some (.string (mk u.L)) ∧ W.cell? ⟨k3, 1, none⟩ = some (.string (mk u.S)) ∧ W.cell? ⟨k3, 2, none⟩ = some (.string (mk u.R)) ∧ W.cell? ⟨k3, 3, none⟩ = some (.slice A2 u.vs.length c2) ∧ k2 < W.heap.size ∧ k3 < W.heap.size ∧ VarsAt W t A1 c1 ∧ VarsAt W u A2 c2 ∧ Below w.heap.size w W) → Calls Tryd.prog 10 #[.agg #[.string (mk u.L), .string (mk u.S), .string (mk u.R), .slice A2 u.vs.length c2]] W fun e W' => e = .returned (.string (mk u.text)) ∧ Below W.heap.size W W' :=
            fun W h => stringT KU.out h.2.2.2.2.2.2.2.2.2.2.2.1
          have HSt := Lib.hid St
          clear St
          cases f1 : fitsT t u
          · rw [f1] at Ftu
            have HFtu := Lib.hid Ftu
            have HFut := Lib.hid Fut
            have HFtt := Lib.hid Ftt
            have HSu := Lib.hid Su
            clear Ftu Fut Ftt Su f1 T7 U7 R7 Q7 T8 U8 R8 Q8 B8 HBW B7
            go_wp2_with fail
            refine wp_region_held_drew (S := (fun w' => w'.cell? ⟨k2, 0, none⟩ = some (.string (mk t.L)) ∧ w'.cell? ⟨k2, 1, none⟩ = some (.string (mk t.S)) ∧ w'.cell? ⟨k2, 2, none⟩ = some (.string (mk t.R)) ∧ w'.cell? ⟨k2, 3, none⟩ = some (.slice A1 t.vs.length c1) ∧ w'.cell? ⟨k3, 0, none⟩ = some (.string (mk u.L)) ∧ w'.cell? ⟨k3, 1, none⟩ = some (.string (mk u.S)) ∧ w'.cell? ⟨k3, 2, none⟩ = some (.string (mk u.R)) ∧ w'.cell? ⟨k3, 3, none⟩ = some (.slice A2 u.vs.length c2) ∧ k2 < w'.heap.size ∧ k3 < w'.heap.size ∧ VarsAt w' t A1 c1 ∧ VarsAt w' u A2 c2 ∧ Below w.heap.size w w')) (by kernel_rfl) (two_keep (Below.refl _ _).drew start) (fun hHeld => ?_)
            refine wpAnyH_take (i := 0) (v := ?_) rfl (by kernel_rfl) (by kernel_rfl) (by kernel_rfl) (fun _ _ _ h => h) (Or.inl ⟨by kernel_rfl, ?_⟩) (by assumption) ?_
            rotate_left
            · intro w0 hSw; (try dsimp only at hSw); (go_simp <;> with_reducible rfl)
            try simp only [Act.put, List.setIfInBounds_toArray, List.set_cons_zero, List.set_cons_succ]
            refine wpAnyH_take (i := 1) (v := ?_) rfl (by kernel_rfl) (by kernel_rfl) (by kernel_rfl) (fun _ _ _ h => h) (Or.inl ⟨by kernel_rfl, ?_⟩) (by assumption) ?_
            rotate_left
            · intro w0 hSw; (try dsimp only at hSw); (go_simp <;> with_reducible rfl)
            try simp only [Act.put, List.setIfInBounds_toArray, List.set_cons_zero, List.set_cons_succ]
            refine wpAnyH_take (i := 3) (v := ?_) rfl (by kernel_rfl) (by kernel_rfl) (by kernel_rfl) (fun _ _ _ h => h) (Or.inl ⟨by kernel_rfl, ?_⟩) (by assumption) ?_
            rotate_left
            · intro w0 hSw; (try dsimp only at hSw); (go_simp <;> with_reducible rfl)
            try simp only [Act.put, List.setIfInBounds_toArray, List.set_cons_zero, List.set_cons_succ]
            refine wpAnyH_ready (rs := [2]) (by kernel_rfl) (by simp) ?_
            refine AllReadyH.cons rfl (fun K hK => ?_) AllReadyH.nil
            go_simp
            go_at_call 12
            refine (HFtu.out _ hHeld).mono ?_
            rintro e x1 ⟨rfl, hbx⟩
            go_wp2_with fail
            refine hK.out _ _ (two_keep hbx hHeld) (fun hHeld2 => ?_)
            clear hHeld hbx hK K
            have hHeld := hHeld2
            clear hHeld2
            try simp only [Act.put, List.setIfInBounds_toArray, List.set_cons_zero, List.set_cons_succ]
            refine wpAnyH_take (i := 4) (v := ?_) rfl (by kernel_rfl) (by kernel_rfl) (by kernel_rfl) (fun _ _ _ h => h) (Or.inl ⟨by kernel_rfl, ?_⟩) (by assumption) ?_
            rotate_left
            · intro w0 hSw; (try dsimp only at hSw); (go_simp <;> with_reducible rfl)
            try simp only [Act.put, List.setIfInBounds_toArray, List.set_cons_zero, List.set_cons_succ]
            refine wpAnyH_take (i := 5) (v := ?_) rfl (by kernel_rfl) (by kernel_rfl) (by kernel_rfl) (fun _ _ _ h => h) (Or.inl ⟨by kernel_rfl, ?_⟩) (by assumption) ?_
            rotate_left
            · intro w0 hSw; (try dsimp only at hSw); (go_simp <;> with_reducible rfl)
            try simp only [Act.put, List.setIfInBounds_toArray, List.set_cons_zero, List.set_cons_succ]
            refine wpAnyH_take (i := 6) (v := ?_) rfl (by kernel_rfl) (by kernel_rfl) (by kernel_rfl) (fun _ _ _ h => h) (Or.inl ⟨by kernel_rfl, ?_⟩) (by assumption) ?_
            rotate_left
            · intro w0 hSw; (try dsimp only at hSw); (go_simp <;> with_reducible rfl)
            try simp only [Act.put, List.setIfInBounds_toArray, List.set_cons_zero, List.set_cons_succ]
            refine wpAnyH_take (i := 7) (v := ?_) rfl (by kernel_rfl) (by kernel_rfl) (by kernel_rfl) (fun _ _ _ h => h) (Or.inl ⟨by kernel_rfl, ?_⟩) (by assumption) ?_
            rotate_left
            · intro w0 hSw; (try dsimp only at hSw); (go_simp <;> with_reducible rfl)
            try simp only [Act.put, List.setIfInBounds_toArray, List.set_cons_zero, List.set_cons_succ]
            refine wpAnyH_ready (rs := [8]) (by kernel_rfl) (by simp) ?_
            refine AllReadyH.cons rfl (fun K hK => ?_) AllReadyH.nil
            go_simp
            go_at_call 12
            refine (HFtt.out _ hHeld).mono ?_
            rintro e x1 ⟨rfl, hbx⟩
            go_wp2_with fail
            refine hK.out _ _ (two_keep hbx hHeld) (fun hHeld2 => ?_)
            clear hHeld hbx hK K
            have hHeld := hHeld2
            clear hHeld2
            try simp only [Act.put, List.setIfInBounds_toArray, List.set_cons_zero, List.set_cons_succ]
            refine wpAnyH_take (i := 9) (v := ?_) rfl (by kernel_rfl) (by kernel_rfl) (by kernel_rfl) (fun _ _ _ h => h) (Or.inl ⟨by kernel_rfl, ?_⟩) (by assumption) ?_
            rotate_left
            · intro w0 hSw; (try dsimp only at hSw); (go_simp <;> with_reducible rfl)
            try simp only [Act.put, List.setIfInBounds_toArray, List.set_cons_zero, List.set_cons_succ]
            refine wpAnyH_take (i := 10) (v := ?_) rfl (by kernel_rfl) (by kernel_rfl) (by kernel_rfl) (fun _ _ _ h => h) (Or.inl ⟨by kernel_rfl, ?_⟩) (by assumption) ?_
            rotate_left
            · intro w0 hSw; (try dsimp only at hSw); (go_simp <;> with_reducible rfl)
            try simp only [Act.put, List.setIfInBounds_toArray, List.set_cons_zero, List.set_cons_succ]
            refine wpAnyH_take (i := 11) (v := ?_) rfl (by kernel_rfl) (by kernel_rfl) (by kernel_rfl) (fun _ _ _ h => h) (Or.inl ⟨by kernel_rfl, ?_⟩) (by assumption) ?_
            rotate_left
            · intro w0 hSw; (try dsimp only at hSw); (go_simp <;> with_reducible rfl)
            try simp only [Act.put, List.setIfInBounds_toArray, List.set_cons_zero, List.set_cons_succ]
            refine wpAnyH_take (i := 12) (v := ?_) rfl (by kernel_rfl) (by kernel_rfl) (by kernel_rfl) (fun _ _ _ h => h) (Or.inl ⟨by kernel_rfl, ?_⟩) (by assumption) ?_
            rotate_left
            · intro w0 hSw; (try dsimp only at hSw); (go_simp <;> with_reducible rfl)
            try simp only [Act.put, List.setIfInBounds_toArray, List.set_cons_zero, List.set_cons_succ]
            refine wpAnyH_ready (rs := [13]) (by kernel_rfl) (by simp) ?_
            refine AllReadyH.cons rfl (fun K hK => ?_) AllReadyH.nil
            go_simp
            go_at_call 12
            refine (HFtu.out _ hHeld).mono ?_
            rintro e x1 ⟨rfl, hbx⟩
            go_wp2_with fail
            refine hK.out _ _ (two_keep hbx hHeld) (fun hHeld2 => ?_)
            clear hHeld hbx hK K
            have hHeld := hHeld2
            clear hHeld2
            try simp only [Act.put, List.setIfInBounds_toArray, List.set_cons_zero, List.set_cons_succ]
            refine wpAnyH_take (i := 14) (v := ?_) rfl (by kernel_rfl) (by kernel_rfl) (by kernel_rfl) (fun _ _ _ h => h) (Or.inl ⟨by kernel_rfl, ?_⟩) (by assumption) ?_
            rotate_left
            · intro w0 hSw; (try dsimp only at hSw); (go_simp <;> with_reducible rfl)
            try simp only [Act.put, List.setIfInBounds_toArray, List.set_cons_zero, List.set_cons_succ]
            refine wpAnyH_take (i := 15) (v := ?_) rfl (by kernel_rfl) (by kernel_rfl) (by kernel_rfl) (fun _ _ _ h => h) (Or.inl ⟨by kernel_rfl, ?_⟩) (by assumption) ?_
            rotate_left
            · intro w0 hSw; (try dsimp only at hSw); (go_simp <;> with_reducible rfl)
            try simp only [Act.put, List.setIfInBounds_toArray, List.set_cons_zero, List.set_cons_succ]
            refine wpAnyH_take (i := 16) (v := undef) rfl (by kernel_rfl) (by kernel_rfl) (by kernel_rfl) (fun _ _ _ h => h) (Or.inr ⟨by kernel_rfl, rfl⟩) (by assumption) ?_
            try simp only [Act.put, List.setIfInBounds_toArray, List.set_cons_zero, List.set_cons_succ]
            refine wpAnyH_take (i := 17) (v := undef) rfl (by kernel_rfl) (by kernel_rfl) (by kernel_rfl) (fun _ _ _ h => h) (Or.inr ⟨by kernel_rfl, rfl⟩) (by assumption) ?_
            try simp only [Act.put, List.setIfInBounds_toArray, List.set_cons_zero, List.set_cons_succ]
            refine wpAnyH_take (i := 18) (v := undef) rfl (by kernel_rfl) (by kernel_rfl) (by kernel_rfl) (fun _ _ _ h => h) (Or.inr ⟨by kernel_rfl, rfl⟩) (by assumption) ?_
            try simp only [Act.put, List.setIfInBounds_toArray, List.set_cons_zero, List.set_cons_succ]
            refine wpAnyH_take (i := 19) (v := undef) rfl (by kernel_rfl) (by kernel_rfl) (by kernel_rfl) (fun _ _ _ h => h) (Or.inr ⟨by kernel_rfl, rfl⟩) (by assumption) ?_
            try simp only [Act.put, List.setIfInBounds_toArray, List.set_cons_zero, List.set_cons_succ]
            refine wpAnyH_take (i := 20) (v := ?_) rfl (by kernel_rfl) (by kernel_rfl) (by kernel_rfl) (fun _ _ _ h => h) (Or.inl ⟨by kernel_rfl, ?_⟩) (by assumption) ?_
            rotate_left
            · intro w0 hSw; (try dsimp only at hSw); (go_simp <;> with_reducible rfl)
            try simp only [Act.put, List.setIfInBounds_toArray, List.set_cons_zero, List.set_cons_succ]
            refine wpAnyH_take (i := 21) (v := ?_) rfl (by kernel_rfl) (by kernel_rfl) (by kernel_rfl) (fun _ _ _ h => h) (Or.inl ⟨by kernel_rfl, ?_⟩) (by assumption) ?_
            rotate_left
            · intro w0 hSw; (try dsimp only at hSw); (go_simp <;> with_reducible rfl)
            try simp only [Act.put, List.setIfInBounds_toArray, List.set_cons_zero, List.set_cons_succ]
            refine wpAnyH_take (i := 22) (v := undef) rfl (by kernel_rfl) (by kernel_rfl) (by kernel_rfl) (fun _ _ _ h => h) (Or.inr ⟨by kernel_rfl, rfl⟩) (by assumption) ?_
            try simp only [Act.put, List.setIfInBounds_toArray, List.set_cons_zero, List.set_cons_succ]
            refine wpAnyH_take (i := 23) (v := undef) rfl (by kernel_rfl) (by kernel_rfl) (by kernel_rfl) (fun _ _ _ h => h) (Or.inr ⟨by kernel_rfl, rfl⟩) (by assumption) ?_
            try simp only [Act.put, List.setIfInBounds_toArray, List.set_cons_zero, List.set_cons_succ]
            refine wpAnyH_take (i := 24) (v := undef) rfl (by kernel_rfl) (by kernel_rfl) (by kernel_rfl) (fun _ _ _ h => h) (Or.inr ⟨by kernel_rfl, rfl⟩) (by assumption) ?_
            try simp only [Act.put, List.setIfInBounds_toArray, List.set_cons_zero, List.set_cons_succ]
            refine wpAnyH_take (i := 25) (v := undef) rfl (by kernel_rfl) (by kernel_rfl) (by kernel_rfl) (fun _ _ _ h => h) (Or.inr ⟨by kernel_rfl, rfl⟩) (by assumption) ?_
            try simp only [Act.put, List.setIfInBounds_toArray, List.set_cons_zero, List.set_cons_succ]
            refine wpAnyH_take (i := 26) (v := undef) rfl (by kernel_rfl) (by kernel_rfl) (by kernel_rfl) (fun _ _ _ h => h) (Or.inr ⟨by kernel_rfl, rfl⟩) (by assumption) ?_
            try simp only [Act.put, List.setIfInBounds_toArray, List.set_cons_zero, List.set_cons_succ]
            refine wpAnyH_take (i := 27) (v := ?_) rfl (by kernel_rfl) (by kernel_rfl) (by kernel_rfl) (fun _ _ _ h => h) (Or.inl ⟨by kernel_rfl, ?_⟩) (by assumption) ?_
            rotate_left
            · intro w0 hSw; (try dsimp only at hSw); (go_simp <;> with_reducible rfl)
            try simp only [Act.put, List.setIfInBounds_toArray, List.set_cons_zero, List.set_cons_succ]
            refine wpAnyH_take (i := 28) (v := ?_) rfl (by kernel_rfl) (by kernel_rfl) (by kernel_rfl) (fun _ _ _ h => h) (Or.inl ⟨by kernel_rfl, ?_⟩) (by assumption) ?_
            rotate_left
            · intro w0 hSw; (try dsimp only at hSw); (go_simp <;> with_reducible rfl)
            try simp only [Act.put, List.setIfInBounds_toArray, List.set_cons_zero, List.set_cons_succ]
            refine wpAnyH_take (i := 29) (v := ?_) rfl (by kernel_rfl) (by kernel_rfl) (by kernel_rfl) (fun _ _ _ h => h) (Or.inl ⟨by kernel_rfl, ?_⟩) (by assumption) ?_
            rotate_left
            · intro w0 hSw; (try dsimp only at hSw); (go_simp <;> with_reducible rfl)
            try simp only [Act.put, List.setIfInBounds_toArray, List.set_cons_zero, List.set_cons_succ]
            refine wpAnyH_done (by kernel_rfl) ?_ _
            go_wp2
            go_ret
            refine ⟨?_, two_end hHeld⟩
            first | rfl | (injections; subst_vars; rfl) | (simp_all; done) | (simp; done) | (go_simp; done)
          · cases f2 : fitsT u t
            · rw [f1] at Ftu
              rw [f2] at Fut
              have HFtu := Lib.hid Ftu
              have HFut := Lib.hid Fut
              have HFtt := Lib.hid Ftt
              have HSu := Lib.hid Su
              clear Ftu Fut Ftt Su f1 f2 T7 U7 R7 Q7 T8 U8 R8 Q8 B8 HBW B7
              go_wp2_with fail
              refine wp_region_held_drew (S := (fun w' => w'.cell? ⟨k2, 0, none⟩ = some (.string (mk t.L)) ∧ w'.cell? ⟨k2, 1, none⟩ = some (.string (mk t.S)) ∧ w'.cell? ⟨k2, 2, none⟩ = some (.string (mk t.R)) ∧ w'.cell? ⟨k2, 3, none⟩ = some (.slice A1 t.vs.length c1) ∧ w'.cell? ⟨k3, 0, none⟩ = some (.string (mk u.L)) ∧ w'.cell? ⟨k3, 1, none⟩ = some (.string (mk u.S)) ∧ w'.cell? ⟨k3, 2, none⟩ = some (.string (mk u.R)) ∧ w'.cell? ⟨k3, 3, none⟩ = some (.slice A2 u.vs.length c2) ∧ k2 < w'.heap.size ∧ k3 < w'.heap.size ∧ VarsAt w' t A1 c1 ∧ VarsAt w' u A2 c2 ∧ Below w.heap.size w w')) (by kernel_rfl) (two_keep (Below.refl _ _).drew start) (fun hHeld => ?_)
              refine wpAnyH_take (i := 0) (v := ?_) rfl (by kernel_rfl) (by kernel_rfl) (by kernel_rfl) (fun _ _ _ h => h) (Or.inl ⟨by kernel_rfl, ?_⟩) (by assumption) ?_
              rotate_left
              · intro w0 hSw; (try dsimp only at hSw); (go_simp <;> with_reducible rfl)
              try simp only [Act.put, List.setIfInBounds_toArray, List.set_cons_zero, List.set_cons_succ]
              refine wpAnyH_take (i := 1) (v := ?_) rfl (by kernel_rfl) (by kernel_rfl) (by kernel_rfl) (fun _ _ _ h => h) (Or.inl ⟨by kernel_rfl, ?_⟩) (by assumption) ?_
              rotate_left
              · intro w0 hSw; (try dsimp only at hSw); (go_simp <;> with_reducible rfl)
              try simp only [Act.put, List.setIfInBounds_toArray, List.set_cons_zero, List.set_cons_succ]
              refine wpAnyH_take (i := 3) (v := ?_) rfl (by kernel_rfl) (by kernel_rfl) (by kernel_rfl) (fun _ _ _ h => h) (Or.inl ⟨by kernel_rfl, ?_⟩) (by assumption) ?_
              rotate_left
              · intro w0 hSw; (try dsimp only at hSw); (go_simp <;> with_reducible rfl)
              try simp only [Act.put, List.setIfInBounds_toArray, List.set_cons_zero, List.set_cons_succ]
              refine wpAnyH_ready (rs := [2]) (by kernel_rfl) (by simp) ?_
              refine AllReadyH.cons rfl (fun K hK => ?_) AllReadyH.nil
              go_simp
              go_at_call 12
              refine (HFtu.out _ hHeld).mono ?_
              rintro e x1 ⟨rfl, hbx⟩
              go_wp2_with fail
              refine hK.out _ _ (two_keep hbx hHeld) (fun hHeld2 => ?_)
              clear hHeld hbx hK K
              have hHeld := hHeld2
              clear hHeld2
              try simp only [Act.put, List.setIfInBounds_toArray, List.set_cons_zero, List.set_cons_succ]
              refine wpAnyH_take (i := 4) (v := ?_) rfl (by kernel_rfl) (by kernel_rfl) (by kernel_rfl) (fun _ _ _ h => h) (Or.inl ⟨by kernel_rfl, ?_⟩) (by assumption) ?_
              rotate_left
              · intro w0 hSw; (try dsimp only at hSw); (go_simp <;> with_reducible rfl)
              try simp only [Act.put, List.setIfInBounds_toArray, List.set_cons_zero, List.set_cons_succ]
              refine wpAnyH_take (i := 5) (v := ?_) rfl (by kernel_rfl) (by kernel_rfl) (by kernel_rfl) (fun _ _ _ h => h) (Or.inl ⟨by kernel_rfl, ?_⟩) (by assumption) ?_
              rotate_left
              · intro w0 hSw; (try dsimp only at hSw); (go_simp <;> with_reducible rfl)
              try simp only [Act.put, List.setIfInBounds_toArray, List.set_cons_zero, List.set_cons_succ]
              refine wpAnyH_take (i := 6) (v := ?_) rfl (by kernel_rfl) (by kernel_rfl) (by kernel_rfl) (fun _ _ _ h => h) (Or.inl ⟨by kernel_rfl, ?_⟩) (by assumption) ?_
              rotate_left
              · intro w0 hSw; (try dsimp only at hSw); (go_simp <;> with_reducible rfl)
              try simp only [Act.put, List.setIfInBounds_toArray, List.set_cons_zero, List.set_cons_succ]
              refine wpAnyH_take (i := 7) (v := ?_) rfl (by kernel_rfl) (by kernel_rfl) (by kernel_rfl) (fun _ _ _ h => h) (Or.inl ⟨by kernel_rfl, ?_⟩) (by assumption) ?_
              rotate_left
              · intro w0 hSw; (try dsimp only at hSw); (go_simp <;> with_reducible rfl)
              try simp only [Act.put, List.setIfInBounds_toArray, List.set_cons_zero, List.set_cons_succ]
              refine wpAnyH_ready (rs := [8]) (by kernel_rfl) (by simp) ?_
              refine AllReadyH.cons rfl (fun K hK => ?_) AllReadyH.nil
              go_simp
              go_at_call 12
              refine (HFtt.out _ hHeld).mono ?_
              rintro e x1 ⟨rfl, hbx⟩
              go_wp2_with fail
              refine hK.out _ _ (two_keep hbx hHeld) (fun hHeld2 => ?_)
              clear hHeld hbx hK K
              have hHeld := hHeld2
              clear hHeld2
              try simp only [Act.put, List.setIfInBounds_toArray, List.set_cons_zero, List.set_cons_succ]
              refine wpAnyH_take (i := 9) (v := ?_) rfl (by kernel_rfl) (by kernel_rfl) (by kernel_rfl) (fun _ _ _ h => h) (Or.inl ⟨by kernel_rfl, ?_⟩) (by assumption) ?_
              rotate_left
              · intro w0 hSw; (try dsimp only at hSw); (go_simp <;> with_reducible rfl)
              try simp only [Act.put, List.setIfInBounds_toArray, List.set_cons_zero, List.set_cons_succ]
              refine wpAnyH_take (i := 10) (v := ?_) rfl (by kernel_rfl) (by kernel_rfl) (by kernel_rfl) (fun _ _ _ h => h) (Or.inl ⟨by kernel_rfl, ?_⟩) (by assumption) ?_
              rotate_left
              · intro w0 hSw; (try dsimp only at hSw); (go_simp <;> with_reducible rfl)
              try simp only [Act.put, List.setIfInBounds_toArray, List.set_cons_zero, List.set_cons_succ]
              refine wpAnyH_take (i := 11) (v := ?_) rfl (by kernel_rfl) (by kernel_rfl) (by kernel_rfl) (fun _ _ _ h => h) (Or.inl ⟨by kernel_rfl, ?_⟩) (by assumption) ?_
              rotate_left
              · intro w0 hSw; (try dsimp only at hSw); (go_simp <;> with_reducible rfl)
              try simp only [Act.put, List.setIfInBounds_toArray, List.set_cons_zero, List.set_cons_succ]
              refine wpAnyH_take (i := 12) (v := ?_) rfl (by kernel_rfl) (by kernel_rfl) (by kernel_rfl) (fun _ _ _ h => h) (Or.inl ⟨by kernel_rfl, ?_⟩) (by assumption) ?_
              rotate_left
              · intro w0 hSw; (try dsimp only at hSw); (go_simp <;> with_reducible rfl)
              try simp only [Act.put, List.setIfInBounds_toArray, List.set_cons_zero, List.set_cons_succ]
              refine wpAnyH_ready (rs := [13]) (by kernel_rfl) (by simp) ?_
              refine AllReadyH.cons rfl (fun K hK => ?_) AllReadyH.nil
              go_simp
              go_at_call 12
              refine (HFtu.out _ hHeld).mono ?_
              rintro e x1 ⟨rfl, hbx⟩
              go_wp2_with fail
              refine hK.out _ _ (two_keep hbx hHeld) (fun hHeld2 => ?_)
              clear hHeld hbx hK K
              have hHeld := hHeld2
              clear hHeld2
              try simp only [Act.put, List.setIfInBounds_toArray, List.set_cons_zero, List.set_cons_succ]
              refine wpAnyH_take (i := 14) (v := ?_) rfl (by kernel_rfl) (by kernel_rfl) (by kernel_rfl) (fun _ _ _ h => h) (Or.inl ⟨by kernel_rfl, ?_⟩) (by assumption) ?_
              rotate_left
              · intro w0 hSw; (try dsimp only at hSw); (go_simp <;> with_reducible rfl)
              try simp only [Act.put, List.setIfInBounds_toArray, List.set_cons_zero, List.set_cons_succ]
              refine wpAnyH_take (i := 15) (v := ?_) rfl (by kernel_rfl) (by kernel_rfl) (by kernel_rfl) (fun _ _ _ h => h) (Or.inl ⟨by kernel_rfl, ?_⟩) (by assumption) ?_
              rotate_left
              · intro w0 hSw; (try dsimp only at hSw); (go_simp <;> with_reducible rfl)
              try simp only [Act.put, List.setIfInBounds_toArray, List.set_cons_zero, List.set_cons_succ]
              refine wpAnyH_take (i := 16) (v := ?_) rfl (by kernel_rfl) (by kernel_rfl) (by kernel_rfl) (fun _ _ _ h => h) (Or.inl ⟨by kernel_rfl, ?_⟩) (by assumption) ?_
              rotate_left
              · intro w0 hSw; (try dsimp only at hSw); (go_simp <;> with_reducible rfl)
              try simp only [Act.put, List.setIfInBounds_toArray, List.set_cons_zero, List.set_cons_succ]
              refine wpAnyH_take (i := 17) (v := ?_) rfl (by kernel_rfl) (by kernel_rfl) (by kernel_rfl) (fun _ _ _ h => h) (Or.inl ⟨by kernel_rfl, ?_⟩) (by assumption) ?_
              rotate_left
              · intro w0 hSw; (try dsimp only at hSw); (go_simp <;> with_reducible rfl)
              try simp only [Act.put, List.setIfInBounds_toArray, List.set_cons_zero, List.set_cons_succ]
              refine wpAnyH_ready (rs := [18]) (by kernel_rfl) (by simp) ?_
              refine AllReadyH.cons rfl (fun K hK => ?_) AllReadyH.nil
              go_simp
              go_at_call 12
              refine (HFut.out _ hHeld).mono ?_
              rintro e x1 ⟨rfl, hbx⟩
              go_wp2_with fail
              refine hK.out _ _ (two_keep hbx hHeld) (fun hHeld2 => ?_)
              clear hHeld hbx hK K
              have hHeld := hHeld2
              clear hHeld2
              try simp only [Act.put, List.setIfInBounds_toArray, List.set_cons_zero, List.set_cons_succ]
              refine wpAnyH_take (i := 19) (v := ?_) rfl (by kernel_rfl) (by kernel_rfl) (by kernel_rfl) (fun _ _ _ h => h) (Or.inl ⟨by kernel_rfl, ?_⟩) (by assumption) ?_
              rotate_left
              · intro w0 hSw; (try dsimp only at hSw); (go_simp <;> with_reducible rfl)
              try simp only [Act.put, List.setIfInBounds_toArray, List.set_cons_zero, List.set_cons_succ]
              refine wpAnyH_take (i := 20) (v := ?_) rfl (by kernel_rfl) (by kernel_rfl) (by kernel_rfl) (fun _ _ _ h => h) (Or.inl ⟨by kernel_rfl, ?_⟩) (by assumption) ?_
              rotate_left
              · intro w0 hSw; (try dsimp only at hSw); (go_simp <;> with_reducible rfl)
              try simp only [Act.put, List.setIfInBounds_toArray, List.set_cons_zero, List.set_cons_succ]
              refine wpAnyH_take (i := 21) (v := ?_) rfl (by kernel_rfl) (by kernel_rfl) (by kernel_rfl) (fun _ _ _ h => h) (Or.inl ⟨by kernel_rfl, ?_⟩) (by assumption) ?_
              rotate_left
              · intro w0 hSw; (try dsimp only at hSw); (go_simp <;> with_reducible rfl)
              try simp only [Act.put, List.setIfInBounds_toArray, List.set_cons_zero, List.set_cons_succ]
              refine wpAnyH_take (i := 22) (v := undef) rfl (by kernel_rfl) (by kernel_rfl) (by kernel_rfl) (fun _ _ _ h => h) (Or.inr ⟨by kernel_rfl, rfl⟩) (by assumption) ?_
              try simp only [Act.put, List.setIfInBounds_toArray, List.set_cons_zero, List.set_cons_succ]
              refine wpAnyH_take (i := 23) (v := undef) rfl (by kernel_rfl) (by kernel_rfl) (by kernel_rfl) (fun _ _ _ h => h) (Or.inr ⟨by kernel_rfl, rfl⟩) (by assumption) ?_
              try simp only [Act.put, List.setIfInBounds_toArray, List.set_cons_zero, List.set_cons_succ]
              refine wpAnyH_take (i := 24) (v := undef) rfl (by kernel_rfl) (by kernel_rfl) (by kernel_rfl) (fun _ _ _ h => h) (Or.inr ⟨by kernel_rfl, rfl⟩) (by assumption) ?_
              try simp only [Act.put, List.setIfInBounds_toArray, List.set_cons_zero, List.set_cons_succ]
              refine wpAnyH_take (i := 25) (v := undef) rfl (by kernel_rfl) (by kernel_rfl) (by kernel_rfl) (fun _ _ _ h => h) (Or.inr ⟨by kernel_rfl, rfl⟩) (by assumption) ?_
              try simp only [Act.put, List.setIfInBounds_toArray, List.set_cons_zero, List.set_cons_succ]
              refine wpAnyH_take (i := 26) (v := undef) rfl (by kernel_rfl) (by kernel_rfl) (by kernel_rfl) (fun _ _ _ h => h) (Or.inr ⟨by kernel_rfl, rfl⟩) (by assumption) ?_
              try simp only [Act.put, List.setIfInBounds_toArray, List.set_cons_zero, List.set_cons_succ]
              refine wpAnyH_take (i := 27) (v := ?_) rfl (by kernel_rfl) (by kernel_rfl) (by kernel_rfl) (fun _ _ _ h => h) (Or.inl ⟨by kernel_rfl, ?_⟩) (by assumption) ?_
              rotate_left
              · intro w0 hSw; (try dsimp only at hSw); (go_simp <;> with_reducible rfl)
              try simp only [Act.put, List.setIfInBounds_toArray, List.set_cons_zero, List.set_cons_succ]
              refine wpAnyH_take (i := 28) (v := ?_) rfl (by kernel_rfl) (by kernel_rfl) (by kernel_rfl) (fun _ _ _ h => h) (Or.inl ⟨by kernel_rfl, ?_⟩) (by assumption) ?_
              rotate_left
              · intro w0 hSw; (try dsimp only at hSw); (go_simp <;> with_reducible rfl)
              try simp only [Act.put, List.setIfInBounds_toArray, List.set_cons_zero, List.set_cons_succ]
              refine wpAnyH_take (i := 29) (v := ?_) rfl (by kernel_rfl) (by kernel_rfl) (by kernel_rfl) (fun _ _ _ h => h) (Or.inl ⟨by kernel_rfl, ?_⟩) (by assumption) ?_
              rotate_left
              · intro w0 hSw; (try dsimp only at hSw); (go_simp <;> with_reducible rfl)
              try simp only [Act.put, List.setIfInBounds_toArray, List.set_cons_zero, List.set_cons_succ]
              refine wpAnyH_done (by kernel_rfl) ?_ _
              go_wp2
              go_ret
              refine ⟨?_, two_end hHeld⟩
              first | rfl | (injections; subst_vars; rfl) | (simp_all; done) | (simp; done) | (go_simp; done)
            · have htx : mk u.text = mk t.text := by unfold TagT.text; rw [fitsT_both f1 f2]
              rw [f1] at Ftu
              rw [f2] at Fut
              rw [htx] at Su
              have HFtu := Lib.hid Ftu
              have HFut := Lib.hid Fut
              have HFtt := Lib.hid Ftt
              have HSu := Lib.hid Su
              clear Ftu Fut Ftt Su f1 f2 htx T7 U7 R7 Q7 T8 U8 R8 Q8 B8 HBW B7
              go_wp2_with fail
              go_region_held3 (fun w' => w'.cell? ⟨k2, 0, none⟩ = some (.string (mk t.L)) ∧ w'.cell? ⟨k2, 1, none⟩ = some (.string (mk t.S)) ∧ w'.cell? ⟨k2, 2, none⟩ = some (.string (mk t.R)) ∧ w'.cell? ⟨k2, 3, none⟩ = some (.slice A1 t.vs.length c1) ∧ w'.cell? ⟨k3, 0, none⟩ = some (.string (mk u.L)) ∧ w'.cell? ⟨k3, 1, none⟩ = some (.string (mk u.S)) ∧ w'.cell? ⟨k3, 2, none⟩ = some (.string (mk u.R)) ∧ w'.cell? ⟨k3, 3, none⟩ = some (.slice A2 u.vs.length c2) ∧ k2 < w'.heap.size ∧ k3 < w'.heap.size ∧ VarsAt w' t A1 c1 ∧ VarsAt w' u A2 c2 ∧ Below w.heap.size w w')
                (first | (exact two_keep (by assumption) (by assumption)) | (exact two_keep (Below.refl _ _).drew start) | go_keep)
                (first | (go_at_call 12; (with_reducible refine (HFtu.out _ (by assumption)).mono ?_); rintro e w5 ⟨rfl, hb5⟩) | (go_at_call 12; (with_reducible refine (HFut.out _ (by assumption)).mono ?_); rintro e w5 ⟨rfl, hb5⟩) | (go_at_call 12; (with_reducible refine (HFtt.out _ (by assumption)).mono ?_); rintro e w5 ⟨rfl, hb5⟩) | (go_at_call 10; (with_reducible refine (HSt.out _ (by assumption)).mono ?_); rintro e w5 ⟨rfl, hb5⟩) | (go_at_call 10; (with_reducible refine (HSu.out _ (by assumption)).mono ?_); rintro e w5 ⟨rfl, hb5⟩))
              go_wp2
              go_ret
              exact ⟨rfl, two_end (by assumption)⟩
end Go.Proofs.YtldmldgkjkgkcaaDoor
