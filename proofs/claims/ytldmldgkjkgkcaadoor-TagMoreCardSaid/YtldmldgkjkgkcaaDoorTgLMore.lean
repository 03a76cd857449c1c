/-
  TagMore: the law walked.
-/
import Derived.Test.YtldmldgkjkgkcaaDoorTgHead
import Derived.Test.YtldmldgkjkgkcaaDoorTgLaw2
import Derived.Test.YtldmldgkjkgkcaaDoorTgMoreM
import Derived.Test.YtldmldgkjkgkcaaDoorTgLess
import Derived.Deep.RegionHeld3
namespace Go.Proofs.YtldmldgkjkgkcaaDoor
open Go.RowKit Go.Shelf
set_option linter.unusedVariables false
set_option linter.unusedSimpArgs false

theorem five_keep {w W W1 : World} {b3 b5 b7 b11 b13 : Nat} {t : TagT} {A3 A5 A7 A11 A13 : Option Addr} {c3 c5 c7 c11 c13 : Nat} (hb : Below W.heap.size W W1) (h : W.cell? ⟨b3, 0, none⟩ = some (.string (mk t.L)) ∧ W.cell? ⟨b3, 1, none⟩ = some (.string (mk t.S)) ∧ W.cell? ⟨b3, 2, none⟩ = some (.string (mk t.R)) ∧ W.cell? ⟨b3, 3, none⟩ = some (.slice A3 t.vs.length c3) ∧ b3 < W.heap.size ∧ VarsAt W t A3 c3 ∧ W.cell? ⟨b5, 0, none⟩ = some (.string (mk t.L)) ∧ W.cell? ⟨b5, 1, none⟩ = some (.string (mk t.S)) ∧ W.cell? ⟨b5, 2, none⟩ = some (.string (mk t.R)) ∧ W.cell? ⟨b5, 3, none⟩ = some (.slice A5 t.vs.length c5) ∧ b5 < W.heap.size ∧ VarsAt W t A5 c5 ∧ W.cell? ⟨b7, 0, none⟩ = some (.string (mk t.L)) ∧ W.cell? ⟨b7, 1, none⟩ = some (.string (mk t.S)) ∧ W.cell? ⟨b7, 2, none⟩ = some (.string (mk t.R)) ∧ W.cell? ⟨b7, 3, none⟩ = some (.slice A7 t.vs.length c7) ∧ b7 < W.heap.size ∧ VarsAt W t A7 c7 ∧ W.cell? ⟨b11, 0, none⟩ = some (.string (mk t.more.L)) ∧ W.cell? ⟨b11, 1, none⟩ = some (.string (mk t.more.S)) ∧ W.cell? ⟨b11, 2, none⟩ = some (.string (mk t.more.R)) ∧ W.cell? ⟨b11, 3, none⟩ = some (.slice A11 t.more.vs.length c11) ∧ b11 < W.heap.size ∧ VarsAt W t.more A11 c11 ∧ W.cell? ⟨b13, 0, none⟩ = some (.string (mk t.L)) ∧ W.cell? ⟨b13, 1, none⟩ = some (.string (mk t.S)) ∧ W.cell? ⟨b13, 2, none⟩ = some (.string (mk t.R)) ∧ W.cell? ⟨b13, 3, none⟩ = some (.slice A13 t.vs.length c13) ∧ b13 < W.heap.size ∧ VarsAt W t A13 c13 ∧ Below w.heap.size w W) : W1.cell? ⟨b3, 0, none⟩ = some (.string (mk t.L)) ∧ W1.cell? ⟨b3, 1, none⟩ = some (.string (mk t.S)) ∧ W1.cell? ⟨b3, 2, none⟩ = some (.string (mk t.R)) ∧ W1.cell? ⟨b3, 3, none⟩ = some (.slice A3 t.vs.length c3) ∧ b3 < W1.heap.size ∧ VarsAt W1 t A3 c3 ∧ W1.cell? ⟨b5, 0, none⟩ = some (.string (mk t.L)) ∧ W1.cell? ⟨b5, 1, none⟩ = some (.string (mk t.S)) ∧ W1.cell? ⟨b5, 2, none⟩ = some (.string (mk t.R)) ∧ W1.cell? ⟨b5, 3, none⟩ = some (.slice A5 t.vs.length c5) ∧ b5 < W1.heap.size ∧ VarsAt W1 t A5 c5 ∧ W1.cell? ⟨b7, 0, none⟩ = some (.string (mk t.L)) ∧ W1.cell? ⟨b7, 1, none⟩ = some (.string (mk t.S)) ∧ W1.cell? ⟨b7, 2, none⟩ = some (.string (mk t.R)) ∧ W1.cell? ⟨b7, 3, none⟩ = some (.slice A7 t.vs.length c7) ∧ b7 < W1.heap.size ∧ VarsAt W1 t A7 c7 ∧ W1.cell? ⟨b11, 0, none⟩ = some (.string (mk t.more.L)) ∧ W1.cell? ⟨b11, 1, none⟩ = some (.string (mk t.more.S)) ∧ W1.cell? ⟨b11, 2, none⟩ = some (.string (mk t.more.R)) ∧ W1.cell? ⟨b11, 3, none⟩ = some (.slice A11 t.more.vs.length c11) ∧ b11 < W1.heap.size ∧ VarsAt W1 t.more A11 c11 ∧ W1.cell? ⟨b13, 0, none⟩ = some (.string (mk t.L)) ∧ W1.cell? ⟨b13, 1, none⟩ = some (.string (mk t.S)) ∧ W1.cell? ⟨b13, 2, none⟩ = some (.string (mk t.R)) ∧ W1.cell? ⟨b13, 3, none⟩ = some (.slice A13 t.vs.length c13) ∧ b13 < W1.heap.size ∧ VarsAt W1 t A13 c13 ∧ Below w.heap.size w W1 := by
  obtain ⟨p0, p1, p2, p3, p4, p5, p6, p7, p8, p9, p10, p11, p12, p13, p14, p15, p16, p17, p18, p19, p20, p21, p22, p23, p24, p25, p26, p27, p28, p29, p30⟩ := h
  exact ⟨(hb.cell (p := ⟨b3, 0, none⟩) p4).trans p0, (hb.cell (p := ⟨b3, 1, none⟩) p4).trans p1, (hb.cell (p := ⟨b3, 2, none⟩) p4).trans p2, (hb.cell (p := ⟨b3, 3, none⟩) p4).trans p3, Nat.lt_of_lt_of_le p4 hb.size, p5.later hb, (hb.cell (p := ⟨b5, 0, none⟩) p10).trans p6, (hb.cell (p := ⟨b5, 1, none⟩) p10).trans p7, (hb.cell (p := ⟨b5, 2, none⟩) p10).trans p8, (hb.cell (p := ⟨b5, 3, none⟩) p10).trans p9, Nat.lt_of_lt_of_le p10 hb.size, p11.later hb, (hb.cell (p := ⟨b7, 0, none⟩) p16).trans p12, (hb.cell (p := ⟨b7, 1, none⟩) p16).trans p13, (hb.cell (p := ⟨b7, 2, none⟩) p16).trans p14, (hb.cell (p := ⟨b7, 3, none⟩) p16).trans p15, Nat.lt_of_lt_of_le p16 hb.size, p17.later hb, (hb.cell (p := ⟨b11, 0, none⟩) p22).trans p18, (hb.cell (p := ⟨b11, 1, none⟩) p22).trans p19, (hb.cell (p := ⟨b11, 2, none⟩) p22).trans p20, (hb.cell (p := ⟨b11, 3, none⟩) p22).trans p21, Nat.lt_of_lt_of_le p22 hb.size, p23.later hb, (hb.cell (p := ⟨b13, 0, none⟩) p28).trans p24, (hb.cell (p := ⟨b13, 1, none⟩) p28).trans p25, (hb.cell (p := ⟨b13, 2, none⟩) p28).trans p26, (hb.cell (p := ⟨b13, 3, none⟩) p28).trans p27, Nat.lt_of_lt_of_le p28 hb.size, p29.later hb, below_step p30 hb⟩
theorem five_start {w W : World} {b3 b5 b7 b11 b13 : Nat} {t : TagT} {A3 A5 A7 A11 A13 : Option Addr} {c3 c5 c7 c11 c13 : Nat} (h0 : TagIn W b3 t A3 c3) (h1 : TagIn W b5 t A5 c5) (h2 : TagIn W b7 t A7 c7) (h3 : TagIn W b11 t.more A11 c11) (h4 : TagIn W b13 t A13 c13) (hB : Below w.heap.size w W) : W.cell? ⟨b3, 0, none⟩ = some (.string (mk t.L)) ∧ W.cell? ⟨b3, 1, none⟩ = some (.string (mk t.S)) ∧ W.cell? ⟨b3, 2, none⟩ = some (.string (mk t.R)) ∧ W.cell? ⟨b3, 3, none⟩ = some (.slice A3 t.vs.length c3) ∧ b3 < W.heap.size ∧ VarsAt W t A3 c3 ∧ W.cell? ⟨b5, 0, none⟩ = some (.string (mk t.L)) ∧ W.cell? ⟨b5, 1, none⟩ = some (.string (mk t.S)) ∧ W.cell? ⟨b5, 2, none⟩ = some (.string (mk t.R)) ∧ W.cell? ⟨b5, 3, none⟩ = some (.slice A5 t.vs.length c5) ∧ b5 < W.heap.size ∧ VarsAt W t A5 c5 ∧ W.cell? ⟨b7, 0, none⟩ = some (.string (mk t.L)) ∧ W.cell? ⟨b7, 1, none⟩ = some (.string (mk t.S)) ∧ W.cell? ⟨b7, 2, none⟩ = some (.string (mk t.R)) ∧ W.cell? ⟨b7, 3, none⟩ = some (.slice A7 t.vs.length c7) ∧ b7 < W.heap.size ∧ VarsAt W t A7 c7 ∧ W.cell? ⟨b11, 0, none⟩ = some (.string (mk t.more.L)) ∧ W.cell? ⟨b11, 1, none⟩ = some (.string (mk t.more.S)) ∧ W.cell? ⟨b11, 2, none⟩ = some (.string (mk t.more.R)) ∧ W.cell? ⟨b11, 3, none⟩ = some (.slice A11 t.more.vs.length c11) ∧ b11 < W.heap.size ∧ VarsAt W t.more A11 c11 ∧ W.cell? ⟨b13, 0, none⟩ = some (.string (mk t.L)) ∧ W.cell? ⟨b13, 1, none⟩ = some (.string (mk t.S)) ∧ W.cell? ⟨b13, 2, none⟩ = some (.string (mk t.R)) ∧ W.cell? ⟨b13, 3, none⟩ = some (.slice A13 t.vs.length c13) ∧ b13 < W.heap.size ∧ VarsAt W t A13 c13 ∧ Below w.heap.size w W :=
  ⟨h0.1.1, h0.1.2.1, h0.1.2.2.1, h0.1.2.2.2.1, h0.1.2.2.2.2.2.2.2.2, h0.2, h1.1.1, h1.1.2.1, h1.1.2.2.1, h1.1.2.2.2.1, h1.1.2.2.2.2.2.2.2.2, h1.2, h2.1.1, h2.1.2.1, h2.1.2.2.1, h2.1.2.2.2.1, h2.1.2.2.2.2.2.2.2.2, h2.2, h3.1.1, h3.1.2.1, h3.1.2.2.1, h3.1.2.2.2.1, h3.1.2.2.2.2.2.2.2.2, h3.2, h4.1.1, h4.1.2.1, h4.1.2.2.1, h4.1.2.2.2.1, h4.1.2.2.2.2.2.2.2.2, h4.2, hB⟩
theorem five_end {w W : World} {b3 b5 b7 b11 b13 : Nat} {t : TagT} {A3 A5 A7 A11 A13 : Option Addr} {c3 c5 c7 c11 c13 : Nat} (h : W.cell? ⟨b3, 0, none⟩ = some (.string (mk t.L)) ∧ W.cell? ⟨b3, 1, none⟩ = some (.string (mk t.S)) ∧ W.cell? ⟨b3, 2, none⟩ = some (.string (mk t.R)) ∧ W.cell? ⟨b3, 3, none⟩ = some (.slice A3 t.vs.length c3) ∧ b3 < W.heap.size ∧ VarsAt W t A3 c3 ∧ W.cell? ⟨b5, 0, none⟩ = some (.string (mk t.L)) ∧ W.cell? ⟨b5, 1, none⟩ = some (.string (mk t.S)) ∧ W.cell? ⟨b5, 2, none⟩ = some (.string (mk t.R)) ∧ W.cell? ⟨b5, 3, none⟩ = some (.slice A5 t.vs.length c5) ∧ b5 < W.heap.size ∧ VarsAt W t A5 c5 ∧ W.cell? ⟨b7, 0, none⟩ = some (.string (mk t.L)) ∧ W.cell? ⟨b7, 1, none⟩ = some (.string (mk t.S)) ∧ W.cell? ⟨b7, 2, none⟩ = some (.string (mk t.R)) ∧ W.cell? ⟨b7, 3, none⟩ = some (.slice A7 t.vs.length c7) ∧ b7 < W.heap.size ∧ VarsAt W t A7 c7 ∧ W.cell? ⟨b11, 0, none⟩ = some (.string (mk t.more.L)) ∧ W.cell? ⟨b11, 1, none⟩ = some (.string (mk t.more.S)) ∧ W.cell? ⟨b11, 2, none⟩ = some (.string (mk t.more.R)) ∧ W.cell? ⟨b11, 3, none⟩ = some (.slice A11 t.more.vs.length c11) ∧ b11 < W.heap.size ∧ VarsAt W t.more A11 c11 ∧ W.cell? ⟨b13, 0, none⟩ = some (.string (mk t.L)) ∧ W.cell? ⟨b13, 1, none⟩ = some (.string (mk t.S)) ∧ W.cell? ⟨b13, 2, none⟩ = some (.string (mk t.R)) ∧ W.cell? ⟨b13, 3, none⟩ = some (.slice A13 t.vs.length c13) ∧ b13 < W.heap.size ∧ VarsAt W t A13 c13 ∧ Below w.heap.size w W) : Below w.heap.size w W := h.2.2.2.2.2.2.2.2.2.2.2.2.2.2.2.2.2.2.2.2.2.2.2.2.2.2.2.2.2.2

theorem lessMore {t : TagT} (k : t.more.vs.length ≤ 1000) {A : Option Addr} {c : Nat} {W : World} (h : VarsAt W t.more A c) :
    Calls Tryd.prog 13 #[.agg #[.string (mk t.more.L), .string (mk t.more.S), .string (mk t.more.R), .slice A t.more.vs.length c]] W fun e W' => ∃ A' c', e = .returned (.tuple #[.agg #[.string (mk t.L), .string (mk t.S), .string (mk t.R), .slice A' t.vs.length c'], .bool true]) ∧ VarsAt W' t A' c' ∧ Below W.heap.size W W' := by
  refine (less_vars (mk t.more.L) (mk t.more.S) (mk t.more.R) (.slice A t.more.vs.length c) (t.more.vs.map mk) (by simp [TagT.more]) (by rw [List.length_map]; exact k) W h.2 ⟨_, _, _, rfl, h.1⟩).mono ?_
  rintro e W' ⟨sv, rfl, h1, h2, hb⟩
  rw [← List.map_dropLast, more_drop] at h2
  obtain ⟨A', c', rfl, hv⟩ := VarsAt.of h1 h2
  exact ⟨A', c', rfl, hv, hb⟩
theorem zz_beq (q : List UInt8) : ((mk q).toList == (⟨#[122, 122, 122, 122, 122, 122, 122, 57]⟩ : ByteArray).toList) = decide (q = zz) := by
  rw [show (⟨#[122, 122, 122, 122, 122, 122, 122, 57]⟩ : ByteArray) = mk zz from rfl, Lib.toList_data, Lib.toList_data, mk_data, mk_data, Bool.eq_iff_iff]
  simp
theorem zz_beq2 (q : List UInt8) : ((mk q).toList == [122, 122, 122, 122, 122, 122, 122, 57]) = decide (q = zz) := by
  rw [Lib.toList_data, mk_data, Bool.eq_iff_iff, beq_iff_eq, decide_eq_true_eq]
  exact Iff.rfl
theorem zz_mem {vs : List (List UInt8)} {k : Nat} {q : List UInt8} (h : zz ∉ vs.take k) (hq : vs[k]? = some q) (hne : q ≠ zz) : zz ∉ vs.take (k + 1) := by
  obtain ⟨hlt, rfl⟩ := List.getElem?_eq_some_iff.1 hq
  rw [List.take_succ_eq_append_getElem hlt]
  simp only [List.mem_append, List.mem_singleton, not_or]
  exact ⟨h, fun e => hne e.symm⟩

set_option maxRecDepth 1000000 in
set_option maxHeartbeats 8000000 in
theorem more_law (s : ByteArray) (hz : s.size ≤ 9223372036854775807) (w : World) (hM : MaxAt w) : Calls Tryd.prog 6 #[.string s] w fun e w' => e = .returned (.bool true) ∧ Below w.heap.size w w' := by
  have HM := Lib.hid hM
  clear hM
  by_cases hs : 80 < s.size
  · go_enter Tryd.func6, Tryd.ntmps6
    go_wp2_with fail
    go_at_call 7
    refine (head_any w HM.out).mono ?_
    rintro e w1 ⟨rfl, b1⟩
    go_wp2_with fail
    go_ret
    exact ⟨rfl, b1⟩
  have hs5 : s.size ≤ 100000 := by omega
  have hl : s.data.toList.length = s.size := by simp
  have hup : (mk (upp s.data.toList)).size ≤ 100000 := by rw [mk_size, upp_length, hl]; exact hs5
  have hlo : (mk (low s.data.toList)).size ≤ 100000 := by rw [mk_size, low_length, hl]; exact hs5
  have eup := tagOf_big s.data.toList
  have elo := tagOf_small s.data.toList
  cases ht : tagOf (splitH s.data.toList) with
  | none =>
    rw [ht] at eup elo
    have HT := Lib.hid ht
    have HU := Lib.hid (show tagOf (splitH (mk (upp s.data.toList)).data.toList) = none from eup)
    have HV := Lib.hid (show tagOf (splitH (mk (low s.data.toList)).data.toList) = none from elo)
    clear ht eup elo hl
    go_enter Tryd.func6, Tryd.ntmps6
    go_wp2_with fail
    go_at_call 7
    refine (head_any w HM.out).mono ?_
    rintro e w1 ⟨rfl, b1⟩
    have B1 := Lib.hid b1
    clear b1
    go_wp2_with fail
    go_at_call 8
    refine (ParseN.of hs5 (HM.out.on B1.out) HT.out).at_.mono ?_
    rintro e w2 ⟨rfl, b2⟩
    have B2 := Lib.hid (below_box1 (below_step B1.out b2) (.cells #[.string ⟨#[]⟩, .string ⟨#[]⟩, .string ⟨#[]⟩, .slice none 0 0] 25))
    clear B1 b2
    go_wp2_with fail
    go_at_call 14
    refine (big_any s _ hs5).mono ?_
    rintro e w3 ⟨rfl, b3⟩
    have B3 := Lib.hid (below_step B2.out b3)
    clear B2 b3
    go_wp2_with fail
    go_at_call 8
    refine (ParseN.of hup (HM.out.on B3.out) HU.out).at_.mono ?_
    rintro e w4 ⟨rfl, b4⟩
    have B4 := Lib.hid (below_box1 (below_step B3.out b4) (.cells #[.string ⟨#[]⟩, .string ⟨#[]⟩, .string ⟨#[]⟩, .slice none 0 0] 25))
    clear B3 b4
    go_wp2_with fail
    go_at_call 15
    refine (small_any s _ hs5).mono ?_
    rintro e w5 ⟨rfl, b5⟩
    have B5 := Lib.hid (below_step B4.out b5)
    clear B4 b5
    go_wp2_with fail
    go_at_call 8
    refine (ParseN.of hlo (HM.out.on B5.out) HV.out).at_.mono ?_
    rintro e w6 ⟨rfl, b6⟩
    go_wp2_with fail
    go_ret
    exact ⟨rfl, below_box1 (below_step B5.out b6) _⟩
  | some t =>
    rw [ht] at eup elo
    have kt := TagT.Ok.of ht (by simp; omega)
    have KT := Lib.hid kt
    have HT := Lib.hid ht
    have HU := Lib.hid (show tagOf (splitH (mk (upp s.data.toList)).data.toList) = some t from eup)
    have HV := Lib.hid (show tagOf (splitH (mk (low s.data.toList)).data.toList) = some t from elo)
    clear ht eup elo hl kt
    go_enter Tryd.func6, Tryd.ntmps6
    go_wp2_with fail
    go_at_call 7
    refine (head_any w HM.out).mono ?_
    rintro e w1 ⟨rfl, b1⟩
    have B1 := Lib.hid b1
    clear b1
    go_wp2_with fail
    go_at_call 8
    refine (ParseY.of hs5 (HM.out.on B1.out) HT.out).at_.mono ?_
    rintro e w2 ⟨A3, c3, rfl, v3, b2⟩
    have B2 := Lib.hid (below_box1 (below_step B1.out b2) (tagCells t A3 c3))
    have T2 := Lib.hid (TagIn.new v3)
    clear B1 b2 v3
    go_upto_region 6 with fail
    generalize w2.heap.size = b3 at *
    generalize w2.alloc (tagCells t A3 c3) = W2 at *
    go_wp2_with fail
    go_at_call 14
    refine (big_any s _ hs5).mono ?_
    rintro e w3 ⟨rfl, b⟩
    have B3 := Lib.hid (below_step B2.out b)
    have T3 := Lib.hid (T2.out.later b)
    clear B2 T2 b
    go_wp2_with fail
    go_at_call 8
    refine (ParseY.of hup (HM.out.on B3.out) HU.out).at_.mono ?_
    rintro e w4 ⟨A5, c5, rfl, v5, b⟩
    have B4 := Lib.hid (below_box1 (below_step B3.out b) (tagCells t A5 c5))
    have T4 := Lib.hid ((T3.out.later b).alloc (tagCells t A5 c5))
    have U4 := Lib.hid (TagIn.new v5)
    clear B3 T3 b v5
    go_upto_region 7 with fail
    generalize w4.heap.size = b5 at *
    generalize w4.alloc (tagCells t A5 c5) = W4 at *
    go_wp2_with fail
    go_at_call 15
    refine (small_any s _ hs5).mono ?_
    rintro e w5 ⟨rfl, b⟩
    have B5 := Lib.hid (below_step B4.out b)
    have T5 := Lib.hid (T4.out.later b)
    have U5 := Lib.hid (U4.out.later b)
    clear B4 T4 U4 b
    go_wp2_with fail
    go_at_call 8
    refine (ParseY.of hlo (HM.out.on B5.out) HV.out).at_.mono ?_
    rintro e w6 ⟨A7, c7, rfl, v7, b⟩
    have B6 := Lib.hid (below_box1 (below_step B5.out b) (tagCells t A7 c7))
    have T6 := Lib.hid ((T5.out.later b).alloc (tagCells t A7 c7))
    have U6 := Lib.hid ((U5.out.later b).alloc (tagCells t A7 c7))
    have V6 := Lib.hid (TagIn.new v7)
    clear B5 T5 U5 b v7
    go_upto_region 8 with fail
    generalize w6.heap.size = b7 at *
    generalize w6.alloc (tagCells t A7 c7) = W6 at *
    obtain ⟨n, hn⟩ : ∃ n, t.vs.length = n := ⟨_, rfl⟩
    have hn1 : n ≤ 1000 := by rw [← hn]; exact KT.out.vs
    have HN := Lib.hid hn
    clear hn
    obtain ⟨⟨x0, x1, x2, x3, _⟩, _⟩ := T6.out
    rw [HN.out] at x3
    go_wp2_with fail
    clear x0 x1 x2 x3
    go_loop [50] (fun i => ∃ k : Nat, k ≤ n ∧ i = .int .i64 k ∧ zz ∉ t.vs.take k) (fun i => n - (intOf i).toNat)
    case atStart => exact ⟨0, Nat.zero_le _, rfl, by simp⟩
    case round =>
      obtain ⟨k, hk, rfl, hzz⟩ := hrel
      have HZ := Lib.hid hzz
      clear hzz
      by_cases hlt : k < n
      · obtain ⟨q, hq⟩ : ∃ q, t.vs[k]? = some q := by
          have : k < t.vs.length := by rw [HN.out]; exact hlt
          exact ⟨t.vs[k], List.getElem?_eq_getElem this⟩
        rcases T6.out.2.2 with ⟨e, hnil⟩ | ⟨vb, vo, vc, e, hvb, hcs⟩
        · have h0 : t.vs.length = 0 := by have := congrArg List.length hnil; simpa using this
          rw [HN.out] at h0
          omega
        · obtain ⟨rfl, rfl⟩ : A3 = some ⟨vb, vo, none⟩ ∧ c3 = vc := by
            rw [List.length_map] at e
            cases e; exact ⟨rfl, rfl⟩
          have d1 : W6.cell? ⟨vb, vo + k, none⟩ = some (.string (mk q)) := by
            have := hcs k (by rw [List.length_map, HN.out]; exact hlt)
            rw [this]
            simp [hq]
          clear hcs e
          have HQ := Lib.hid hq
          clear hq
          go_wp2_with fail
          · go_ret
            exact ⟨rfl, B6.out⟩
          · have hf : ((mk q).toList == [122, 122, 122, 122, 122, 122, 122, 57]) = false := by assumption
            have hne : q ≠ zz := by
              rw [zz_beq2] at hf
              exact of_decide_eq_false hf
            have HZ2 := Lib.hid (zz_mem HZ.out HQ.out hne)
            go_round
            case rel => exact ⟨k + 1, by omega, by go_num, HZ2.out⟩
            case measure => simp [intOf]; omega
      · obtain rfl : k = n := by omega
        have hnz : zz ∉ t.vs := by have := HZ.out; rwa [List.take_of_length_le (by rw [HN.out]; omega)] at this
        obtain ⟨X, hX⟩ : ∃ X, s ++ (⟨#[45, 122, 122, 122, 122, 122, 122, 122, 57]⟩ : ByteArray) = X := ⟨_, rfl⟩
        have hXl : X.data.toList = s.data.toList ++ 45 :: zz := by
          rw [← hX, ByteArray.data_append]
          simp [zz]
        have hXs : X.size ≤ 100000 := by
          rw [← size_data X, hXl, List.length_append, size_data]
          simp [zz]; omega
        have hmo : tagOf (splitH X.data.toList) = some t.more := by rw [hXl]; exact tagOf_more HT.out hnz
        have kmo := TagT.Ok.of hmo (by rw [hXl, List.length_append, size_data]; simp [zz]; omega)
        have HX := Lib.hid hX
        have HMO := Lib.hid hmo
        have KM := Lib.hid kmo
        clear hX hXl hmo kmo hnz
        go_wp2_with fail
        rw [HX.out]
        go_at_call 8
        refine (ParseY.of hXs (HM.out.on B6.out) HMO.out).at_.mono ?_
        rintro e w7 ⟨A11, c11, rfl, v11, b⟩
        have B7 := Lib.hid (below_box1 (below_step B6.out b) (tagCells t.more A11 c11))
        have T7 := Lib.hid ((T6.out.later b).alloc (tagCells t.more A11 c11))
        have U7 := Lib.hid ((U6.out.later b).alloc (tagCells t.more A11 c11))
        have V7 := Lib.hid ((V6.out.later b).alloc (tagCells t.more A11 c11))
        have M7 := Lib.hid (TagIn.new v11)
        clear B6 T6 U6 V6 b v11
        go_upto_region 19 with fail
        generalize w7.heap.size = b11 at *
        generalize w7.alloc (tagCells t.more A11 c11) = W7 at *
        obtain ⟨⟨x0, x1, x2, x3, _⟩, _⟩ := M7.out
        go_wp2_with fail
        go_at_call 13
        refine (lessMore KM.out.vs M7.out.2).mono ?_
        rintro e w8 ⟨A13, c13, rfl, v13, b⟩
        have B8 := Lib.hid (below_box1 (below_step B7.out b) (tagCells t A13 c13))
        have T8 := Lib.hid ((T7.out.later b).alloc (tagCells t A13 c13))
        have U8 := Lib.hid ((U7.out.later b).alloc (tagCells t A13 c13))
        have V8 := Lib.hid ((V7.out.later b).alloc (tagCells t A13 c13))
        have M8 := Lib.hid ((M7.out.later b).alloc (tagCells t A13 c13))
        have L8 := Lib.hid (TagIn.new v13)
        clear B7 T7 U7 V7 M7 b v13 x0 x1 x2 x3
        go_upto_region 20 with fail
        generalize w8.heap.size = b13 at *
        generalize w8.alloc (tagCells t A13 c13) = W8 at *
        have start := five_start T8.out U8.out V8.out M8.out L8.out B8.out
        clear T8 U8 V8 M8 L8 B8
        have S3 := Lib.hid (show ∀ W, (W.cell? ⟨b3, 0, none⟩ = some (.string (mk t.L)) ∧ W.cell? ⟨b3, 1, none⟩ = some (.string (mk t.S)) ∧ W.cell? ⟨b3, 2, none⟩ = some (.string (mk t.R)) ∧ W.cell? ⟨b3, 3, none⟩ = some (.slice A3 t.vs.length c3) ∧ b3 < W.heap.size ∧ VarsAt W t A3 c3 ∧ W.cell? ⟨b5, 0, none⟩ = some (.string (mk t.L)) ∧ W.cell? ⟨b5, 1, none⟩ = some (.string (mk t.S)) ∧ W.cell? ⟨b5, 2, none⟩ = some (.string (mk t.R)) ∧ W.cell? ⟨b5, 3, none⟩ = some (.slice A5 t.vs.length c5) ∧ b5 < W.heap.size ∧ VarsAt W t A5 c5 ∧ W.cell? ⟨b7, 0, none⟩ = some (.string (mk t.L)) ∧ W.cell? ⟨b7, 1, none⟩ = some (.string (mk t.S)) ∧ W.cell? ⟨b7, 2, none⟩ = some (.string (mk t.R)) ∧ W.cell? ⟨b7, 3, none⟩ = some (.slice A7 t.vs.length c7) ∧ b7 < W.heap.size ∧ VarsAt W t A7 c7 ∧ W.cell? ⟨b11, 0, none⟩ = some (.string (mk t.more.L)) ∧ W.cell? ⟨b11, 1, none⟩ = some (.string (mk t.more.S)) ∧ W.cell? ⟨b11, 2, none⟩ = some (.string (mk t.more.R)) ∧ W.cell? ⟨b11, 3, none⟩ = some (.slice A11 t.more.vs.length c11) ∧ b11 < W.heap.size ∧ VarsAt W t.more A11 c11 ∧ W.cell? ⟨b13, 0, none⟩ = some (.string (mk t.L)) ∧ W.cell? ⟨b13, 1, none⟩ = some (.string (mk t.S)) ∧ W.cell? ⟨b13, 2, none⟩ = some (.string (mk t.R)) ∧ W.cell? ⟨b13, 3, none⟩ = some (.slice A13 t.vs.length c13) ∧ b13 < W.heap.size ∧ VarsAt W t A13 c13 ∧ Below w.heap.size w W) → Calls Tryd.prog 10 #[.agg #[.string (mk t.L), .string (mk t.S), .string (mk t.R), .slice A3 t.vs.length c3]] W fun e W' => e = .returned (.string (mk t.text)) ∧ Below W.heap.size W W' from fun W h => stringT KT.out (h.2.2.2.2.2.1))
        have S5 := Lib.hid (show ∀ W, (W.cell? ⟨b3, 0, none⟩ = some (.string (mk t.L)) ∧ W.cell? ⟨b3, 1, none⟩ = some (.string (mk t.S)) ∧ W.cell? ⟨b3, 2, none⟩ = some (.string (mk t.R)) ∧ W.cell? ⟨b3, 3, none⟩ = some (.slice A3 t.vs.length c3) ∧ b3 < W.heap.size ∧ VarsAt W t A3 c3 ∧ W.cell? ⟨b5, 0, none⟩ = some (.string (mk t.L)) ∧ W.cell? ⟨b5, 1, none⟩ = some (.string (mk t.S)) ∧ W.cell? ⟨b5, 2, none⟩ = some (.string (mk t.R)) ∧ W.cell? ⟨b5, 3, none⟩ = some (.slice A5 t.vs.length c5) ∧ b5 < W.heap.size ∧ VarsAt W t A5 c5 ∧ W.cell? ⟨b7, 0, none⟩ = some (.string (mk t.L)) ∧ W.cell? ⟨b7, 1, none⟩ = some (.string (mk t.S)) ∧ W.cell? ⟨b7, 2, none⟩ = some (.string (mk t.R)) ∧ W.cell? ⟨b7, 3, none⟩ = some (.slice A7 t.vs.length c7) ∧ b7 < W.heap.size ∧ VarsAt W t A7 c7 ∧ W.cell? ⟨b11, 0, none⟩ = some (.string (mk t.more.L)) ∧ W.cell? ⟨b11, 1, none⟩ = some (.string (mk t.more.S)) ∧ W.cell? ⟨b11, 2, none⟩ = some (.string (mk t.more.R)) ∧ W.cell? ⟨b11, 3, none⟩ = some (.slice A11 t.more.vs.length c11) ∧ b11 < W.heap.size ∧ VarsAt W t.more A11 c11 ∧ W.cell? ⟨b13, 0, none⟩ = some (.string (mk t.L)) ∧ W.cell? ⟨b13, 1, none⟩ = some (.string (mk t.S)) ∧ W.cell? ⟨b13, 2, none⟩ = some (.string (mk t.R)) ∧ W.cell? ⟨b13, 3, none⟩ = some (.slice A13 t.vs.length c13) ∧ b13 < W.heap.size ∧ VarsAt W t A13 c13 ∧ Below w.heap.size w W) → Calls Tryd.prog 10 #[.agg #[.string (mk t.L), .string (mk t.S), .string (mk t.R), .slice A5 t.vs.length c5]] W fun e W' => e = .returned (.string (mk t.text)) ∧ Below W.heap.size W W' from fun W h => stringT KT.out (h.2.2.2.2.2.2.2.2.2.2.2.1))
        have S7 := Lib.hid (show ∀ W, (W.cell? ⟨b3, 0, none⟩ = some (.string (mk t.L)) ∧ W.cell? ⟨b3, 1, none⟩ = some (.string (mk t.S)) ∧ W.cell? ⟨b3, 2, none⟩ = some (.string (mk t.R)) ∧ W.cell? ⟨b3, 3, none⟩ = some (.slice A3 t.vs.length c3) ∧ b3 < W.heap.size ∧ VarsAt W t A3 c3 ∧ W.cell? ⟨b5, 0, none⟩ = some (.string (mk t.L)) ∧ W.cell? ⟨b5, 1, none⟩ = some (.string (mk t.S)) ∧ W.cell? ⟨b5, 2, none⟩ = some (.string (mk t.R)) ∧ W.cell? ⟨b5, 3, none⟩ = some (.slice A5 t.vs.length c5) ∧ b5 < W.heap.size ∧ VarsAt W t A5 c5 ∧ W.cell? ⟨b7, 0, none⟩ = some (.string (mk t.L)) ∧ W.cell? ⟨b7, 1, none⟩ = some (.string (mk t.S)) ∧ W.cell? ⟨b7, 2, none⟩ = some (.string (mk t.R)) ∧ W.cell? ⟨b7, 3, none⟩ = some (.slice A7 t.vs.length c7) ∧ b7 < W.heap.size ∧ VarsAt W t A7 c7 ∧ W.cell? ⟨b11, 0, none⟩ = some (.string (mk t.more.L)) ∧ W.cell? ⟨b11, 1, none⟩ = some (.string (mk t.more.S)) ∧ W.cell? ⟨b11, 2, none⟩ = some (.string (mk t.more.R)) ∧ W.cell? ⟨b11, 3, none⟩ = some (.slice A11 t.more.vs.length c11) ∧ b11 < W.heap.size ∧ VarsAt W t.more A11 c11 ∧ W.cell? ⟨b13, 0, none⟩ = some (.string (mk t.L)) ∧ W.cell? ⟨b13, 1, none⟩ = some (.string (mk t.S)) ∧ W.cell? ⟨b13, 2, none⟩ = some (.string (mk t.R)) ∧ W.cell? ⟨b13, 3, none⟩ = some (.slice A13 t.vs.length c13) ∧ b13 < W.heap.size ∧ VarsAt W t A13 c13 ∧ Below w.heap.size w W) → Calls Tryd.prog 10 #[.agg #[.string (mk t.L), .string (mk t.S), .string (mk t.R), .slice A7 t.vs.length c7]] W fun e W' => e = .returned (.string (mk t.text)) ∧ Below W.heap.size W W' from fun W h => stringT KT.out (h.2.2.2.2.2.2.2.2.2.2.2.2.2.2.2.2.2.1))
        have S13 := Lib.hid (show ∀ W, (W.cell? ⟨b3, 0, none⟩ = some (.string (mk t.L)) ∧ W.cell? ⟨b3, 1, none⟩ = some (.string (mk t.S)) ∧ W.cell? ⟨b3, 2, none⟩ = some (.string (mk t.R)) ∧ W.cell? ⟨b3, 3, none⟩ = some (.slice A3 t.vs.length c3) ∧ b3 < W.heap.size ∧ VarsAt W t A3 c3 ∧ W.cell? ⟨b5, 0, none⟩ = some (.string (mk t.L)) ∧ W.cell? ⟨b5, 1, none⟩ = some (.string (mk t.S)) ∧ W.cell? ⟨b5, 2, none⟩ = some (.string (mk t.R)) ∧ W.cell? ⟨b5, 3, none⟩ = some (.slice A5 t.vs.length c5) ∧ b5 < W.heap.size ∧ VarsAt W t A5 c5 ∧ W.cell? ⟨b7, 0, none⟩ = some (.string (mk t.L)) ∧ W.cell? ⟨b7, 1, none⟩ = some (.string (mk t.S)) ∧ W.cell? ⟨b7, 2, none⟩ = some (.string (mk t.R)) ∧ W.cell? ⟨b7, 3, none⟩ = some (.slice A7 t.vs.length c7) ∧ b7 < W.heap.size ∧ VarsAt W t A7 c7 ∧ W.cell? ⟨b11, 0, none⟩ = some (.string (mk t.more.L)) ∧ W.cell? ⟨b11, 1, none⟩ = some (.string (mk t.more.S)) ∧ W.cell? ⟨b11, 2, none⟩ = some (.string (mk t.more.R)) ∧ W.cell? ⟨b11, 3, none⟩ = some (.slice A11 t.more.vs.length c11) ∧ b11 < W.heap.size ∧ VarsAt W t.more A11 c11 ∧ W.cell? ⟨b13, 0, none⟩ = some (.string (mk t.L)) ∧ W.cell? ⟨b13, 1, none⟩ = some (.string (mk t.S)) ∧ W.cell? ⟨b13, 2, none⟩ = some (.string (mk t.R)) ∧ W.cell? ⟨b13, 3, none⟩ = some (.slice A13 t.vs.length c13) ∧ b13 < W.heap.size ∧ VarsAt W t A13 c13 ∧ Below w.heap.size w W) → Calls Tryd.prog 10 #[.agg #[.string (mk t.L), .string (mk t.S), .string (mk t.R), .slice A13 t.vs.length c13]] W fun e W' => e = .returned (.string (mk t.text)) ∧ Below W.heap.size W W' from fun W h => stringT KT.out (h.2.2.2.2.2.2.2.2.2.2.2.2.2.2.2.2.2.2.2.2.2.2.2.2.2.2.2.2.2.1))
        have F1 := Lib.hid (show ∀ W, (W.cell? ⟨b3, 0, none⟩ = some (.string (mk t.L)) ∧ W.cell? ⟨b3, 1, none⟩ = some (.string (mk t.S)) ∧ W.cell? ⟨b3, 2, none⟩ = some (.string (mk t.R)) ∧ W.cell? ⟨b3, 3, none⟩ = some (.slice A3 t.vs.length c3) ∧ b3 < W.heap.size ∧ VarsAt W t A3 c3 ∧ W.cell? ⟨b5, 0, none⟩ = some (.string (mk t.L)) ∧ W.cell? ⟨b5, 1, none⟩ = some (.string (mk t.S)) ∧ W.cell? ⟨b5, 2, none⟩ = some (.string (mk t.R)) ∧ W.cell? ⟨b5, 3, none⟩ = some (.slice A5 t.vs.length c5) ∧ b5 < W.heap.size ∧ VarsAt W t A5 c5 ∧ W.cell? ⟨b7, 0, none⟩ = some (.string (mk t.L)) ∧ W.cell? ⟨b7, 1, none⟩ = some (.string (mk t.S)) ∧ W.cell? ⟨b7, 2, none⟩ = some (.string (mk t.R)) ∧ W.cell? ⟨b7, 3, none⟩ = some (.slice A7 t.vs.length c7) ∧ b7 < W.heap.size ∧ VarsAt W t A7 c7 ∧ W.cell? ⟨b11, 0, none⟩ = some (.string (mk t.more.L)) ∧ W.cell? ⟨b11, 1, none⟩ = some (.string (mk t.more.S)) ∧ W.cell? ⟨b11, 2, none⟩ = some (.string (mk t.more.R)) ∧ W.cell? ⟨b11, 3, none⟩ = some (.slice A11 t.more.vs.length c11) ∧ b11 < W.heap.size ∧ VarsAt W t.more A11 c11 ∧ W.cell? ⟨b13, 0, none⟩ = some (.string (mk t.L)) ∧ W.cell? ⟨b13, 1, none⟩ = some (.string (mk t.S)) ∧ W.cell? ⟨b13, 2, none⟩ = some (.string (mk t.R)) ∧ W.cell? ⟨b13, 3, none⟩ = some (.slice A13 t.vs.length c13) ∧ b13 < W.heap.size ∧ VarsAt W t A13 c13 ∧ Below w.heap.size w W) → Calls Tryd.prog 12 #[.agg #[.string (mk t.more.L), .string (mk t.more.S), .string (mk t.more.R), .slice A11 t.more.vs.length c11], .agg #[.string (mk t.L), .string (mk t.S), .string (mk t.R), .slice A3 t.vs.length c3]] W fun e W' => e = .returned (.bool true) ∧ Below W.heap.size W W' from fun W h => by rw [← more_fits t]; exact fitsTo KM.out KT.out (h.2.2.2.2.2.2.2.2.2.2.2.2.2.2.2.2.2.2.2.2.2.2.2.1) (h.2.2.2.2.2.1))
        have F2 := Lib.hid (show ∀ W, (W.cell? ⟨b3, 0, none⟩ = some (.string (mk t.L)) ∧ W.cell? ⟨b3, 1, none⟩ = some (.string (mk t.S)) ∧ W.cell? ⟨b3, 2, none⟩ = some (.string (mk t.R)) ∧ W.cell? ⟨b3, 3, none⟩ = some (.slice A3 t.vs.length c3) ∧ b3 < W.heap.size ∧ VarsAt W t A3 c3 ∧ W.cell? ⟨b5, 0, none⟩ = some (.string (mk t.L)) ∧ W.cell? ⟨b5, 1, none⟩ = some (.string (mk t.S)) ∧ W.cell? ⟨b5, 2, none⟩ = some (.string (mk t.R)) ∧ W.cell? ⟨b5, 3, none⟩ = some (.slice A5 t.vs.length c5) ∧ b5 < W.heap.size ∧ VarsAt W t A5 c5 ∧ W.cell? ⟨b7, 0, none⟩ = some (.string (mk t.L)) ∧ W.cell? ⟨b7, 1, none⟩ = some (.string (mk t.S)) ∧ W.cell? ⟨b7, 2, none⟩ = some (.string (mk t.R)) ∧ W.cell? ⟨b7, 3, none⟩ = some (.slice A7 t.vs.length c7) ∧ b7 < W.heap.size ∧ VarsAt W t A7 c7 ∧ W.cell? ⟨b11, 0, none⟩ = some (.string (mk t.more.L)) ∧ W.cell? ⟨b11, 1, none⟩ = some (.string (mk t.more.S)) ∧ W.cell? ⟨b11, 2, none⟩ = some (.string (mk t.more.R)) ∧ W.cell? ⟨b11, 3, none⟩ = some (.slice A11 t.more.vs.length c11) ∧ b11 < W.heap.size ∧ VarsAt W t.more A11 c11 ∧ W.cell? ⟨b13, 0, none⟩ = some (.string (mk t.L)) ∧ W.cell? ⟨b13, 1, none⟩ = some (.string (mk t.S)) ∧ W.cell? ⟨b13, 2, none⟩ = some (.string (mk t.R)) ∧ W.cell? ⟨b13, 3, none⟩ = some (.slice A13 t.vs.length c13) ∧ b13 < W.heap.size ∧ VarsAt W t A13 c13 ∧ Below w.heap.size w W) → Calls Tryd.prog 12 #[.agg #[.string (mk t.L), .string (mk t.S), .string (mk t.R), .slice A3 t.vs.length c3], .agg #[.string (mk t.more.L), .string (mk t.more.S), .string (mk t.more.R), .slice A11 t.more.vs.length c11]] W fun e W' => e = .returned (.bool false) ∧ Below W.heap.size W W' from fun W h => by rw [← more_not t]; exact fitsTo KT.out KM.out (h.2.2.2.2.2.1) (h.2.2.2.2.2.2.2.2.2.2.2.2.2.2.2.2.2.2.2.2.2.2.2.1))
        go_region_held3 (fun w' => w'.cell? ⟨b3, 0, none⟩ = some (.string (mk t.L)) ∧ w'.cell? ⟨b3, 1, none⟩ = some (.string (mk t.S)) ∧ w'.cell? ⟨b3, 2, none⟩ = some (.string (mk t.R)) ∧ w'.cell? ⟨b3, 3, none⟩ = some (.slice A3 t.vs.length c3) ∧ b3 < w'.heap.size ∧ VarsAt w' t A3 c3 ∧ w'.cell? ⟨b5, 0, none⟩ = some (.string (mk t.L)) ∧ w'.cell? ⟨b5, 1, none⟩ = some (.string (mk t.S)) ∧ w'.cell? ⟨b5, 2, none⟩ = some (.string (mk t.R)) ∧ w'.cell? ⟨b5, 3, none⟩ = some (.slice A5 t.vs.length c5) ∧ b5 < w'.heap.size ∧ VarsAt w' t A5 c5 ∧ w'.cell? ⟨b7, 0, none⟩ = some (.string (mk t.L)) ∧ w'.cell? ⟨b7, 1, none⟩ = some (.string (mk t.S)) ∧ w'.cell? ⟨b7, 2, none⟩ = some (.string (mk t.R)) ∧ w'.cell? ⟨b7, 3, none⟩ = some (.slice A7 t.vs.length c7) ∧ b7 < w'.heap.size ∧ VarsAt w' t A7 c7 ∧ w'.cell? ⟨b11, 0, none⟩ = some (.string (mk t.more.L)) ∧ w'.cell? ⟨b11, 1, none⟩ = some (.string (mk t.more.S)) ∧ w'.cell? ⟨b11, 2, none⟩ = some (.string (mk t.more.R)) ∧ w'.cell? ⟨b11, 3, none⟩ = some (.slice A11 t.more.vs.length c11) ∧ b11 < w'.heap.size ∧ VarsAt w' t.more A11 c11 ∧ w'.cell? ⟨b13, 0, none⟩ = some (.string (mk t.L)) ∧ w'.cell? ⟨b13, 1, none⟩ = some (.string (mk t.S)) ∧ w'.cell? ⟨b13, 2, none⟩ = some (.string (mk t.R)) ∧ w'.cell? ⟨b13, 3, none⟩ = some (.slice A13 t.vs.length c13) ∧ b13 < w'.heap.size ∧ VarsAt w' t A13 c13 ∧ Below w.heap.size w w')
          (first | (exact five_keep (by assumption) (by assumption)) | (exact five_keep (Below.refl _ _).drew start) | go_keep)
          (first | (go_at_call 10; (with_reducible refine (S3.out _ (by assumption)).mono ?_); rintro e w5 ⟨rfl, hb5⟩) | (go_at_call 10; (with_reducible refine (S5.out _ (by assumption)).mono ?_); rintro e w5 ⟨rfl, hb5⟩) | (go_at_call 10; (with_reducible refine (S7.out _ (by assumption)).mono ?_); rintro e w5 ⟨rfl, hb5⟩) | (go_at_call 10; (with_reducible refine (S13.out _ (by assumption)).mono ?_); rintro e w5 ⟨rfl, hb5⟩) | (go_at_call 12; (with_reducible refine (F1.out _ (by assumption)).mono ?_); rintro e w5 ⟨rfl, hb5⟩) | (go_at_call 12; (with_reducible refine (F2.out _ (by assumption)).mono ?_); rintro e w5 ⟨rfl, hb5⟩))
        go_wp2
        go_ret
        exact ⟨rfl, five_end (by assumption)⟩
end Go.Proofs.YtldmldgkjkgkcaaDoor
