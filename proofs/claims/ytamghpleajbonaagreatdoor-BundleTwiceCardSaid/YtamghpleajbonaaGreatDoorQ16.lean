/-
  Several texts put together (part 16): what the law and the program call, walked; their contracts.
-/
import Derived.Test.YtamghpleajbonaaGreatDoorQ14
import Derived.Lib.IndexAny
import Derived.Lib.Bytealg
namespace Go.Proofs.YtamghpleajbonaaGreatDoor
open Go.RowKit
set_option linter.unusedVariables false
set_option linter.unusedSimpArgs false
theorem line_nat (s : ByteArray) (i : Nat) (hs : s.size ≤ 4000000) (hi : i ≤ s.size) (w : World) : Calls Tryz.prog 60 #[.string s, .int .i64 i] w fun e w' => e = .returned (.int .i64 (li s i : Nat)) ∧ w = w' := by
  have h := line_any s (i : Int) w (by omega)
  have e : lineI s.data.toList (i : Int) = (li s i : Nat) := by
    unfold lineI li
    by_cases hl : i < s.size
    · rw [if_pos ⟨by omega, by rw [size_data]; omega⟩, Int.toNat_natCast]
    · rw [if_neg (by rw [size_data]; omega)]
      have := behN_end nlB s.data.toList i (by rw [size_data]; omega)
      rw [this]
  rw [e] at h
  exact h
set_option maxHeartbeats 1000000 in
theorem behind_any (s : ByteArray) (i : Nat) (hs : s.size ≤ 4000000) (hi : i ≤ s.size) (w : World) : Calls Tryz.prog 40 #[.string s, .int .i64 i] w fun e w' => e = .returned (.int .i64 (beh s i : Nat)) ∧ w = w' := by
  have hL := fun W => line_nat s i hs hi W
  have hok := li_ok s i hi
  obtain ⟨l, hl⟩ : ∃ l, li s i = l := ⟨_, rfl⟩
  unfold beh
  rw [hl] at hL hok ⊢
  have HL := Lib.hid hL
  have hl0 : (l : Int) ≤ 4000000 := by omega
  clear hL hl
  by_cases h : l < s.size
  · rw [if_pos h]
    have h1 : ((l : Int) + 1) ≤ (s.size : Int) := by omega
    have h2 : min ((l : Int) + 1) (s.size : Int) = (l : Int) + 1 := by omega
    go_enter Tryz.func40, Tryz.ntmps40
    go_wp2_with fail
    go_at_call 60
    refine (HL.out _).mono ?_
    rintro e w' ⟨rfl, rfl⟩
    go_wp2
    go_ret
    exact ⟨by go_num, rfl⟩
  · rw [if_neg h]
    have h0 : l = s.size := by omega
    have h1 : ¬ ((l : Int) + 1) ≤ (s.size : Int) := by omega
    have h2 : min ((l : Int) + 1) (s.size : Int) = (s.size : Int) := by omega
    clear h0
    go_enter Tryz.func40, Tryz.ntmps40
    go_wp2_with fail
    go_at_call 60
    refine (HL.out _).mono ?_
    rintro e w' ⟨rfl, rfl⟩
    go_wp2
    go_ret
    exact ⟨rfl, rfl⟩
theorem isAt_get (s : ByteArray) (q : Nat) (hc : q < s.size) (c : UInt8) : isAt s q c = ((s[q]'hc).toNat == c.toNat) := by
  unfold isAt at0
  rw [decide_eq_true hc, Bool.true_and, List.getD_eq_getElem?_getD, List.getElem?_eq_getElem (by rw [size_data]; exact hc), Option.getD_some, Bool.eq_iff_iff, beq_iff_eq, beq_iff_eq]
  exact ⟨fun h => by rw [show (s.data.toList[q]'(by rw [size_data]; exact hc)) = s[q]'hc from rfl] at h; rw [h], fun h => UInt8.toNat_inj.1 h⟩
theorem passE_go (s : ByteArray) (i : Nat) (hi : i < s.size) (h : ¬ (sp s i < s.size ∧ isAt s (sp s i) 10 = false)) : passE s i = passE s (beh s (sp s i)) ∧ i < beh s (sp s i) ∧ beh s (sp s i) ≤ s.size := by
  have h1 : i ≤ sp s i := sp_ge s i
  have h2 : sp s i ≤ s.size := by have := behN_le spB s.data.toList i (by rw [size_data]; omega); rw [size_data] at this; exact this
  have h3 := beh_ok s (sp s i) h2
  have h4 : i < beh s (sp s i) := by
    by_cases hl : sp s i < s.size
    · have := h3.2.2 hl; omega
    · unfold beh
      have := li_ok s (sp s i) h2
      rw [if_neg (by omega)]
      exact hi
  refine ⟨?_, h4, h3.2.1⟩
  rw [passE, dif_pos hi, if_neg h, dif_pos h4]
set_option maxHeartbeats 2000000 in
set_option maxRecDepth 100000 in
theorem passEmpty_any (s : ByteArray) (i : Nat) (hs : s.size ≤ 4000000) (hi : i ≤ s.size) (w : World) : Calls Tryz.prog 28 #[.string s, .int .i64 i] w fun e w' => e = .returned (.int .i64 (passE s i : Nat)) ∧ Below w.heap.size w w' := by
  have HS := Lib.hid (fun j W (hj : j ≤ s.size) => ((endSpaces (s := s)).2 j W hs hj).2.2)
  have HB := Lib.hid (fun j W (hj : j ≤ s.size) => behind_any s j hs hj W)
  obtain ⟨R, hR⟩ : ∃ R, passE s i = R := ⟨_, rfl⟩
  rw [hR]
  have HR := Lib.hid hR
  clear hR
  go_enter Tryz.func28, Tryz.ntmps28
  go_wp2
  go_loopw [1] (fun t1 wr => ∃ j : Nat, t1 = .int .i64 j ∧ j ≤ s.size ∧ Hid (passE s j = R) ∧ Hid (Below w.heap.size w wr)) (fun t1 _ => s.size - (intOf t1).toNat)
  case atStart => exact ⟨i, rfl, hi, HR, Below.refl _ _⟩
  case round =>
    obtain ⟨j, rfl, hj, HP, HBel⟩ := hrel
    have hj0 : (j : Int) ≤ 4000000 := by omega
    by_cases hlt : j < s.size
    · have d1 : decide ((j : Int) < (s.size : Int)) = true := decide_eq_true (by omega)
      have d2 : (j : Int) < (s.size : Int) := by omega
      have hS := fun W => HS.out j W hj
      have h2 : sp s j ≤ s.size := by have := behN_le spB s.data.toList j (by rw [size_data]; omega); rw [size_data] at this; exact this
      have hgo := passE_go s j hlt
      have hst : (sp s j < s.size ∧ isAt s (sp s j) 10 = false) → passE s j = j := fun h => by rw [passE, dif_pos hlt, if_pos h]
      have hBb := fun W => HB.out (sp s j) W h2
      obtain ⟨q, hq⟩ : ∃ q, sp s j = q := ⟨_, rfl⟩
      obtain ⟨nx, hnx⟩ : ∃ nx, beh s (sp s j) = nx := ⟨_, rfl⟩
      rw [hnx] at hgo hBb
      rw [hq] at hS h2 hgo hst hBb
      have HSj := Lib.hid hS
      have HBj := Lib.hid hBb
      have Hgo := Lib.hid hgo
      have Hst := Lib.hid hst
      have hq0 : (q : Int) ≤ 4000000 := by omega
      have hq1 : (0 : Int) ≤ (q : Int) := by omega
      clear hS hgo hst hBb hq hnx
      go_wp2_with fail
      go_at_call 39
      refine (HSj.out _).mono ?_
      rintro e w1 ⟨rfl, hb⟩
      have HB1 := Lib.hid (HBel.out.trans (hb.mono HBel.out.size))
      clear hb
      by_cases hc : q < s.size
      · have d3 : decide ((q : Int) < (s.size : Int)) = true := decide_eq_true (by omega)
        have d4 : (q : Int) < (s.size : Int) := by omega
        have e1 : isAt s q 10 = ((s[q]'hc).toNat == 10) := isAt_get s q hc 10
        by_cases hb10 : (s[q]'hc).toNat = 10
        · have d5 : (((s[q]'hc).toNat : Int) != 10) = false := by rw [bne_eq_false_iff_eq]; omega
          obtain ⟨h3, h4, h5⟩ := Hgo.out (fun h => by have := h.2; rw [e1, hb10] at this; cases this)
          have H3 := Lib.hid h3
          clear h3 e1 hb10
          go_wp2_with fail
          go_at_call 40
          refine (HBj.out _).mono ?_
          rintro e w2 ⟨rfl, rfl⟩
          go_wp2
          go_roundw
          case rel => exact ⟨nx, rfl, h5, H3.out.symm.trans HP.out, HB1⟩
          case measure => simp [intOf]; omega
        · have d5 : (((s[q]'hc).toNat : Int) != 10) = true := by rw [bne_iff_ne]; omega
          have h3 := Hst.out ⟨hc, by rw [e1, beq_eq_false_iff_ne]; exact hb10⟩
          have H3 := Lib.hid h3
          clear h3 e1 hb10
          go_wp2
          go_ret
          exact ⟨by rw [← HP.out, H3.out]; rfl, HB1.out⟩
      · have d3 : decide ((q : Int) < (s.size : Int)) = false := decide_eq_false (by omega)
        have d4 : ¬ (q : Int) < (s.size : Int) := by omega
        obtain ⟨h3, h4, h5⟩ := Hgo.out (fun h => hc h.1)
        have H3 := Lib.hid h3
        clear h3
        go_wp2_with fail
        go_at_call 40
        refine (HBj.out _).mono ?_
        rintro e w2 ⟨rfl, rfl⟩
        go_wp2
        go_roundw
        case rel => exact ⟨nx, rfl, h5, H3.out.symm.trans HP.out, HB1⟩
        case measure => simp [intOf]; omega
    · have d1 : decide ((j : Int) < (s.size : Int)) = false := decide_eq_false (by omega)
      have d2 : ¬ (j : Int) < (s.size : Int) := by omega
      have h3 : passE s j = j := by rw [passE, dif_neg hlt]
      have H3 := Lib.hid h3
      clear h3
      go_wp2
      go_ret
      exact ⟨by rw [← HP.out, H3.out]; rfl, HBel.out⟩
set_option maxHeartbeats 2000000 in
set_option maxRecDepth 100000 in
theorem mayBegin_any (s : ByteArray) (i : Nat) (hs : s.size ≤ 4000000) (hi : i < s.size) (w : World) : Calls Tryz.prog 66 #[.string s, .int .i64 i] w fun e w' => e = .returned (.bool (mayB s i)) ∧ Below w.heap.size w w' := by
  have hN := fun W => ((endName (s := s)).2 i W hs (Nat.le_of_lt hi)).2.2
  obtain ⟨m, hm⟩ : ∃ m, nm s i = m := ⟨_, rfl⟩
  have e1 := isAt_get s i hi 35
  have e2 := isAt_get s i hi 45
  unfold mayB
  rw [hm] at hN
  rw [e1, e2, hm]
  have HN := Lib.hid hN
  obtain ⟨c, hc⟩ : ∃ c, (s[i]'hi).toNat = c := ⟨_, rfl⟩
  rw [hc, show (35 : UInt8).toNat = 35 from rfl, show (45 : UInt8).toNat = 45 from rfl]
  have hi0 : (i : Int) < (s.size : Int) := by omega
  have hi1 : (0 : Int) ≤ (i : Int) := by omega
  clear hN e1 e2 hm
  by_cases h1 : c = 35
  · have d1 : ((c : Int) == 35) = true := beq_iff_eq.2 (by omega)
    have E : (c == 35 || c == 45 || decide (i < m)) = true := by rw [h1]; rfl
    rw [E]
    clear h1 E
    go_enter Tryz.func66, Tryz.ntmps66
    go_wp2
    go_ret
    exact ⟨rfl, Below.refl _ _⟩
  have d1 : ((c : Int) == 35) = false := beq_eq_false_iff_ne.2 (by omega)
  by_cases h2 : c = 45
  · have d2 : ((c : Int) == 45) = true := beq_iff_eq.2 (by omega)
    have E : (c == 35 || c == 45 || decide (i < m)) = true := by rw [h2]; rfl
    rw [E]
    clear h1 h2 E
    go_enter Tryz.func66, Tryz.ntmps66
    go_wp2
    go_ret
    exact ⟨rfl, Below.refl _ _⟩
  have d2 : ((c : Int) == 45) = false := beq_eq_false_iff_ne.2 (by omega)
  have E : (c == 35 || c == 45 || decide (i < m)) = decide (i < m) := by rw [beq_eq_false_iff_ne.2 h1, beq_eq_false_iff_ne.2 h2]; rfl
  rw [E]
  clear h1 h2 E
  go_enter Tryz.func66, Tryz.ntmps66
  go_wp2_with fail
  go_at_call 82
  refine (HN.out _).mono ?_
  rintro e w1 ⟨rfl, hb⟩
  have HB := Lib.hid hb
  clear hb
  go_wp2
  go_ret
  refine ⟨?_, HB.out⟩
  by_cases h : i < m
  · simp [h]
  · simp [h]
abbrev zEn : Array Value := #[.int .i64 0, .int .i64 0, .string ⟨#[]⟩, .string ⟨#[]⟩, .slice none 0 0, .slice none 0 0, .int .i64 0, .int .i64 0]
theorem junk_go (s : ByteArray) (i : Nat) (hi : i < s.size) : (mayB s i = true → junkTo s i = i) ∧ (mayB s i = false → junkTo s i = junkTo s (beh s i) ∧ i < beh s i ∧ beh s i ≤ s.size) := by
  have h := beh_ok s i (Nat.le_of_lt hi)
  refine ⟨fun hm => by rw [junkTo, dif_neg (by rw [hm]; simp)], fun hm => ⟨by rw [junkTo, dif_pos ⟨hi, hm⟩, dif_pos (h.2.2 hi)], h.2.2 hi, h.2.1⟩⟩
theorem junk_end (s : ByteArray) (i : Nat) (hi : ¬ i < s.size) : junkTo s i = i := by rw [junkTo, dif_neg (fun h => hi h.1)]
theorem cellsE {w : World} {k : Nat} {x0 x1 x2 x3 x4 x5 x6 x7 : Value} {t : TypeId} (h : BoxAt w k #[x0, x1, x2, x3, x4, x5, x6, x7] t) :
    w.cell? ⟨k, 0, none⟩ = some x0 ∧ w.cell? ⟨k, 1, none⟩ = some x1 ∧ w.cell? ⟨k, 2, none⟩ = some x2 ∧ w.cell? ⟨k, 3, none⟩ = some x3 ∧ w.cell? ⟨k, 4, none⟩ = some x4 ∧ w.cell? ⟨k, 5, none⟩ = some x5 ∧ w.cell? ⟨k, 6, none⟩ = some x6 ∧ w.cell? ⟨k, 7, none⟩ = some x7 ∧
    w.frozen? ⟨k, 0, none⟩ = false ∧ w.frozen? ⟨k, 1, none⟩ = false ∧ w.frozen? ⟨k, 2, none⟩ = false ∧ w.frozen? ⟨k, 3, none⟩ = false ∧ w.frozen? ⟨k, 4, none⟩ = false ∧ w.frozen? ⟨k, 5, none⟩ = false ∧ w.frozen? ⟨k, 6, none⟩ = false ∧ w.frozen? ⟨k, 7, none⟩ = false :=
  ⟨h.cell 0, h.cell 1, h.cell 2, h.cell 3, h.cell 4, h.cell 5, h.cell 6, h.cell 7, Lib.frozen_of_heap h 0, Lib.frozen_of_heap h 1, Lib.frozen_of_heap h 2, Lib.frozen_of_heap h 3, Lib.frozen_of_heap h 4, Lib.frozen_of_heap h 5, Lib.frozen_of_heap h 6, Lib.frozen_of_heap h 7⟩
set_option maxRecDepth 100000 in
theorem resE {fn : Func} {A : Nat} {tmps : Array Value} {w : World} {b : Nat} {x0 x1 x2 x3 x4 x5 x6 x7 : Value} {t : TypeId} (hres : fn.results = #[.cell A 26]) (ha : tmps.getD A undef = .pointer (some ⟨b, 0, none⟩))
    (hb : BoxAt w b #[x0, x1, x2, x3, x4, x5, x6, x7] t) : (results fn tmps).run Tryz.prog w = .ok (.agg #[x0, x1, x2, x3, x4, x5, x6, x7]) w := by
  obtain ⟨q0, q1, q2, q3, q4, q5, q6, q7, _⟩ := cellsE hb
  have ha' : tmps[A]?.getD undef = .pointer (some ⟨b, 0, none⟩) := by rw [← ha]; simp
  simp [results, hres, ha', go_sem, q0, q1, q2, q3, q4, q5, q6, q7]
theorem endE {fn : Func} {R : Ending → World → Prop} {a : Act} {w2 : World} {A b : Nat} {x0 x1 x2 x3 x4 x5 x6 x7 : Value} {t : TypeId} (hres : fn.results = #[.cell A 26]) (hbox : BoxAt w2 b #[x0, x1, x2, x3, x4, x5, x6, x7] t)
    (ha : a.tmps.getD A undef = .pointer (some ⟨b, 0, none⟩)) (hd : a.defers = []) (hR : R (.returned (.agg #[x0, x1, x2, x3, x4, x5, x6, x7])) w2) : bodyPost Tryz.prog fn R .ret a w2 :=
  bodyPost_ret (resE hres ha hbox) hd hR
theorem below_set8 {B : Nat} {a w : World} (h : Below B a w) {b : Nat} (hb : B ≤ b) (x0 x1 x2 x3 x4 x5 x6 x7 : Value) : Below B a (set8 w b x0 x1 x2 x3 x4 x5 x6 x7) :=
  (((((((h.setCell (p := ⟨b, 0, none⟩) hb x0).setCell (p := ⟨b, 1, none⟩) hb x1).setCell (p := ⟨b, 2, none⟩) hb x2).setCell (p := ⟨b, 3, none⟩) hb x3).setCell (p := ⟨b, 4, none⟩) hb x4).setCell (p := ⟨b, 5, none⟩) hb x5).setCell (p := ⟨b, 6, none⟩) hb x6).setCell (p := ⟨b, 7, none⟩) hb x7
set_option maxHeartbeats 2000000 in
set_option maxRecDepth 100000 in
theorem junk_any (s : ByteArray) (i : Nat) (hs : s.size ≤ 4000000) (hi : i < s.size) (w : World) : Calls Tryz.prog 43 #[.string s, .int .i64 i] w fun e w' => e = .returned (entV 3 0 (s.extract i (junkTo s (beh s i))) ⟨#[]⟩ (.slice none 0 0) (.slice none 0 0) i (junkTo s (beh s i) : Nat)) ∧ Below w.heap.size w w' := by
  have hB0 := fun W => behind_any s i hs (Nat.le_of_lt hi) W
  have hok := beh_ok s i (Nat.le_of_lt hi)
  have hok2 := hok.2.2 hi
  obtain ⟨b, hb⟩ : ∃ b, beh s i = b := ⟨_, rfl⟩
  rw [hb] at hB0 hok hok2 ⊢
  have HB0 := Lib.hid hB0
  have HB := Lib.hid (fun j W (hj : j ≤ s.size) => behind_any s j hs hj W)
  have HM := Lib.hid (fun j W (hj : j < s.size) => mayBegin_any s j hs hj W)
  obtain ⟨R, hR⟩ : ∃ R, junkTo s b = R := ⟨_, rfl⟩
  rw [hR]
  have HR := Lib.hid hR
  have hc0 := BoxAt.new w zEn 26
  have HC0 := Lib.hid hc0
  clear hB0 hb hR hc0
  unfold entV
  go_enter Tryz.func43, Tryz.ntmps43
  go_wp2_with fail
  go_at_call 40
  refine (HB0.out _).mono ?_
  rintro e w1 ⟨rfl, rfl⟩
  go_wp2
  go_loopw [5] (fun t5 wr => ∃ j : Nat, t5 = .int .i64 j ∧ i ≤ j ∧ j ≤ s.size ∧ Hid (junkTo s j = R) ∧ Hid (BoxAt wr w.heap.size zEn 26) ∧ Hid (Below w.heap.size w wr)) (fun t5 _ => s.size - (intOf t5).toNat)
  case atStart => exact ⟨b, rfl, hok.1, hok.2.1, HR, HC0.out, (Below.refl _ _).alloc (Nat.le_refl _) _⟩
  case round =>
    obtain ⟨j, rfl, hij, hj, HJ, HC, HBel⟩ := hrel
    have hj0 : (j : Int) ≤ 4000000 := by omega
    obtain ⟨q0, q1, q2, q3, q4, q5, q6, q7, p0, p1, p2, p3, p4, p5, p6, p7⟩ := cellsE HC.out
    have hlt0 := HC.out.lt
    by_cases hlt : j < s.size
    · have d1 : decide ((j : Int) < (s.size : Int)) = true := decide_eq_true (by omega)
      have d2 : (j : Int) < (s.size : Int) := by omega
      have hM := fun W => HM.out j W hlt
      have hgo := junk_go s j hlt
      have hBb := fun W => HB.out j W hj
      obtain ⟨b2, hb2⟩ : ∃ b, mayB s j = b := ⟨_, rfl⟩
      obtain ⟨nx, hnx⟩ : ∃ nx, beh s j = nx := ⟨_, rfl⟩
      rw [hb2] at hM hgo
      rw [hnx] at hgo hBb
      have HMj := Lib.hid hM
      have Hgo := Lib.hid hgo
      have HBj := Lib.hid hBb
      clear hM hgo hBb hb2 hnx
      go_wp2_with fail
      go_at_call 66
      refine (HMj.out _).mono ?_
      rintro e w2 ⟨rfl, hb⟩
      have HB2 := Lib.hid (HBel.out.trans (hb.mono HBel.out.size))
      have hc2 := HC.out.later hb
      have HC2 := Lib.hid hc2
      clear hb
      cases b2
      case false =>
        obtain ⟨h3, h4, h5⟩ := Hgo.out.2 rfl
        have H3 := Lib.hid h3
        clear h3 hc2
        go_wp2_with fail
        go_at_call 40
        refine (HBj.out _).mono ?_
        rintro e w3 ⟨rfl, rfl⟩
        go_wp2
        go_roundw
        case rel => exact ⟨nx, rfl, by omega, h5, H3.out.symm.trans HJ.out, HC2, HB2⟩
        case measure => simp [intOf]; omega
      case true =>
        have h3 := Hgo.out.1 rfl
        have hRj : R = j := HJ.out.symm.trans h3
        obtain ⟨r0, r1, r2, r3, r4, r5, r6, r7, f0, f1, f2, f3, f4, f5, f6, f7⟩ := cellsE hc2
        have hlt2 := hc2.lt
        have HRj := Lib.hid hRj
        clear h3 hc2 hRj q0 q1 q2 q3 q4 q5 q6 q7 p0 p1 p2 p3 p4 p5 p6 p7
        go_wp2
        refine endE Tryz.results43 (box_set8 HC2.out _ _ _ _ _ _ _ _) rfl rfl ⟨by rw [HRj.out], below_set8 HB2.out (Nat.le_refl _) _ _ _ _ _ _ _ _⟩
    · have d1 : decide ((j : Int) < (s.size : Int)) = false := decide_eq_false (by omega)
      have d2 : ¬ (j : Int) < (s.size : Int) := by omega
      have hRj : R = j := HJ.out.symm.trans (junk_end s j hlt)
      have HRj := Lib.hid hRj
      clear hRj
      go_wp2
      refine endE Tryz.results43 (box_set8 HC.out _ _ _ _ _ _ _ _) rfl rfl ⟨by rw [HRj.out], below_set8 HBel.out (Nat.le_refl _) _ _ _ _ _ _ _ _⟩
end Go.Proofs.YtamghpleajbonaaGreatDoor

namespace Go.Proofs.YtamghpleajbonaaGreatDoor
open Go.RowKit
set_option linter.unusedVariables false
set_option linter.unusedSimpArgs false
theorem tw_in {p q : UInt8 → Bool} (h : ∀ c, p c = true → q c = true) : ∀ l : List UInt8, (l.takeWhile q).takeWhile p = l.takeWhile p
  | [] => rfl
  | a :: l => by
    by_cases hp : p a = true
    · rw [List.takeWhile_cons, h a hp, if_pos rfl, List.takeWhile_cons, List.takeWhile_cons, hp, if_pos rfl, if_pos rfl, tw_in h l]
    · by_cases hq : q a = true
      · rw [List.takeWhile_cons, hq, if_pos rfl, List.takeWhile_cons, List.takeWhile_cons, if_neg hp, if_neg hp]
      · rw [List.takeWhile_cons, if_neg hq, List.takeWhile_cons, if_neg hp]; rfl
theorem dw_drop (p : UInt8 → Bool) : ∀ l : List UInt8, l.dropWhile p = l.drop (l.takeWhile p).length
  | [] => rfl
  | a :: l => by
    by_cases h : p a = true
    · rw [List.dropWhile_cons, List.takeWhile_cons, if_pos h, if_pos h, List.length_cons, List.drop_succ_cons, dw_drop p l]
    · rw [List.dropWhile_cons, List.takeWhile_cons, if_neg h, if_neg h]; rfl
theorem tw_take (q : UInt8 → Bool) (l : List UInt8) : l.take (l.takeWhile q).length = l.takeWhile q := by
  induction l with
  | nil => rfl
  | cons a l ih =>
    by_cases h : q a = true
    · rw [List.takeWhile_cons, if_pos h, List.length_cons, List.take_succ_cons, ih]
    · rw [List.takeWhile_cons, if_neg h]; rfl
theorem tw_len (p : UInt8 → Bool) : ∀ l : List UInt8, (l.takeWhile p).length ≤ l.length
  | [] => Nat.le_refl _
  | a :: l => by
    by_cases h : p a = true
    · rw [List.takeWhile_cons, if_pos h, List.length_cons, List.length_cons]; have := tw_len p l; omega
    · rw [List.takeWhile_cons, if_neg h]; exact Nat.zero_le _
theorem hs_ok (s : ByteArray) (i : Nat) (hi : i ≤ s.size) : i ≤ hs s i ∧ hs s i ≤ li s i := by
  refine ⟨behN_ge _ _ _, ?_⟩
  unfold hs li behN
  have h : ∀ c, hsB c = true → nlB c = true := fun c hc => by
    unfold hsB at hc
    rw [beq_iff_eq] at hc
    rw [hc]; decide
  rw [← tw_in h]
  have := tw_len hsB ((s.data.toList.drop i).takeWhile nlB)
  omega
theorem extract_list (s : ByteArray) (i j : Nat) : (s.extract i j).data.toList = (s.data.toList.take j).drop i := by
  rw [List.drop_take]
  simp [ByteArray.extract, ByteArray.copySlice]
theorem trim_hash (s : ByteArray) (i : Nat) (hi : i ≤ s.size) : (⟨(Lib.trimLeftB (s.extract i (li s i)).data.toList 35).toArray⟩ : ByteArray) = s.extract (hs s i) (li s i) := by
  apply bytes_eq
  rw [extract_list, extract_list]
  have h : ∀ c, hsB c = true → nlB c = true := fun c hc => by
    unfold hsB at hc
    rw [beq_iff_eq] at hc
    rw [hc]; decide
  have e1 : (s.data.toList.take (li s i)).drop i = (s.data.toList.drop i).takeWhile nlB := by
    rw [List.drop_take]
    unfold li behN
    rw [Nat.add_sub_cancel_left, tw_take]
  have e2 : hs s i = i + (((s.data.toList.drop i).takeWhile nlB).takeWhile hsB).length := by
    unfold hs behN
    rw [tw_in h]
  rw [e2, ← List.drop_drop, e1]
  show Lib.trimLeftB _ 35 = _
  exact dw_drop hsB _
theorem trimP_space (B : ByteArray) : (Lib.hasPrefix B.data.toList [32] = true → 0 < B.size ∧ (⟨(Lib.trimPrefix B.data.toList [32]).toArray⟩ : ByteArray) = B.extract 1 B.size) ∧ (Lib.hasPrefix B.data.toList [32] = false → (⟨(Lib.trimPrefix B.data.toList [32]).toArray⟩ : ByteArray) = B) := by
  constructor
  · intro h
    refine ⟨?_, ?_⟩
    · rw [← size_data]
      cases e : B.data.toList with
      | nil => rw [e] at h; cases h
      | cons a l => simp
    · apply bytes_eq
      unfold Lib.trimPrefix
      rw [h, if_pos rfl, extract_drop]
      rfl
  · intro h
    apply bytes_eq
    unfold Lib.trimPrefix
    rw [h, if_neg (by simp)]
theorem ext_ext (s : ByteArray) (i j : Nat) (hj : j ≤ s.size) (hi : i < j) : (s.extract i j).extract 1 (s.extract i j).size = s.extract (i + 1) j := by
  apply bytes_eq
  rw [extract_drop, extract_list, extract_list, List.drop_drop]
theorem pre_space (s : ByteArray) (i j : Nat) (hj : j ≤ s.size) (hi : i ≤ j) : Lib.hasPrefix (s.extract i j).data.toList [32] = (decide (i < j) && isAt s i 32) := by
  by_cases h : i < j
  · rw [decide_eq_true h, Bool.true_and, ← isAt_prefix s i 32 (by omega), extract_list, extract_drop]
    unfold Lib.hasPrefix
    have hl : i < s.data.toList.length := by rw [size_data]; omega
    have hl2 : i < (s.data.toList.take j).length := by rw [List.length_take, size_data]; omega
    rw [List.drop_eq_getElem_cons hl, List.drop_eq_getElem_cons hl2, List.getElem_take]
    simp [List.isPrefixOf]
  · have e : i = j := by omega
    subst e
    rw [decide_eq_false h, Bool.false_and]
    have : (s.extract i i).data.toList = [] := by
      rw [extract_list, List.drop_eq_nil_of_le]
      rw [List.length_take]; omega
    rw [this]
    rfl
set_option maxHeartbeats 2000000 in
set_option maxRecDepth 100000 in
theorem commentLine_any (s : ByteArray) (i : Nat) (hsz : s.size ≤ 4000000) (hi : i ≤ s.size) (w : World) : Calls Tryz.prog 61 #[.string s, .int .i64 i] w fun e w' => e = .returned (.tuple #[.int .i64 ((comL s i).1 : Nat), .string (comL s i).2]) ∧ w = w' := by
  have hL := fun W => line_nat s i hsz hi W
  have hok := li_ok s i hi
  have hh := hs_ok s i hi
  have ht := trim_hash s i hi
  obtain ⟨R, hR⟩ : ∃ R, comL s i = R := ⟨_, rfl⟩
  rw [hR]
  unfold comL at hR
  obtain ⟨l, hl⟩ : ∃ l, li s i = l := ⟨_, rfl⟩
  obtain ⟨h, he⟩ : ∃ h, hs s i = h := ⟨_, rfl⟩
  rw [hl, he] at hh ht hR
  rw [hl] at hL hok
  have hT := fun W => Tryz.strings_TrimLeft_one (s.extract i l) 35 (by decide) W
  rw [ht] at hT
  have hC := fun W => Tryz.strings_CutPrefix (s.extract h l) ⟨#[32]⟩ W
  have hp := pre_space s h l hok.2 hh.2
  have hz1 : (s.extract i l).size = l - i := by rw [ByteArray.size_extract]; omega
  have hz2 : (s.extract h l).size = l - h := by rw [ByteArray.size_extract]; omega
  have hX := trimP_space (s.extract h l)
  have hE := fun hlt => ext_ext s h l hok.2 hlt
  have hem := ext_empty s h l hh.2 hok.2
  obtain ⟨B, hB⟩ : ∃ B, s.extract h l = B := ⟨_, rfl⟩
  obtain ⟨X, hXe⟩ : ∃ X : ByteArray, ⟨(Lib.trimPrefix B.data.toList [32]).toArray⟩ = X := ⟨_, rfl⟩
  obtain ⟨P, hP⟩ : ∃ P, Lib.hasPrefix B.data.toList [32] = P := ⟨_, rfl⟩
  rw [hB] at hT hC hp hz2 hX hE hem
  have Hem := Lib.hid hem
  rw [show (⟨#[32]⟩ : ByteArray).data.toList = [32] from rfl, hXe, hP] at hC
  rw [hXe, hP] at hX
  rw [hP] at hp
  have HL := Lib.hid hL
  have HT := Lib.hid hT
  have HC := Lib.hid hC
  have HR := Lib.hid hR
  have HX := Lib.hid hX
  have HE := Lib.hid hE
  have Hp := Lib.hid hp
  have hl0 : (l : Int) ≤ (s.size : Int) := by omega
  have hss : (s.size : Int) ≤ 4000000 := by omega
  have hi0 : (i : Int) ≤ (l : Int) := by omega
  obtain ⟨x, hx⟩ : ∃ x, h = i + x := ⟨h - i, by omega⟩
  obtain ⟨m, hm⟩ : ∃ m, l - i = m := ⟨_, rfl⟩
  obtain ⟨y, hy⟩ : ∃ y, l - h = y := ⟨_, rfl⟩
  have hd : (m : Int) - (y : Int) = (x : Int) := by omega
  have hx0 : (x : Int) ≤ 4000000 := by omega
  have hR2 : (if 3 < x ∨ 0 < y ∧ isAt s h 32 = false then (0, E0) else (x, if 0 < y then s.extract (h + 1) l else E0)) = R := by
    rw [← HR.out, show h - i = x by omega]
    by_cases hlt : h < l
    · have : 0 < y := by omega
      simp [hlt, this]
    · have : ¬ 0 < y := by omega
      simp [hlt, this]
  have HR2 := Lib.hid hR2
  rw [hm] at hz1
  rw [hy] at hz2
  have Hz2 := Lib.hid hz2
  have Hy := Lib.hid (show 0 < y ↔ h < l by omega)
  clear hem hL hT hC hR hX hE hp ht hl he hB hXe hP hR2 hm hy hx HR
  go_enter Tryz.func61, Tryz.ntmps61
  go_wp2_with fail
  go_at_call 60
  refine (HL.out _).mono ?_
  rintro e w1 ⟨rfl, rfl⟩
  go_wp2_with fail
  go_at_call 78
  refine (HT.out _).mono ?_
  rintro e w1 ⟨rfl, rfl⟩
  go_wp2_with fail
  go_at_call 79
  refine (HC.out _).mono ?_
  rintro e w1 ⟨rfl, rfl⟩
  by_cases h3 : 3 < x
  · have d1 : decide ((3 : Int) < (x : Int)) = true := decide_eq_true (by omega)
    have d2 : (3 : Int) < (x : Int) := by omega
    have hR := HR2.out
    rw [if_pos (Or.inl h3)] at hR
    subst hR
    go_wp2
    go_ret2
    exact ⟨rfl, rfl⟩
  have d1 : decide ((3 : Int) < (x : Int)) = false := decide_eq_false (by omega)
  have d2 : ¬ (3 : Int) < (x : Int) := by omega
  by_cases h0 : 0 < y
  case neg =>
    have hBe : B = ⟨#[]⟩ := bytes_eq (List.eq_nil_of_length_eq_zero (by rw [size_data, Hz2.out]; omega))
    have hPe : P = false := by rw [Hp.out, decide_eq_false (fun e => h0 (Hy.out.2 e))]; rfl
    have hXe := HX.out.2 hPe
    subst hPe
    rw [hBe] at hXe
    subst hBe
    subst hXe
    have hR := HR2.out
    rw [if_neg (by omega), if_neg h0] at hR
    subst hR
    go_wp2
    go_ret2
    exact ⟨rfl, rfl⟩
  have hlt := Hy.out.1 h0
  rw [hlt |> decide_eq_true, Bool.true_and] at Hp
  have hne : B.toList.isEmpty = false := by rw [Hem.out, decide_eq_false (by omega)]
  cases P
  case false =>
    have hR := HR2.out
    rw [if_pos (Or.inr ⟨h0, Hp.out.symm⟩)] at hR
    subst hR
    go_wp2
    go_ret2
    exact ⟨rfl, rfl⟩
  case true =>
    have hXe := (HX.out.1 rfl).2.trans (HE.out hlt)
    have hR := HR2.out
    rw [if_neg (by rw [← Hp.out]; simp; omega), if_pos h0, ← hXe] at hR
    subst hR
    go_wp2
    go_ret2
    exact ⟨rfl, rfl⟩
end Go.Proofs.YtamghpleajbonaaGreatDoor

namespace Go.Proofs.YtamghpleajbonaaGreatDoor
open Go.RowKit
set_option linter.unusedVariables false
set_option linter.unusedSimpArgs false
set_option maxHeartbeats 2000000 in
set_option maxRecDepth 100000 in
theorem termsAttr_any (k : Int) (t n a : ByteArray) (A1 : Option Addr) (n1 c1 : Nat) (p : Option Addr) (A2 : Option Addr) (n2 c2 : Nat) (w : World) :
    Calls Tryz.prog 124 #[exV k t n a A1 n1 c1 p A2 n2 c2] w fun e w' => e = .returned (.bool ((k == 4) && !emp a)) ∧ Below w.heap.size w w' := by
  unfold exV emp
  cases hz : (k == 4)
  case false =>
    go_enter Tryz.func124, Tryz.ntmps124
    go_wp2
    go_ret
    exact ⟨ret_bool (by rfl), (Below.refl _ _).alloc (Nat.le_refl _) _⟩
  cases hg : a.toList.isEmpty
  all_goals
    go_enter Tryz.func124, Tryz.ntmps124
    go_wp2
    go_ret
    exact ⟨ret_bool (by rfl), (Below.refl _ _).alloc (Nat.le_refl _) _⟩
set_option maxHeartbeats 2000000 in
set_option maxRecDepth 100000 in
theorem mayAsk_any (k : Int) (t n a : ByteArray) (A1 : Option Addr) (n1 c1 : Nat) (p : Option Addr) (A2 : Option Addr) (n2 c2 : Nat) (w : World) :
    Calls Tryz.prog 125 #[exV k t n a A1 n1 c1 p A2 n2 c2] w fun e w' => e = .returned (.bool (decide (k = 0 ∨ k = 1 ∨ k = 2 ∨ k = 5) || ((k == 4) && !emp a))) ∧ Below w.heap.size w w' := by
  have HT := Lib.hid (fun W => termsAttr_any k t n a A1 n1 c1 p A2 n2 c2 W)
  by_cases h : k = 0 ∨ k = 1 ∨ k = 2 ∨ k = 5
  · rw [decide_eq_true h, Bool.true_or]
    unfold exV
    clear HT
    rcases h with rfl | rfl | rfl | rfl
    all_goals
      go_enter Tryz.func125, Tryz.ntmps125
      go_wp2
      go_ret
      exact ⟨rfl, (Below.refl _ _).alloc (Nat.le_refl _) _⟩
  · rw [decide_eq_false h, Bool.false_or]
    obtain ⟨q, hq⟩ : ∃ q, ((k == 4) && !emp a) = q := ⟨_, rfl⟩
    rw [hq] at HT ⊢
    have z0 : (k == 0) = false := beq_eq_false_iff_ne.2 (by omega)
    have z1 : (k == 1) = false := beq_eq_false_iff_ne.2 (by omega)
    have z2 : (k == 2) = false := beq_eq_false_iff_ne.2 (by omega)
    have z5 : (k == 5) = false := beq_eq_false_iff_ne.2 (by omega)
    clear h hq
    unfold exV at HT ⊢
    go_enter Tryz.func125, Tryz.ntmps125
    go_wp2_with fail
    go_at_call 124
    refine (HT.out _).mono ?_
    rintro e w' ⟨rfl, hb⟩
    have HB := Lib.hid (((Below.refl w.heap.size w).alloc (Nat.le_refl _) _).trans (hb.mono (by simp)))
    clear hb
    go_wp2
    go_ret
    exact ⟨rfl, HB.out⟩
abbrev zL : Array Value := #[.int .i64 0, .int .i64 0, .slice none 0 0]
theorem cells3 {w : World} {k : Nat} {x0 x1 x2 : Value} {t : TypeId} (h : BoxAt w k #[x0, x1, x2] t) :
    w.cell? ⟨k, 0, none⟩ = some x0 ∧ w.cell? ⟨k, 1, none⟩ = some x1 ∧ w.cell? ⟨k, 2, none⟩ = some x2 ∧ w.frozen? ⟨k, 0, none⟩ = false ∧ w.frozen? ⟨k, 1, none⟩ = false ∧ w.frozen? ⟨k, 2, none⟩ = false :=
  ⟨h.cell 0, h.cell 1, h.cell 2, Lib.frozen_of_heap h 0, Lib.frozen_of_heap h 1, Lib.frozen_of_heap h 2⟩
def set3 (w : World) (b : Nat) (x0 x1 x2 : Value) : World := ((w.setCell ⟨b, 0, none⟩ x0).setCell ⟨b, 1, none⟩ x1).setCell ⟨b, 2, none⟩ x2
theorem set3_heap (w : World) (b : Nat) (x0 x1 x2 : Value) (k : Nat) (hk : k ≠ b) : (set3 w b x0 x1 x2).heap[k]? = w.heap[k]? := by
  unfold set3
  rw [Below.heap_setCell _ _ _ k hk, Below.heap_setCell _ _ _ k hk, Below.heap_setCell _ _ _ k hk]
theorem set3_size (w : World) (b : Nat) (x0 x1 x2 : Value) : (set3 w b x0 x1 x2).heap.size = w.heap.size := by
  unfold set3; simp
theorem Kp.set3 {rb : Nat} {a w : World} (h : Kp rb a w) {b : Nat} (hb : a.heap.size ≤ b) (hr : rb < a.heap.size) (x0 x1 x2 : Value) : Kp rb a (set3 w b x0 x1 x2) := ((h.setNew hb hr 0 x0).setNew hb hr 1 x1).setNew hb hr 2 x2
theorem Rd.set3 {rb : Nat} {s : ByteArray} {i : Nat} {w : World} (h : Rd rb s i w) {b : Nat} (hb : rb ≠ b) (x0 x1 x2 : Value) : Rd rb s i (set3 w b x0 x1 x2) := ((h.setOther hb 0 x0).setOther hb 1 x1).setOther hb 2 x2
theorem box_set3 {w : World} {E : Nat} {x0 x1 x2 : Value} {t : TypeId} (h : BoxAt w E #[x0, x1, x2] t) (y0 y1 y2 : Value) : BoxAt (set3 w E y0 y1 y2) E #[y0, y1, y2] t := by
  unfold set3
  unfold BoxAt at h ⊢
  simp [World.setCell, Array.getElem?_modify, h]
set_option maxRecDepth 100000 in
theorem res3 (T : TypeId) (hT : Tryz.prog.cellsOf T = 3) {fn : Func} {A M : Nat} {tmps : Array Value} {w : World} {b : Nat} {x0 x1 x2 v : Value} {t : TypeId} (hres : fn.results = #[.cell A 162, .tmp M]) (ha : tmps.getD A undef = .pointer (some ⟨b, 0, none⟩)) (hm : tmps.getD M undef = v)
    (hb : BoxAt w b #[x0, x1, x2] t) : (results fn tmps).run Tryz.prog w = .ok (.tuple #[.agg #[x0, x1, x2], v]) w := by
  obtain ⟨q0, q1, q2, _⟩ := cells3 hb
  have ha' : tmps[A]?.getD undef = .pointer (some ⟨b, 0, none⟩) := by rw [← ha]; simp
  have hm' : tmps[M]?.getD undef = v := by rw [← hm]; simp
  simp [results, hres, ha', hm', go_sem, q0, q1, q2]
theorem end3w {fn : Func} {R : Ending → World → Prop} {a : Act} {w2 : World} {A M b : Nat} {x0 x1 x2 v : Value} {t : TypeId} (hres : fn.results = #[.cell A 162, .tmp M]) (hbox : BoxAt w2 b #[x0, x1, x2] t)
    (ha : a.tmps.getD A undef = .pointer (some ⟨b, 0, none⟩)) (hm : a.tmps.getD M undef = v) (hd : a.defers = []) (hR : R (.returned (.tuple #[.agg #[x0, x1, x2], v])) w2) : bodyPost Tryz.prog fn R .ret a w2 :=
  bodyPost_ret (res3 162 (by kernel_rfl) hres ha hm hbox) hd hR
def GotL (rb : Nat) (s : ByteArray) (i : Nat) (w : World) (r : Option (Nat × Nat × Nat)) (e : Ending) (w' : World) : Prop :=
  Kp rb w w' ∧ ∃ f p j : Nat, e = .returned (.tuple #[.agg #[.int .i64 f, .int .i64 p, .slice none 0 0], .bool r.isSome]) ∧ Rd rb s j w' ∧ j ≤ s.size ∧ f ≤ s.size ∧ p ≤ s.size ∧ (r = none → j = i) ∧ ∀ f' p' m, r = some (f', p', m) → f' = f ∧ p' = p ∧ m = j
theorem sp_ok (s : ByteArray) (i : Nat) (hi : i ≤ s.size) : i ≤ sp s i ∧ sp s i ≤ s.size := ⟨behN_ge _ _ _, by have := behN_le spB s.data.toList i (by rw [size_data]; exact hi); rw [size_data] at this; exact this⟩
theorem nlS_step (s : ByteArray) (f fr i : Nat) (h : isAt s i 10 = true) : nlS s f fr i = nlS s (f + 1) (i + 1) (sp s (i + 1)) := by
  rw [nlS, dif_pos h]
theorem nlS_end (s : ByteArray) (f fr i : Nat) (h : isAt s i 10 = false) : nlS s f fr i = (f, fr, i) := by
  rw [nlS, dif_neg (by rw [h]; simp)]
end Go.Proofs.YtamghpleajbonaaGreatDoor

namespace Go.Proofs.YtamghpleajbonaaGreatDoor
open Go.RowKit
set_option linter.unusedVariables false
set_option linter.unusedSimpArgs false
theorem idxAny_tw (chars : List UInt8) : ∀ l : List UInt8, Lib.indexAny l chars = if (l.takeWhile (fun c => !chars.contains c)).length < l.length then ((l.takeWhile (fun c => !chars.contains c)).length : Int) else -1
  | [] => by simp [Lib.indexAny]
  | b :: l => by
    have ih := idxAny_tw chars l
    rw [Lib.indexAny, List.takeWhile_cons]
    generalize hT : l.takeWhile (fun c => !chars.contains c) = T at ih ⊢
    by_cases h : chars.contains b = true
    · have h2 : ¬ ((!chars.contains b) = true) := by rw [h]; decide
      rw [if_pos h, if_neg h2, if_pos (by simp)]
      rfl
    · have h2 : (!chars.contains b) = true := by rw [Bool.eq_false_iff.2 h]; rfl
      rw [if_neg h, if_pos h2, ih, List.length_cons, List.length_cons]
      by_cases hl : T.length < l.length
      · rw [if_pos hl]
        have h3 : ¬ (((T.length : Int) == -1) = true) := by rw [beq_iff_eq]; omega
        rw [if_neg h3, if_pos (show T.length + 1 < l.length + 1 by omega)]
        omega
      · rw [if_neg hl, if_neg (show ¬ T.length + 1 < l.length + 1 by omega)]
        rfl
theorem tx_idx (s : ByteArray) (i : Nat) (hi : i ≤ s.size) : (Lib.indexAny (s.extract i s.size).data.toList [10, 123, 125] = -1 ∧ tx s i = s.size) ∨ (∃ n : Nat, Lib.indexAny (s.extract i s.size).data.toList [10, 123, 125] = (n : Int) ∧ tx s i = i + n ∧ i + n < s.size) := by
  rw [extract_drop, idxAny_tw]
  have e : (fun c : UInt8 => !([10, 123, 125] : List UInt8).contains c) = txB := by
    funext c
    unfold txB
    rw [List.contains_cons, List.contains_cons, List.contains_cons, List.contains_nil, Bool.or_false, Bool.or_assoc]
  rw [e]
  unfold tx behN
  have hl : (s.data.toList.drop i).length = s.size - i := by rw [List.length_drop, size_data]
  have hle := takeWhile_le txB (s.data.toList.drop i)
  by_cases h : ((s.data.toList.drop i).takeWhile txB).length < (s.data.toList.drop i).length
  · rw [if_pos h]
    exact .inr ⟨_, rfl, rfl, by omega⟩
  · rw [if_neg h]
    exact .inl ⟨rfl, by omega⟩
set_option maxHeartbeats 2000000 in
set_option maxRecDepth 100000 in
theorem endText_of {s : ByteArray} (hIx : ∀ (x : ByteArray) (W : World), x.size ≤ 4000000 → Calls Tryz.prog 121 #[.string x, .string ⟨#[10, 123, 125]⟩] W fun e w' => e = .returned (.int .i64 (Lib.indexAny x.data.toList [10, 123, 125])) ∧ Below W.heap.size W w') : EndFn 110 tx s := by
  refine ⟨fun args w => by go_simp, fun i w hs hi => ?_⟩
  have hI := fun W => hIx (s.extract i s.size) W (by rw [ByteArray.size_extract]; omega)
  have hi0 : (i : Int) ≤ 4000000 := by omega
  have hjs : (i : Int) ≤ (s.size : Int) := by omega
  have hss : (s.size : Int) ≤ 4000000 := by omega
  rcases tx_idx s i hi with ⟨h1, h2⟩ | ⟨n, h1, h2, h3⟩
  · refine ⟨by omega, by omega, ?_⟩
    rw [h1] at hI
    have HI := Lib.hid hI
    rw [h2]
    clear hIx
    clear hI h1 h2
    go_enter Tryz.func110, Tryz.ntmps110
    go_wp2_with fail
    go_at_call 121
    refine (HI.out _).mono ?_
    rintro e w' ⟨rfl, hb⟩
    have HB := Lib.hid hb
    clear hb
    go_wp2
    go_ret
    exact ⟨rfl, HB.out⟩
  · refine ⟨by omega, by omega, ?_⟩
    rw [h1] at hI
    have HI := Lib.hid hI
    rw [h2]
    clear hIx
    have hn0 : (n : Int) ≤ 4000000 := by omega
    have hnd : decide ((0 : Int) ≤ (n : Int)) = true := decide_eq_true (by omega)
    clear hI h1 h2
    go_enter Tryz.func110, Tryz.ntmps110
    go_wp2_with fail
    go_at_call 121
    refine (HI.out _).mono ?_
    rintro e w' ⟨rfl, hb⟩
    have HB := Lib.hid hb
    clear hb
    go_wp2
    go_ret
    exact ⟨by congr 2, HB.out⟩
theorem stop_idx (c : UInt8) : decide ((0 : Int) ≤ Lib.indexByte [46, 42, 91, 125] c) = stopB c := by
  unfold stopB
  have e : ∀ x : UInt8, (x == c) = (c == x) := fun x => by rw [Bool.eq_iff_iff, beq_iff_eq, beq_iff_eq]; exact eq_comm
  unfold Lib.indexByte Lib.indexByte Lib.indexByte Lib.indexByte Lib.indexByte
  rw [e 46, e 42, e 91, e 125]
  cases c == 46 <;> cases c == 42 <;> cases c == 91 <;> cases c == 125 <;> decide
end Go.Proofs.YtamghpleajbonaaGreatDoor

namespace Go.Proofs.YtamghpleajbonaaGreatDoor
open Go.RowKit
set_option linter.unusedVariables false
set_option linter.unusedSimpArgs false
set_option maxHeartbeats 4000000 in
set_option maxRecDepth 100000 in
theorem nextLine_any {rb : Nat} {s : ByteArray} (hs : s.size ≤ 1000000) (i : Nat) (w : World) (hr : Rd rb s i w) (hi : i ≤ s.size) : Calls Tryz.prog 104 #[pt rb] w (GotL rb s i w (nextS s i)) := by
  have HR := Lib.hid hr
  have hlt := hr.lt
  have c0 := (hr.alloc (.cells zL 162)).c0
  have c1 := (hr.alloc (.cells zL 162)).c1
  obtain ⟨R, hRR⟩ : ∃ R, nextS s i = R := ⟨_, rfl⟩
  rw [hRR]
  have HRR := Lib.hid hRR
  have hi0 : (i : Int) ≤ 1000000 := by omega
  have hss : (s.size : Int) ≤ 1000000 := by omega
  clear hr hRR
  unfold pt
  go_enter Tryz.func104, Tryz.ntmps104
  go_wp2
  go_region
  go_wp2
  go_loopw [4, 5, 6] (fun t4 t5 t6 wr => ∃ f fr q : Nat, t4 = .int .i64 f ∧ t5 = .int .i64 fr ∧ t6 = .int .i64 q ∧ q ≤ s.size ∧ fr ≤ q ∧ f ≤ q ∧ Hid (nlS s f fr q = nlS s 0 i i) ∧ Hid (Rd rb s i wr) ∧ Hid (Kp rb w wr) ∧ Hid (BoxAt wr w.heap.size zL 162)) (fun _ _ t6 _ => s.size - (intOf t6).toNat)
  case atStart => exact ⟨0, i, i, rfl, rfl, rfl, hi, Nat.le_refl _, Nat.zero_le _, rfl, (HR.out.alloc _).drew, ((Kp.refl _ _).alloc (Nat.le_of_lt hlt) _).drew, (BoxAt.new _ _ _).drew⟩
  case round =>
    obtain ⟨f, fr, q, rfl, rfl, rfl, hq, hfr, hf, Hn, HRd, HK, HC⟩ := hrel
    have hp := fun W => Tryz.strings_HasPrefix (s.extract q s.size) ⟨#[10]⟩ W
    rw [isAt_prefix s q 10 hq] at hp
    obtain ⟨b, hb⟩ : ∃ b, isAt s q 10 = b := ⟨_, rfl⟩
    rw [hb] at hp
    have HP := Lib.hid hp
    have Hb := Lib.hid hb
    have d0 := HRd.out.c0
    have d1 := HRd.out.c1
    have e1 := HRd.out.f 1
    have hrl := HRd.out.lt
    have hcl := HC.out.lt
    have hq0 : (q : Int) ≤ 1000000 := by omega
    have hqs : (q : Int) ≤ (s.size : Int) := by omega
    have hfr0 : (fr : Int) ≤ (q : Int) := by omega
    have hf0 : (f : Int) ≤ 1000000 := by omega
    clear hp hb c0 c1
    cases b
    case true =>
      have hq1 : q + 1 ≤ s.size := isAt_lt Hb.out
      have hS := fun W => spaces_any s ((q : Int) + 1) W (by omega)
      have he : behI spB s.data.toList ((q : Int) + 1) = (sp s (q + 1) : Int) := by
        unfold behI sp
        rw [if_neg (by omega), show ((q : Int) + 1).toNat = q + 1 by omega]
      rw [he] at hS
      have hso := sp_ok s (q + 1) hq1
      have hn := Hn.out
      rw [nlS_step s f fr q Hb.out] at hn
      obtain ⟨m, hm⟩ : ∃ m, sp s (q + 1) = m := ⟨_, rfl⟩
      rw [hm] at hS hso hn
      have HS := Lib.hid hS
      have Hn2 := Lib.hid hn
      clear hS he hm hn
      go_wp2_with fail
      go_at_call 63
      refine (HP.out _).mono ?_
      rintro e w' ⟨rfl, rfl⟩
      go_wp2_with fail
      go_at_call 39
      refine (HS.out _).mono ?_
      rintro e w' ⟨rfl, rfl⟩
      go_wp2
      go_roundw
      case rel => exact ⟨f + 1, q + 1, m, by go_num, by go_num, rfl, hso.2, hso.1, by omega, Hn2.out, HRd.out, HK.out, HC.out⟩
      case measure => simp [intOf]; omega
    case false =>
      have hn := Hn.out
      rw [nlS_end s f fr q Hb.out] at hn
      have hR := HRR.out
      unfold nextS at hR
      rw [← hn] at hR
      dsimp only at hR
      have HR2 := Lib.hid hR
      obtain ⟨q0, q1, q2, p0, p1, p2⟩ := cells3 HC.out
      clear hn hR Hn
      by_cases hqf : q = fr
      · have z1 : ((q : Int) == (fr : Int)) = true := beq_iff_eq.2 (by omega)
        have HR3 := Lib.hid (show R = none by rw [← HR2.out, if_pos (.inl hqf)])
        clear hqf
        go_wp2_with fail
        go_at_call 63
        refine (HP.out _).mono ?_
        rintro e w' ⟨rfl, rfl⟩
        go_wp2
        obtain rfl := HR3.out
        exact end3w Tryz.results104 (box_set3 HC.out _ _ _) rfl rfl rfl ⟨HK.out.set3 (Nat.le_refl _) hlt _ _ _, 0, 0, i, rfl, HRd.out.set3 (by omega) _ _ _, hi, Nat.zero_le _, Nat.zero_le _, fun _ => rfl, fun _ _ _ h => by cases h⟩
      have z1 : ((q : Int) == (fr : Int)) = false := beq_eq_false_iff_ne.2 (by omega)
      by_cases hqz : q = s.size
      · have z2 : ((q : Int) == (s.size : Int)) = true := beq_iff_eq.2 (by omega)
        have HR3 := Lib.hid (show R = none by rw [← HR2.out, if_pos (.inr (.inl hqz))])
        clear hqz
        go_wp2_with fail
        go_at_call 63
        refine (HP.out _).mono ?_
        rintro e w' ⟨rfl, rfl⟩
        go_wp2
        obtain rfl := HR3.out
        exact end3w Tryz.results104 (box_set3 HC.out _ _ _) rfl rfl rfl ⟨HK.out.set3 (Nat.le_refl _) hlt _ _ _, 0, 0, i, rfl, HRd.out.set3 (by omega) _ _ _, hi, Nat.zero_le _, Nat.zero_le _, fun _ => rfl, fun _ _ _ h => by cases h⟩
      have z2 : ((q : Int) == (s.size : Int)) = false := beq_eq_false_iff_ne.2 (by omega)
      have hql : q < s.size := by omega
      have hql2 : (q : Int) < (s.size : Int) := by omega
      have hI := fun W => Tryz.strings_IndexByte ⟨#[46, 42, 91, 125]⟩ (s[q].toNat : Int) W
      have hst := stop_idx s[q]
      rw [show (⟨#[46, 42, 91, 125]⟩ : ByteArray).data.toList = [46, 42, 91, 125] from rfl, show ((s[q].toNat : Int).toNat.toUInt8) = s[q] by simp] at hI
      obtain ⟨x, hx⟩ : ∃ x, Lib.indexByte [46, 42, 91, 125] s[q] = x := ⟨_, rfl⟩
      rw [hx] at hI hst
      have hat : at0 s.data.toList q = s[q] := by rw [at0_get _ _ (by rw [size_data]; exact hql)]; rfl
      have hR := HR2.out
      rw [hat, ← hst] at hR
      have HI := Lib.hid hI
      cases hx0 : decide ((0 : Int) ≤ x)
      case true =>
        have HR3 := Lib.hid (show R = none by rw [← hR, hx0, if_pos (.inr (.inr rfl))])
        clear hI hst hx hat hR HR2
        go_wp2_with fail
        go_at_call 63
        refine (HP.out _).mono ?_
        rintro e w' ⟨rfl, rfl⟩
        go_wp2_with fail
        go_at_call 77
        refine (HI.out _).mono ?_
        rintro e w' ⟨rfl, rfl⟩
        go_wp2
        obtain rfl := HR3.out
        exact end3w Tryz.results104 (box_set3 HC.out _ _ _) rfl rfl rfl ⟨HK.out.set3 (Nat.le_refl _) hlt _ _ _, 0, 0, i, rfl, HRd.out.set3 (by omega) _ _ _, hi, Nat.zero_le _, Nat.zero_le _, fun _ => rfl, fun _ _ _ h => by cases h⟩
      case false =>
        have HR3 := Lib.hid (show R = some (f, q - fr, q) by rw [← hR, hx0, if_neg (by simp [hqf, hqz])])
        have hsub : (q : Int) - (fr : Int) = ((q - fr : Nat) : Int) := by omega
        have Hsub := Lib.hid hsub
        have hsub0 : (0 : Int) ≤ (q : Int) - (fr : Int) := by omega
        have hsub1 : (q : Int) - (fr : Int) ≤ 1000000 := by omega
        have HRq := Lib.hid (HRd.out.set q)
        have HKq := Lib.hid (HK.out.setCell 1 (.int .i64 (q : Nat)))
        have HCq := Lib.hid (BoxAt.setOther HC.out ⟨rb, 1, none⟩ (.int .i64 (q : Nat)) (by show w.heap.size ≠ rb; omega))
        clear hI hst hx hat hR HR2 hsub
        go_wp2_with fail
        go_at_call 63
        refine (HP.out _).mono ?_
        rintro e w' ⟨rfl, rfl⟩
        go_wp2_with fail
        go_at_call 77
        refine (HI.out _).mono ?_
        rintro e w' ⟨rfl, rfl⟩
        go_wp2
        obtain rfl := HR3.out
        exact end3w Tryz.results104 (box_set3 HCq.out _ _ _) rfl rfl rfl ⟨HKq.out.set3 (Nat.le_refl _) hlt _ _ _, f, q - fr, q, by rw [Hsub.out]; rfl, HRq.out.set3 (by omega) _ _ _, hq, by omega, by omega, (fun h => by cases h), fun _ _ _ h => by cases h; exact ⟨rfl, rfl, rfl⟩⟩
end Go.Proofs.YtamghpleajbonaaGreatDoor
