/-
  NumberPlain (written by bin/gen_numplain.py).
-/
import Derived.Test.YtbiekoidbceimaaDoorNj
namespace Go.Proofs.YtbiekoidbceimaaDoor
open Go.RowKit
set_option linter.unusedVariables false
set_option linter.unusedSimpArgs false

theorem beqB (a : ByteArray) : (a == a) = true := by
  show (a.data == a.data) = true
  exact beq_self_eq_true _
theorem end_len {G A : Nat} {r ql : Nat} (h : G = A + (r - 1) / 3 * ql) (zA : A ≤ 2000) (hq : ql ≤ 3) (h1 : r ≤ 101) (h2 : 1 ≤ r) : ((G : Int) == wrap64 ((A : Int) + wrap64 (((r : Int) - 1) / 3 * (ql : Int)))) = true := by
  obtain ⟨m, hm⟩ : ∃ m : Nat, (r - 1) / 3 = m := ⟨_, rfl⟩
  rw [hm] at h
  have e1 : ((r : Int) - 1) / 3 = (m : Int) := by omega
  have b : m * ql ≤ 34 * 3 := Nat.mul_le_mul (by omega) hq
  rw [e1, ← Int.natCast_mul]
  obtain ⟨Z, hZ⟩ : ∃ Z, m * ql = Z := ⟨_, rfl⟩
  rw [hZ] at b h ⊢
  rw [w64in (Z : Int) (by omega) (by omega), w64in _ (by omega) (by omega), beq_iff_eq]
  omega
/-- The boxes of the law: the number, options, options without groups, the shape. -/
structure PlS (B o p : Nat) (cd co cp : Array Value) (w W : World) : Prop where
  d : BoxAt W B cd 23
  o : BoxAt W o co 27
  p : BoxAt W p cp 27
  bel : Below B w W
theorem PlS.later {B o p : Nat} {cd co cp : Array Value} {w W W' : World} (h : PlS B o p cd co cp w W) (hB : B ≤ w.heap.size) (g : Below W.heap.size W W') : PlS B o p cd co cp w W' := ⟨h.d.later g, h.o.later g, h.p.later g, h.bel.trans (g.mono (Nat.le_trans hB h.bel.size))⟩
theorem PlS.kp {B o p b : Nat} {cd co cp : Array Value} {w W W' : World} (h : PlS B o p cd co cp w W) (hb : B ≤ b) (hne : B ≠ b ∧ o ≠ b ∧ p ≠ b) (g : Kp b W W') : PlS B o p cd co cp w W' := ⟨h.d.kp g hne.1, h.o.kp g hne.2.1, h.p.kp g hne.2.2, h.bel.trans (g.below.mono hb)⟩
set_option maxHeartbeats 8000000 in
set_option maxRecDepth 100000 in
theorem lawPlain (lang : ByteArray) (n : Bool) (s : ByteArray) (sc : Int) (w : World) (hs : s.size ≤ 9223372036854775807) (h0 : -9223372036854775808 ≤ sc) (h1 : sc ≤ 9223372036854775807) :
    Calls Tryd.prog 4 #[.string lang, .agg #[.bool n, .string s, .int .i64 sc]] w fun e w' => e = .returned (.bool true) ∧ Below w.heap.size w w' := by
  have HRt := Lib.hid (fun W => lawRight_any n s sc W hs h0 h1)
  go_enter Tryd.func4, Tryd.ntmps4
  go_wp2_with fail
  go_at_call 5
  refine (head_any _).mono ?_
  rintro e w1 ⟨rfl, b1⟩
  have D1 := Lib.hid ((BoxAt.new w #[.bool n, .string s, .int .i64 sc] 23).later b1)
  have B1 := Lib.hid (((Below.refl w.heap.size w).alloc (Nat.le_refl _) (.cells #[.bool n, .string s, .int .i64 sc] 23)).trans (b1.mono (by simp)))
  have d0 : w1.cell? ⟨w.heap.size, 0, none⟩ = some (.bool n) := D1.out.cell 0
  have d1 : w1.cell? ⟨w.heap.size, 1, none⟩ = some (.string s) := D1.out.cell 1
  have d2 : w1.cell? ⟨w.heap.size, 2, none⟩ = some (.int .i64 sc) := D1.out.cell 2
  clear b1
  go_wp2_with fail
  go_at_call 6
  refine (HRt.out _).mono ?_
  rintro e w2 ⟨hE, b2⟩
  have D2 := Lib.hid (D1.out.later b2)
  have B2 := Lib.hid (B1.out.trans (b2.mono B1.out.size))
  clear d0 d1 d2 b2
  rcases hE with rfl | ⟨k, rfl, hN, rfl⟩
  · go_wp2
    go_ret
    exact ⟨rfl, B2.out⟩
  obtain ⟨hd, hle, hlt, hhd⟩ := hN
  have hRl := rnd_lt s.data.toList k 0 3 hlt
  have hRm := rnd_le s.data.toList k 0 3 (by omega) hle (by decide)
  rw [size_data] at hle hlt
  have hsh := fun W => shape_any 1 0 3 false false n s k W hle (by omega) hd (by decide) (by decide) (by decide)
  have hfo := fun (W : World) (b : Nat) (pl : Bool) (c : Nat) (hc : c ≤ 10) (hM : MarksAt W b true c) => format_any b c true lang 1 0 3 pl false n s k W hM (by omega) hle (by omega) hd (by decide) (by decide) (by decide)
  have hof := fun (W : World) (b : Nat) (hM : MarksAt W b false 0) => of_any b 0 false lang (by decide) W hM
  have hsg := sgn_len lang
  obtain ⟨R, hR⟩ : ∃ R, rndL s.data.toList k 0 3 = R := ⟨_, rfl⟩
  obtain ⟨kr, hkr⟩ : ∃ q, rndK s.data.toList k 0 3 = q := ⟨_, rfl⟩
  rw [hR, hkr] at hRl hRm hsh hfo
  rw [ahd_none hRl, List.nil_append] at hsh
  obtain ⟨P, hP⟩ : ∃ P, (sgn lang).1 = P := ⟨_, rfl⟩
  obtain ⟨Q, hQ⟩ : ∃ Q, (sgn lang).2 = Q := ⟨_, rfl⟩
  rw [hP, hQ] at hfo hof hsg
  have hpl := fmt_plain n R kr P Q hRl
  have hlo := fmt_longer n R kr P Q hRl
  have hwh := fun W => whole_any n (bL R) kr W (by rw [bL_size]; unfold maxLen; omega) (by rw [bL_size]; omega)
  have hpa := fun W => part_any n (bL R) kr W (by rw [bL_size]; unfold maxLen; omega) (by rw [bL_size]; omega)
  have hze := fun W => zero_any n (bL R) kr W (by rw [bL_size]; unfold maxLen; omega)
  rw [bL_list] at hze
  change ∀ W : World, Calls Tryd.prog 8 #[.agg #[.bool n, .string (bL R), .int .i64 (kr : Int)]] W (fun e w' => e = .returned (.bool (zeroD R)) ∧ Below W.heap.size W w') at hze
  obtain ⟨zr, hzr⟩ : ∃ z, zeroD R = z := ⟨_, rfl⟩
  rw [hzr] at hze hpl
  obtain ⟨Wh, hWh⟩ : ∃ X, (bL R).extract 0 ((bL R).size - kr) = X := ⟨_, rfl⟩
  obtain ⟨Pa, hPa⟩ : ∃ X, (bL R).extract ((bL R).size - kr) (bL R).size = X := ⟨_, rfl⟩
  rw [hWh, hPa] at hpl
  rw [hWh] at hwh
  rw [hPa] at hpa
  have zW : Wh.size = R.length - kr := by rw [← hWh, ByteArray.size_extract, bL_size]; omega
  have zP : Pa.size ≤ 101 := by rw [← hPa, ByteArray.size_extract, bL_size]; omega
  obtain ⟨A, hA⟩ : ∃ X, bL (fmtL n true R kr 1 P Q) = X := ⟨_, rfl⟩
  obtain ⟨G, hG⟩ : ∃ X, bL (fmtL n false R kr 1 P Q) = X := ⟨_, rfl⟩
  obtain ⟨p, hp⟩ : ∃ X, bL P = X := ⟨_, rfl⟩
  have zp : p.size ≤ 1 := by rw [← hp, bL_size]; omega
  rw [hA] at hpl hlo
  rw [hG] at hlo
  rw [hp] at hpl
  have hfa := fun (W : World) (b : Nat) (c : Nat) (hc : c ≤ 10) (hM : MarksAt W b true c) => hfo W b true c hc hM
  have hfb := fun (W : World) (b : Nat) (c : Nat) (hc : c ≤ 10) (hM : MarksAt W b true c) => hfo W b false c hc hM
  rw [hA] at hfa
  rw [hG] at hfb
  have HSh := Lib.hid hsh
  have HFa := Lib.hid hfa
  have HFb := Lib.hid hfb
  have HOf := Lib.hid hof
  have HWh := Lib.hid hwh
  have HPa := Lib.hid hpa
  have HZe := Lib.hid hze
  have HPl := Lib.hid hpl
  have HLo := Lib.hid hlo
  have HSg := Lib.hid hsg
  clear hsh hfo hfa hfb hof hwh hpa hze hpl hlo hzr hWh hPa hA hG hR hkr hsg HRt D1 B1 hd hhd
  go_wp2_with fail
  go_at_call 11
  refine (default_any _).mono ?_
  rintro e w3 ⟨rfl, b3⟩
  have D3 := Lib.hid (D2.out.later b3)
  have B3 := Lib.hid (B2.out.trans (b3.mono B2.out.size))
  clear b3 D2 B2
  go_wp2_with fail
  have G0 := Lib.hid (PlS.mk (B := w.heap.size) (w := w) (((D3.out.alloc (.cells #[.int .i64 1, .int .i64 0, .int .i64 3, .bool false, .bool false] 27)).alloc (.cells #[.int .i64 1, .int .i64 0, .int .i64 3, .bool true, .bool false] 27)).alloc (.cells #[.int .u32 0, .int .i32 0, .int .u32 0, .map none, .int .i64 0] 46))
    (((BoxAt.new w3 #[.int .i64 1, .int .i64 0, .int .i64 3, .bool false, .bool false] 27).alloc (.cells #[.int .i64 1, .int .i64 0, .int .i64 3, .bool true, .bool false] 27)).alloc (.cells #[.int .u32 0, .int .i32 0, .int .u32 0, .map none, .int .i64 0] 46))
    ((BoxAt.new' (w3.alloc (.cells #[.int .i64 1, .int .i64 0, .int .i64 3, .bool false, .bool false] 27)) (w3.heap.size + 1) #[.int .i64 1, .int .i64 0, .int .i64 3, .bool true, .bool false] 27 (by simp)).alloc (.cells #[.int .u32 0, .int .i32 0, .int .u32 0, .map none, .int .i64 0] 46))
    (((B3.out.alloc B3.out.size _).alloc (by have := B3.out.size; simp; omega) _).alloc (by have := B3.out.size; simp; omega) _))
  have hw3 : w.heap.size < w3.heap.size := D3.out.lt
  have M0 := Lib.hid (marks_new ((w3.alloc (.cells #[.int .i64 1, .int .i64 0, .int .i64 3, .bool false, .bool false] 27)).alloc (.cells #[.int .i64 1, .int .i64 0, .int .i64 3, .bool true, .bool false] 27)))
  simp only [World.size_alloc] at M0
  go_at_call 12
  refine (HOf.out _ _ M0.out).mono ?_
  rintro e w4 ⟨rfl, hm4, hk4⟩
  have G4 := Lib.hid (G0.out.kp (by omega) (by omega) hk4)
  have M4 := Lib.hid hm4
  clear hm4 hk4 G0 M0 D3 B3
  rw [show (⟨P.toArray⟩ : ByteArray) = p from hp]
  obtain ⟨q, hq⟩ : ∃ q : ByteArray, (⟨Q.toArray⟩ : ByteArray) = q := ⟨_, rfl⟩
  rw [hq]
  have zq : q.size = Q.length := by rw [← hq]; exact bL_size Q
  have d0 : w4.cell? ⟨w.heap.size, 0, none⟩ = some (.bool n) := G4.out.d.cell 0
  have d1 : w4.cell? ⟨w.heap.size, 1, none⟩ = some (.string s) := G4.out.d.cell 1
  have d2 : w4.cell? ⟨w.heap.size, 2, none⟩ = some (.int .i64 k) := G4.out.d.cell 2
  have o0 : w4.cell? ⟨w3.heap.size, 0, none⟩ = some (.int .i64 1) := G4.out.o.cell 0
  have p0 : w4.cell? ⟨w3.heap.size + 1, 0, none⟩ = some (.int .i64 1) := G4.out.p.cell 0
  have o1 : w4.cell? ⟨w3.heap.size, 1, none⟩ = some (.int .i64 0) := G4.out.o.cell 1
  have p1 : w4.cell? ⟨w3.heap.size + 1, 1, none⟩ = some (.int .i64 0) := G4.out.p.cell 1
  have o2 : w4.cell? ⟨w3.heap.size, 2, none⟩ = some (.int .i64 3) := G4.out.o.cell 2
  have p2 : w4.cell? ⟨w3.heap.size + 1, 2, none⟩ = some (.int .i64 3) := G4.out.p.cell 2
  have o3 : w4.cell? ⟨w3.heap.size, 3, none⟩ = some (.bool false) := G4.out.o.cell 3
  have p3 : w4.cell? ⟨w3.heap.size + 1, 3, none⟩ = some (.bool true) := G4.out.p.cell 3
  have o4 : w4.cell? ⟨w3.heap.size, 4, none⟩ = some (.bool false) := G4.out.o.cell 4
  have p4 : w4.cell? ⟨w3.heap.size + 1, 4, none⟩ = some (.bool false) := G4.out.p.cell 4
  go_wp2_with fail
  go_at_call 13
  refine (HSh.out _).mono ?_
  rintro e w5 ⟨rfl, b5⟩
  have G5 := Lib.hid (G4.out.later (Nat.le_of_eq rfl) b5)
  have M5 := Lib.hid (M4.out.later b5)
  clear b5 d0 d1 d2 o0 o1 o2 o3 o4 p0 p1 p2 p3 p4 G4 M4
  have d0 : w5.cell? ⟨w.heap.size, 0, none⟩ = some (.bool n) := G5.out.d.cell 0
  have d1 : w5.cell? ⟨w.heap.size, 1, none⟩ = some (.string s) := G5.out.d.cell 1
  have d2 : w5.cell? ⟨w.heap.size, 2, none⟩ = some (.int .i64 k) := G5.out.d.cell 2
  have o0 : w5.cell? ⟨w3.heap.size, 0, none⟩ = some (.int .i64 1) := G5.out.o.cell 0
  have p0 : w5.cell? ⟨w3.heap.size + 1, 0, none⟩ = some (.int .i64 1) := G5.out.p.cell 0
  have o1 : w5.cell? ⟨w3.heap.size, 1, none⟩ = some (.int .i64 0) := G5.out.o.cell 1
  have p1 : w5.cell? ⟨w3.heap.size + 1, 1, none⟩ = some (.int .i64 0) := G5.out.p.cell 1
  have o2 : w5.cell? ⟨w3.heap.size, 2, none⟩ = some (.int .i64 3) := G5.out.o.cell 2
  have p2 : w5.cell? ⟨w3.heap.size + 1, 2, none⟩ = some (.int .i64 3) := G5.out.p.cell 2
  have o3 : w5.cell? ⟨w3.heap.size, 3, none⟩ = some (.bool false) := G5.out.o.cell 3
  have p3 : w5.cell? ⟨w3.heap.size + 1, 3, none⟩ = some (.bool true) := G5.out.p.cell 3
  have o4 : w5.cell? ⟨w3.heap.size, 4, none⟩ = some (.bool false) := G5.out.o.cell 4
  have p4 : w5.cell? ⟨w3.heap.size + 1, 4, none⟩ = some (.bool false) := G5.out.p.cell 4
  go_wp2_with fail
  go_at_call 14
  refine (HWh.out _).mono ?_
  rintro e w6 ⟨rfl, b6⟩
  have G6 := Lib.hid ((G5.out.later (Nat.le_refl _) ((Below.refl _ _).alloc (Nat.le_refl _) (.cells #[.bool n, .string (bL R), .int .i64 (kr : Int)] 23))).later (Nat.le_refl _) b6)
  have M6 := Lib.hid ((M5.out.later ((Below.refl _ _).alloc (Nat.le_refl _) (.cells #[.bool n, .string (bL R), .int .i64 (kr : Int)] 23))).later b6)
  have T6 := Lib.hid ((BoxAt.new w5 #[.bool n, .string (bL R), .int .i64 (kr : Int)] 23).later b6)
  have Hw5 := Lib.hid (And.intro G5.out.p.lt M5.out.lt)
  clear b6 d0 d1 d2 o0 o1 o2 o3 o4 p0 p1 p2 p3 p4 G5 M5
  have n1 : ¬ 9223372036854775807 < Wh.size + p.size := by omega
  have n2 : ¬ 9223372036854775807 < (Wh ++ p).size + Pa.size := by rw [ByteArray.size_append]; omega
  have n3 : (Wh ++ p ++ Pa).size ≤ 1000 := by rw [ByteArray.size_append, ByteArray.size_append]; omega
  have n4 : Wh.size ≤ 1000 := by omega
  have hw5 : w3.heap.size + 1 < w5.heap.size ∧ w3.heap.size + 1 + 1 < w5.heap.size := ⟨Hw5.out.1, Hw5.out.2⟩
  by_cases hk : kr = 0
  · have q1 : decide ((0 : Int) < (kr : Int)) = false := decide_eq_false (by omega)
    have q2 : ¬ (0 : Int) < (kr : Int) := by omega
    have Hk := Lib.hid hk
    clear hk
    cases n
    case false =>
      as_aux_lemma =>
        have d0 : w6.cell? ⟨w.heap.size, 0, none⟩ = some (.bool false) := G6.out.d.cell 0
        have d1 : w6.cell? ⟨w.heap.size, 1, none⟩ = some (.string s) := G6.out.d.cell 1
        have d2 : w6.cell? ⟨w.heap.size, 2, none⟩ = some (.int .i64 k) := G6.out.d.cell 2
        have o0 : w6.cell? ⟨w3.heap.size, 0, none⟩ = some (.int .i64 1) := G6.out.o.cell 0
        have p0 : w6.cell? ⟨w3.heap.size + 1, 0, none⟩ = some (.int .i64 1) := G6.out.p.cell 0
        have o1 : w6.cell? ⟨w3.heap.size, 1, none⟩ = some (.int .i64 0) := G6.out.o.cell 1
        have p1 : w6.cell? ⟨w3.heap.size + 1, 1, none⟩ = some (.int .i64 0) := G6.out.p.cell 1
        have o2 : w6.cell? ⟨w3.heap.size, 2, none⟩ = some (.int .i64 3) := G6.out.o.cell 2
        have p2 : w6.cell? ⟨w3.heap.size + 1, 2, none⟩ = some (.int .i64 3) := G6.out.p.cell 2
        have o3 : w6.cell? ⟨w3.heap.size, 3, none⟩ = some (.bool false) := G6.out.o.cell 3
        have p3 : w6.cell? ⟨w3.heap.size + 1, 3, none⟩ = some (.bool true) := G6.out.p.cell 3
        have o4 : w6.cell? ⟨w3.heap.size, 4, none⟩ = some (.bool false) := G6.out.o.cell 4
        have p4 : w6.cell? ⟨w3.heap.size + 1, 4, none⟩ = some (.bool false) := G6.out.p.cell 4
        have t0 : w6.cell? ⟨w5.heap.size, 0, none⟩ = some (.bool false) := T6.out.cell 0
        have t1 : w6.cell? ⟨w5.heap.size, 1, none⟩ = some (.string (bL R)) := T6.out.cell 1
        have t2 : w6.cell? ⟨w5.heap.size, 2, none⟩ = some (.int .i64 kr) := T6.out.cell 2
        go_wp2_with fail
        go_at_call 9
        refine (HFa.out _ _ 1 (by decide) M6.out).mono ?_
        rintro e w7 ⟨rfl, hm7, hk7⟩
        have G7 := Lib.hid (G6.out.kp (by omega) (by omega) hk7)
        have M7 := Lib.hid hm7
        have T7 := Lib.hid (T6.out.kp hk7 (by omega))
        clear hm7 hk7 d0 d1 d2 o0 o1 o2 o3 o4 p0 p1 p2 p3 p4 t0 t1 t2 G6 M6 T6
        have d0 : w7.cell? ⟨w.heap.size, 0, none⟩ = some (.bool false) := G7.out.d.cell 0
        have d1 : w7.cell? ⟨w.heap.size, 1, none⟩ = some (.string s) := G7.out.d.cell 1
        have d2 : w7.cell? ⟨w.heap.size, 2, none⟩ = some (.int .i64 k) := G7.out.d.cell 2
        have o0 : w7.cell? ⟨w3.heap.size, 0, none⟩ = some (.int .i64 1) := G7.out.o.cell 0
        have p0 : w7.cell? ⟨w3.heap.size + 1, 0, none⟩ = some (.int .i64 1) := G7.out.p.cell 0
        have o1 : w7.cell? ⟨w3.heap.size, 1, none⟩ = some (.int .i64 0) := G7.out.o.cell 1
        have p1 : w7.cell? ⟨w3.heap.size + 1, 1, none⟩ = some (.int .i64 0) := G7.out.p.cell 1
        have o2 : w7.cell? ⟨w3.heap.size, 2, none⟩ = some (.int .i64 3) := G7.out.o.cell 2
        have p2 : w7.cell? ⟨w3.heap.size + 1, 2, none⟩ = some (.int .i64 3) := G7.out.p.cell 2
        have o3 : w7.cell? ⟨w3.heap.size, 3, none⟩ = some (.bool false) := G7.out.o.cell 3
        have p3 : w7.cell? ⟨w3.heap.size + 1, 3, none⟩ = some (.bool true) := G7.out.p.cell 3
        have o4 : w7.cell? ⟨w3.heap.size, 4, none⟩ = some (.bool false) := G7.out.o.cell 4
        have p4 : w7.cell? ⟨w3.heap.size + 1, 4, none⟩ = some (.bool false) := G7.out.p.cell 4
        have t0 : w7.cell? ⟨w5.heap.size, 0, none⟩ = some (.bool false) := T7.out.cell 0
        have t1 : w7.cell? ⟨w5.heap.size, 1, none⟩ = some (.string (bL R)) := T7.out.cell 1
        have t2 : w7.cell? ⟨w5.heap.size, 2, none⟩ = some (.int .i64 kr) := T7.out.cell 2
        go_wp2_with fail
        go_at_call 9
        refine (HFb.out _ _ 2 (by decide) M7.out).mono ?_
        rintro e w8 ⟨rfl, hm8, hk8⟩
        have G8 := Lib.hid (G7.out.kp (by omega) (by omega) hk8)
        have M8 := Lib.hid hm8
        have T8 := Lib.hid (T7.out.kp hk8 (by omega))
        clear hm8 hk8 d0 d1 d2 o0 o1 o2 o3 o4 p0 p1 p2 p3 p4 t0 t1 t2 G7 M7 T7
        have d0 : w8.cell? ⟨w.heap.size, 0, none⟩ = some (.bool false) := G8.out.d.cell 0
        have d1 : w8.cell? ⟨w.heap.size, 1, none⟩ = some (.string s) := G8.out.d.cell 1
        have d2 : w8.cell? ⟨w.heap.size, 2, none⟩ = some (.int .i64 k) := G8.out.d.cell 2
        have o0 : w8.cell? ⟨w3.heap.size, 0, none⟩ = some (.int .i64 1) := G8.out.o.cell 0
        have p0 : w8.cell? ⟨w3.heap.size + 1, 0, none⟩ = some (.int .i64 1) := G8.out.p.cell 0
        have o1 : w8.cell? ⟨w3.heap.size, 1, none⟩ = some (.int .i64 0) := G8.out.o.cell 1
        have p1 : w8.cell? ⟨w3.heap.size + 1, 1, none⟩ = some (.int .i64 0) := G8.out.p.cell 1
        have o2 : w8.cell? ⟨w3.heap.size, 2, none⟩ = some (.int .i64 3) := G8.out.o.cell 2
        have p2 : w8.cell? ⟨w3.heap.size + 1, 2, none⟩ = some (.int .i64 3) := G8.out.p.cell 2
        have o3 : w8.cell? ⟨w3.heap.size, 3, none⟩ = some (.bool false) := G8.out.o.cell 3
        have p3 : w8.cell? ⟨w3.heap.size + 1, 3, none⟩ = some (.bool true) := G8.out.p.cell 3
        have o4 : w8.cell? ⟨w3.heap.size, 4, none⟩ = some (.bool false) := G8.out.o.cell 4
        have p4 : w8.cell? ⟨w3.heap.size + 1, 4, none⟩ = some (.bool false) := G8.out.p.cell 4
        have t0 : w8.cell? ⟨w5.heap.size, 0, none⟩ = some (.bool false) := T8.out.cell 0
        have t1 : w8.cell? ⟨w5.heap.size, 1, none⟩ = some (.string (bL R)) := T8.out.cell 1
        have t2 : w8.cell? ⟨w5.heap.size, 2, none⟩ = some (.int .i64 kr) := T8.out.cell 2
        go_wp2_with fail
        go_at_call 14
        refine (HWh.out _).mono ?_
        rintro e w9 ⟨rfl, b9⟩
        have G9 := Lib.hid (G8.out.later (Nat.le_refl _) b9)
        have M9 := Lib.hid (M8.out.later b9)
        have T9 := Lib.hid (T8.out.later b9)
        clear b9 d0 d1 d2 o0 o1 o2 o3 o4 p0 p1 p2 p3 p4 t0 t1 t2 G8 M8 T8
        have d0 : w9.cell? ⟨w.heap.size, 0, none⟩ = some (.bool false) := G9.out.d.cell 0
        have d1 : w9.cell? ⟨w.heap.size, 1, none⟩ = some (.string s) := G9.out.d.cell 1
        have d2 : w9.cell? ⟨w.heap.size, 2, none⟩ = some (.int .i64 k) := G9.out.d.cell 2
        have o0 : w9.cell? ⟨w3.heap.size, 0, none⟩ = some (.int .i64 1) := G9.out.o.cell 0
        have p0 : w9.cell? ⟨w3.heap.size + 1, 0, none⟩ = some (.int .i64 1) := G9.out.p.cell 0
        have o1 : w9.cell? ⟨w3.heap.size, 1, none⟩ = some (.int .i64 0) := G9.out.o.cell 1
        have p1 : w9.cell? ⟨w3.heap.size + 1, 1, none⟩ = some (.int .i64 0) := G9.out.p.cell 1
        have o2 : w9.cell? ⟨w3.heap.size, 2, none⟩ = some (.int .i64 3) := G9.out.o.cell 2
        have p2 : w9.cell? ⟨w3.heap.size + 1, 2, none⟩ = some (.int .i64 3) := G9.out.p.cell 2
        have o3 : w9.cell? ⟨w3.heap.size, 3, none⟩ = some (.bool false) := G9.out.o.cell 3
        have p3 : w9.cell? ⟨w3.heap.size + 1, 3, none⟩ = some (.bool true) := G9.out.p.cell 3
        have o4 : w9.cell? ⟨w3.heap.size, 4, none⟩ = some (.bool false) := G9.out.o.cell 4
        have p4 : w9.cell? ⟨w3.heap.size + 1, 4, none⟩ = some (.bool false) := G9.out.p.cell 4
        have t0 : w9.cell? ⟨w5.heap.size, 0, none⟩ = some (.bool false) := T9.out.cell 0
        have t1 : w9.cell? ⟨w5.heap.size, 1, none⟩ = some (.string (bL R)) := T9.out.cell 1
        have t2 : w9.cell? ⟨w5.heap.size, 2, none⟩ = some (.int .i64 kr) := T9.out.cell 2
        have hE : A = Wh := by have := HPl.out; simpa [Hk.out] using this
        have hE2 : (A == Wh) = true := by rw [hE]; exact beqB _
        have zA : A.size ≤ 2000 := by rw [hE]; (try simp only [ByteArray.size_append]); have : (⟨#[45]⟩ : ByteArray).size = 1 := rfl; omega
        have HE := Lib.hid hE
        clear hE hE2
        go_wp2
        all_goals rename_i hx
        · go_ret
          exact ⟨ret_bool (end_len HLo.out zA HSg.out.2 (by omega) (by omega)), G9.out.bel⟩
        · exact absurd (by rw [HE.out]; try simp) hx
    case true =>
      cases zr
      case false =>
        as_aux_lemma =>
          have d0 : w6.cell? ⟨w.heap.size, 0, none⟩ = some (.bool true) := G6.out.d.cell 0
          have d1 : w6.cell? ⟨w.heap.size, 1, none⟩ = some (.string s) := G6.out.d.cell 1
          have d2 : w6.cell? ⟨w.heap.size, 2, none⟩ = some (.int .i64 k) := G6.out.d.cell 2
          have o0 : w6.cell? ⟨w3.heap.size, 0, none⟩ = some (.int .i64 1) := G6.out.o.cell 0
          have p0 : w6.cell? ⟨w3.heap.size + 1, 0, none⟩ = some (.int .i64 1) := G6.out.p.cell 0
          have o1 : w6.cell? ⟨w3.heap.size, 1, none⟩ = some (.int .i64 0) := G6.out.o.cell 1
          have p1 : w6.cell? ⟨w3.heap.size + 1, 1, none⟩ = some (.int .i64 0) := G6.out.p.cell 1
          have o2 : w6.cell? ⟨w3.heap.size, 2, none⟩ = some (.int .i64 3) := G6.out.o.cell 2
          have p2 : w6.cell? ⟨w3.heap.size + 1, 2, none⟩ = some (.int .i64 3) := G6.out.p.cell 2
          have o3 : w6.cell? ⟨w3.heap.size, 3, none⟩ = some (.bool false) := G6.out.o.cell 3
          have p3 : w6.cell? ⟨w3.heap.size + 1, 3, none⟩ = some (.bool true) := G6.out.p.cell 3
          have o4 : w6.cell? ⟨w3.heap.size, 4, none⟩ = some (.bool false) := G6.out.o.cell 4
          have p4 : w6.cell? ⟨w3.heap.size + 1, 4, none⟩ = some (.bool false) := G6.out.p.cell 4
          have t0 : w6.cell? ⟨w5.heap.size, 0, none⟩ = some (.bool true) := T6.out.cell 0
          have t1 : w6.cell? ⟨w5.heap.size, 1, none⟩ = some (.string (bL R)) := T6.out.cell 1
          have t2 : w6.cell? ⟨w5.heap.size, 2, none⟩ = some (.int .i64 kr) := T6.out.cell 2
          go_wp2_with fail
          go_at_call 8
          refine (HZe.out _).mono ?_
          rintro e w7 ⟨rfl, b7⟩
          have G7 := Lib.hid (G6.out.later (Nat.le_refl _) b7)
          have M7 := Lib.hid (M6.out.later b7)
          have T7 := Lib.hid (T6.out.later b7)
          clear b7 d0 d1 d2 o0 o1 o2 o3 o4 p0 p1 p2 p3 p4 t0 t1 t2 G6 M6 T6
          have d0 : w7.cell? ⟨w.heap.size, 0, none⟩ = some (.bool true) := G7.out.d.cell 0
          have d1 : w7.cell? ⟨w.heap.size, 1, none⟩ = some (.string s) := G7.out.d.cell 1
          have d2 : w7.cell? ⟨w.heap.size, 2, none⟩ = some (.int .i64 k) := G7.out.d.cell 2
          have o0 : w7.cell? ⟨w3.heap.size, 0, none⟩ = some (.int .i64 1) := G7.out.o.cell 0
          have p0 : w7.cell? ⟨w3.heap.size + 1, 0, none⟩ = some (.int .i64 1) := G7.out.p.cell 0
          have o1 : w7.cell? ⟨w3.heap.size, 1, none⟩ = some (.int .i64 0) := G7.out.o.cell 1
          have p1 : w7.cell? ⟨w3.heap.size + 1, 1, none⟩ = some (.int .i64 0) := G7.out.p.cell 1
          have o2 : w7.cell? ⟨w3.heap.size, 2, none⟩ = some (.int .i64 3) := G7.out.o.cell 2
          have p2 : w7.cell? ⟨w3.heap.size + 1, 2, none⟩ = some (.int .i64 3) := G7.out.p.cell 2
          have o3 : w7.cell? ⟨w3.heap.size, 3, none⟩ = some (.bool false) := G7.out.o.cell 3
          have p3 : w7.cell? ⟨w3.heap.size + 1, 3, none⟩ = some (.bool true) := G7.out.p.cell 3
          have o4 : w7.cell? ⟨w3.heap.size, 4, none⟩ = some (.bool false) := G7.out.o.cell 4
          have p4 : w7.cell? ⟨w3.heap.size + 1, 4, none⟩ = some (.bool false) := G7.out.p.cell 4
          have t0 : w7.cell? ⟨w5.heap.size, 0, none⟩ = some (.bool true) := T7.out.cell 0
          have t1 : w7.cell? ⟨w5.heap.size, 1, none⟩ = some (.string (bL R)) := T7.out.cell 1
          have t2 : w7.cell? ⟨w5.heap.size, 2, none⟩ = some (.int .i64 kr) := T7.out.cell 2
          go_wp2_with fail
          go_at_call 9
          refine (HFa.out _ _ 1 (by decide) M7.out).mono ?_
          rintro e w8 ⟨rfl, hm8, hk8⟩
          have G8 := Lib.hid (G7.out.kp (by omega) (by omega) hk8)
          have M8 := Lib.hid hm8
          have T8 := Lib.hid (T7.out.kp hk8 (by omega))
          clear hm8 hk8 d0 d1 d2 o0 o1 o2 o3 o4 p0 p1 p2 p3 p4 t0 t1 t2 G7 M7 T7
          have d0 : w8.cell? ⟨w.heap.size, 0, none⟩ = some (.bool true) := G8.out.d.cell 0
          have d1 : w8.cell? ⟨w.heap.size, 1, none⟩ = some (.string s) := G8.out.d.cell 1
          have d2 : w8.cell? ⟨w.heap.size, 2, none⟩ = some (.int .i64 k) := G8.out.d.cell 2
          have o0 : w8.cell? ⟨w3.heap.size, 0, none⟩ = some (.int .i64 1) := G8.out.o.cell 0
          have p0 : w8.cell? ⟨w3.heap.size + 1, 0, none⟩ = some (.int .i64 1) := G8.out.p.cell 0
          have o1 : w8.cell? ⟨w3.heap.size, 1, none⟩ = some (.int .i64 0) := G8.out.o.cell 1
          have p1 : w8.cell? ⟨w3.heap.size + 1, 1, none⟩ = some (.int .i64 0) := G8.out.p.cell 1
          have o2 : w8.cell? ⟨w3.heap.size, 2, none⟩ = some (.int .i64 3) := G8.out.o.cell 2
          have p2 : w8.cell? ⟨w3.heap.size + 1, 2, none⟩ = some (.int .i64 3) := G8.out.p.cell 2
          have o3 : w8.cell? ⟨w3.heap.size, 3, none⟩ = some (.bool false) := G8.out.o.cell 3
          have p3 : w8.cell? ⟨w3.heap.size + 1, 3, none⟩ = some (.bool true) := G8.out.p.cell 3
          have o4 : w8.cell? ⟨w3.heap.size, 4, none⟩ = some (.bool false) := G8.out.o.cell 4
          have p4 : w8.cell? ⟨w3.heap.size + 1, 4, none⟩ = some (.bool false) := G8.out.p.cell 4
          have t0 : w8.cell? ⟨w5.heap.size, 0, none⟩ = some (.bool true) := T8.out.cell 0
          have t1 : w8.cell? ⟨w5.heap.size, 1, none⟩ = some (.string (bL R)) := T8.out.cell 1
          have t2 : w8.cell? ⟨w5.heap.size, 2, none⟩ = some (.int .i64 kr) := T8.out.cell 2
          go_wp2_with fail
          go_at_call 9
          refine (HFb.out _ _ 2 (by decide) M8.out).mono ?_
          rintro e w9 ⟨rfl, hm9, hk9⟩
          have G9 := Lib.hid (G8.out.kp (by omega) (by omega) hk9)
          have M9 := Lib.hid hm9
          have T9 := Lib.hid (T8.out.kp hk9 (by omega))
          clear hm9 hk9 d0 d1 d2 o0 o1 o2 o3 o4 p0 p1 p2 p3 p4 t0 t1 t2 G8 M8 T8
          have d0 : w9.cell? ⟨w.heap.size, 0, none⟩ = some (.bool true) := G9.out.d.cell 0
          have d1 : w9.cell? ⟨w.heap.size, 1, none⟩ = some (.string s) := G9.out.d.cell 1
          have d2 : w9.cell? ⟨w.heap.size, 2, none⟩ = some (.int .i64 k) := G9.out.d.cell 2
          have o0 : w9.cell? ⟨w3.heap.size, 0, none⟩ = some (.int .i64 1) := G9.out.o.cell 0
          have p0 : w9.cell? ⟨w3.heap.size + 1, 0, none⟩ = some (.int .i64 1) := G9.out.p.cell 0
          have o1 : w9.cell? ⟨w3.heap.size, 1, none⟩ = some (.int .i64 0) := G9.out.o.cell 1
          have p1 : w9.cell? ⟨w3.heap.size + 1, 1, none⟩ = some (.int .i64 0) := G9.out.p.cell 1
          have o2 : w9.cell? ⟨w3.heap.size, 2, none⟩ = some (.int .i64 3) := G9.out.o.cell 2
          have p2 : w9.cell? ⟨w3.heap.size + 1, 2, none⟩ = some (.int .i64 3) := G9.out.p.cell 2
          have o3 : w9.cell? ⟨w3.heap.size, 3, none⟩ = some (.bool false) := G9.out.o.cell 3
          have p3 : w9.cell? ⟨w3.heap.size + 1, 3, none⟩ = some (.bool true) := G9.out.p.cell 3
          have o4 : w9.cell? ⟨w3.heap.size, 4, none⟩ = some (.bool false) := G9.out.o.cell 4
          have p4 : w9.cell? ⟨w3.heap.size + 1, 4, none⟩ = some (.bool false) := G9.out.p.cell 4
          have t0 : w9.cell? ⟨w5.heap.size, 0, none⟩ = some (.bool true) := T9.out.cell 0
          have t1 : w9.cell? ⟨w5.heap.size, 1, none⟩ = some (.string (bL R)) := T9.out.cell 1
          have t2 : w9.cell? ⟨w5.heap.size, 2, none⟩ = some (.int .i64 kr) := T9.out.cell 2
          go_wp2_with fail
          go_at_call 14
          refine (HWh.out _).mono ?_
          rintro e w10 ⟨rfl, b10⟩
          have G10 := Lib.hid (G9.out.later (Nat.le_refl _) b10)
          have M10 := Lib.hid (M9.out.later b10)
          have T10 := Lib.hid (T9.out.later b10)
          clear b10 d0 d1 d2 o0 o1 o2 o3 o4 p0 p1 p2 p3 p4 t0 t1 t2 G9 M9 T9
          have d0 : w10.cell? ⟨w.heap.size, 0, none⟩ = some (.bool true) := G10.out.d.cell 0
          have d1 : w10.cell? ⟨w.heap.size, 1, none⟩ = some (.string s) := G10.out.d.cell 1
          have d2 : w10.cell? ⟨w.heap.size, 2, none⟩ = some (.int .i64 k) := G10.out.d.cell 2
          have o0 : w10.cell? ⟨w3.heap.size, 0, none⟩ = some (.int .i64 1) := G10.out.o.cell 0
          have p0 : w10.cell? ⟨w3.heap.size + 1, 0, none⟩ = some (.int .i64 1) := G10.out.p.cell 0
          have o1 : w10.cell? ⟨w3.heap.size, 1, none⟩ = some (.int .i64 0) := G10.out.o.cell 1
          have p1 : w10.cell? ⟨w3.heap.size + 1, 1, none⟩ = some (.int .i64 0) := G10.out.p.cell 1
          have o2 : w10.cell? ⟨w3.heap.size, 2, none⟩ = some (.int .i64 3) := G10.out.o.cell 2
          have p2 : w10.cell? ⟨w3.heap.size + 1, 2, none⟩ = some (.int .i64 3) := G10.out.p.cell 2
          have o3 : w10.cell? ⟨w3.heap.size, 3, none⟩ = some (.bool false) := G10.out.o.cell 3
          have p3 : w10.cell? ⟨w3.heap.size + 1, 3, none⟩ = some (.bool true) := G10.out.p.cell 3
          have o4 : w10.cell? ⟨w3.heap.size, 4, none⟩ = some (.bool false) := G10.out.o.cell 4
          have p4 : w10.cell? ⟨w3.heap.size + 1, 4, none⟩ = some (.bool false) := G10.out.p.cell 4
          have t0 : w10.cell? ⟨w5.heap.size, 0, none⟩ = some (.bool true) := T10.out.cell 0
          have t1 : w10.cell? ⟨w5.heap.size, 1, none⟩ = some (.string (bL R)) := T10.out.cell 1
          have t2 : w10.cell? ⟨w5.heap.size, 2, none⟩ = some (.int .i64 kr) := T10.out.cell 2
          have hE : A = (⟨#[45]⟩ ++ Wh) := by have := HPl.out; simpa [Hk.out] using this
          have hE2 : (A == (⟨#[45]⟩ ++ Wh)) = true := by rw [hE]; exact beqB _
          have zA : A.size ≤ 2000 := by rw [hE]; (try simp only [ByteArray.size_append]); have : (⟨#[45]⟩ : ByteArray).size = 1 := rfl; omega
          have HE := Lib.hid hE
          clear hE hE2
          go_wp2
          all_goals rename_i hx
          · go_ret
            exact ⟨ret_bool (end_len HLo.out zA HSg.out.2 (by omega) (by omega)), G10.out.bel⟩
          · exact absurd (by rw [HE.out]; try simp) hx
      case true =>
        as_aux_lemma =>
          have d0 : w6.cell? ⟨w.heap.size, 0, none⟩ = some (.bool true) := G6.out.d.cell 0
          have d1 : w6.cell? ⟨w.heap.size, 1, none⟩ = some (.string s) := G6.out.d.cell 1
          have d2 : w6.cell? ⟨w.heap.size, 2, none⟩ = some (.int .i64 k) := G6.out.d.cell 2
          have o0 : w6.cell? ⟨w3.heap.size, 0, none⟩ = some (.int .i64 1) := G6.out.o.cell 0
          have p0 : w6.cell? ⟨w3.heap.size + 1, 0, none⟩ = some (.int .i64 1) := G6.out.p.cell 0
          have o1 : w6.cell? ⟨w3.heap.size, 1, none⟩ = some (.int .i64 0) := G6.out.o.cell 1
          have p1 : w6.cell? ⟨w3.heap.size + 1, 1, none⟩ = some (.int .i64 0) := G6.out.p.cell 1
          have o2 : w6.cell? ⟨w3.heap.size, 2, none⟩ = some (.int .i64 3) := G6.out.o.cell 2
          have p2 : w6.cell? ⟨w3.heap.size + 1, 2, none⟩ = some (.int .i64 3) := G6.out.p.cell 2
          have o3 : w6.cell? ⟨w3.heap.size, 3, none⟩ = some (.bool false) := G6.out.o.cell 3
          have p3 : w6.cell? ⟨w3.heap.size + 1, 3, none⟩ = some (.bool true) := G6.out.p.cell 3
          have o4 : w6.cell? ⟨w3.heap.size, 4, none⟩ = some (.bool false) := G6.out.o.cell 4
          have p4 : w6.cell? ⟨w3.heap.size + 1, 4, none⟩ = some (.bool false) := G6.out.p.cell 4
          have t0 : w6.cell? ⟨w5.heap.size, 0, none⟩ = some (.bool true) := T6.out.cell 0
          have t1 : w6.cell? ⟨w5.heap.size, 1, none⟩ = some (.string (bL R)) := T6.out.cell 1
          have t2 : w6.cell? ⟨w5.heap.size, 2, none⟩ = some (.int .i64 kr) := T6.out.cell 2
          go_wp2_with fail
          go_at_call 8
          refine (HZe.out _).mono ?_
          rintro e w7 ⟨rfl, b7⟩
          have G7 := Lib.hid (G6.out.later (Nat.le_refl _) b7)
          have M7 := Lib.hid (M6.out.later b7)
          have T7 := Lib.hid (T6.out.later b7)
          clear b7 d0 d1 d2 o0 o1 o2 o3 o4 p0 p1 p2 p3 p4 t0 t1 t2 G6 M6 T6
          have d0 : w7.cell? ⟨w.heap.size, 0, none⟩ = some (.bool true) := G7.out.d.cell 0
          have d1 : w7.cell? ⟨w.heap.size, 1, none⟩ = some (.string s) := G7.out.d.cell 1
          have d2 : w7.cell? ⟨w.heap.size, 2, none⟩ = some (.int .i64 k) := G7.out.d.cell 2
          have o0 : w7.cell? ⟨w3.heap.size, 0, none⟩ = some (.int .i64 1) := G7.out.o.cell 0
          have p0 : w7.cell? ⟨w3.heap.size + 1, 0, none⟩ = some (.int .i64 1) := G7.out.p.cell 0
          have o1 : w7.cell? ⟨w3.heap.size, 1, none⟩ = some (.int .i64 0) := G7.out.o.cell 1
          have p1 : w7.cell? ⟨w3.heap.size + 1, 1, none⟩ = some (.int .i64 0) := G7.out.p.cell 1
          have o2 : w7.cell? ⟨w3.heap.size, 2, none⟩ = some (.int .i64 3) := G7.out.o.cell 2
          have p2 : w7.cell? ⟨w3.heap.size + 1, 2, none⟩ = some (.int .i64 3) := G7.out.p.cell 2
          have o3 : w7.cell? ⟨w3.heap.size, 3, none⟩ = some (.bool false) := G7.out.o.cell 3
          have p3 : w7.cell? ⟨w3.heap.size + 1, 3, none⟩ = some (.bool true) := G7.out.p.cell 3
          have o4 : w7.cell? ⟨w3.heap.size, 4, none⟩ = some (.bool false) := G7.out.o.cell 4
          have p4 : w7.cell? ⟨w3.heap.size + 1, 4, none⟩ = some (.bool false) := G7.out.p.cell 4
          have t0 : w7.cell? ⟨w5.heap.size, 0, none⟩ = some (.bool true) := T7.out.cell 0
          have t1 : w7.cell? ⟨w5.heap.size, 1, none⟩ = some (.string (bL R)) := T7.out.cell 1
          have t2 : w7.cell? ⟨w5.heap.size, 2, none⟩ = some (.int .i64 kr) := T7.out.cell 2
          go_wp2_with fail
          go_at_call 9
          refine (HFa.out _ _ 1 (by decide) M7.out).mono ?_
          rintro e w8 ⟨rfl, hm8, hk8⟩
          have G8 := Lib.hid (G7.out.kp (by omega) (by omega) hk8)
          have M8 := Lib.hid hm8
          have T8 := Lib.hid (T7.out.kp hk8 (by omega))
          clear hm8 hk8 d0 d1 d2 o0 o1 o2 o3 o4 p0 p1 p2 p3 p4 t0 t1 t2 G7 M7 T7
          have d0 : w8.cell? ⟨w.heap.size, 0, none⟩ = some (.bool true) := G8.out.d.cell 0
          have d1 : w8.cell? ⟨w.heap.size, 1, none⟩ = some (.string s) := G8.out.d.cell 1
          have d2 : w8.cell? ⟨w.heap.size, 2, none⟩ = some (.int .i64 k) := G8.out.d.cell 2
          have o0 : w8.cell? ⟨w3.heap.size, 0, none⟩ = some (.int .i64 1) := G8.out.o.cell 0
          have p0 : w8.cell? ⟨w3.heap.size + 1, 0, none⟩ = some (.int .i64 1) := G8.out.p.cell 0
          have o1 : w8.cell? ⟨w3.heap.size, 1, none⟩ = some (.int .i64 0) := G8.out.o.cell 1
          have p1 : w8.cell? ⟨w3.heap.size + 1, 1, none⟩ = some (.int .i64 0) := G8.out.p.cell 1
          have o2 : w8.cell? ⟨w3.heap.size, 2, none⟩ = some (.int .i64 3) := G8.out.o.cell 2
          have p2 : w8.cell? ⟨w3.heap.size + 1, 2, none⟩ = some (.int .i64 3) := G8.out.p.cell 2
          have o3 : w8.cell? ⟨w3.heap.size, 3, none⟩ = some (.bool false) := G8.out.o.cell 3
          have p3 : w8.cell? ⟨w3.heap.size + 1, 3, none⟩ = some (.bool true) := G8.out.p.cell 3
          have o4 : w8.cell? ⟨w3.heap.size, 4, none⟩ = some (.bool false) := G8.out.o.cell 4
          have p4 : w8.cell? ⟨w3.heap.size + 1, 4, none⟩ = some (.bool false) := G8.out.p.cell 4
          have t0 : w8.cell? ⟨w5.heap.size, 0, none⟩ = some (.bool true) := T8.out.cell 0
          have t1 : w8.cell? ⟨w5.heap.size, 1, none⟩ = some (.string (bL R)) := T8.out.cell 1
          have t2 : w8.cell? ⟨w5.heap.size, 2, none⟩ = some (.int .i64 kr) := T8.out.cell 2
          go_wp2_with fail
          go_at_call 9
          refine (HFb.out _ _ 2 (by decide) M8.out).mono ?_
          rintro e w9 ⟨rfl, hm9, hk9⟩
          have G9 := Lib.hid (G8.out.kp (by omega) (by omega) hk9)
          have M9 := Lib.hid hm9
          have T9 := Lib.hid (T8.out.kp hk9 (by omega))
          clear hm9 hk9 d0 d1 d2 o0 o1 o2 o3 o4 p0 p1 p2 p3 p4 t0 t1 t2 G8 M8 T8
          have d0 : w9.cell? ⟨w.heap.size, 0, none⟩ = some (.bool true) := G9.out.d.cell 0
          have d1 : w9.cell? ⟨w.heap.size, 1, none⟩ = some (.string s) := G9.out.d.cell 1
          have d2 : w9.cell? ⟨w.heap.size, 2, none⟩ = some (.int .i64 k) := G9.out.d.cell 2
          have o0 : w9.cell? ⟨w3.heap.size, 0, none⟩ = some (.int .i64 1) := G9.out.o.cell 0
          have p0 : w9.cell? ⟨w3.heap.size + 1, 0, none⟩ = some (.int .i64 1) := G9.out.p.cell 0
          have o1 : w9.cell? ⟨w3.heap.size, 1, none⟩ = some (.int .i64 0) := G9.out.o.cell 1
          have p1 : w9.cell? ⟨w3.heap.size + 1, 1, none⟩ = some (.int .i64 0) := G9.out.p.cell 1
          have o2 : w9.cell? ⟨w3.heap.size, 2, none⟩ = some (.int .i64 3) := G9.out.o.cell 2
          have p2 : w9.cell? ⟨w3.heap.size + 1, 2, none⟩ = some (.int .i64 3) := G9.out.p.cell 2
          have o3 : w9.cell? ⟨w3.heap.size, 3, none⟩ = some (.bool false) := G9.out.o.cell 3
          have p3 : w9.cell? ⟨w3.heap.size + 1, 3, none⟩ = some (.bool true) := G9.out.p.cell 3
          have o4 : w9.cell? ⟨w3.heap.size, 4, none⟩ = some (.bool false) := G9.out.o.cell 4
          have p4 : w9.cell? ⟨w3.heap.size + 1, 4, none⟩ = some (.bool false) := G9.out.p.cell 4
          have t0 : w9.cell? ⟨w5.heap.size, 0, none⟩ = some (.bool true) := T9.out.cell 0
          have t1 : w9.cell? ⟨w5.heap.size, 1, none⟩ = some (.string (bL R)) := T9.out.cell 1
          have t2 : w9.cell? ⟨w5.heap.size, 2, none⟩ = some (.int .i64 kr) := T9.out.cell 2
          go_wp2_with fail
          go_at_call 14
          refine (HWh.out _).mono ?_
          rintro e w10 ⟨rfl, b10⟩
          have G10 := Lib.hid (G9.out.later (Nat.le_refl _) b10)
          have M10 := Lib.hid (M9.out.later b10)
          have T10 := Lib.hid (T9.out.later b10)
          clear b10 d0 d1 d2 o0 o1 o2 o3 o4 p0 p1 p2 p3 p4 t0 t1 t2 G9 M9 T9
          have d0 : w10.cell? ⟨w.heap.size, 0, none⟩ = some (.bool true) := G10.out.d.cell 0
          have d1 : w10.cell? ⟨w.heap.size, 1, none⟩ = some (.string s) := G10.out.d.cell 1
          have d2 : w10.cell? ⟨w.heap.size, 2, none⟩ = some (.int .i64 k) := G10.out.d.cell 2
          have o0 : w10.cell? ⟨w3.heap.size, 0, none⟩ = some (.int .i64 1) := G10.out.o.cell 0
          have p0 : w10.cell? ⟨w3.heap.size + 1, 0, none⟩ = some (.int .i64 1) := G10.out.p.cell 0
          have o1 : w10.cell? ⟨w3.heap.size, 1, none⟩ = some (.int .i64 0) := G10.out.o.cell 1
          have p1 : w10.cell? ⟨w3.heap.size + 1, 1, none⟩ = some (.int .i64 0) := G10.out.p.cell 1
          have o2 : w10.cell? ⟨w3.heap.size, 2, none⟩ = some (.int .i64 3) := G10.out.o.cell 2
          have p2 : w10.cell? ⟨w3.heap.size + 1, 2, none⟩ = some (.int .i64 3) := G10.out.p.cell 2
          have o3 : w10.cell? ⟨w3.heap.size, 3, none⟩ = some (.bool false) := G10.out.o.cell 3
          have p3 : w10.cell? ⟨w3.heap.size + 1, 3, none⟩ = some (.bool true) := G10.out.p.cell 3
          have o4 : w10.cell? ⟨w3.heap.size, 4, none⟩ = some (.bool false) := G10.out.o.cell 4
          have p4 : w10.cell? ⟨w3.heap.size + 1, 4, none⟩ = some (.bool false) := G10.out.p.cell 4
          have t0 : w10.cell? ⟨w5.heap.size, 0, none⟩ = some (.bool true) := T10.out.cell 0
          have t1 : w10.cell? ⟨w5.heap.size, 1, none⟩ = some (.string (bL R)) := T10.out.cell 1
          have t2 : w10.cell? ⟨w5.heap.size, 2, none⟩ = some (.int .i64 kr) := T10.out.cell 2
          have hE : A = Wh := by have := HPl.out; simpa [Hk.out] using this
          have hE2 : (A == Wh) = true := by rw [hE]; exact beqB _
          have zA : A.size ≤ 2000 := by rw [hE]; (try simp only [ByteArray.size_append]); have : (⟨#[45]⟩ : ByteArray).size = 1 := rfl; omega
          have HE := Lib.hid hE
          clear hE hE2
          go_wp2
          all_goals rename_i hx
          · go_ret
            exact ⟨ret_bool (end_len HLo.out zA HSg.out.2 (by omega) (by omega)), G10.out.bel⟩
          · exact absurd (by rw [HE.out]; try simp) hx
  · have q1 : decide ((0 : Int) < (kr : Int)) = true := decide_eq_true (by omega)
    have q2 : (0 : Int) < (kr : Int) := by omega
    have Hk := Lib.hid hk
    clear hk
    cases n
    case false =>
      as_aux_lemma =>
        have d0 : w6.cell? ⟨w.heap.size, 0, none⟩ = some (.bool false) := G6.out.d.cell 0
        have d1 : w6.cell? ⟨w.heap.size, 1, none⟩ = some (.string s) := G6.out.d.cell 1
        have d2 : w6.cell? ⟨w.heap.size, 2, none⟩ = some (.int .i64 k) := G6.out.d.cell 2
        have o0 : w6.cell? ⟨w3.heap.size, 0, none⟩ = some (.int .i64 1) := G6.out.o.cell 0
        have p0 : w6.cell? ⟨w3.heap.size + 1, 0, none⟩ = some (.int .i64 1) := G6.out.p.cell 0
        have o1 : w6.cell? ⟨w3.heap.size, 1, none⟩ = some (.int .i64 0) := G6.out.o.cell 1
        have p1 : w6.cell? ⟨w3.heap.size + 1, 1, none⟩ = some (.int .i64 0) := G6.out.p.cell 1
        have o2 : w6.cell? ⟨w3.heap.size, 2, none⟩ = some (.int .i64 3) := G6.out.o.cell 2
        have p2 : w6.cell? ⟨w3.heap.size + 1, 2, none⟩ = some (.int .i64 3) := G6.out.p.cell 2
        have o3 : w6.cell? ⟨w3.heap.size, 3, none⟩ = some (.bool false) := G6.out.o.cell 3
        have p3 : w6.cell? ⟨w3.heap.size + 1, 3, none⟩ = some (.bool true) := G6.out.p.cell 3
        have o4 : w6.cell? ⟨w3.heap.size, 4, none⟩ = some (.bool false) := G6.out.o.cell 4
        have p4 : w6.cell? ⟨w3.heap.size + 1, 4, none⟩ = some (.bool false) := G6.out.p.cell 4
        have t0 : w6.cell? ⟨w5.heap.size, 0, none⟩ = some (.bool false) := T6.out.cell 0
        have t1 : w6.cell? ⟨w5.heap.size, 1, none⟩ = some (.string (bL R)) := T6.out.cell 1
        have t2 : w6.cell? ⟨w5.heap.size, 2, none⟩ = some (.int .i64 kr) := T6.out.cell 2
        go_wp2_with fail
        go_at_call 15
        refine (HPa.out _).mono ?_
        rintro e w7 ⟨rfl, b7⟩
        have G7 := Lib.hid (G6.out.later (Nat.le_refl _) b7)
        have M7 := Lib.hid (M6.out.later b7)
        have T7 := Lib.hid (T6.out.later b7)
        clear b7 d0 d1 d2 o0 o1 o2 o3 o4 p0 p1 p2 p3 p4 t0 t1 t2 G6 M6 T6
        have d0 : w7.cell? ⟨w.heap.size, 0, none⟩ = some (.bool false) := G7.out.d.cell 0
        have d1 : w7.cell? ⟨w.heap.size, 1, none⟩ = some (.string s) := G7.out.d.cell 1
        have d2 : w7.cell? ⟨w.heap.size, 2, none⟩ = some (.int .i64 k) := G7.out.d.cell 2
        have o0 : w7.cell? ⟨w3.heap.size, 0, none⟩ = some (.int .i64 1) := G7.out.o.cell 0
        have p0 : w7.cell? ⟨w3.heap.size + 1, 0, none⟩ = some (.int .i64 1) := G7.out.p.cell 0
        have o1 : w7.cell? ⟨w3.heap.size, 1, none⟩ = some (.int .i64 0) := G7.out.o.cell 1
        have p1 : w7.cell? ⟨w3.heap.size + 1, 1, none⟩ = some (.int .i64 0) := G7.out.p.cell 1
        have o2 : w7.cell? ⟨w3.heap.size, 2, none⟩ = some (.int .i64 3) := G7.out.o.cell 2
        have p2 : w7.cell? ⟨w3.heap.size + 1, 2, none⟩ = some (.int .i64 3) := G7.out.p.cell 2
        have o3 : w7.cell? ⟨w3.heap.size, 3, none⟩ = some (.bool false) := G7.out.o.cell 3
        have p3 : w7.cell? ⟨w3.heap.size + 1, 3, none⟩ = some (.bool true) := G7.out.p.cell 3
        have o4 : w7.cell? ⟨w3.heap.size, 4, none⟩ = some (.bool false) := G7.out.o.cell 4
        have p4 : w7.cell? ⟨w3.heap.size + 1, 4, none⟩ = some (.bool false) := G7.out.p.cell 4
        have t0 : w7.cell? ⟨w5.heap.size, 0, none⟩ = some (.bool false) := T7.out.cell 0
        have t1 : w7.cell? ⟨w5.heap.size, 1, none⟩ = some (.string (bL R)) := T7.out.cell 1
        have t2 : w7.cell? ⟨w5.heap.size, 2, none⟩ = some (.int .i64 kr) := T7.out.cell 2
        go_wp2_with fail
        go_at_call 9
        refine (HFa.out _ _ 1 (by decide) M7.out).mono ?_
        rintro e w8 ⟨rfl, hm8, hk8⟩
        have G8 := Lib.hid (G7.out.kp (by omega) (by omega) hk8)
        have M8 := Lib.hid hm8
        have T8 := Lib.hid (T7.out.kp hk8 (by omega))
        clear hm8 hk8 d0 d1 d2 o0 o1 o2 o3 o4 p0 p1 p2 p3 p4 t0 t1 t2 G7 M7 T7
        have d0 : w8.cell? ⟨w.heap.size, 0, none⟩ = some (.bool false) := G8.out.d.cell 0
        have d1 : w8.cell? ⟨w.heap.size, 1, none⟩ = some (.string s) := G8.out.d.cell 1
        have d2 : w8.cell? ⟨w.heap.size, 2, none⟩ = some (.int .i64 k) := G8.out.d.cell 2
        have o0 : w8.cell? ⟨w3.heap.size, 0, none⟩ = some (.int .i64 1) := G8.out.o.cell 0
        have p0 : w8.cell? ⟨w3.heap.size + 1, 0, none⟩ = some (.int .i64 1) := G8.out.p.cell 0
        have o1 : w8.cell? ⟨w3.heap.size, 1, none⟩ = some (.int .i64 0) := G8.out.o.cell 1
        have p1 : w8.cell? ⟨w3.heap.size + 1, 1, none⟩ = some (.int .i64 0) := G8.out.p.cell 1
        have o2 : w8.cell? ⟨w3.heap.size, 2, none⟩ = some (.int .i64 3) := G8.out.o.cell 2
        have p2 : w8.cell? ⟨w3.heap.size + 1, 2, none⟩ = some (.int .i64 3) := G8.out.p.cell 2
        have o3 : w8.cell? ⟨w3.heap.size, 3, none⟩ = some (.bool false) := G8.out.o.cell 3
        have p3 : w8.cell? ⟨w3.heap.size + 1, 3, none⟩ = some (.bool true) := G8.out.p.cell 3
        have o4 : w8.cell? ⟨w3.heap.size, 4, none⟩ = some (.bool false) := G8.out.o.cell 4
        have p4 : w8.cell? ⟨w3.heap.size + 1, 4, none⟩ = some (.bool false) := G8.out.p.cell 4
        have t0 : w8.cell? ⟨w5.heap.size, 0, none⟩ = some (.bool false) := T8.out.cell 0
        have t1 : w8.cell? ⟨w5.heap.size, 1, none⟩ = some (.string (bL R)) := T8.out.cell 1
        have t2 : w8.cell? ⟨w5.heap.size, 2, none⟩ = some (.int .i64 kr) := T8.out.cell 2
        go_wp2_with fail
        go_at_call 9
        refine (HFb.out _ _ 2 (by decide) M8.out).mono ?_
        rintro e w9 ⟨rfl, hm9, hk9⟩
        have G9 := Lib.hid (G8.out.kp (by omega) (by omega) hk9)
        have M9 := Lib.hid hm9
        have T9 := Lib.hid (T8.out.kp hk9 (by omega))
        clear hm9 hk9 d0 d1 d2 o0 o1 o2 o3 o4 p0 p1 p2 p3 p4 t0 t1 t2 G8 M8 T8
        have d0 : w9.cell? ⟨w.heap.size, 0, none⟩ = some (.bool false) := G9.out.d.cell 0
        have d1 : w9.cell? ⟨w.heap.size, 1, none⟩ = some (.string s) := G9.out.d.cell 1
        have d2 : w9.cell? ⟨w.heap.size, 2, none⟩ = some (.int .i64 k) := G9.out.d.cell 2
        have o0 : w9.cell? ⟨w3.heap.size, 0, none⟩ = some (.int .i64 1) := G9.out.o.cell 0
        have p0 : w9.cell? ⟨w3.heap.size + 1, 0, none⟩ = some (.int .i64 1) := G9.out.p.cell 0
        have o1 : w9.cell? ⟨w3.heap.size, 1, none⟩ = some (.int .i64 0) := G9.out.o.cell 1
        have p1 : w9.cell? ⟨w3.heap.size + 1, 1, none⟩ = some (.int .i64 0) := G9.out.p.cell 1
        have o2 : w9.cell? ⟨w3.heap.size, 2, none⟩ = some (.int .i64 3) := G9.out.o.cell 2
        have p2 : w9.cell? ⟨w3.heap.size + 1, 2, none⟩ = some (.int .i64 3) := G9.out.p.cell 2
        have o3 : w9.cell? ⟨w3.heap.size, 3, none⟩ = some (.bool false) := G9.out.o.cell 3
        have p3 : w9.cell? ⟨w3.heap.size + 1, 3, none⟩ = some (.bool true) := G9.out.p.cell 3
        have o4 : w9.cell? ⟨w3.heap.size, 4, none⟩ = some (.bool false) := G9.out.o.cell 4
        have p4 : w9.cell? ⟨w3.heap.size + 1, 4, none⟩ = some (.bool false) := G9.out.p.cell 4
        have t0 : w9.cell? ⟨w5.heap.size, 0, none⟩ = some (.bool false) := T9.out.cell 0
        have t1 : w9.cell? ⟨w5.heap.size, 1, none⟩ = some (.string (bL R)) := T9.out.cell 1
        have t2 : w9.cell? ⟨w5.heap.size, 2, none⟩ = some (.int .i64 kr) := T9.out.cell 2
        go_wp2_with fail
        go_at_call 14
        refine (HWh.out _).mono ?_
        rintro e w10 ⟨rfl, b10⟩
        have G10 := Lib.hid (G9.out.later (Nat.le_refl _) b10)
        have M10 := Lib.hid (M9.out.later b10)
        have T10 := Lib.hid (T9.out.later b10)
        clear b10 d0 d1 d2 o0 o1 o2 o3 o4 p0 p1 p2 p3 p4 t0 t1 t2 G9 M9 T9
        have d0 : w10.cell? ⟨w.heap.size, 0, none⟩ = some (.bool false) := G10.out.d.cell 0
        have d1 : w10.cell? ⟨w.heap.size, 1, none⟩ = some (.string s) := G10.out.d.cell 1
        have d2 : w10.cell? ⟨w.heap.size, 2, none⟩ = some (.int .i64 k) := G10.out.d.cell 2
        have o0 : w10.cell? ⟨w3.heap.size, 0, none⟩ = some (.int .i64 1) := G10.out.o.cell 0
        have p0 : w10.cell? ⟨w3.heap.size + 1, 0, none⟩ = some (.int .i64 1) := G10.out.p.cell 0
        have o1 : w10.cell? ⟨w3.heap.size, 1, none⟩ = some (.int .i64 0) := G10.out.o.cell 1
        have p1 : w10.cell? ⟨w3.heap.size + 1, 1, none⟩ = some (.int .i64 0) := G10.out.p.cell 1
        have o2 : w10.cell? ⟨w3.heap.size, 2, none⟩ = some (.int .i64 3) := G10.out.o.cell 2
        have p2 : w10.cell? ⟨w3.heap.size + 1, 2, none⟩ = some (.int .i64 3) := G10.out.p.cell 2
        have o3 : w10.cell? ⟨w3.heap.size, 3, none⟩ = some (.bool false) := G10.out.o.cell 3
        have p3 : w10.cell? ⟨w3.heap.size + 1, 3, none⟩ = some (.bool true) := G10.out.p.cell 3
        have o4 : w10.cell? ⟨w3.heap.size, 4, none⟩ = some (.bool false) := G10.out.o.cell 4
        have p4 : w10.cell? ⟨w3.heap.size + 1, 4, none⟩ = some (.bool false) := G10.out.p.cell 4
        have t0 : w10.cell? ⟨w5.heap.size, 0, none⟩ = some (.bool false) := T10.out.cell 0
        have t1 : w10.cell? ⟨w5.heap.size, 1, none⟩ = some (.string (bL R)) := T10.out.cell 1
        have t2 : w10.cell? ⟨w5.heap.size, 2, none⟩ = some (.int .i64 kr) := T10.out.cell 2
        have hE : A = (Wh ++ p ++ Pa) := by have := HPl.out; simpa [Hk.out] using this
        have hE2 : (A == (Wh ++ p ++ Pa)) = true := by rw [hE]; exact beqB _
        have zA : A.size ≤ 2000 := by rw [hE]; (try simp only [ByteArray.size_append]); have : (⟨#[45]⟩ : ByteArray).size = 1 := rfl; omega
        have HE := Lib.hid hE
        clear hE hE2
        go_wp2
        all_goals rename_i hx
        · go_ret
          exact ⟨ret_bool (end_len HLo.out zA HSg.out.2 (by omega) (by omega)), G10.out.bel⟩
        · exact absurd (by rw [HE.out]; try simp) hx
    case true =>
      cases zr
      case false =>
        as_aux_lemma =>
          have d0 : w6.cell? ⟨w.heap.size, 0, none⟩ = some (.bool true) := G6.out.d.cell 0
          have d1 : w6.cell? ⟨w.heap.size, 1, none⟩ = some (.string s) := G6.out.d.cell 1
          have d2 : w6.cell? ⟨w.heap.size, 2, none⟩ = some (.int .i64 k) := G6.out.d.cell 2
          have o0 : w6.cell? ⟨w3.heap.size, 0, none⟩ = some (.int .i64 1) := G6.out.o.cell 0
          have p0 : w6.cell? ⟨w3.heap.size + 1, 0, none⟩ = some (.int .i64 1) := G6.out.p.cell 0
          have o1 : w6.cell? ⟨w3.heap.size, 1, none⟩ = some (.int .i64 0) := G6.out.o.cell 1
          have p1 : w6.cell? ⟨w3.heap.size + 1, 1, none⟩ = some (.int .i64 0) := G6.out.p.cell 1
          have o2 : w6.cell? ⟨w3.heap.size, 2, none⟩ = some (.int .i64 3) := G6.out.o.cell 2
          have p2 : w6.cell? ⟨w3.heap.size + 1, 2, none⟩ = some (.int .i64 3) := G6.out.p.cell 2
          have o3 : w6.cell? ⟨w3.heap.size, 3, none⟩ = some (.bool false) := G6.out.o.cell 3
          have p3 : w6.cell? ⟨w3.heap.size + 1, 3, none⟩ = some (.bool true) := G6.out.p.cell 3
          have o4 : w6.cell? ⟨w3.heap.size, 4, none⟩ = some (.bool false) := G6.out.o.cell 4
          have p4 : w6.cell? ⟨w3.heap.size + 1, 4, none⟩ = some (.bool false) := G6.out.p.cell 4
          have t0 : w6.cell? ⟨w5.heap.size, 0, none⟩ = some (.bool true) := T6.out.cell 0
          have t1 : w6.cell? ⟨w5.heap.size, 1, none⟩ = some (.string (bL R)) := T6.out.cell 1
          have t2 : w6.cell? ⟨w5.heap.size, 2, none⟩ = some (.int .i64 kr) := T6.out.cell 2
          go_wp2_with fail
          go_at_call 15
          refine (HPa.out _).mono ?_
          rintro e w7 ⟨rfl, b7⟩
          have G7 := Lib.hid (G6.out.later (Nat.le_refl _) b7)
          have M7 := Lib.hid (M6.out.later b7)
          have T7 := Lib.hid (T6.out.later b7)
          clear b7 d0 d1 d2 o0 o1 o2 o3 o4 p0 p1 p2 p3 p4 t0 t1 t2 G6 M6 T6
          have d0 : w7.cell? ⟨w.heap.size, 0, none⟩ = some (.bool true) := G7.out.d.cell 0
          have d1 : w7.cell? ⟨w.heap.size, 1, none⟩ = some (.string s) := G7.out.d.cell 1
          have d2 : w7.cell? ⟨w.heap.size, 2, none⟩ = some (.int .i64 k) := G7.out.d.cell 2
          have o0 : w7.cell? ⟨w3.heap.size, 0, none⟩ = some (.int .i64 1) := G7.out.o.cell 0
          have p0 : w7.cell? ⟨w3.heap.size + 1, 0, none⟩ = some (.int .i64 1) := G7.out.p.cell 0
          have o1 : w7.cell? ⟨w3.heap.size, 1, none⟩ = some (.int .i64 0) := G7.out.o.cell 1
          have p1 : w7.cell? ⟨w3.heap.size + 1, 1, none⟩ = some (.int .i64 0) := G7.out.p.cell 1
          have o2 : w7.cell? ⟨w3.heap.size, 2, none⟩ = some (.int .i64 3) := G7.out.o.cell 2
          have p2 : w7.cell? ⟨w3.heap.size + 1, 2, none⟩ = some (.int .i64 3) := G7.out.p.cell 2
          have o3 : w7.cell? ⟨w3.heap.size, 3, none⟩ = some (.bool false) := G7.out.o.cell 3
          have p3 : w7.cell? ⟨w3.heap.size + 1, 3, none⟩ = some (.bool true) := G7.out.p.cell 3
          have o4 : w7.cell? ⟨w3.heap.size, 4, none⟩ = some (.bool false) := G7.out.o.cell 4
          have p4 : w7.cell? ⟨w3.heap.size + 1, 4, none⟩ = some (.bool false) := G7.out.p.cell 4
          have t0 : w7.cell? ⟨w5.heap.size, 0, none⟩ = some (.bool true) := T7.out.cell 0
          have t1 : w7.cell? ⟨w5.heap.size, 1, none⟩ = some (.string (bL R)) := T7.out.cell 1
          have t2 : w7.cell? ⟨w5.heap.size, 2, none⟩ = some (.int .i64 kr) := T7.out.cell 2
          go_wp2_with fail
          go_at_call 8
          refine (HZe.out _).mono ?_
          rintro e w8 ⟨rfl, b8⟩
          have G8 := Lib.hid (G7.out.later (Nat.le_refl _) b8)
          have M8 := Lib.hid (M7.out.later b8)
          have T8 := Lib.hid (T7.out.later b8)
          clear b8 d0 d1 d2 o0 o1 o2 o3 o4 p0 p1 p2 p3 p4 t0 t1 t2 G7 M7 T7
          have d0 : w8.cell? ⟨w.heap.size, 0, none⟩ = some (.bool true) := G8.out.d.cell 0
          have d1 : w8.cell? ⟨w.heap.size, 1, none⟩ = some (.string s) := G8.out.d.cell 1
          have d2 : w8.cell? ⟨w.heap.size, 2, none⟩ = some (.int .i64 k) := G8.out.d.cell 2
          have o0 : w8.cell? ⟨w3.heap.size, 0, none⟩ = some (.int .i64 1) := G8.out.o.cell 0
          have p0 : w8.cell? ⟨w3.heap.size + 1, 0, none⟩ = some (.int .i64 1) := G8.out.p.cell 0
          have o1 : w8.cell? ⟨w3.heap.size, 1, none⟩ = some (.int .i64 0) := G8.out.o.cell 1
          have p1 : w8.cell? ⟨w3.heap.size + 1, 1, none⟩ = some (.int .i64 0) := G8.out.p.cell 1
          have o2 : w8.cell? ⟨w3.heap.size, 2, none⟩ = some (.int .i64 3) := G8.out.o.cell 2
          have p2 : w8.cell? ⟨w3.heap.size + 1, 2, none⟩ = some (.int .i64 3) := G8.out.p.cell 2
          have o3 : w8.cell? ⟨w3.heap.size, 3, none⟩ = some (.bool false) := G8.out.o.cell 3
          have p3 : w8.cell? ⟨w3.heap.size + 1, 3, none⟩ = some (.bool true) := G8.out.p.cell 3
          have o4 : w8.cell? ⟨w3.heap.size, 4, none⟩ = some (.bool false) := G8.out.o.cell 4
          have p4 : w8.cell? ⟨w3.heap.size + 1, 4, none⟩ = some (.bool false) := G8.out.p.cell 4
          have t0 : w8.cell? ⟨w5.heap.size, 0, none⟩ = some (.bool true) := T8.out.cell 0
          have t1 : w8.cell? ⟨w5.heap.size, 1, none⟩ = some (.string (bL R)) := T8.out.cell 1
          have t2 : w8.cell? ⟨w5.heap.size, 2, none⟩ = some (.int .i64 kr) := T8.out.cell 2
          go_wp2_with fail
          go_at_call 9
          refine (HFa.out _ _ 1 (by decide) M8.out).mono ?_
          rintro e w9 ⟨rfl, hm9, hk9⟩
          have G9 := Lib.hid (G8.out.kp (by omega) (by omega) hk9)
          have M9 := Lib.hid hm9
          have T9 := Lib.hid (T8.out.kp hk9 (by omega))
          clear hm9 hk9 d0 d1 d2 o0 o1 o2 o3 o4 p0 p1 p2 p3 p4 t0 t1 t2 G8 M8 T8
          have d0 : w9.cell? ⟨w.heap.size, 0, none⟩ = some (.bool true) := G9.out.d.cell 0
          have d1 : w9.cell? ⟨w.heap.size, 1, none⟩ = some (.string s) := G9.out.d.cell 1
          have d2 : w9.cell? ⟨w.heap.size, 2, none⟩ = some (.int .i64 k) := G9.out.d.cell 2
          have o0 : w9.cell? ⟨w3.heap.size, 0, none⟩ = some (.int .i64 1) := G9.out.o.cell 0
          have p0 : w9.cell? ⟨w3.heap.size + 1, 0, none⟩ = some (.int .i64 1) := G9.out.p.cell 0
          have o1 : w9.cell? ⟨w3.heap.size, 1, none⟩ = some (.int .i64 0) := G9.out.o.cell 1
          have p1 : w9.cell? ⟨w3.heap.size + 1, 1, none⟩ = some (.int .i64 0) := G9.out.p.cell 1
          have o2 : w9.cell? ⟨w3.heap.size, 2, none⟩ = some (.int .i64 3) := G9.out.o.cell 2
          have p2 : w9.cell? ⟨w3.heap.size + 1, 2, none⟩ = some (.int .i64 3) := G9.out.p.cell 2
          have o3 : w9.cell? ⟨w3.heap.size, 3, none⟩ = some (.bool false) := G9.out.o.cell 3
          have p3 : w9.cell? ⟨w3.heap.size + 1, 3, none⟩ = some (.bool true) := G9.out.p.cell 3
          have o4 : w9.cell? ⟨w3.heap.size, 4, none⟩ = some (.bool false) := G9.out.o.cell 4
          have p4 : w9.cell? ⟨w3.heap.size + 1, 4, none⟩ = some (.bool false) := G9.out.p.cell 4
          have t0 : w9.cell? ⟨w5.heap.size, 0, none⟩ = some (.bool true) := T9.out.cell 0
          have t1 : w9.cell? ⟨w5.heap.size, 1, none⟩ = some (.string (bL R)) := T9.out.cell 1
          have t2 : w9.cell? ⟨w5.heap.size, 2, none⟩ = some (.int .i64 kr) := T9.out.cell 2
          go_wp2_with fail
          go_at_call 9
          refine (HFb.out _ _ 2 (by decide) M9.out).mono ?_
          rintro e w10 ⟨rfl, hm10, hk10⟩
          have G10 := Lib.hid (G9.out.kp (by omega) (by omega) hk10)
          have M10 := Lib.hid hm10
          have T10 := Lib.hid (T9.out.kp hk10 (by omega))
          clear hm10 hk10 d0 d1 d2 o0 o1 o2 o3 o4 p0 p1 p2 p3 p4 t0 t1 t2 G9 M9 T9
          have d0 : w10.cell? ⟨w.heap.size, 0, none⟩ = some (.bool true) := G10.out.d.cell 0
          have d1 : w10.cell? ⟨w.heap.size, 1, none⟩ = some (.string s) := G10.out.d.cell 1
          have d2 : w10.cell? ⟨w.heap.size, 2, none⟩ = some (.int .i64 k) := G10.out.d.cell 2
          have o0 : w10.cell? ⟨w3.heap.size, 0, none⟩ = some (.int .i64 1) := G10.out.o.cell 0
          have p0 : w10.cell? ⟨w3.heap.size + 1, 0, none⟩ = some (.int .i64 1) := G10.out.p.cell 0
          have o1 : w10.cell? ⟨w3.heap.size, 1, none⟩ = some (.int .i64 0) := G10.out.o.cell 1
          have p1 : w10.cell? ⟨w3.heap.size + 1, 1, none⟩ = some (.int .i64 0) := G10.out.p.cell 1
          have o2 : w10.cell? ⟨w3.heap.size, 2, none⟩ = some (.int .i64 3) := G10.out.o.cell 2
          have p2 : w10.cell? ⟨w3.heap.size + 1, 2, none⟩ = some (.int .i64 3) := G10.out.p.cell 2
          have o3 : w10.cell? ⟨w3.heap.size, 3, none⟩ = some (.bool false) := G10.out.o.cell 3
          have p3 : w10.cell? ⟨w3.heap.size + 1, 3, none⟩ = some (.bool true) := G10.out.p.cell 3
          have o4 : w10.cell? ⟨w3.heap.size, 4, none⟩ = some (.bool false) := G10.out.o.cell 4
          have p4 : w10.cell? ⟨w3.heap.size + 1, 4, none⟩ = some (.bool false) := G10.out.p.cell 4
          have t0 : w10.cell? ⟨w5.heap.size, 0, none⟩ = some (.bool true) := T10.out.cell 0
          have t1 : w10.cell? ⟨w5.heap.size, 1, none⟩ = some (.string (bL R)) := T10.out.cell 1
          have t2 : w10.cell? ⟨w5.heap.size, 2, none⟩ = some (.int .i64 kr) := T10.out.cell 2
          go_wp2_with fail
          go_at_call 14
          refine (HWh.out _).mono ?_
          rintro e w11 ⟨rfl, b11⟩
          have G11 := Lib.hid (G10.out.later (Nat.le_refl _) b11)
          have M11 := Lib.hid (M10.out.later b11)
          have T11 := Lib.hid (T10.out.later b11)
          clear b11 d0 d1 d2 o0 o1 o2 o3 o4 p0 p1 p2 p3 p4 t0 t1 t2 G10 M10 T10
          have d0 : w11.cell? ⟨w.heap.size, 0, none⟩ = some (.bool true) := G11.out.d.cell 0
          have d1 : w11.cell? ⟨w.heap.size, 1, none⟩ = some (.string s) := G11.out.d.cell 1
          have d2 : w11.cell? ⟨w.heap.size, 2, none⟩ = some (.int .i64 k) := G11.out.d.cell 2
          have o0 : w11.cell? ⟨w3.heap.size, 0, none⟩ = some (.int .i64 1) := G11.out.o.cell 0
          have p0 : w11.cell? ⟨w3.heap.size + 1, 0, none⟩ = some (.int .i64 1) := G11.out.p.cell 0
          have o1 : w11.cell? ⟨w3.heap.size, 1, none⟩ = some (.int .i64 0) := G11.out.o.cell 1
          have p1 : w11.cell? ⟨w3.heap.size + 1, 1, none⟩ = some (.int .i64 0) := G11.out.p.cell 1
          have o2 : w11.cell? ⟨w3.heap.size, 2, none⟩ = some (.int .i64 3) := G11.out.o.cell 2
          have p2 : w11.cell? ⟨w3.heap.size + 1, 2, none⟩ = some (.int .i64 3) := G11.out.p.cell 2
          have o3 : w11.cell? ⟨w3.heap.size, 3, none⟩ = some (.bool false) := G11.out.o.cell 3
          have p3 : w11.cell? ⟨w3.heap.size + 1, 3, none⟩ = some (.bool true) := G11.out.p.cell 3
          have o4 : w11.cell? ⟨w3.heap.size, 4, none⟩ = some (.bool false) := G11.out.o.cell 4
          have p4 : w11.cell? ⟨w3.heap.size + 1, 4, none⟩ = some (.bool false) := G11.out.p.cell 4
          have t0 : w11.cell? ⟨w5.heap.size, 0, none⟩ = some (.bool true) := T11.out.cell 0
          have t1 : w11.cell? ⟨w5.heap.size, 1, none⟩ = some (.string (bL R)) := T11.out.cell 1
          have t2 : w11.cell? ⟨w5.heap.size, 2, none⟩ = some (.int .i64 kr) := T11.out.cell 2
          have hE : A = (⟨#[45]⟩ ++ (Wh ++ p ++ Pa)) := by have := HPl.out; simpa [Hk.out] using this
          have hE2 : (A == (⟨#[45]⟩ ++ (Wh ++ p ++ Pa))) = true := by rw [hE]; exact beqB _
          have zA : A.size ≤ 2000 := by rw [hE]; (try simp only [ByteArray.size_append]); have : (⟨#[45]⟩ : ByteArray).size = 1 := rfl; omega
          have HE := Lib.hid hE
          clear hE hE2
          go_wp2
          all_goals rename_i hx
          · go_ret
            exact ⟨ret_bool (end_len HLo.out zA HSg.out.2 (by omega) (by omega)), G11.out.bel⟩
          · exact absurd (by rw [HE.out]; try simp) hx
      case true =>
        as_aux_lemma =>
          have d0 : w6.cell? ⟨w.heap.size, 0, none⟩ = some (.bool true) := G6.out.d.cell 0
          have d1 : w6.cell? ⟨w.heap.size, 1, none⟩ = some (.string s) := G6.out.d.cell 1
          have d2 : w6.cell? ⟨w.heap.size, 2, none⟩ = some (.int .i64 k) := G6.out.d.cell 2
          have o0 : w6.cell? ⟨w3.heap.size, 0, none⟩ = some (.int .i64 1) := G6.out.o.cell 0
          have p0 : w6.cell? ⟨w3.heap.size + 1, 0, none⟩ = some (.int .i64 1) := G6.out.p.cell 0
          have o1 : w6.cell? ⟨w3.heap.size, 1, none⟩ = some (.int .i64 0) := G6.out.o.cell 1
          have p1 : w6.cell? ⟨w3.heap.size + 1, 1, none⟩ = some (.int .i64 0) := G6.out.p.cell 1
          have o2 : w6.cell? ⟨w3.heap.size, 2, none⟩ = some (.int .i64 3) := G6.out.o.cell 2
          have p2 : w6.cell? ⟨w3.heap.size + 1, 2, none⟩ = some (.int .i64 3) := G6.out.p.cell 2
          have o3 : w6.cell? ⟨w3.heap.size, 3, none⟩ = some (.bool false) := G6.out.o.cell 3
          have p3 : w6.cell? ⟨w3.heap.size + 1, 3, none⟩ = some (.bool true) := G6.out.p.cell 3
          have o4 : w6.cell? ⟨w3.heap.size, 4, none⟩ = some (.bool false) := G6.out.o.cell 4
          have p4 : w6.cell? ⟨w3.heap.size + 1, 4, none⟩ = some (.bool false) := G6.out.p.cell 4
          have t0 : w6.cell? ⟨w5.heap.size, 0, none⟩ = some (.bool true) := T6.out.cell 0
          have t1 : w6.cell? ⟨w5.heap.size, 1, none⟩ = some (.string (bL R)) := T6.out.cell 1
          have t2 : w6.cell? ⟨w5.heap.size, 2, none⟩ = some (.int .i64 kr) := T6.out.cell 2
          go_wp2_with fail
          go_at_call 15
          refine (HPa.out _).mono ?_
          rintro e w7 ⟨rfl, b7⟩
          have G7 := Lib.hid (G6.out.later (Nat.le_refl _) b7)
          have M7 := Lib.hid (M6.out.later b7)
          have T7 := Lib.hid (T6.out.later b7)
          clear b7 d0 d1 d2 o0 o1 o2 o3 o4 p0 p1 p2 p3 p4 t0 t1 t2 G6 M6 T6
          have d0 : w7.cell? ⟨w.heap.size, 0, none⟩ = some (.bool true) := G7.out.d.cell 0
          have d1 : w7.cell? ⟨w.heap.size, 1, none⟩ = some (.string s) := G7.out.d.cell 1
          have d2 : w7.cell? ⟨w.heap.size, 2, none⟩ = some (.int .i64 k) := G7.out.d.cell 2
          have o0 : w7.cell? ⟨w3.heap.size, 0, none⟩ = some (.int .i64 1) := G7.out.o.cell 0
          have p0 : w7.cell? ⟨w3.heap.size + 1, 0, none⟩ = some (.int .i64 1) := G7.out.p.cell 0
          have o1 : w7.cell? ⟨w3.heap.size, 1, none⟩ = some (.int .i64 0) := G7.out.o.cell 1
          have p1 : w7.cell? ⟨w3.heap.size + 1, 1, none⟩ = some (.int .i64 0) := G7.out.p.cell 1
          have o2 : w7.cell? ⟨w3.heap.size, 2, none⟩ = some (.int .i64 3) := G7.out.o.cell 2
          have p2 : w7.cell? ⟨w3.heap.size + 1, 2, none⟩ = some (.int .i64 3) := G7.out.p.cell 2
          have o3 : w7.cell? ⟨w3.heap.size, 3, none⟩ = some (.bool false) := G7.out.o.cell 3
          have p3 : w7.cell? ⟨w3.heap.size + 1, 3, none⟩ = some (.bool true) := G7.out.p.cell 3
          have o4 : w7.cell? ⟨w3.heap.size, 4, none⟩ = some (.bool false) := G7.out.o.cell 4
          have p4 : w7.cell? ⟨w3.heap.size + 1, 4, none⟩ = some (.bool false) := G7.out.p.cell 4
          have t0 : w7.cell? ⟨w5.heap.size, 0, none⟩ = some (.bool true) := T7.out.cell 0
          have t1 : w7.cell? ⟨w5.heap.size, 1, none⟩ = some (.string (bL R)) := T7.out.cell 1
          have t2 : w7.cell? ⟨w5.heap.size, 2, none⟩ = some (.int .i64 kr) := T7.out.cell 2
          go_wp2_with fail
          go_at_call 8
          refine (HZe.out _).mono ?_
          rintro e w8 ⟨rfl, b8⟩
          have G8 := Lib.hid (G7.out.later (Nat.le_refl _) b8)
          have M8 := Lib.hid (M7.out.later b8)
          have T8 := Lib.hid (T7.out.later b8)
          clear b8 d0 d1 d2 o0 o1 o2 o3 o4 p0 p1 p2 p3 p4 t0 t1 t2 G7 M7 T7
          have d0 : w8.cell? ⟨w.heap.size, 0, none⟩ = some (.bool true) := G8.out.d.cell 0
          have d1 : w8.cell? ⟨w.heap.size, 1, none⟩ = some (.string s) := G8.out.d.cell 1
          have d2 : w8.cell? ⟨w.heap.size, 2, none⟩ = some (.int .i64 k) := G8.out.d.cell 2
          have o0 : w8.cell? ⟨w3.heap.size, 0, none⟩ = some (.int .i64 1) := G8.out.o.cell 0
          have p0 : w8.cell? ⟨w3.heap.size + 1, 0, none⟩ = some (.int .i64 1) := G8.out.p.cell 0
          have o1 : w8.cell? ⟨w3.heap.size, 1, none⟩ = some (.int .i64 0) := G8.out.o.cell 1
          have p1 : w8.cell? ⟨w3.heap.size + 1, 1, none⟩ = some (.int .i64 0) := G8.out.p.cell 1
          have o2 : w8.cell? ⟨w3.heap.size, 2, none⟩ = some (.int .i64 3) := G8.out.o.cell 2
          have p2 : w8.cell? ⟨w3.heap.size + 1, 2, none⟩ = some (.int .i64 3) := G8.out.p.cell 2
          have o3 : w8.cell? ⟨w3.heap.size, 3, none⟩ = some (.bool false) := G8.out.o.cell 3
          have p3 : w8.cell? ⟨w3.heap.size + 1, 3, none⟩ = some (.bool true) := G8.out.p.cell 3
          have o4 : w8.cell? ⟨w3.heap.size, 4, none⟩ = some (.bool false) := G8.out.o.cell 4
          have p4 : w8.cell? ⟨w3.heap.size + 1, 4, none⟩ = some (.bool false) := G8.out.p.cell 4
          have t0 : w8.cell? ⟨w5.heap.size, 0, none⟩ = some (.bool true) := T8.out.cell 0
          have t1 : w8.cell? ⟨w5.heap.size, 1, none⟩ = some (.string (bL R)) := T8.out.cell 1
          have t2 : w8.cell? ⟨w5.heap.size, 2, none⟩ = some (.int .i64 kr) := T8.out.cell 2
          go_wp2_with fail
          go_at_call 9
          refine (HFa.out _ _ 1 (by decide) M8.out).mono ?_
          rintro e w9 ⟨rfl, hm9, hk9⟩
          have G9 := Lib.hid (G8.out.kp (by omega) (by omega) hk9)
          have M9 := Lib.hid hm9
          have T9 := Lib.hid (T8.out.kp hk9 (by omega))
          clear hm9 hk9 d0 d1 d2 o0 o1 o2 o3 o4 p0 p1 p2 p3 p4 t0 t1 t2 G8 M8 T8
          have d0 : w9.cell? ⟨w.heap.size, 0, none⟩ = some (.bool true) := G9.out.d.cell 0
          have d1 : w9.cell? ⟨w.heap.size, 1, none⟩ = some (.string s) := G9.out.d.cell 1
          have d2 : w9.cell? ⟨w.heap.size, 2, none⟩ = some (.int .i64 k) := G9.out.d.cell 2
          have o0 : w9.cell? ⟨w3.heap.size, 0, none⟩ = some (.int .i64 1) := G9.out.o.cell 0
          have p0 : w9.cell? ⟨w3.heap.size + 1, 0, none⟩ = some (.int .i64 1) := G9.out.p.cell 0
          have o1 : w9.cell? ⟨w3.heap.size, 1, none⟩ = some (.int .i64 0) := G9.out.o.cell 1
          have p1 : w9.cell? ⟨w3.heap.size + 1, 1, none⟩ = some (.int .i64 0) := G9.out.p.cell 1
          have o2 : w9.cell? ⟨w3.heap.size, 2, none⟩ = some (.int .i64 3) := G9.out.o.cell 2
          have p2 : w9.cell? ⟨w3.heap.size + 1, 2, none⟩ = some (.int .i64 3) := G9.out.p.cell 2
          have o3 : w9.cell? ⟨w3.heap.size, 3, none⟩ = some (.bool false) := G9.out.o.cell 3
          have p3 : w9.cell? ⟨w3.heap.size + 1, 3, none⟩ = some (.bool true) := G9.out.p.cell 3
          have o4 : w9.cell? ⟨w3.heap.size, 4, none⟩ = some (.bool false) := G9.out.o.cell 4
          have p4 : w9.cell? ⟨w3.heap.size + 1, 4, none⟩ = some (.bool false) := G9.out.p.cell 4
          have t0 : w9.cell? ⟨w5.heap.size, 0, none⟩ = some (.bool true) := T9.out.cell 0
          have t1 : w9.cell? ⟨w5.heap.size, 1, none⟩ = some (.string (bL R)) := T9.out.cell 1
          have t2 : w9.cell? ⟨w5.heap.size, 2, none⟩ = some (.int .i64 kr) := T9.out.cell 2
          go_wp2_with fail
          go_at_call 9
          refine (HFb.out _ _ 2 (by decide) M9.out).mono ?_
          rintro e w10 ⟨rfl, hm10, hk10⟩
          have G10 := Lib.hid (G9.out.kp (by omega) (by omega) hk10)
          have M10 := Lib.hid hm10
          have T10 := Lib.hid (T9.out.kp hk10 (by omega))
          clear hm10 hk10 d0 d1 d2 o0 o1 o2 o3 o4 p0 p1 p2 p3 p4 t0 t1 t2 G9 M9 T9
          have d0 : w10.cell? ⟨w.heap.size, 0, none⟩ = some (.bool true) := G10.out.d.cell 0
          have d1 : w10.cell? ⟨w.heap.size, 1, none⟩ = some (.string s) := G10.out.d.cell 1
          have d2 : w10.cell? ⟨w.heap.size, 2, none⟩ = some (.int .i64 k) := G10.out.d.cell 2
          have o0 : w10.cell? ⟨w3.heap.size, 0, none⟩ = some (.int .i64 1) := G10.out.o.cell 0
          have p0 : w10.cell? ⟨w3.heap.size + 1, 0, none⟩ = some (.int .i64 1) := G10.out.p.cell 0
          have o1 : w10.cell? ⟨w3.heap.size, 1, none⟩ = some (.int .i64 0) := G10.out.o.cell 1
          have p1 : w10.cell? ⟨w3.heap.size + 1, 1, none⟩ = some (.int .i64 0) := G10.out.p.cell 1
          have o2 : w10.cell? ⟨w3.heap.size, 2, none⟩ = some (.int .i64 3) := G10.out.o.cell 2
          have p2 : w10.cell? ⟨w3.heap.size + 1, 2, none⟩ = some (.int .i64 3) := G10.out.p.cell 2
          have o3 : w10.cell? ⟨w3.heap.size, 3, none⟩ = some (.bool false) := G10.out.o.cell 3
          have p3 : w10.cell? ⟨w3.heap.size + 1, 3, none⟩ = some (.bool true) := G10.out.p.cell 3
          have o4 : w10.cell? ⟨w3.heap.size, 4, none⟩ = some (.bool false) := G10.out.o.cell 4
          have p4 : w10.cell? ⟨w3.heap.size + 1, 4, none⟩ = some (.bool false) := G10.out.p.cell 4
          have t0 : w10.cell? ⟨w5.heap.size, 0, none⟩ = some (.bool true) := T10.out.cell 0
          have t1 : w10.cell? ⟨w5.heap.size, 1, none⟩ = some (.string (bL R)) := T10.out.cell 1
          have t2 : w10.cell? ⟨w5.heap.size, 2, none⟩ = some (.int .i64 kr) := T10.out.cell 2
          go_wp2_with fail
          go_at_call 14
          refine (HWh.out _).mono ?_
          rintro e w11 ⟨rfl, b11⟩
          have G11 := Lib.hid (G10.out.later (Nat.le_refl _) b11)
          have M11 := Lib.hid (M10.out.later b11)
          have T11 := Lib.hid (T10.out.later b11)
          clear b11 d0 d1 d2 o0 o1 o2 o3 o4 p0 p1 p2 p3 p4 t0 t1 t2 G10 M10 T10
          have d0 : w11.cell? ⟨w.heap.size, 0, none⟩ = some (.bool true) := G11.out.d.cell 0
          have d1 : w11.cell? ⟨w.heap.size, 1, none⟩ = some (.string s) := G11.out.d.cell 1
          have d2 : w11.cell? ⟨w.heap.size, 2, none⟩ = some (.int .i64 k) := G11.out.d.cell 2
          have o0 : w11.cell? ⟨w3.heap.size, 0, none⟩ = some (.int .i64 1) := G11.out.o.cell 0
          have p0 : w11.cell? ⟨w3.heap.size + 1, 0, none⟩ = some (.int .i64 1) := G11.out.p.cell 0
          have o1 : w11.cell? ⟨w3.heap.size, 1, none⟩ = some (.int .i64 0) := G11.out.o.cell 1
          have p1 : w11.cell? ⟨w3.heap.size + 1, 1, none⟩ = some (.int .i64 0) := G11.out.p.cell 1
          have o2 : w11.cell? ⟨w3.heap.size, 2, none⟩ = some (.int .i64 3) := G11.out.o.cell 2
          have p2 : w11.cell? ⟨w3.heap.size + 1, 2, none⟩ = some (.int .i64 3) := G11.out.p.cell 2
          have o3 : w11.cell? ⟨w3.heap.size, 3, none⟩ = some (.bool false) := G11.out.o.cell 3
          have p3 : w11.cell? ⟨w3.heap.size + 1, 3, none⟩ = some (.bool true) := G11.out.p.cell 3
          have o4 : w11.cell? ⟨w3.heap.size, 4, none⟩ = some (.bool false) := G11.out.o.cell 4
          have p4 : w11.cell? ⟨w3.heap.size + 1, 4, none⟩ = some (.bool false) := G11.out.p.cell 4
          have t0 : w11.cell? ⟨w5.heap.size, 0, none⟩ = some (.bool true) := T11.out.cell 0
          have t1 : w11.cell? ⟨w5.heap.size, 1, none⟩ = some (.string (bL R)) := T11.out.cell 1
          have t2 : w11.cell? ⟨w5.heap.size, 2, none⟩ = some (.int .i64 kr) := T11.out.cell 2
          have hE : A = (Wh ++ p ++ Pa) := by have := HPl.out; simpa [Hk.out] using this
          have hE2 : (A == (Wh ++ p ++ Pa)) = true := by rw [hE]; exact beqB _
          have zA : A.size ≤ 2000 := by rw [hE]; (try simp only [ByteArray.size_append]); have : (⟨#[45]⟩ : ByteArray).size = 1 := rfl; omega
          have HE := Lib.hid hE
          clear hE hE2
          go_wp2
          all_goals rename_i hx
          · go_ret
            exact ⟨ret_bool (end_len HLo.out zA HSg.out.2 (by omega) (by omega)), G11.out.bel⟩
          · exact absurd (by rw [HE.out]; try simp) hx
end Go.Proofs.YtbiekoidbceimaaDoor
