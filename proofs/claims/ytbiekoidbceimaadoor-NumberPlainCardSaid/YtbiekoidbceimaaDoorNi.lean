/-
  NumberSame (written by bin/gen_numsame.py).
-/
import Derived.Test.YtbiekoidbceimaaDoorNh
import Derived.Test.YtbiekoidbceimaaDoorLawRight
import Derived.Test.YtbiekoidbceimaaDoorA3
namespace Go.Proofs.YtbiekoidbceimaaDoor
open Go.RowKit
set_option linter.unusedVariables false
set_option linter.unusedSimpArgs false

theorem rnd_self (l : List UInt8) (k : Nat) : rndL l k k k = l ∧ rndK l k k k = k := by
  have h1 : roundL l k k = l := by unfold roundL; rw [if_neg (Nat.lt_irrefl _)]
  have h2 : min k k = k := Nat.min_self k
  unfold rndL rndK rnd2L rnd2K
  rw [h1, h2, if_neg (Nat.lt_irrefl _), if_neg (Nat.lt_irrefl _), Nat.sub_self, List.replicate_zero, List.append_nil]
  exact ⟨rfl, rfl⟩
theorem ahd_none {l : List UInt8} {k : Nat} (h : k < l.length) : ahd 1 l k = [] := by
  unfold ahd
  rw [show 1 - (l.length - k) = 0 by omega]
  rfl
/-- What is written of a number that is written as it is. -/
theorem fmt_same (n : Bool) (s : ByteArray) (k : Nat) (hk : k < s.size) : bL (fmtL n true s.data.toList k 1 [46] [44]) = if (n && zeroD s.data.toList) = true then (strB n s k).extract 1 (strB n s k).size else strB n s k := by
  unfold fmtL strB
  rw [ahd_none (by rw [size_data]; exact hk)]
  apply bytes_eq
  rw [bL_list]
  have e1 : (s.extract 0 (s.size - k)).data.toList = s.data.toList.take (s.data.toList.length - k) := by rw [extract_take, size_data]
  have e2 : (s.extract (s.size - k) s.size).data.toList = s.data.toList.drop (s.data.toList.length - k) := by rw [extract_drop, size_data]
  by_cases h0 : k = 0
  · subst h0
    have eT : s.data.toList.take s.size = s.data.toList := List.take_of_length_le (by rw [size_data]; exact Nat.le_refl _)
    have e45 : (⟨#[45]⟩ : ByteArray).size = 1 := rfl
    cases n <;> cases zeroD s.data.toList <;> first | (simp [extract_drop]; done) | (simp [e1, extract_drop, eT, e45]; done) | (simp [e1, extract_drop, eT, e45]; omega)
  · cases n <;> cases zeroD s.data.toList <;> simp only [h0, if_true, Bool.false_and, Bool.true_and, Bool.false_eq_true, if_false, Bool.not_true, Bool.not_false, List.nil_append, extract_drop]
    all_goals simp [e1, e2]
    all_goals rw [List.take_of_length_le (by simp)]
structure LsS (B o : Nat) (cd co : Array Value) (w W : World) : Prop where
  d : BoxAt W B cd 23
  o : BoxAt W o co 27
  bel : Below B w W
theorem LsS.later {B o : Nat} {cd co : Array Value} {w W W' : World} (h : LsS B o cd co w W) (hB : B ≤ w.heap.size) (g : Below W.heap.size W W') : LsS B o cd co w W' := ⟨h.d.later g, h.o.later g, h.bel.trans (g.mono (Nat.le_trans hB h.bel.size))⟩
theorem LsS.kp {B o b : Nat} {cd co : Array Value} {w W W' : World} (h : LsS B o cd co w W) (hb : B ≤ b) (hne : B ≠ b ∧ o ≠ b) (g : Kp b W W') : LsS B o cd co w W' := ⟨h.d.kp g hne.1, h.o.kp g hne.2, h.bel.trans (g.below.mono hb)⟩
theorem LsS.drew {B o : Nat} {cd co : Array Value} {w W : World} (h : LsS B o cd co w W) : LsS B o cd co w W.drew := ⟨h.d, h.o, h.bel.drew⟩
set_option maxHeartbeats 8000000 in
set_option maxRecDepth 100000 in
theorem lawSame (n : Bool) (s : ByteArray) (sc : Int) (w : World) (hs : s.size ≤ 9223372036854775807) (h0 : -9223372036854775808 ≤ sc) (h1 : sc ≤ 9223372036854775807) :
    Calls Tryd.prog 3 #[.agg #[.bool n, .string s, .int .i64 sc]] w fun e w' => e = .returned (.bool true) ∧ Below w.heap.size w w' := by
  have HRt := Lib.hid (fun W => lawRight_any n s sc W hs h0 h1)
  go_enter Tryd.func3, Tryd.ntmps3
  go_wp2_with fail
  go_at_call 5
  refine (head_any _).mono ?_
  rintro e w1 ⟨rfl, b1⟩
  have D1 := Lib.hid ((BoxAt.new w #[.bool n, .string s, .int .i64 sc] 23).later b1)
  have B1 := Lib.hid (((Below.refl w.heap.size w).alloc (Nat.le_refl _) (.cells #[.bool n, .string s, .int .i64 sc] 23)).trans (b1.mono (by simp)))
  have d0 : w1.cell? ⟨w.heap.size, 0, none⟩ = some (.bool n) := D1.out.cell 0
  have d1 : w1.cell? ⟨w.heap.size, 1, none⟩ = some (.string s) := D1.out.cell 1
  have d2 : w1.cell? ⟨w.heap.size, 2, none⟩ = some (.int .i64 sc) := D1.out.cell 2
  clear b1
  go_wp2_with fail
  go_at_call 6
  refine (HRt.out _).mono ?_
  rintro e w2 ⟨hE, b2⟩
  have D2 := Lib.hid (D1.out.later b2)
  have B2 := Lib.hid (B1.out.trans (b2.mono B1.out.size))
  clear d0 d1 d2 b2
  have d0 : w2.cell? ⟨w.heap.size, 0, none⟩ = some (.bool n) := D2.out.cell 0
  have d1 : w2.cell? ⟨w.heap.size, 1, none⟩ = some (.string s) := D2.out.cell 1
  have d2 : w2.cell? ⟨w.heap.size, 2, none⟩ = some (.int .i64 sc) := D2.out.cell 2
  rcases hE with rfl | ⟨k, rfl, hN, rfl⟩
  · go_wp2
    go_ret
    exact ⟨rfl, B2.out⟩
  by_cases hk20 : 20 < k
  · have q1 : decide ((20 : Int) < (k : Int)) = true := decide_eq_true (by omega)
    have q2 : (20 : Int) < (k : Int) := by omega
    go_wp2
    go_ret
    exact ⟨rfl, B2.out⟩
  have q1 : decide ((20 : Int) < (k : Int)) = false := decide_eq_false (by omega)
  have q2 : ¬ (20 : Int) < (k : Int) := by omega
  obtain ⟨hd, hle, hlt, hhd⟩ := hN
  rw [size_data] at hle hlt
  have hfm := fmt_same n s k hlt
  obtain ⟨zr, hzr⟩ : ∃ z, zeroD s.data.toList = z := ⟨_, rfl⟩
  have hst := fun W => string_any n s k W (by unfold maxLen; omega) (by omega)
  have hze := fun W => zero_any n s (k : Int) W (by unfold maxLen; omega)
  have hfo := fun (W : World) (mb : Nat) (hM : MarksAt W mb false 0) => format_any mb 0 false ⟨#[101, 110]⟩ 1 k k true false n s k W hM (by decide) hle (by omega) hd (by decide) (by omega) (by omega)
  have hsg : (sgn ⟨#[101, 110]⟩).1 = [46] ∧ (sgn ⟨#[101, 110]⟩).2 = [44] := by constructor <;> kernel_rfl
  rw [(rnd_self s.data.toList k).1, (rnd_self s.data.toList k).2, hsg.1, hsg.2, hfm] at hfo
  change ∀ W : World, Calls Tryd.prog 8 #[.agg #[.bool n, .string s, .int .i64 (k : Int)]] W (fun e w' => e = .returned (.bool (zeroD s.data.toList)) ∧ Below W.heap.size W w') at hze
  rw [hzr] at hze hfo
  have hsz : 0 < (strB n s k).size := by
    unfold strB
    cases n <;> by_cases h : k = 0 <;> simp [h, ByteArray.size_append] <;> omega
  have hsz2 : (strB n s k).size ≤ 1000 := by
    unfold strB
    have : (⟨#[45]⟩ : ByteArray).size = 1 := rfl
    have : (⟨#[46]⟩ : ByteArray).size = 1 := rfl
    cases n <;> by_cases h : k = 0 <;> simp [h, ByteArray.size_append, ByteArray.size_extract] <;> omega
  obtain ⟨Y, hY⟩ : ∃ Y, strB n s k = Y := ⟨_, rfl⟩
  rw [hY] at hst hfo hsz hsz2
  have i1 : (1 : Int) ≤ (Y.size : Int) := by omega
  have HSt := Lib.hid hst
  have HZe := Lib.hid hze
  have HFo := Lib.hid hfo
  clear hst hze hfo hfm hzr hsg hd hhd hY hsz HRt D1 B1
  have G0 := Lib.hid ((LsS.mk (B := w.heap.size) (w := w) ((D2.out.alloc (.cells #[.int .i64 1, .int .i64 (k : Int), .int .i64 (k : Int), .bool true, .bool false] 27)).alloc (.cells #[.int .u32 0, .int .i32 0, .int .u32 0, .map none, .int .i64 0] 46)) ((BoxAt.new w2 #[.int .i64 1, .int .i64 (k : Int), .int .i64 (k : Int), .bool true, .bool false] 27).alloc (.cells #[.int .u32 0, .int .i32 0, .int .u32 0, .map none, .int .i64 0] 46)) ((B2.out.alloc B2.out.size _).alloc (by have := B2.out.size; simp; omega) _)))
  have M0 := Lib.hid (marks_new (w2.alloc (.cells #[.int .i64 1, .int .i64 (k : Int), .int .i64 (k : Int), .bool true, .bool false] 27)))
  have hw2 : w.heap.size < w2.heap.size := D2.out.lt
  go_wp2_with fail
  go_at_call 7
  refine (HSt.out _).mono ?_
  rintro e w3 ⟨rfl, b3⟩
  have G3 := Lib.hid (G0.out.later (Nat.le_refl _) b3)
  have M3 := Lib.hid (M0.out.later b3)
  simp only [World.size_alloc] at M3
  have d0 : w3.cell? ⟨w.heap.size, 0, none⟩ = some (.bool n) := G3.out.d.cell 0
  have d1 : w3.cell? ⟨w.heap.size, 1, none⟩ = some (.string s) := G3.out.d.cell 1
  have d2 : w3.cell? ⟨w.heap.size, 2, none⟩ = some (.int .i64 k) := G3.out.d.cell 2
  clear b3 D2 G0 M0
  cases n
  case false =>
    simp only [Bool.false_and, Bool.false_eq_true, if_false] at HFo
    have d0 : w3.cell? ⟨w.heap.size, 0, none⟩ = some (.bool false) := G3.out.d.cell 0
    have d1 : w3.cell? ⟨w.heap.size, 1, none⟩ = some (.string s) := G3.out.d.cell 1
    have d2 : w3.cell? ⟨w.heap.size, 2, none⟩ = some (.int .i64 k) := G3.out.d.cell 2
    have o0 : w3.cell? ⟨w2.heap.size, 0, none⟩ = some (.int .i64 1) := G3.out.o.cell 0
    have o1 : w3.cell? ⟨w2.heap.size, 1, none⟩ = some (.int .i64 k) := G3.out.o.cell 1
    have o2 : w3.cell? ⟨w2.heap.size, 2, none⟩ = some (.int .i64 k) := G3.out.o.cell 2
    have o3 : w3.cell? ⟨w2.heap.size, 3, none⟩ = some (.bool true) := G3.out.o.cell 3
    have o4 : w3.cell? ⟨w2.heap.size, 4, none⟩ = some (.bool false) := G3.out.o.cell 4
    go_wp2_with fail
    go_at_call 9
    refine (HFo.out _ _ M3.out).mono ?_
    rintro e x1 ⟨rfl, hm1, hk1⟩
    have B9 := Lib.hid (G3.out.bel.trans (hk1.below.mono (by omega)))
    have M9 := Lib.hid hm1
    clear hm1 hk1 d0 d1 d2 o0 o1 o2 o3 o4
    go_wp2_with fail
    go_at_call 10
    refine (asked_any _ 1 true _ M9.out).mono ?_
    rintro e x2 ⟨rfl, rfl⟩
    go_wp2
    go_ret
    exact ⟨rfl, B9.out⟩
  case true =>
    go_wp2_with fail
    go_at_call 8
    refine (HZe.out _).mono ?_
    rintro e w4 ⟨rfl, b4⟩
    have G4 := Lib.hid (G3.out.later (Nat.le_refl _) b4)
    have M4 := Lib.hid (M3.out.later b4)
    clear b4 G3 M3 d0 d1 d2
    cases zr
    case false =>
      simp only [Bool.and_false, Bool.false_eq_true, if_false] at HFo
      have d0 : w4.cell? ⟨w.heap.size, 0, none⟩ = some (.bool true) := G4.out.d.cell 0
      have d1 : w4.cell? ⟨w.heap.size, 1, none⟩ = some (.string s) := G4.out.d.cell 1
      have d2 : w4.cell? ⟨w.heap.size, 2, none⟩ = some (.int .i64 k) := G4.out.d.cell 2
      have o0 : w4.cell? ⟨w2.heap.size, 0, none⟩ = some (.int .i64 1) := G4.out.o.cell 0
      have o1 : w4.cell? ⟨w2.heap.size, 1, none⟩ = some (.int .i64 k) := G4.out.o.cell 1
      have o2 : w4.cell? ⟨w2.heap.size, 2, none⟩ = some (.int .i64 k) := G4.out.o.cell 2
      have o3 : w4.cell? ⟨w2.heap.size, 3, none⟩ = some (.bool true) := G4.out.o.cell 3
      have o4 : w4.cell? ⟨w2.heap.size, 4, none⟩ = some (.bool false) := G4.out.o.cell 4
      go_wp2_with fail
      go_at_call 9
      refine (HFo.out _ _ M4.out).mono ?_
      rintro e x1 ⟨rfl, hm1, hk1⟩
      have B9 := Lib.hid (G4.out.bel.trans (hk1.below.mono (by omega)))
      have M9 := Lib.hid hm1
      clear hm1 hk1 d0 d1 d2 o0 o1 o2 o3 o4
      go_wp2_with fail
      go_at_call 10
      refine (asked_any _ 1 true _ M9.out).mono ?_
      rintro e x2 ⟨rfl, rfl⟩
      go_wp2
      go_ret
      exact ⟨rfl, B9.out⟩
    case true =>
      simp only [Bool.and_true, if_true] at HFo
      have d0 : w4.cell? ⟨w.heap.size, 0, none⟩ = some (.bool true) := G4.out.d.cell 0
      have d1 : w4.cell? ⟨w.heap.size, 1, none⟩ = some (.string s) := G4.out.d.cell 1
      have d2 : w4.cell? ⟨w.heap.size, 2, none⟩ = some (.int .i64 k) := G4.out.d.cell 2
      have o0 : w4.cell? ⟨w2.heap.size, 0, none⟩ = some (.int .i64 1) := G4.out.o.cell 0
      have o1 : w4.cell? ⟨w2.heap.size, 1, none⟩ = some (.int .i64 k) := G4.out.o.cell 1
      have o2 : w4.cell? ⟨w2.heap.size, 2, none⟩ = some (.int .i64 k) := G4.out.o.cell 2
      have o3 : w4.cell? ⟨w2.heap.size, 3, none⟩ = some (.bool true) := G4.out.o.cell 3
      have o4 : w4.cell? ⟨w2.heap.size, 4, none⟩ = some (.bool false) := G4.out.o.cell 4
      go_wp2_with fail
      go_at_call 9
      refine (HFo.out _ _ M4.out).mono ?_
      rintro e x1 ⟨rfl, hm1, hk1⟩
      have B9 := Lib.hid (G4.out.bel.trans (hk1.below.mono (by omega)))
      have M9 := Lib.hid hm1
      clear hm1 hk1 d0 d1 d2 o0 o1 o2 o3 o4
      go_wp2_with fail
      go_at_call 10
      refine (asked_any _ 1 true _ M9.out).mono ?_
      rintro e x2 ⟨rfl, rfl⟩
      go_wp2
      go_ret
      exact ⟨rfl, B9.out⟩
end Go.Proofs.YtbiekoidbceimaaDoor
