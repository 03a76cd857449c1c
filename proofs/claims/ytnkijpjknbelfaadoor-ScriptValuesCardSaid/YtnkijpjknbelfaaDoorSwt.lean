/-
  Package script: ScriptValues.
-/
import Derived.Test.YtnkijpjknbelfaaDoorSwr
import Derived.Test.YtnkijpjknbelfaaDoorSws
import Derived.Laws.StructEq
namespace Go.Proofs.YtnkijpjknbelfaaDoor
open Go.RowKit
set_option linter.unusedVariables false
set_option linter.unusedSimpArgs false

theorem parseL_ne {l d : List UInt8} {n : Bool} {k : Nat} (h : parseL l = some (n, d, k)) : d ≠ [] := by
  unfold parseL at h
  dsimp only at h
  split at h
  · next hc =>
    have h1 := congrArg (fun x => x.2.1) (Option.some.inj h)
    dsimp only at h1
    intro e
    rw [e] at h1
    have h2 := List.append_eq_nil_iff.1 h1
    have h3 := List.append_eq_nil_iff.1 h2.1
    have h4 := digsB_pos hc.1
    have h5 := congrArg List.length h3.2
    rw [List.length_drop, List.length_nil] at h5
    omega
  · cases h
set_option maxHeartbeats 8000000 in
set_option maxRecDepth 100000 in
theorem values_no (nm tx : ByteArray) (kd : Int) (w : World) (hE : Env w) (ht : tx.size ≤ 100) (h1 : ValTo 17 ⟨nm, kd, tx⟩ (zV) false) (h2 : ValTo 18 ⟨nm, kd, tx⟩ (zV) false) :
    Calls Tryd.prog 6 #[.agg #[.string nm, .int .i64 kd, .string tx]] w fun e w' => e = .returned (.bool true) ∧ Below w.heap.size w w' := by
  have HE := Lib.hid (hE.below ((Below.refl _ _).alloc (Nat.le_refl _) (.cells #[.string nm, .int .i64 kd, .string tx] 44)))
  have B0 := Lib.hid (BoxAt.new w #[.string nm, .int .i64 kd, .string tx] 44)
  have H1 := Lib.hid (fun W (h : Env W) => h1 W h)
  have H2 := Lib.hid (fun W (h : Env W) => h2 W h)
  have d1 : decide ((100 : Int) < (tx.size : Int)) = false := decide_eq_false (by omega)
  have d2 : ¬ (100 : Int) < (tx.size : Int) := by omega
  skip
  clear h1 h2 hE
  dsimp only at H1 H2
  go_enter Tryd.func6, Tryd.ntmps6
  go_wp2_with fail
  go_at_call 9
  refine (head_any _ HE.out).mono ?_
  rintro e w1 ⟨rfl, hb1⟩
  have HB1 := Lib.hid (((Below.refl w.heap.size w).alloc (Nat.le_refl _) (.cells #[.string nm, .int .i64 kd, .string tx] 44)).trans (hb1.mono (by simp)))
  have HE1 := Lib.hid (HE.out.below hb1)
  have B1 := Lib.hid (B0.out.later hb1)
  have c0 : w1.cell? ⟨w.heap.size, 0, none⟩ = some (.string nm) := B1.out.cell 0
  have c1 : w1.cell? ⟨w.heap.size, 1, none⟩ = some (.int .i64 kd) := B1.out.cell 1
  have c2 : w1.cell? ⟨w.heap.size, 2, none⟩ = some (.string tx) := B1.out.cell 2
  clear hb1
  go_wp2_with fail
  go_at_call 17
  refine (H1.out _ HE1.out).mono ?_
  rintro e w2 ⟨rfl, hb2⟩
  have HB2 := Lib.hid (HB1.out.trans (hb2.mono HB1.out.size))
  have HE2 := Lib.hid ((HE1.out.below hb2).below ((Below.refl _ _).alloc (Nat.le_refl _) (.cells #[.int .i64 0, .string ⟨#[]⟩, .bool false, .string ⟨#[]⟩, .int .i64 0, .int .i64 0, .int .i64 0, .int .i64 0, .bool false, .bool false, .int .i64 0, .int .i64 0] 51)))
  have B2 := Lib.hid ((B1.out.later hb2).alloc (.cells #[.int .i64 0, .string ⟨#[]⟩, .bool false, .string ⟨#[]⟩, .int .i64 0, .int .i64 0, .int .i64 0, .int .i64 0, .bool false, .bool false, .int .i64 0, .int .i64 0] 51))
  have V2 := Lib.hid (BoxAt.new w2 #[.int .i64 0, .string ⟨#[]⟩, .bool false, .string ⟨#[]⟩, .int .i64 0, .int .i64 0, .int .i64 0, .int .i64 0, .bool false, .bool false, .int .i64 0, .int .i64 0] 51)
  have HW2 := Lib.hid ((Below.refl w2.heap.size w2).alloc (Nat.le_refl _) (.cells #[.int .i64 0, .string ⟨#[]⟩, .bool false, .string ⟨#[]⟩, .int .i64 0, .int .i64 0, .int .i64 0, .int .i64 0, .bool false, .bool false, .int .i64 0, .int .i64 0] 51))
  have l2 : w.heap.size < w2.heap.size := Nat.lt_of_lt_of_le (show w.heap.size < w1.heap.size from B1.out.lt) hb2.size
  clear hb2 c0 c1 c2
  have c0 := (B2.out.cell 0)
  have c1 := (B2.out.cell 1)
  have c2 := (B2.out.cell 2)
  go_upto_region 6 with fail
  generalize hWW : w2.alloc (.cells #[.int .i64 0, .string ⟨#[]⟩, .bool false, .string ⟨#[]⟩, .int .i64 0, .int .i64 0, .int .i64 0, .int .i64 0, .bool false, .bool false, .int .i64 0, .int .i64 0] 51) = W2 at *
  clear hWW
  have c0 : W2.cell? ⟨w.heap.size, 0, none⟩ = some (.string nm) := c0
  have c1 : W2.cell? ⟨w.heap.size, 1, none⟩ = some (.int .i64 kd) := c1
  have c2 : W2.cell? ⟨w.heap.size, 2, none⟩ = some (.string tx) := c2
  go_wp2_with fail
  go_at_call 18
  refine (H2.out _ HE2.out).mono ?_
  rintro e w3 ⟨rfl, hb3⟩
  have HB3 := Lib.hid ((HB2.out.trans (HW2.out.mono HB2.out.size)).trans (hb3.mono (Nat.le_trans HB2.out.size HW2.out.size)))
  have V3 := V2.out.later hb3
  obtain ⟨x0, x1, x2, x3, x4, x5, x6, x7, x8, x9, x10, x11, _⟩ := cellsV V3
  have l3 := V3.lt
  clear hb3 c0 c1 c2 V3
  go_wp2
  all_goals
    go_ret
    exact ⟨by first | rfl | (simp_all; done), HB3.out.alloc HB3.out.size _⟩
set_option maxHeartbeats 8000000 in
set_option maxRecDepth 100000 in
theorem values_str (nm tx : ByteArray) (kd : Int) (w : World) (hE : Env w) (ht : tx.size ≤ 100) (h1 : ValTo 17 ⟨nm, kd, tx⟩ (strC tx) true) (h2 : ValTo 18 ⟨nm, kd, tx⟩ (strC tx) true) :
    Calls Tryd.prog 6 #[.agg #[.string nm, .int .i64 kd, .string tx]] w fun e w' => e = .returned (.bool true) ∧ Below w.heap.size w w' := by
  have HE := Lib.hid (hE.below ((Below.refl _ _).alloc (Nat.le_refl _) (.cells #[.string nm, .int .i64 kd, .string tx] 44)))
  have B0 := Lib.hid (BoxAt.new w #[.string nm, .int .i64 kd, .string tx] 44)
  have H1 := Lib.hid (fun W (h : Env W) => h1 W h)
  have H2 := Lib.hid (fun W (h : Env W) => h2 W h)
  have d1 : decide ((100 : Int) < (tx.size : Int)) = false := decide_eq_false (by omega)
  have d2 : ¬ (100 : Int) < (tx.size : Int) := by omega
  unfold strC at H1 H2
  clear h1 h2 hE
  dsimp only at H1 H2
  go_enter Tryd.func6, Tryd.ntmps6
  go_wp2_with fail
  go_at_call 9
  refine (head_any _ HE.out).mono ?_
  rintro e w1 ⟨rfl, hb1⟩
  have HB1 := Lib.hid (((Below.refl w.heap.size w).alloc (Nat.le_refl _) (.cells #[.string nm, .int .i64 kd, .string tx] 44)).trans (hb1.mono (by simp)))
  have HE1 := Lib.hid (HE.out.below hb1)
  have B1 := Lib.hid (B0.out.later hb1)
  have c0 : w1.cell? ⟨w.heap.size, 0, none⟩ = some (.string nm) := B1.out.cell 0
  have c1 : w1.cell? ⟨w.heap.size, 1, none⟩ = some (.int .i64 kd) := B1.out.cell 1
  have c2 : w1.cell? ⟨w.heap.size, 2, none⟩ = some (.string tx) := B1.out.cell 2
  clear hb1
  go_wp2_with fail
  go_at_call 17
  refine (H1.out _ HE1.out).mono ?_
  rintro e w2 ⟨rfl, hb2⟩
  have HB2 := Lib.hid (HB1.out.trans (hb2.mono HB1.out.size))
  have HE2 := Lib.hid ((HE1.out.below hb2).below ((Below.refl _ _).alloc (Nat.le_refl _) (.cells #[.int .i64 0, .string tx, .bool false, .string ⟨#[]⟩, .int .i64 0, .int .i64 0, .int .i64 0, .int .i64 0, .bool false, .bool false, .int .i64 0, .int .i64 0] 51)))
  have B2 := Lib.hid ((B1.out.later hb2).alloc (.cells #[.int .i64 0, .string tx, .bool false, .string ⟨#[]⟩, .int .i64 0, .int .i64 0, .int .i64 0, .int .i64 0, .bool false, .bool false, .int .i64 0, .int .i64 0] 51))
  have V2 := Lib.hid (BoxAt.new w2 #[.int .i64 0, .string tx, .bool false, .string ⟨#[]⟩, .int .i64 0, .int .i64 0, .int .i64 0, .int .i64 0, .bool false, .bool false, .int .i64 0, .int .i64 0] 51)
  have HW2 := Lib.hid ((Below.refl w2.heap.size w2).alloc (Nat.le_refl _) (.cells #[.int .i64 0, .string tx, .bool false, .string ⟨#[]⟩, .int .i64 0, .int .i64 0, .int .i64 0, .int .i64 0, .bool false, .bool false, .int .i64 0, .int .i64 0] 51))
  have l2 : w.heap.size < w2.heap.size := Nat.lt_of_lt_of_le (show w.heap.size < w1.heap.size from B1.out.lt) hb2.size
  clear hb2 c0 c1 c2
  have c0 := (B2.out.cell 0)
  have c1 := (B2.out.cell 1)
  have c2 := (B2.out.cell 2)
  go_upto_region 6 with fail
  generalize hWW : w2.alloc (.cells #[.int .i64 0, .string tx, .bool false, .string ⟨#[]⟩, .int .i64 0, .int .i64 0, .int .i64 0, .int .i64 0, .bool false, .bool false, .int .i64 0, .int .i64 0] 51) = W2 at *
  clear hWW
  have c0 : W2.cell? ⟨w.heap.size, 0, none⟩ = some (.string nm) := c0
  have c1 : W2.cell? ⟨w.heap.size, 1, none⟩ = some (.int .i64 kd) := c1
  have c2 : W2.cell? ⟨w.heap.size, 2, none⟩ = some (.string tx) := c2
  go_wp2_with fail
  go_at_call 18
  refine (H2.out _ HE2.out).mono ?_
  rintro e w3 ⟨rfl, hb3⟩
  have HB3 := Lib.hid ((HB2.out.trans (HW2.out.mono HB2.out.size)).trans (hb3.mono (Nat.le_trans HB2.out.size HW2.out.size)))
  have V3 := V2.out.later hb3
  obtain ⟨x0, x1, x2, x3, x4, x5, x6, x7, x8, x9, x10, x11, _⟩ := cellsV V3
  have l3 := V3.lt
  clear hb3 c0 c1 c2 V3
  go_wp2
  all_goals
    go_ret
    exact ⟨by first | rfl | (simp_all; done), HB3.out.alloc HB3.out.size _⟩
set_option maxHeartbeats 8000000 in
set_option maxRecDepth 100000 in
theorem values_at (nm tx : ByteArray) (kd : Int) (sec : Int) (w : World) (hE : Env w) (ht : tx.size ≤ 100) (h1 : ValTo 17 ⟨nm, kd, tx⟩ (atC sec) true) (h2 : ValTo 18 ⟨nm, kd, tx⟩ (atC sec) true) :
    Calls Tryd.prog 6 #[.agg #[.string nm, .int .i64 kd, .string tx]] w fun e w' => e = .returned (.bool true) ∧ Below w.heap.size w w' := by
  have HE := Lib.hid (hE.below ((Below.refl _ _).alloc (Nat.le_refl _) (.cells #[.string nm, .int .i64 kd, .string tx] 44)))
  have B0 := Lib.hid (BoxAt.new w #[.string nm, .int .i64 kd, .string tx] 44)
  have H1 := Lib.hid (fun W (h : Env W) => h1 W h)
  have H2 := Lib.hid (fun W (h : Env W) => h2 W h)
  have d1 : decide ((100 : Int) < (tx.size : Int)) = false := decide_eq_false (by omega)
  have d2 : ¬ (100 : Int) < (tx.size : Int) := by omega
  unfold atC at H1 H2
  clear h1 h2 hE
  dsimp only at H1 H2
  go_enter Tryd.func6, Tryd.ntmps6
  go_wp2_with fail
  go_at_call 9
  refine (head_any _ HE.out).mono ?_
  rintro e w1 ⟨rfl, hb1⟩
  have HB1 := Lib.hid (((Below.refl w.heap.size w).alloc (Nat.le_refl _) (.cells #[.string nm, .int .i64 kd, .string tx] 44)).trans (hb1.mono (by simp)))
  have HE1 := Lib.hid (HE.out.below hb1)
  have B1 := Lib.hid (B0.out.later hb1)
  have c0 : w1.cell? ⟨w.heap.size, 0, none⟩ = some (.string nm) := B1.out.cell 0
  have c1 : w1.cell? ⟨w.heap.size, 1, none⟩ = some (.int .i64 kd) := B1.out.cell 1
  have c2 : w1.cell? ⟨w.heap.size, 2, none⟩ = some (.string tx) := B1.out.cell 2
  clear hb1
  go_wp2_with fail
  go_at_call 17
  refine (H1.out _ HE1.out).mono ?_
  rintro e w2 ⟨rfl, hb2⟩
  have HB2 := Lib.hid (HB1.out.trans (hb2.mono HB1.out.size))
  have HE2 := Lib.hid ((HE1.out.below hb2).below ((Below.refl _ _).alloc (Nat.le_refl _) (.cells #[.int .i64 2, .string ⟨#[]⟩, .bool false, .string ⟨#[]⟩, .int .i64 0, .int .i64 0, .int .i64 0, .int .i64 0, .bool false, .bool false, .int .i64 sec, .int .i64 0] 51)))
  have B2 := Lib.hid ((B1.out.later hb2).alloc (.cells #[.int .i64 2, .string ⟨#[]⟩, .bool false, .string ⟨#[]⟩, .int .i64 0, .int .i64 0, .int .i64 0, .int .i64 0, .bool false, .bool false, .int .i64 sec, .int .i64 0] 51))
  have V2 := Lib.hid (BoxAt.new w2 #[.int .i64 2, .string ⟨#[]⟩, .bool false, .string ⟨#[]⟩, .int .i64 0, .int .i64 0, .int .i64 0, .int .i64 0, .bool false, .bool false, .int .i64 sec, .int .i64 0] 51)
  have HW2 := Lib.hid ((Below.refl w2.heap.size w2).alloc (Nat.le_refl _) (.cells #[.int .i64 2, .string ⟨#[]⟩, .bool false, .string ⟨#[]⟩, .int .i64 0, .int .i64 0, .int .i64 0, .int .i64 0, .bool false, .bool false, .int .i64 sec, .int .i64 0] 51))
  have l2 : w.heap.size < w2.heap.size := Nat.lt_of_lt_of_le (show w.heap.size < w1.heap.size from B1.out.lt) hb2.size
  clear hb2 c0 c1 c2
  have c0 := (B2.out.cell 0)
  have c1 := (B2.out.cell 1)
  have c2 := (B2.out.cell 2)
  go_upto_region 6 with fail
  generalize hWW : w2.alloc (.cells #[.int .i64 2, .string ⟨#[]⟩, .bool false, .string ⟨#[]⟩, .int .i64 0, .int .i64 0, .int .i64 0, .int .i64 0, .bool false, .bool false, .int .i64 sec, .int .i64 0] 51) = W2 at *
  clear hWW
  have c0 : W2.cell? ⟨w.heap.size, 0, none⟩ = some (.string nm) := c0
  have c1 : W2.cell? ⟨w.heap.size, 1, none⟩ = some (.int .i64 kd) := c1
  have c2 : W2.cell? ⟨w.heap.size, 2, none⟩ = some (.string tx) := c2
  go_wp2_with fail
  go_at_call 18
  refine (H2.out _ HE2.out).mono ?_
  rintro e w3 ⟨rfl, hb3⟩
  have HB3 := Lib.hid ((HB2.out.trans (HW2.out.mono HB2.out.size)).trans (hb3.mono (Nat.le_trans HB2.out.size HW2.out.size)))
  have V3 := V2.out.later hb3
  obtain ⟨x0, x1, x2, x3, x4, x5, x6, x7, x8, x9, x10, x11, _⟩ := cellsV V3
  have l3 := V3.lt
  clear hb3 c0 c1 c2 V3
  go_wp2
  all_goals
    go_ret
    exact ⟨by first | rfl | (simp_all; done), HB3.out.alloc HB3.out.size _⟩
set_option maxHeartbeats 8000000 in
set_option maxRecDepth 100000 in
theorem values_num (nm tx : ByteArray) (kd : Int) (n : Bool) (s : ByteArray) (k : Int) (hs : s.toList.isEmpty = false) (w : World) (hE : Env w) (ht : tx.size ≤ 100) (h1 : ValTo 17 ⟨nm, kd, tx⟩ (numC n s k) true) (h2 : ValTo 18 ⟨nm, kd, tx⟩ (numC n s k) true) :
    Calls Tryd.prog 6 #[.agg #[.string nm, .int .i64 kd, .string tx]] w fun e w' => e = .returned (.bool true) ∧ Below w.heap.size w w' := by
  have HE := Lib.hid (hE.below ((Below.refl _ _).alloc (Nat.le_refl _) (.cells #[.string nm, .int .i64 kd, .string tx] 44)))
  have B0 := Lib.hid (BoxAt.new w #[.string nm, .int .i64 kd, .string tx] 44)
  have H1 := Lib.hid (fun W (h : Env W) => h1 W h)
  have H2 := Lib.hid (fun W (h : Env W) => h2 W h)
  have d1 : decide ((100 : Int) < (tx.size : Int)) = false := decide_eq_false (by omega)
  have d2 : ¬ (100 : Int) < (tx.size : Int) := by omega
  unfold numC at H1 H2
  clear h1 h2 hE
  dsimp only at H1 H2
  go_enter Tryd.func6, Tryd.ntmps6
  go_wp2_with fail
  go_at_call 9
  refine (head_any _ HE.out).mono ?_
  rintro e w1 ⟨rfl, hb1⟩
  have HB1 := Lib.hid (((Below.refl w.heap.size w).alloc (Nat.le_refl _) (.cells #[.string nm, .int .i64 kd, .string tx] 44)).trans (hb1.mono (by simp)))
  have HE1 := Lib.hid (HE.out.below hb1)
  have B1 := Lib.hid (B0.out.later hb1)
  have c0 : w1.cell? ⟨w.heap.size, 0, none⟩ = some (.string nm) := B1.out.cell 0
  have c1 : w1.cell? ⟨w.heap.size, 1, none⟩ = some (.int .i64 kd) := B1.out.cell 1
  have c2 : w1.cell? ⟨w.heap.size, 2, none⟩ = some (.string tx) := B1.out.cell 2
  clear hb1
  go_wp2_with fail
  go_at_call 17
  refine (H1.out _ HE1.out).mono ?_
  rintro e w2 ⟨rfl, hb2⟩
  have HB2 := Lib.hid (HB1.out.trans (hb2.mono HB1.out.size))
  have HE2 := Lib.hid ((HE1.out.below hb2).below ((Below.refl _ _).alloc (Nat.le_refl _) (.cells #[.int .i64 1, .string ⟨#[]⟩, .bool n, .string s, .int .i64 k, .int .i64 1, .int .i64 0, .int .i64 3, .bool false, .bool false, .int .i64 0, .int .i64 0] 51)))
  have B2 := Lib.hid ((B1.out.later hb2).alloc (.cells #[.int .i64 1, .string ⟨#[]⟩, .bool n, .string s, .int .i64 k, .int .i64 1, .int .i64 0, .int .i64 3, .bool false, .bool false, .int .i64 0, .int .i64 0] 51))
  have V2 := Lib.hid (BoxAt.new w2 #[.int .i64 1, .string ⟨#[]⟩, .bool n, .string s, .int .i64 k, .int .i64 1, .int .i64 0, .int .i64 3, .bool false, .bool false, .int .i64 0, .int .i64 0] 51)
  have HW2 := Lib.hid ((Below.refl w2.heap.size w2).alloc (Nat.le_refl _) (.cells #[.int .i64 1, .string ⟨#[]⟩, .bool n, .string s, .int .i64 k, .int .i64 1, .int .i64 0, .int .i64 3, .bool false, .bool false, .int .i64 0, .int .i64 0] 51))
  have l2 : w.heap.size < w2.heap.size := Nat.lt_of_lt_of_le (show w.heap.size < w1.heap.size from B1.out.lt) hb2.size
  clear hb2 c0 c1 c2
  have c0 := (B2.out.cell 0)
  have c1 := (B2.out.cell 1)
  have c2 := (B2.out.cell 2)
  go_upto_region 6 with fail
  generalize hWW : w2.alloc (.cells #[.int .i64 1, .string ⟨#[]⟩, .bool n, .string s, .int .i64 k, .int .i64 1, .int .i64 0, .int .i64 3, .bool false, .bool false, .int .i64 0, .int .i64 0] 51) = W2 at *
  clear hWW
  have c0 : W2.cell? ⟨w.heap.size, 0, none⟩ = some (.string nm) := c0
  have c1 : W2.cell? ⟨w.heap.size, 1, none⟩ = some (.int .i64 kd) := c1
  have c2 : W2.cell? ⟨w.heap.size, 2, none⟩ = some (.string tx) := c2
  go_wp2_with fail
  go_at_call 18
  refine (H2.out _ HE2.out).mono ?_
  rintro e w3 ⟨rfl, hb3⟩
  have HB3 := Lib.hid ((HB2.out.trans (HW2.out.mono HB2.out.size)).trans (hb3.mono (Nat.le_trans HB2.out.size HW2.out.size)))
  have V3 := V2.out.later hb3
  obtain ⟨x0, x1, x2, x3, x4, x5, x6, x7, x8, x9, x10, x11, _⟩ := cellsV V3
  have l3 := V3.lt
  clear hb3 c0 c1 c2 V3
  go_wp2
  all_goals
    go_ret
    exact ⟨by first | rfl | (simp_all; done), HB3.out.alloc HB3.out.size _⟩
theorem values_big (nm tx : ByteArray) (kd : Int) (w : World) (hE : Env w) (ht : 100 < tx.size) (ht2 : tx.size ≤ 9223372036854775807) :
    Calls Tryd.prog 6 #[.agg #[.string nm, .int .i64 kd, .string tx]] w fun e w' => e = .returned (.bool true) ∧ Below w.heap.size w w' := by
  have HE := Lib.hid (hE.below ((Below.refl _ _).alloc (Nat.le_refl _) (.cells #[.string nm, .int .i64 kd, .string tx] 44)))
  have B0 := Lib.hid (BoxAt.new w #[.string nm, .int .i64 kd, .string tx] 44)
  have d1 : decide ((100 : Int) < (tx.size : Int)) = true := decide_eq_true (by omega)
  have d2 : (100 : Int) < (tx.size : Int) := by omega
  clear hE
  go_enter Tryd.func6, Tryd.ntmps6
  go_wp2_with fail
  go_at_call 9
  refine (head_any _ HE.out).mono ?_
  rintro e w1 ⟨rfl, hb1⟩
  have HB1 := Lib.hid (((Below.refl w.heap.size w).alloc (Nat.le_refl _) (.cells #[.string nm, .int .i64 kd, .string tx] 44)).trans (hb1.mono (by simp)))
  have B1 := Lib.hid (B0.out.later hb1)
  have c2 : w1.cell? ⟨w.heap.size, 2, none⟩ = some (.string tx) := B1.out.cell 2
  clear hb1
  go_wp2
  go_ret
  exact ⟨rfl, HB1.out⟩
theorem lawValues (nm tx : ByteArray) (kd : Int) (w : World) (hE : Env w) (ht2 : tx.size ≤ 9223372036854775807) :
    Calls Tryd.prog 6 #[.agg #[.string nm, .int .i64 kd, .string tx]] w fun e w' => e = .returned (.bool true) ∧ Below w.heap.size w w' := by
  by_cases ht : 100 < tx.size
  · exact values_big nm tx kd w hE ht ht2
  · have h1 := value_any (a := ⟨nm, kd, tx⟩) (by show tx.size ≤ 4000000; omega)
    have h2 := lval_any (a := ⟨nm, kd, tx⟩) (by show tx.size ≤ 100000; omega)
    unfold valC okA at h1 h2
    dsimp only at h1 h2
    by_cases k0 : kd = 0
    · rw [if_pos k0, if_pos k0] at h1 h2
      exact values_str nm tx kd w hE (by omega) h1 h2
    · rw [if_neg k0, if_neg k0] at h1 h2
      by_cases k1 : kd = 1
      · rw [if_pos k1, if_pos k1] at h1 h2
        cases hp : parseL tx.data.toList with
        | none =>
          rw [hp] at h1 h2
          exact values_no nm tx kd w hE (by omega) h1 h2
        | some x =>
          obtain ⟨n, d, k⟩ := x
          rw [hp] at h1 h2
          have hd : (⟨d.toArray⟩ : ByteArray).toList.isEmpty = false := by
            rw [Lib.toList_data]
            have := parseL_ne hp
            show d.isEmpty = false
            cases d with
            | nil => exact absurd rfl this
            | cons c r => rfl
          exact values_num nm tx kd n ⟨d.toArray⟩ k hd w hE (by omega) h1 h2
      · rw [if_neg k1, if_neg k1] at h1 h2
        by_cases k2 : kd = 2
        · rw [if_pos k2, if_pos k2] at h1 h2
          cases hp : wholeS tx.data.toList (-9007199254740992) 9007199254740992 with
          | none =>
            rw [hp] at h1 h2
            exact values_no nm tx kd w hE (by omega) h1 h2
          | some v =>
            rw [hp] at h1 h2
            exact values_at nm tx kd v w hE (by omega) h1 h2
        · rw [if_neg k2, if_neg k2] at h1 h2
          exact values_no nm tx kd w hE (by omega) h1 h2
end Go.Proofs.YtnkijpjknbelfaaDoor
