/-
  Package value: Str, Num, At.
-/
import Derived.Test.YtgdkpamlkpncgabGreatDoorNdf
import Derived.Test.YtgdkpamlkpncgabGreatDoorKp0
import Derived.Laws.StructEq
import Derived.IntWalk
import Derived.RegionTactic
import Derived.RegionCalls
import Derived.Deep.RegionWith
namespace Go.Proofs.YtgdkpamlkpncgabGreatDoor
open Go.RowKit
set_option linter.unusedVariables false
set_option linter.unusedSimpArgs false

theorem bset1 {B : Nat} {a w : World} (h : Below B a w) {b : Nat} (hb : B ≤ b) (o : Nat) (x : Value) : Below B a (w.setCell ⟨b, o, none⟩ x) :=
  h.setCell (p := ⟨b, o, none⟩) hb _
theorem below12 {B : Nat} {a w : World} (h : Below B a w) {b : Nat} (hb : B ≤ b) (x0 x1 x2 x3 x4 x5 x6 x7 x8 x9 x10 x11 : Value) :
    Below B a ((((((((((((w.setCell ⟨b, 0, none⟩ x0).setCell ⟨b, 1, none⟩ x1).setCell ⟨b, 2, none⟩ x2).setCell ⟨b, 3, none⟩ x3).setCell ⟨b, 4, none⟩ x4).setCell ⟨b, 5, none⟩ x5).setCell ⟨b, 6, none⟩ x6).setCell ⟨b, 7, none⟩ x7).setCell ⟨b, 8, none⟩ x8).setCell ⟨b, 9, none⟩ x9).setCell ⟨b, 10, none⟩ x10).setCell ⟨b, 11, none⟩ x11) :=
  bset1 (bset1 (bset1 (bset1 (bset1 (bset1 (bset1 (bset1 (bset1 (bset1 (bset1 (bset1 h hb _ _) hb _ _) hb _ _) hb _ _) hb _ _) hb _ _) hb _ _) hb _ _) hb _ _) hb _ _) hb _ _) hb _ _
set_option maxHeartbeats 1000000 in
theorem str_any (x : ByteArray) (w : World) : Calls Tryz.prog 45 #[.string x] w fun e w' => e = .returned (.agg #[.int .i64 0, .string x, .bool false, .string ⟨#[]⟩, .int .i64 0, .int .i64 0, .int .i64 0, .int .i64 0, .bool false, .bool false, .int .i64 0, .int .i64 0]) ∧ Below w.heap.size w w' := by
  go_enter Tryz.func45, Tryz.ntmps45
  go_wp2
  exact bodyPost_ret (v := .agg #[.int .i64 0, .string x, .bool false, .string ⟨#[]⟩, .int .i64 0, .int .i64 0, .int .i64 0, .int .i64 0, .bool false, .bool false, .int .i64 0, .int .i64 0]) (by simp [results, Tryz.results45, go_sem]) rfl ⟨rfl, (Below.refl _ _).alloc (Nat.le_refl _) _⟩
set_option maxHeartbeats 1000000 in
theorem at_any (sec : Int) (w : World) : Calls Tryz.prog 48 #[.int .i64 sec] w fun e w' => e = .returned (.agg #[.int .i64 2, .string ⟨#[]⟩, .bool false, .string ⟨#[]⟩, .int .i64 0, .int .i64 0, .int .i64 0, .int .i64 0, .bool false, .bool false, .int .i64 sec, .int .i64 0]) ∧ Below w.heap.size w w' := by
  go_enter Tryz.func48, Tryz.ntmps48
  go_wp2
  exact bodyPost_ret (v := .agg #[.int .i64 2, .string ⟨#[]⟩, .bool false, .string ⟨#[]⟩, .int .i64 0, .int .i64 0, .int .i64 0, .int .i64 0, .bool false, .bool false, .int .i64 sec, .int .i64 0]) (by simp [results, Tryz.results48, go_sem]) rfl ⟨rfl, (Below.refl _ _).alloc (Nat.le_refl _) _⟩
set_option maxHeartbeats 1000000 in
theorem num_any (n : Bool) (s : ByteArray) (k : Int) (w : World) : Calls Tryz.prog 47 #[.agg #[.bool n, .string s, .int .i64 k]] w fun e w' => e = .returned (.agg #[.int .i64 1, .string ⟨#[]⟩, .bool n, .string s, .int .i64 k, .int .i64 1, .int .i64 0, .int .i64 3, .bool false, .bool false, .int .i64 0, .int .i64 0]) ∧ Below w.heap.size w w' := by
  go_enter Tryz.func47, Tryz.ntmps47
  go_wp2_with fail
  go_region_with (go_at_call 82; refine (default_any _).mono ?_; rintro e w1 ⟨rfl, hb1⟩; obtain ⟨hc1, hf1⟩ := bcell hb1)
  all_goals
    have hbel := Lib.hid (below_then ((((Below.refl _ w).alloc (Nat.le_refl _) _).alloc (by simp) _).drew) (Nat.le_refl _) hb1)
    have B1 := ((BoxAt.new' (w.alloc (.cells #[.bool n, .string s, .int .i64 k] 115)) (w.heap.size + 1) #[.int .i64 0, .string ⟨#[]⟩, .bool false, .string ⟨#[]⟩, .int .i64 0, .int .i64 0, .int .i64 0, .int .i64 0, .bool false, .bool false, .int .i64 0, .int .i64 0] 120 (by simp)).drew).later hb1
    have z1 := B1.lt
    have b0 := B1.cell 0
    have b1 := B1.cell 1
    have b2 := B1.cell 2
    have b3 := B1.cell 3
    have b4 := B1.cell 4
    have b5 := B1.cell 5
    have b6 := B1.cell 6
    have b7 := B1.cell 7
    have b8 := B1.cell 8
    have b9 := B1.cell 9
    have b10 := B1.cell 10
    have b11 := B1.cell 11
    have HB := Lib.hid B1
    clear hc1 hf1 hb1 B1
    simp only [List.getElem?_toArray, List.getElem?_cons_zero, List.getElem?_cons_succ] at b0 b1 b2 b3 b4 b5 b6 b7 b8 b9 b10 b11
    go_wp2
    refine bodyPost_ret (v := .agg #[.int .i64 1, .string ⟨#[]⟩, .bool n, .string s, .int .i64 k, .int .i64 1, .int .i64 0, .int .i64 3, .bool false, .bool false, .int .i64 0, .int .i64 0]) (by simp [results, Tryz.results47, go_sem, b0, b1, b2, b3, b4, b5, b6, b7, b8, b9, b10, b11]) rfl ⟨rfl, ?_⟩
    exact below12 hbel.out (by omega) _ _ _ _ _ _ _ _ _ _ _ _
end Go.Proofs.YtgdkpamlkpncgabGreatDoor
