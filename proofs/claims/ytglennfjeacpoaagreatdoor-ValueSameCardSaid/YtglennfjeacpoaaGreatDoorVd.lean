/-
  Package value: the law's head.
-/
import Derived.Test.YtglennfjeacpoaaGreatDoorVc
import Derived.Test.YtglennfjeacpoaaGreatDoorPl6
namespace Go.Proofs.YtglennfjeacpoaaGreatDoor
open Go.RowKit
set_option linter.unusedVariables false
set_option linter.unusedSimpArgs false

theorem fmtAt_of (b : Nat) (lang : ByteArray) (mi mf xf : Nat) (pl rk n : Bool) (s : ByteArray) (k : Nat) (hs : s.size ≤ 60) (hk : k ≤ s.size) (hd : s.data.toList.all digB = true) (hmi : mi ≤ 40) (hmf : mf ≤ 40) (hxf : xf ≤ 40) :
    FmtAt b lang (.agg #[.bool n, .string s, .int .i64 (k : Int)]) (.agg #[.int .i64 (mi : Int), .int .i64 (mf : Int), .int .i64 (xf : Int), .bool pl, .bool rk]) (bL (fmtL n pl (rndL s.data.toList k mf xf) (rndK s.data.toList k mf xf) mi (sgn lang).1 (sgn lang).2)) :=
  fun W made c hM hc => format_any b c made lang mi mf xf pl rk n s k W hM hc hs hk hd hmi hmf hxf
theorem fmt_head (b : Nat) : FmtAt b ⟨#[101, 110]⟩ (.agg #[.bool false, .string ⟨#[49, 48]⟩, .int .i64 1]) (.agg #[.int .i64 1, .int .i64 1, .int .i64 3, .bool false, .bool false]) ⟨#[49, 46, 48]⟩ := by
  have h := fmtAt_of b ⟨#[101, 110]⟩ 1 1 3 false false false ⟨#[49, 48]⟩ 1 (by decide) (by decide) (by kernel_rfl) (by decide) (by decide) (by decide)
  have e : bL (fmtL false false (rndL (⟨#[49, 48]⟩ : ByteArray).data.toList 1 1 3) (rndK (⟨#[49, 48]⟩ : ByteArray).data.toList 1 1 3) 1 (sgn ⟨#[101, 110]⟩).1 (sgn ⟨#[101, 110]⟩).2) = ⟨#[49, 46, 48]⟩ := by kernel_rfl
  rw [e] at h
  exact h
theorem cat_head (W : World) : Calls Tryz.prog 50 #[.agg #[.int .i64 1, .string ⟨#[]⟩, .bool false, .string ⟨#[49, 48]⟩, .int .i64 1, .int .i64 1, .int .i64 1, .int .i64 3, .bool false, .bool false, .int .i64 0, .int .i64 0], .string ⟨#[101, 110]⟩] W fun e w' => e = .returned (.int .i64 0) ∧ Below W.heap.size W w' := by
  have hS : ∀ W : World, Calls Tryz.prog 94 #[.agg #[.int .i64 1, .int .i64 1, .int .i64 3, .bool false, .bool false], .agg #[.bool false, .string ⟨#[49, 48]⟩, .int .i64 1]] W fun e w' => e = .returned (.agg #[.bool false, .string ⟨#[49, 48]⟩, .int .i64 (1 : Nat)]) ∧ Below W.heap.size W w' := fun W => by
    have h := shape_any 1 1 3 false false false ⟨#[49, 48]⟩ 1 W (by decide) (by decide) (by kernel_rfl) (by decide) (by decide) (by decide)
    have e : bL (ahd 1 (rndL (⟨#[49, 48]⟩ : ByteArray).data.toList 1 1 3) (rndK (⟨#[49, 48]⟩ : ByteArray).data.toList 1 1 3) ++ rndL (⟨#[49, 48]⟩ : ByteArray).data.toList 1 1 3) = ⟨#[49, 48]⟩ := by kernel_rfl
    have e2 : rndK (⟨#[49, 48]⟩ : ByteArray).data.toList 1 1 3 = 1 := by kernel_rfl
    rw [e, e2] at h
    exact h
  refine category_any false ⟨#[49, 48]⟩ 1 1 1 3 false false ⟨#[101, 110]⟩ ⟨#[49, 48]⟩ _ false 0 W hS (fun _ W => ?_) (fun h => by cases h)
  refine (of_gives ⟨#[101, 110]⟩ cEn (fun w => (count_en w).first) false ⟨#[49, 48]⟩ 1 W ⟨by decide, by decide, by decide⟩).mono ?_
  rintro e w' ⟨rfl, hb⟩
  exact ⟨ret_int (by decide +kernel), hb⟩
theorem word_head (W : World) : Calls Tryz.prog 51 #[.int .i64 0] W fun e w' => e = .returned (.string ⟨#[111, 116, 104, 101, 114]⟩) ∧ Below W.heap.size W w' := word_any 0 W (by omega) (by omega)
def IsTo (vs : Array Value) (key lang : ByteArray) (q : Bool) : Prop := ∀ W : World, W.ShapedOpen Tryz.prog → Calls Tryz.prog 15 #[.agg vs, .string key, .string lang] W fun e w' => e = .returned (.bool q) ∧ Below W.heap.size W w'
theorem is_other : IsTo #[.int .i64 1, .string ⟨#[]⟩, .bool false, .string ⟨#[49, 48]⟩, .int .i64 1, .int .i64 1, .int .i64 1, .int .i64 3, .bool false, .bool false, .int .i64 0, .int .i64 0] ⟨#[111, 116, 104, 101, 114]⟩ ⟨#[101, 110]⟩ true := fun W hW => by
  have h := isNum_no false ⟨#[49, 48]⟩ 1 1 1 3 false false ⟨#[111, 116, 104, 101, 114]⟩ ⟨#[101, 110]⟩ ⟨#[111, 116, 104, 101, 114]⟩ 0 W hW (parseNo (by kernel_rfl) (by decide)) cat_head word_head
  rw [show ((⟨#[111, 116, 104, 101, 114]⟩ : ByteArray).toList == (⟨#[111, 116, 104, 101, 114]⟩ : ByteArray).toList) = true by decide +kernel] at h
  exact h
theorem is_one : IsTo #[.int .i64 1, .string ⟨#[]⟩, .bool false, .string ⟨#[49, 48]⟩, .int .i64 1, .int .i64 1, .int .i64 1, .int .i64 3, .bool false, .bool false, .int .i64 0, .int .i64 0] ⟨#[111, 110, 101]⟩ ⟨#[101, 110]⟩ false := fun W hW => by
  have h := isNum_no false ⟨#[49, 48]⟩ 1 1 1 3 false false ⟨#[111, 110, 101]⟩ ⟨#[101, 110]⟩ ⟨#[111, 116, 104, 101, 114]⟩ 0 W hW (parseNo (by kernel_rfl) (by decide)) cat_head word_head
  rw [show ((⟨#[111, 110, 101]⟩ : ByteArray).toList == (⟨#[111, 116, 104, 101, 114]⟩ : ByteArray).toList) = false by decide +kernel] at h
  exact h
theorem is_1 : IsTo #[.int .i64 1, .string ⟨#[]⟩, .bool false, .string ⟨#[49, 48]⟩, .int .i64 1, .int .i64 1, .int .i64 1, .int .i64 3, .bool false, .bool false, .int .i64 0, .int .i64 0] ⟨#[49]⟩ ⟨#[101, 110]⟩ true := fun W hW => by
  have hp : ParseYes ⟨#[49]⟩ false ⟨#[49]⟩ 0 := parseYes (key := ⟨#[49]⟩) (d := [49]) (by kernel_rfl) (by decide)
  have h := isNum_yes false ⟨#[49, 48]⟩ ((1 : Nat) : Int) 1 1 3 false false ⟨#[49]⟩ ⟨#[101, 110]⟩ ⟨#[49]⟩ false 0 _ W hW hp (fun W => compare_any false false ⟨#[49]⟩ ⟨#[49, 48]⟩ 0 1 W (by decide) (by decide) (by decide) (by decide))
  rw [show (decC false (⟨#[49]⟩ : ByteArray).data.toList 0 false (⟨#[49, 48]⟩ : ByteArray).data.toList 1 == 0) = true by kernel_rfl] at h
  exact h
theorem written_head (W : World) (hW : W.ShapedOpen Tryz.prog) : Calls Tryz.prog 18 #[.string ⟨#[49, 46, 48]⟩] W fun e w' => e = .returned (.agg #[.int .i64 1, .string ⟨#[]⟩, .bool false, .string ⟨#[49, 48]⟩, .int .i64 1, .int .i64 1, .int .i64 1, .int .i64 3, .bool false, .bool false, .int .i64 0, .int .i64 0]) ∧ Below W.heap.size W w' :=
  written_yes ⟨#[49, 46, 48]⟩ ⟨#[49, 48]⟩ false 1 1 3 W hW (parseYes (key := ⟨#[49, 46, 48]⟩) (d := [49, 48]) (by kernel_rfl) (by decide)) (by decide) (by decide)
set_option maxHeartbeats 4000000 in
theorem headV_any (w : World) (hsh : w.ShapedOpen Tryz.prog) : Calls Tryz.prog 7 #[] w fun e w' => e = .returned (.bool true) ∧ Below w.heap.size w w' := by
  have Hsh := Lib.hid hsh
  clear hsh
  go_enter Tryz.func7, Tryz.ntmps7
  go_wp2_with fail
  go_at_call 18
  refine (written_head _ Hsh.out).mono ?_
  rintro e w1 ⟨rfl, hb1⟩
  have B0 := (BoxAt.new w1 #[.int .i64 1, .string ⟨#[]⟩, .bool false, .string ⟨#[49, 48]⟩, .int .i64 1, .int .i64 1, .int .i64 1, .int .i64 3, .bool false, .bool false, .int .i64 0, .int .i64 0] 33)
  have A1 := Lib.hid (below_new (below_new hb1 (Nat.le_refl _) (.cells #[.int .i64 1, .string ⟨#[]⟩, .bool false, .string ⟨#[49, 48]⟩, .int .i64 1, .int .i64 1, .int .i64 1, .int .i64 3, .bool false, .bool false, .int .i64 0, .int .i64 0] 33)) (Nat.le_refl _) (.cells #[.int .u32 0, .int .i32 0, .int .u32 0, .map none, .int .i64 0] 53))
  have m1 := marks_new (w1.alloc (.cells #[.int .i64 1, .string ⟨#[]⟩, .bool false, .string ⟨#[49, 48]⟩, .int .i64 1, .int .i64 1, .int .i64 1, .int .i64 3, .bool false, .bool false, .int .i64 0, .int .i64 0] 33))
  rw [show (w1.alloc (.cells #[.int .i64 1, .string ⟨#[]⟩, .bool false, .string ⟨#[49, 48]⟩, .int .i64 1, .int .i64 1, .int .i64 1, .int .i64 3, .bool false, .bool false, .int .i64 0, .int .i64 0] 33)).heap.size = w1.heap.size + 1 by simp] at m1
  have M1 := Lib.hid m1
  clear m1
  have B1' := Lib.hid (B0.alloc (.cells #[.int .u32 0, .int .i32 0, .int .u32 0, .map none, .int .i64 0] 53))
  have z0 := hb1.size
  clear hb1 B0
  go_wp2_with fail
  go_at_call 14
  refine (stringN_any (w1.heap.size + 1) false 0 false ⟨#[49, 48]⟩ 1 1 1 3 false false ⟨#[101, 110]⟩ ⟨#[49, 46, 48]⟩ _ M1.out (by omega) (fmt_head _)).mono ?_
  rintro e w2 ⟨rfl, hm, hk⟩
  have B2 := Lib.hid (B1'.out.kp hk (by omega))
  have A2 := Lib.hid (A1.out.trans (hk.below.mono (by omega)))
  clear hm hk
  have B1 := B2.out
  have z1 := B1.lt
  have b0 := B1.cell 0
  have b1 := B1.cell 1
  have b2 := B1.cell 2
  have b3 := B1.cell 3
  have b4 := B1.cell 4
  have b5 := B1.cell 5
  have b6 := B1.cell 6
  have b7 := B1.cell 7
  have b8 := B1.cell 8
  have b9 := B1.cell 9
  have b10 := B1.cell 10
  have b11 := B1.cell 11
  simp only [List.getElem?_toArray, List.getElem?_cons_zero, List.getElem?_cons_succ] at b0 b1 b2 b3 b4 b5 b6 b7 b8 b9 b10 b11
  clear B1
  go_wp2_with fail
  go_at_call 15
  refine (is_other _ (shp_below Hsh.out A2.out)).mono ?_
  rintro e w3 ⟨rfl, hb3⟩
  have B3 := Lib.hid (B2.out.later hb3)
  have A3 := Lib.hid (below_then A2.out (Nat.le_refl _) hb3)
  clear hb3
  clear b0 b1 b2 b3 b4 b5 b6 b7 b8 b9 b10 b11
  have B1 := B3.out
  have z1 := B1.lt
  have b0 := B1.cell 0
  have b1 := B1.cell 1
  have b2 := B1.cell 2
  have b3 := B1.cell 3
  have b4 := B1.cell 4
  have b5 := B1.cell 5
  have b6 := B1.cell 6
  have b7 := B1.cell 7
  have b8 := B1.cell 8
  have b9 := B1.cell 9
  have b10 := B1.cell 10
  have b11 := B1.cell 11
  simp only [List.getElem?_toArray, List.getElem?_cons_zero, List.getElem?_cons_succ] at b0 b1 b2 b3 b4 b5 b6 b7 b8 b9 b10 b11
  clear B1
  go_wp2_with fail
  go_at_call 15
  refine (is_1 _ (shp_below Hsh.out A3.out)).mono ?_
  rintro e w4 ⟨rfl, hb4⟩
  have B4 := Lib.hid (B3.out.later hb4)
  have A4 := Lib.hid (below_then A3.out (Nat.le_refl _) hb4)
  clear hb4
  clear b0 b1 b2 b3 b4 b5 b6 b7 b8 b9 b10 b11
  have B1 := B4.out
  have z1 := B1.lt
  have b0 := B1.cell 0
  have b1 := B1.cell 1
  have b2 := B1.cell 2
  have b3 := B1.cell 3
  have b4 := B1.cell 4
  have b5 := B1.cell 5
  have b6 := B1.cell 6
  have b7 := B1.cell 7
  have b8 := B1.cell 8
  have b9 := B1.cell 9
  have b10 := B1.cell 10
  have b11 := B1.cell 11
  simp only [List.getElem?_toArray, List.getElem?_cons_zero, List.getElem?_cons_succ] at b0 b1 b2 b3 b4 b5 b6 b7 b8 b9 b10 b11
  clear B1
  go_wp2_with fail
  go_at_call 15
  refine (is_one _ (shp_below Hsh.out A4.out)).mono ?_
  rintro e w5 ⟨rfl, hb5⟩
  have B5 := Lib.hid (B4.out.later hb5)
  have A5 := Lib.hid (below_then A4.out (Nat.le_refl _) hb5)
  clear hb5
  clear b0 b1 b2 b3 b4 b5 b6 b7 b8 b9 b10 b11
  have B1 := B5.out
  have z1 := B1.lt
  have b0 := B1.cell 0
  have b1 := B1.cell 1
  have b2 := B1.cell 2
  have b3 := B1.cell 3
  have b4 := B1.cell 4
  have b5 := B1.cell 5
  have b6 := B1.cell 6
  have b7 := B1.cell 7
  have b8 := B1.cell 8
  have b9 := B1.cell 9
  have b10 := B1.cell 10
  have b11 := B1.cell 11
  simp only [List.getElem?_toArray, List.getElem?_cons_zero, List.getElem?_cons_succ] at b0 b1 b2 b3 b4 b5 b6 b7 b8 b9 b10 b11
  clear B1
  go_wp2
  go_ret
  exact ⟨rfl, A5.out⟩
end Go.Proofs.YtglennfjeacpoaaGreatDoor
