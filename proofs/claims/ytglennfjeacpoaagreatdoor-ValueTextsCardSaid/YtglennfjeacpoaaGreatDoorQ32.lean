/-
  Several texts put together (part 32): what the law and the program call, walked; their contracts.
-/
import Derived.Test.YtglennfjeacpoaaGreatDoorQ22
import Derived.Test.YtglennfjeacpoaaGreatDoorQ31
import Derived.Test.YtglennfjeacpoaaGreatDoorQ21
import Derived.IntWalk
import Derived.Test.YtglennfjeacpoaaGreatDoorQ23
import Derived.Test.YtglennfjeacpoaaGreatDoorQ29
namespace Go.Proofs.YtglennfjeacpoaaGreatDoor
open Go.RowKit
set_option linter.unusedVariables false
set_option linter.unusedSimpArgs false
set_option maxHeartbeats 4000000 in
set_option maxRecDepth 100000 in
theorem value1_core (tx : ByteArray) (n : Bool) (s : ByteArray) (k : Int) (l : List OPT) (A : Option Addr) (c : Nat) (sec st mi mf xf : Int) (pl rk : Bool) (w : World) (hl : ListO w l A c)
    (hO : ∀ W : World, ListO W l A c → Calls Tryz.prog 11 #[.slice A l.length c] W fun e w' => e = .returned (.agg #[.int .i64 mi, .int .i64 mf, .int .i64 xf, .bool pl, .bool rk]) ∧ Below W.heap.size W w') :
    Calls Tryz.prog 9 #[.agg #[.int .i64 1, .string tx, .bool n, .string s, .int .i64 k, .slice A l.length c, .int .i64 sec, .int .i64 st]] w fun e w' => e = .returned (.agg #[.int .i64 1, .string ⟨#[]⟩, .bool n, .string s, .int .i64 k, .int .i64 mi, .int .i64 mf, .int .i64 xf, .bool pl, .bool rk, .int .i64 0, .int .i64 0]) ∧ Below w.heap.size w w' := by
  have HO := Lib.hid hO
  have HL := Lib.hid hl
  clear hO hl
  generalize hL : l.length = L at *
  clear hL
  have Z0 := Lib.hid (((Below.refl w.heap.size w).alloc (Nat.le_refl _) (.cells #[.int .i64 1, .string tx, .bool n, .string s, .int .i64 k, .slice A L c, .int .i64 sec, .int .i64 st] 26)).alloc (by simp) (.cells #[.int .i64 0, .string ⟨#[]⟩, .bool false, .string ⟨#[]⟩, .int .i64 0, .int .i64 0, .int .i64 0, .int .i64 0, .bool false, .bool false, .int .i64 0, .int .i64 0] 33))
  have M0 := Lib.hid ((BoxAt.new w #[.int .i64 1, .string tx, .bool n, .string s, .int .i64 k, .slice A L c, .int .i64 sec, .int .i64 st] 26).alloc (.cells #[.int .i64 0, .string ⟨#[]⟩, .bool false, .string ⟨#[]⟩, .int .i64 0, .int .i64 0, .int .i64 0, .int .i64 0, .bool false, .bool false, .int .i64 0, .int .i64 0] 33))
  have R0 := Lib.hid (BoxAt.new' (w.alloc (.cells #[.int .i64 1, .string tx, .bool n, .string s, .int .i64 k, .slice A L c, .int .i64 sec, .int .i64 st] 26)) (w.heap.size + 1) #[.int .i64 0, .string ⟨#[]⟩, .bool false, .string ⟨#[]⟩, .int .i64 0, .int .i64 0, .int .i64 0, .int .i64 0, .bool false, .bool false, .int .i64 0, .int .i64 0] 33 (by simp))
  have hb13 : bits BinOp.and IntKind.i64 1 3 = 1 := by decide
  go_enter Tryz.func9, Tryz.ntmps9
  go_wp2_with fail
  go_at_call 17
  refine (num_any _ _ _ _).mono ?_
  rintro e w1 ⟨rfl, hb1⟩
  have Z1 := Lib.hid (below_new (below_then Z0.out (Nat.le_refl _) hb1) (Nat.le_refl _) (.cells #[.int .i64 1, .string ⟨#[]⟩, .bool n, .string s, .int .i64 k, .int .i64 1, .int .i64 0, .int .i64 3, .bool false, .bool false, .int .i64 0, .int .i64 0] 33))
  have m1 := M0.out.later hb1
  have m5 := m1.cell 5
  have zm := m1.lt
  have M1 := Lib.hid (m1.alloc (.cells #[.int .i64 1, .string ⟨#[]⟩, .bool n, .string s, .int .i64 k, .int .i64 1, .int .i64 0, .int .i64 3, .bool false, .bool false, .int .i64 0, .int .i64 0] 33))
  have R1 := Lib.hid ((R0.out.later hb1).alloc (.cells #[.int .i64 1, .string ⟨#[]⟩, .bool n, .string s, .int .i64 k, .int .i64 1, .int .i64 0, .int .i64 3, .bool false, .bool false, .int .i64 0, .int .i64 0] 33))
  have V1 := Lib.hid (BoxAt.new w1 #[.int .i64 1, .string ⟨#[]⟩, .bool n, .string s, .int .i64 k, .int .i64 1, .int .i64 0, .int .i64 3, .bool false, .bool false, .int .i64 0, .int .i64 0] 33)
  have zr1 := (R0.out.later hb1).lt
  simp only [List.getElem?_toArray, List.getElem?_cons_zero, List.getElem?_cons_succ] at m5
  clear hb1 m1
  go_wp2_with fail
  go_at_call 11
  refine (HO.out _ (HL.out.later Z1.out)).mono ?_
  rintro e w2 ⟨rfl, hb2⟩
  clear m5 zm
  have Z2 := Lib.hid (below_then Z1.out (Nat.le_refl _) hb2)
  have v2 := V1.out.later hb2
  have r2 := R1.out.later hb2
  have zv := v2.lt
  have zr := r2.lt
  have g5 := v2.z 5
  have g6 := v2.z 6
  have g7 := v2.z 7
  have g8 := v2.z 8
  have g9 := v2.z 9
  have y5 := v2.cell 5
  have y6 := v2.cell 6
  have y7 := v2.cell 7
  have y8 := v2.cell 8
  have y9 := v2.cell 9
  simp only [List.getElem?_toArray, List.getElem?_cons_zero, List.getElem?_cons_succ] at y5 y6 y7 y8 y9
  have HV2 := Lib.hid v2
  have HR2 := Lib.hid r2
  clear v2 r2 hb2 M1 R1 V1 M0 R0 Z0 Z1
  go_upto_region 5 with fail
  have Z3 := Lib.hid (show Below w.heap.size w (((((w2.setCell ⟨w1.heap.size, 5, none⟩ (.int .i64 mi)).setCell ⟨w1.heap.size, 6, none⟩ (.int .i64 mf)).setCell ⟨w1.heap.size, 7, none⟩ (.int .i64 xf)).setCell ⟨w1.heap.size, 8, none⟩ (.bool pl)).setCell ⟨w1.heap.size, 9, none⟩ (.bool rk)) from (bs1 (bs1 (bs1 (bs1 (bs1 Z2.out (by omega : w.heap.size ≤ w1.heap.size) 5 (.int .i64 mi)) (by omega : w.heap.size ≤ w1.heap.size) 6 (.int .i64 mf)) (by omega : w.heap.size ≤ w1.heap.size) 7 (.int .i64 xf)) (by omega : w.heap.size ≤ w1.heap.size) 8 (.bool pl)) (by omega : w.heap.size ≤ w1.heap.size) 9 (.bool rk)))
  have bv3 := (((((HV2.out.set 5 (.int .i64 mi)).set 6 (.int .i64 mf)).set 7 (.int .i64 xf)).set 8 (.bool pl)).set 9 (.bool rk))
  have br3 := (BoxAt.setOther (BoxAt.setOther (BoxAt.setOther (BoxAt.setOther (BoxAt.setOther HR2.out ⟨w1.heap.size, 5, none⟩ (.int .i64 mi) (Nat.ne_of_lt zr1)) ⟨w1.heap.size, 6, none⟩ (.int .i64 mf) (Nat.ne_of_lt zr1)) ⟨w1.heap.size, 7, none⟩ (.int .i64 xf) (Nat.ne_of_lt zr1)) ⟨w1.heap.size, 8, none⟩ (.bool pl) (Nat.ne_of_lt zr1)) ⟨w1.heap.size, 9, none⟩ (.bool rk) (Nat.ne_of_lt zr1))
  clear g5 y5 g6 y6 g7 y7 g8 y8 g9 y9 HV2 HR2 zv zr
  have y0 := bv3.cell 0
  have y1 := bv3.cell 1
  have y2 := bv3.cell 2
  have y3 := bv3.cell 3
  have y4 := bv3.cell 4
  have y5 := bv3.cell 5
  have y6 := bv3.cell 6
  have y7 := bv3.cell 7
  have y8 := bv3.cell 8
  have y9 := bv3.cell 9
  have y10 := bv3.cell 10
  have y11 := bv3.cell 11
  simp only [List.getElem?_toArray, List.getElem?_cons_zero, List.getElem?_cons_succ, List.setIfInBounds_toArray, List.set_cons_zero, List.set_cons_succ] at y0 y1 y2 y3 y4 y5 y6 y7 y8 y9 y10 y11
  have v0 := br3.cell 0
  have v1 := br3.cell 1
  have v2 := br3.cell 2
  have v3 := br3.cell 3
  have v4 := br3.cell 4
  have v5 := br3.cell 5
  have v6 := br3.cell 6
  have v7 := br3.cell 7
  have v8 := br3.cell 8
  have v9 := br3.cell 9
  have v10 := br3.cell 10
  have v11 := br3.cell 11
  simp only [List.getElem?_toArray, List.getElem?_cons_zero, List.getElem?_cons_succ] at v0 v1 v2 v3 v4 v5 v6 v7 v8 v9 v10 v11
  have f0 := br3.z 0
  have f1 := br3.z 1
  have f2 := br3.z 2
  have f3 := br3.z 3
  have f4 := br3.z 4
  have f5 := br3.z 5
  have f6 := br3.z 6
  have f7 := br3.z 7
  have f8 := br3.z 8
  have f9 := br3.z 9
  have f10 := br3.z 10
  have f11 := br3.z 11
  have zv := bv3.lt
  have zr := br3.lt
  have HR3 := Lib.hid br3
  clear bv3 br3
  generalize (((((w2.setCell ⟨w1.heap.size, 5, none⟩ (.int .i64 mi)).setCell ⟨w1.heap.size, 6, none⟩ (.int .i64 mf)).setCell ⟨w1.heap.size, 7, none⟩ (.int .i64 xf)).setCell ⟨w1.heap.size, 8, none⟩ (.bool pl)).setCell ⟨w1.heap.size, 9, none⟩ (.bool rk)) = W3 at *
  go_wp2
  have Z4 := Lib.hid (show Below w.heap.size w ((((((((((((W3.setCell ⟨w.heap.size + 1, 0, none⟩ (.int .i64 1)).setCell ⟨w.heap.size + 1, 1, none⟩ (.string ⟨#[]⟩)).setCell ⟨w.heap.size + 1, 2, none⟩ (.bool n)).setCell ⟨w.heap.size + 1, 3, none⟩ (.string s)).setCell ⟨w.heap.size + 1, 4, none⟩ (.int .i64 k)).setCell ⟨w.heap.size + 1, 5, none⟩ (.int .i64 mi)).setCell ⟨w.heap.size + 1, 6, none⟩ (.int .i64 mf)).setCell ⟨w.heap.size + 1, 7, none⟩ (.int .i64 xf)).setCell ⟨w.heap.size + 1, 8, none⟩ (.bool pl)).setCell ⟨w.heap.size + 1, 9, none⟩ (.bool rk)).setCell ⟨w.heap.size + 1, 10, none⟩ (.int .i64 0)).setCell ⟨w.heap.size + 1, 11, none⟩ (.int .i64 0)) from below12 Z3.out (by omega) (.int .i64 1) (.string ⟨#[]⟩) (.bool n) (.string s) (.int .i64 k) (.int .i64 mi) (.int .i64 mf) (.int .i64 xf) (.bool pl) (.bool rk) (.int .i64 0) (.int .i64 0))
  have br4 := ((((((((((((HR3.out.set 0 (.int .i64 1)).set 1 (.string ⟨#[]⟩)).set 2 (.bool n)).set 3 (.string s)).set 4 (.int .i64 k)).set 5 (.int .i64 mi)).set 6 (.int .i64 mf)).set 7 (.int .i64 xf)).set 8 (.bool pl)).set 9 (.bool rk)).set 10 (.int .i64 0)).set 11 (.int .i64 0))
  clear v0 y0 f0 v1 y1 f1 v2 y2 f2 v3 y3 f3 v4 y4 f4 v5 y5 f5 v6 y6 f6 v7 y7 f7 v8 y8 f8 v9 y9 f9 v10 y10 f10 v11 y11 f11 HR3
  have v0 := br4.cell 0
  have v1 := br4.cell 1
  have v2 := br4.cell 2
  have v3 := br4.cell 3
  have v4 := br4.cell 4
  have v5 := br4.cell 5
  have v6 := br4.cell 6
  have v7 := br4.cell 7
  have v8 := br4.cell 8
  have v9 := br4.cell 9
  have v10 := br4.cell 10
  have v11 := br4.cell 11
  simp only [List.getElem?_toArray, List.getElem?_cons_zero, List.getElem?_cons_succ, List.setIfInBounds_toArray, List.set_cons_zero, List.set_cons_succ] at v0 v1 v2 v3 v4 v5 v6 v7 v8 v9 v10 v11
  clear br4
  generalize ((((((((((((W3.setCell ⟨w.heap.size + 1, 0, none⟩ (.int .i64 1)).setCell ⟨w.heap.size + 1, 1, none⟩ (.string ⟨#[]⟩)).setCell ⟨w.heap.size + 1, 2, none⟩ (.bool n)).setCell ⟨w.heap.size + 1, 3, none⟩ (.string s)).setCell ⟨w.heap.size + 1, 4, none⟩ (.int .i64 k)).setCell ⟨w.heap.size + 1, 5, none⟩ (.int .i64 mi)).setCell ⟨w.heap.size + 1, 6, none⟩ (.int .i64 mf)).setCell ⟨w.heap.size + 1, 7, none⟩ (.int .i64 xf)).setCell ⟨w.heap.size + 1, 8, none⟩ (.bool pl)).setCell ⟨w.heap.size + 1, 9, none⟩ (.bool rk)).setCell ⟨w.heap.size + 1, 10, none⟩ (.int .i64 0)).setCell ⟨w.heap.size + 1, 11, none⟩ (.int .i64 0)) = W4 at *
  exact bodyPost_ret (v := .agg #[.int .i64 1, .string ⟨#[]⟩, .bool n, .string s, .int .i64 k, .int .i64 mi, .int .i64 mf, .int .i64 xf, .bool pl, .bool rk, .int .i64 0, .int .i64 0]) (by simp [results, Tryz.results9, go_sem, v0, v1, v2, v3, v4, v5, v6, v7, v8, v9, v10, v11]) rfl ⟨rfl, Z4.out⟩
end Go.Proofs.YtglennfjeacpoaaGreatDoor

namespace Go.Proofs.YtglennfjeacpoaaGreatDoor
open Go.RowKit
set_option linter.unusedVariables false
set_option linter.unusedSimpArgs false
theorem and3 (x : Int) : ∃ j : Nat, j ≤ 3 ∧ bits BinOp.and IntKind.i64 x 3 = (j : Int) := by
  refine ⟨(BitVec.ofInt 64 x).toNat &&& 3, Nat.and_le_right, ?_⟩
  have h : (BitVec.ofInt 64 x).toNat &&& 3 ≤ 3 := Nat.and_le_right
  simp only [bits, BitVec.toNat_and]
  show IntKind.i64.wrap (((BitVec.ofInt 64 x).toNat &&& (BitVec.ofInt 64 3).toNat : Nat) : Int) = _
  rw [show (BitVec.ofInt 64 3).toNat = 3 by decide]
  generalize (BitVec.ofInt 64 x).toNat &&& 3 = y at *
  exact IntWalk.i64_in _ (by omega)
set_option maxHeartbeats 4000000 in
set_option maxRecDepth 100000 in
theorem value0_any (kd : Int) (tx : ByteArray) (n : Bool) (s : ByteArray) (k : Int) (L : Nat) (A : Option Addr) (c : Nat) (sec st : Int) (v0 v1 v2 v3 v4 v5 v6 v7 v8 v9 v10 v11 : Value) (w : World) (hsh : w.ShapedOpen Tryz.prog) (hj : bits BinOp.and IntKind.i64 kd 3 = 0)
    (hF : ∀ W : World, W.ShapedOpen Tryz.prog → Calls Tryz.prog 22 #[.string tx] W fun e w' => e = .returned (.agg #[v0, v1, v2, v3, v4, v5, v6, v7, v8, v9, v10, v11]) ∧ Below W.heap.size W w')
    (o0 : ∃ x, v0 = .int .i64 x) (o1 : ∃ x, v1 = .string x) (o2 : ∃ x, v2 = .bool x) (o3 : ∃ x, v3 = .string x) (o4 : ∃ x, v4 = .int .i64 x) (o5 : ∃ x, v5 = .int .i64 x) (o6 : ∃ x, v6 = .int .i64 x) (o7 : ∃ x, v7 = .int .i64 x) (o8 : ∃ x, v8 = .bool x) (o9 : ∃ x, v9 = .bool x) (o10 : ∃ x, v10 = .int .i64 x) (o11 : ∃ x, v11 = .int .i64 x) :
    Calls Tryz.prog 9 #[.agg #[.int .i64 kd, .string tx, .bool n, .string s, .int .i64 k, .slice A L c, .int .i64 sec, .int .i64 st]] w fun e w' => e = .returned (.agg #[v0, v1, v2, v3, v4, v5, v6, v7, v8, v9, v10, v11]) ∧ Below w.heap.size w w' := by
  obtain ⟨o0, rfl⟩ := o0
  obtain ⟨o1, rfl⟩ := o1
  obtain ⟨o2, rfl⟩ := o2
  obtain ⟨o3, rfl⟩ := o3
  obtain ⟨o4, rfl⟩ := o4
  obtain ⟨o5, rfl⟩ := o5
  obtain ⟨o6, rfl⟩ := o6
  obtain ⟨o7, rfl⟩ := o7
  obtain ⟨o8, rfl⟩ := o8
  obtain ⟨o9, rfl⟩ := o9
  obtain ⟨o10, rfl⟩ := o10
  obtain ⟨o11, rfl⟩ := o11
  have HF := Lib.hid hF
  have Z0 := Lib.hid (((Below.refl w.heap.size w).alloc (Nat.le_refl _) (.cells #[.int .i64 kd, .string tx, .bool n, .string s, .int .i64 k, .slice A L c, .int .i64 sec, .int .i64 st] 26)).alloc (by simp) (.cells #[.int .i64 0, .string ⟨#[]⟩, .bool false, .string ⟨#[]⟩, .int .i64 0, .int .i64 0, .int .i64 0, .int .i64 0, .bool false, .bool false, .int .i64 0, .int .i64 0] 33))
  have R0 := Lib.hid (BoxAt.new' (w.alloc (.cells #[.int .i64 kd, .string tx, .bool n, .string s, .int .i64 k, .slice A L c, .int .i64 sec, .int .i64 st] 26)) (w.heap.size + 1) #[.int .i64 0, .string ⟨#[]⟩, .bool false, .string ⟨#[]⟩, .int .i64 0, .int .i64 0, .int .i64 0, .int .i64 0, .bool false, .bool false, .int .i64 0, .int .i64 0] 33 (by simp))
  have Hs := Lib.hid (shp_below hsh Z0.out)
  clear hF hsh
  go_enter Tryz.func9, Tryz.ntmps9
  go_wp2_with fail
  go_at_call 22
  refine (HF.out _ Hs.out).mono ?_
  rintro e w1 ⟨rfl, hb1⟩
  have Z1 := Lib.hid (below_then Z0.out (Nat.le_refl _) hb1)
  have br := R0.out.later hb1
  have zr := br.lt
  have v0 := br.cell 0
  have v1 := br.cell 1
  have v2 := br.cell 2
  have v3 := br.cell 3
  have v4 := br.cell 4
  have v5 := br.cell 5
  have v6 := br.cell 6
  have v7 := br.cell 7
  have v8 := br.cell 8
  have v9 := br.cell 9
  have v10 := br.cell 10
  have v11 := br.cell 11
  simp only [List.getElem?_toArray, List.getElem?_cons_zero, List.getElem?_cons_succ] at v0 v1 v2 v3 v4 v5 v6 v7 v8 v9 v10 v11
  have f0 := br.z 0
  have f1 := br.z 1
  have f2 := br.z 2
  have f3 := br.z 3
  have f4 := br.z 4
  have f5 := br.z 5
  have f6 := br.z 6
  have f7 := br.z 7
  have f8 := br.z 8
  have f9 := br.z 9
  have f10 := br.z 10
  have f11 := br.z 11
  have HR := Lib.hid br
  clear br hb1 R0 Z0
  go_wp2
  have Z4 := Lib.hid (show Below w.heap.size w ((((((((((((w1.setCell ⟨w.heap.size + 1, 0, none⟩ (.int .i64 o0)).setCell ⟨w.heap.size + 1, 1, none⟩ (.string o1)).setCell ⟨w.heap.size + 1, 2, none⟩ (.bool o2)).setCell ⟨w.heap.size + 1, 3, none⟩ (.string o3)).setCell ⟨w.heap.size + 1, 4, none⟩ (.int .i64 o4)).setCell ⟨w.heap.size + 1, 5, none⟩ (.int .i64 o5)).setCell ⟨w.heap.size + 1, 6, none⟩ (.int .i64 o6)).setCell ⟨w.heap.size + 1, 7, none⟩ (.int .i64 o7)).setCell ⟨w.heap.size + 1, 8, none⟩ (.bool o8)).setCell ⟨w.heap.size + 1, 9, none⟩ (.bool o9)).setCell ⟨w.heap.size + 1, 10, none⟩ (.int .i64 o10)).setCell ⟨w.heap.size + 1, 11, none⟩ (.int .i64 o11)) from below12 Z1.out (by omega) (.int .i64 o0) (.string o1) (.bool o2) (.string o3) (.int .i64 o4) (.int .i64 o5) (.int .i64 o6) (.int .i64 o7) (.bool o8) (.bool o9) (.int .i64 o10) (.int .i64 o11))
  have br4 := ((((((((((((HR.out.set 0 (.int .i64 o0)).set 1 (.string o1)).set 2 (.bool o2)).set 3 (.string o3)).set 4 (.int .i64 o4)).set 5 (.int .i64 o5)).set 6 (.int .i64 o6)).set 7 (.int .i64 o7)).set 8 (.bool o8)).set 9 (.bool o9)).set 10 (.int .i64 o10)).set 11 (.int .i64 o11))
  clear v0 f0 v1 f1 v2 f2 v3 f3 v4 f4 v5 f5 v6 f6 v7 f7 v8 f8 v9 f9 v10 f10 v11 f11 HR
  have v0 := br4.cell 0
  have v1 := br4.cell 1
  have v2 := br4.cell 2
  have v3 := br4.cell 3
  have v4 := br4.cell 4
  have v5 := br4.cell 5
  have v6 := br4.cell 6
  have v7 := br4.cell 7
  have v8 := br4.cell 8
  have v9 := br4.cell 9
  have v10 := br4.cell 10
  have v11 := br4.cell 11
  simp only [List.getElem?_toArray, List.getElem?_cons_zero, List.getElem?_cons_succ, List.setIfInBounds_toArray, List.set_cons_zero, List.set_cons_succ] at v0 v1 v2 v3 v4 v5 v6 v7 v8 v9 v10 v11
  clear br4
  generalize ((((((((((((w1.setCell ⟨w.heap.size + 1, 0, none⟩ (.int .i64 o0)).setCell ⟨w.heap.size + 1, 1, none⟩ (.string o1)).setCell ⟨w.heap.size + 1, 2, none⟩ (.bool o2)).setCell ⟨w.heap.size + 1, 3, none⟩ (.string o3)).setCell ⟨w.heap.size + 1, 4, none⟩ (.int .i64 o4)).setCell ⟨w.heap.size + 1, 5, none⟩ (.int .i64 o5)).setCell ⟨w.heap.size + 1, 6, none⟩ (.int .i64 o6)).setCell ⟨w.heap.size + 1, 7, none⟩ (.int .i64 o7)).setCell ⟨w.heap.size + 1, 8, none⟩ (.bool o8)).setCell ⟨w.heap.size + 1, 9, none⟩ (.bool o9)).setCell ⟨w.heap.size + 1, 10, none⟩ (.int .i64 o10)).setCell ⟨w.heap.size + 1, 11, none⟩ (.int .i64 o11)) = W4 at *
  exact bodyPost_ret (v := .agg #[.int .i64 o0, .string o1, .bool o2, .string o3, .int .i64 o4, .int .i64 o5, .int .i64 o6, .int .i64 o7, .bool o8, .bool o9, .int .i64 o10, .int .i64 o11]) (by simp [results, Tryz.results9, go_sem, v0, v1, v2, v3, v4, v5, v6, v7, v8, v9, v10, v11]) rfl ⟨rfl, Z4.out⟩
set_option maxHeartbeats 4000000 in
set_option maxRecDepth 100000 in
theorem value3_any (kd : Int) (tx : ByteArray) (n : Bool) (s : ByteArray) (k : Int) (L : Nat) (A : Option Addr) (c : Nat) (sec st : Int) (v0 v1 v2 v3 v4 v5 v6 v7 v8 v9 v10 v11 : Value) (w : World) (hsh : w.ShapedOpen Tryz.prog) (hj : bits BinOp.and IntKind.i64 kd 3 = 3)
    (hF : ∀ W : World, W.ShapedOpen Tryz.prog → Calls Tryz.prog 18 #[.string tx] W fun e w' => e = .returned (.agg #[v0, v1, v2, v3, v4, v5, v6, v7, v8, v9, v10, v11]) ∧ Below W.heap.size W w')
    (o0 : ∃ x, v0 = .int .i64 x) (o1 : ∃ x, v1 = .string x) (o2 : ∃ x, v2 = .bool x) (o3 : ∃ x, v3 = .string x) (o4 : ∃ x, v4 = .int .i64 x) (o5 : ∃ x, v5 = .int .i64 x) (o6 : ∃ x, v6 = .int .i64 x) (o7 : ∃ x, v7 = .int .i64 x) (o8 : ∃ x, v8 = .bool x) (o9 : ∃ x, v9 = .bool x) (o10 : ∃ x, v10 = .int .i64 x) (o11 : ∃ x, v11 = .int .i64 x) :
    Calls Tryz.prog 9 #[.agg #[.int .i64 kd, .string tx, .bool n, .string s, .int .i64 k, .slice A L c, .int .i64 sec, .int .i64 st]] w fun e w' => e = .returned (.agg #[v0, v1, v2, v3, v4, v5, v6, v7, v8, v9, v10, v11]) ∧ Below w.heap.size w w' := by
  obtain ⟨o0, rfl⟩ := o0
  obtain ⟨o1, rfl⟩ := o1
  obtain ⟨o2, rfl⟩ := o2
  obtain ⟨o3, rfl⟩ := o3
  obtain ⟨o4, rfl⟩ := o4
  obtain ⟨o5, rfl⟩ := o5
  obtain ⟨o6, rfl⟩ := o6
  obtain ⟨o7, rfl⟩ := o7
  obtain ⟨o8, rfl⟩ := o8
  obtain ⟨o9, rfl⟩ := o9
  obtain ⟨o10, rfl⟩ := o10
  obtain ⟨o11, rfl⟩ := o11
  have HF := Lib.hid hF
  have Z0 := Lib.hid (((Below.refl w.heap.size w).alloc (Nat.le_refl _) (.cells #[.int .i64 kd, .string tx, .bool n, .string s, .int .i64 k, .slice A L c, .int .i64 sec, .int .i64 st] 26)).alloc (by simp) (.cells #[.int .i64 0, .string ⟨#[]⟩, .bool false, .string ⟨#[]⟩, .int .i64 0, .int .i64 0, .int .i64 0, .int .i64 0, .bool false, .bool false, .int .i64 0, .int .i64 0] 33))
  have R0 := Lib.hid (BoxAt.new' (w.alloc (.cells #[.int .i64 kd, .string tx, .bool n, .string s, .int .i64 k, .slice A L c, .int .i64 sec, .int .i64 st] 26)) (w.heap.size + 1) #[.int .i64 0, .string ⟨#[]⟩, .bool false, .string ⟨#[]⟩, .int .i64 0, .int .i64 0, .int .i64 0, .int .i64 0, .bool false, .bool false, .int .i64 0, .int .i64 0] 33 (by simp))
  have Hs := Lib.hid (shp_below hsh Z0.out)
  clear hF hsh
  go_enter Tryz.func9, Tryz.ntmps9
  go_wp2_with fail
  go_at_call 18
  refine (HF.out _ Hs.out).mono ?_
  rintro e w1 ⟨rfl, hb1⟩
  have Z1 := Lib.hid (below_then Z0.out (Nat.le_refl _) hb1)
  have br := R0.out.later hb1
  have zr := br.lt
  have v0 := br.cell 0
  have v1 := br.cell 1
  have v2 := br.cell 2
  have v3 := br.cell 3
  have v4 := br.cell 4
  have v5 := br.cell 5
  have v6 := br.cell 6
  have v7 := br.cell 7
  have v8 := br.cell 8
  have v9 := br.cell 9
  have v10 := br.cell 10
  have v11 := br.cell 11
  simp only [List.getElem?_toArray, List.getElem?_cons_zero, List.getElem?_cons_succ] at v0 v1 v2 v3 v4 v5 v6 v7 v8 v9 v10 v11
  have f0 := br.z 0
  have f1 := br.z 1
  have f2 := br.z 2
  have f3 := br.z 3
  have f4 := br.z 4
  have f5 := br.z 5
  have f6 := br.z 6
  have f7 := br.z 7
  have f8 := br.z 8
  have f9 := br.z 9
  have f10 := br.z 10
  have f11 := br.z 11
  have HR := Lib.hid br
  clear br hb1 R0 Z0
  go_wp2
  have Z4 := Lib.hid (show Below w.heap.size w ((((((((((((w1.setCell ⟨w.heap.size + 1, 0, none⟩ (.int .i64 o0)).setCell ⟨w.heap.size + 1, 1, none⟩ (.string o1)).setCell ⟨w.heap.size + 1, 2, none⟩ (.bool o2)).setCell ⟨w.heap.size + 1, 3, none⟩ (.string o3)).setCell ⟨w.heap.size + 1, 4, none⟩ (.int .i64 o4)).setCell ⟨w.heap.size + 1, 5, none⟩ (.int .i64 o5)).setCell ⟨w.heap.size + 1, 6, none⟩ (.int .i64 o6)).setCell ⟨w.heap.size + 1, 7, none⟩ (.int .i64 o7)).setCell ⟨w.heap.size + 1, 8, none⟩ (.bool o8)).setCell ⟨w.heap.size + 1, 9, none⟩ (.bool o9)).setCell ⟨w.heap.size + 1, 10, none⟩ (.int .i64 o10)).setCell ⟨w.heap.size + 1, 11, none⟩ (.int .i64 o11)) from below12 Z1.out (by omega) (.int .i64 o0) (.string o1) (.bool o2) (.string o3) (.int .i64 o4) (.int .i64 o5) (.int .i64 o6) (.int .i64 o7) (.bool o8) (.bool o9) (.int .i64 o10) (.int .i64 o11))
  have br4 := ((((((((((((HR.out.set 0 (.int .i64 o0)).set 1 (.string o1)).set 2 (.bool o2)).set 3 (.string o3)).set 4 (.int .i64 o4)).set 5 (.int .i64 o5)).set 6 (.int .i64 o6)).set 7 (.int .i64 o7)).set 8 (.bool o8)).set 9 (.bool o9)).set 10 (.int .i64 o10)).set 11 (.int .i64 o11))
  clear v0 f0 v1 f1 v2 f2 v3 f3 v4 f4 v5 f5 v6 f6 v7 f7 v8 f8 v9 f9 v10 f10 v11 f11 HR
  have v0 := br4.cell 0
  have v1 := br4.cell 1
  have v2 := br4.cell 2
  have v3 := br4.cell 3
  have v4 := br4.cell 4
  have v5 := br4.cell 5
  have v6 := br4.cell 6
  have v7 := br4.cell 7
  have v8 := br4.cell 8
  have v9 := br4.cell 9
  have v10 := br4.cell 10
  have v11 := br4.cell 11
  simp only [List.getElem?_toArray, List.getElem?_cons_zero, List.getElem?_cons_succ, List.setIfInBounds_toArray, List.set_cons_zero, List.set_cons_succ] at v0 v1 v2 v3 v4 v5 v6 v7 v8 v9 v10 v11
  clear br4
  generalize ((((((((((((w1.setCell ⟨w.heap.size + 1, 0, none⟩ (.int .i64 o0)).setCell ⟨w.heap.size + 1, 1, none⟩ (.string o1)).setCell ⟨w.heap.size + 1, 2, none⟩ (.bool o2)).setCell ⟨w.heap.size + 1, 3, none⟩ (.string o3)).setCell ⟨w.heap.size + 1, 4, none⟩ (.int .i64 o4)).setCell ⟨w.heap.size + 1, 5, none⟩ (.int .i64 o5)).setCell ⟨w.heap.size + 1, 6, none⟩ (.int .i64 o6)).setCell ⟨w.heap.size + 1, 7, none⟩ (.int .i64 o7)).setCell ⟨w.heap.size + 1, 8, none⟩ (.bool o8)).setCell ⟨w.heap.size + 1, 9, none⟩ (.bool o9)).setCell ⟨w.heap.size + 1, 10, none⟩ (.int .i64 o10)).setCell ⟨w.heap.size + 1, 11, none⟩ (.int .i64 o11)) = W4 at *
  exact bodyPost_ret (v := .agg #[.int .i64 o0, .string o1, .bool o2, .string o3, .int .i64 o4, .int .i64 o5, .int .i64 o6, .int .i64 o7, .bool o8, .bool o9, .int .i64 o10, .int .i64 o11]) (by simp [results, Tryz.results9, go_sem, v0, v1, v2, v3, v4, v5, v6, v7, v8, v9, v10, v11]) rfl ⟨rfl, Z4.out⟩
end Go.Proofs.YtglennfjeacpoaaGreatDoor

namespace Go.Proofs.YtglennfjeacpoaaGreatDoor
open Go.RowKit
set_option linter.unusedVariables false
set_option linter.unusedSimpArgs false
set_option maxHeartbeats 4000000 in
set_option maxRecDepth 100000 in
theorem value2_any (kd : Int) (tx : ByteArray) (n : Bool) (s : ByteArray) (k : Int) (L : Nat) (A : Option Addr) (c : Nat) (sec st : Int) (w : World) (hj : bits BinOp.and IntKind.i64 kd 3 = 2) :
    Calls Tryz.prog 9 #[.agg #[.int .i64 kd, .string tx, .bool n, .string s, .int .i64 k, .slice A L c, .int .i64 sec, .int .i64 st]] w fun e w' => e = .returned (.agg #[.int .i64 2, .string ⟨#[]⟩, .bool false, .string ⟨#[]⟩, .int .i64 0, .int .i64 0, .int .i64 0, .int .i64 0, .bool false, .bool false, .int .i64 sec, .int .i64 st]) ∧ Below w.heap.size w w' := by
  have Z0 := Lib.hid (((Below.refl w.heap.size w).alloc (Nat.le_refl _) (.cells #[.int .i64 kd, .string tx, .bool n, .string s, .int .i64 k, .slice A L c, .int .i64 sec, .int .i64 st] 26)).alloc (by simp) (.cells #[.int .i64 0, .string ⟨#[]⟩, .bool false, .string ⟨#[]⟩, .int .i64 0, .int .i64 0, .int .i64 0, .int .i64 0, .bool false, .bool false, .int .i64 0, .int .i64 0] 33))
  have M0 := Lib.hid ((BoxAt.new w #[.int .i64 kd, .string tx, .bool n, .string s, .int .i64 k, .slice A L c, .int .i64 sec, .int .i64 st] 26).alloc (.cells #[.int .i64 0, .string ⟨#[]⟩, .bool false, .string ⟨#[]⟩, .int .i64 0, .int .i64 0, .int .i64 0, .int .i64 0, .bool false, .bool false, .int .i64 0, .int .i64 0] 33))
  have R0 := Lib.hid (BoxAt.new' (w.alloc (.cells #[.int .i64 kd, .string tx, .bool n, .string s, .int .i64 k, .slice A L c, .int .i64 sec, .int .i64 st] 26)) (w.heap.size + 1) #[.int .i64 0, .string ⟨#[]⟩, .bool false, .string ⟨#[]⟩, .int .i64 0, .int .i64 0, .int .i64 0, .int .i64 0, .bool false, .bool false, .int .i64 0, .int .i64 0] 33 (by simp))
  go_enter Tryz.func9, Tryz.ntmps9
  go_wp2_with fail
  go_at_call 23
  refine (at_any _ _).mono ?_
  rintro e w1 ⟨rfl, hb1⟩
  have Z1 := Lib.hid (below_then Z0.out (Nat.le_refl _) hb1)
  have m1 := M0.out.later hb1
  have m5 := m1.cell 5
  have m7 := m1.cell 7
  have zm := m1.lt
  have br := R0.out.later hb1
  have zr1 := br.lt
  have HR1 := Lib.hid br
  simp only [List.getElem?_toArray, List.getElem?_cons_zero, List.getElem?_cons_succ] at m5 m7
  clear hb1 m1 br M0 R0 Z0
  go_upto_region 9 with fail
  have Z3 := Lib.hid (show Below w.heap.size w (w1.alloc (.cells #[.int .i64 2, .string ⟨#[]⟩, .bool false, .string ⟨#[]⟩, .int .i64 0, .int .i64 0, .int .i64 0, .int .i64 0, .bool false, .bool false, .int .i64 sec, .int .i64 st] 33)) from below_new Z1.out (Nat.le_refl _) _)
  have bv3 := BoxAt.new w1 #[.int .i64 2, .string ⟨#[]⟩, .bool false, .string ⟨#[]⟩, .int .i64 0, .int .i64 0, .int .i64 0, .int .i64 0, .bool false, .bool false, .int .i64 sec, .int .i64 st] 33
  have br3 := HR1.out.alloc (.cells #[.int .i64 2, .string ⟨#[]⟩, .bool false, .string ⟨#[]⟩, .int .i64 0, .int .i64 0, .int .i64 0, .int .i64 0, .bool false, .bool false, .int .i64 sec, .int .i64 st] 33)
  clear m5 m7 zm HR1
  have y0 := bv3.cell 0
  have y1 := bv3.cell 1
  have y2 := bv3.cell 2
  have y3 := bv3.cell 3
  have y4 := bv3.cell 4
  have y5 := bv3.cell 5
  have y6 := bv3.cell 6
  have y7 := bv3.cell 7
  have y8 := bv3.cell 8
  have y9 := bv3.cell 9
  have y10 := bv3.cell 10
  have y11 := bv3.cell 11
  simp only [List.getElem?_toArray, List.getElem?_cons_zero, List.getElem?_cons_succ] at y0 y1 y2 y3 y4 y5 y6 y7 y8 y9 y10 y11
  have v0 := br3.cell 0
  have v1 := br3.cell 1
  have v2 := br3.cell 2
  have v3 := br3.cell 3
  have v4 := br3.cell 4
  have v5 := br3.cell 5
  have v6 := br3.cell 6
  have v7 := br3.cell 7
  have v8 := br3.cell 8
  have v9 := br3.cell 9
  have v10 := br3.cell 10
  have v11 := br3.cell 11
  simp only [List.getElem?_toArray, List.getElem?_cons_zero, List.getElem?_cons_succ] at v0 v1 v2 v3 v4 v5 v6 v7 v8 v9 v10 v11
  have f0 := br3.z 0
  have f1 := br3.z 1
  have f2 := br3.z 2
  have f3 := br3.z 3
  have f4 := br3.z 4
  have f5 := br3.z 5
  have f6 := br3.z 6
  have f7 := br3.z 7
  have f8 := br3.z 8
  have f9 := br3.z 9
  have f10 := br3.z 10
  have f11 := br3.z 11
  have zv := bv3.lt
  have zr := br3.lt
  have HR3 := Lib.hid br3
  clear bv3 br3
  generalize w1.alloc (.cells #[.int .i64 2, .string ⟨#[]⟩, .bool false, .string ⟨#[]⟩, .int .i64 0, .int .i64 0, .int .i64 0, .int .i64 0, .bool false, .bool false, .int .i64 sec, .int .i64 st] 33) = W3 at *
  go_wp2
  have Z4 := Lib.hid (show Below w.heap.size w ((((((((((((W3.setCell ⟨w.heap.size + 1, 0, none⟩ (.int .i64 2)).setCell ⟨w.heap.size + 1, 1, none⟩ (.string ⟨#[]⟩)).setCell ⟨w.heap.size + 1, 2, none⟩ (.bool false)).setCell ⟨w.heap.size + 1, 3, none⟩ (.string ⟨#[]⟩)).setCell ⟨w.heap.size + 1, 4, none⟩ (.int .i64 0)).setCell ⟨w.heap.size + 1, 5, none⟩ (.int .i64 0)).setCell ⟨w.heap.size + 1, 6, none⟩ (.int .i64 0)).setCell ⟨w.heap.size + 1, 7, none⟩ (.int .i64 0)).setCell ⟨w.heap.size + 1, 8, none⟩ (.bool false)).setCell ⟨w.heap.size + 1, 9, none⟩ (.bool false)).setCell ⟨w.heap.size + 1, 10, none⟩ (.int .i64 sec)).setCell ⟨w.heap.size + 1, 11, none⟩ (.int .i64 st)) from below12 Z3.out (by omega) (.int .i64 2) (.string ⟨#[]⟩) (.bool false) (.string ⟨#[]⟩) (.int .i64 0) (.int .i64 0) (.int .i64 0) (.int .i64 0) (.bool false) (.bool false) (.int .i64 sec) (.int .i64 st))
  have br4 := ((((((((((((HR3.out.set 0 (.int .i64 2)).set 1 (.string ⟨#[]⟩)).set 2 (.bool false)).set 3 (.string ⟨#[]⟩)).set 4 (.int .i64 0)).set 5 (.int .i64 0)).set 6 (.int .i64 0)).set 7 (.int .i64 0)).set 8 (.bool false)).set 9 (.bool false)).set 10 (.int .i64 sec)).set 11 (.int .i64 st))
  clear v0 y0 f0 v1 y1 f1 v2 y2 f2 v3 y3 f3 v4 y4 f4 v5 y5 f5 v6 y6 f6 v7 y7 f7 v8 y8 f8 v9 y9 f9 v10 y10 f10 v11 y11 f11 HR3
  have v0 := br4.cell 0
  have v1 := br4.cell 1
  have v2 := br4.cell 2
  have v3 := br4.cell 3
  have v4 := br4.cell 4
  have v5 := br4.cell 5
  have v6 := br4.cell 6
  have v7 := br4.cell 7
  have v8 := br4.cell 8
  have v9 := br4.cell 9
  have v10 := br4.cell 10
  have v11 := br4.cell 11
  simp only [List.getElem?_toArray, List.getElem?_cons_zero, List.getElem?_cons_succ, List.setIfInBounds_toArray, List.set_cons_zero, List.set_cons_succ] at v0 v1 v2 v3 v4 v5 v6 v7 v8 v9 v10 v11
  clear br4
  generalize ((((((((((((W3.setCell ⟨w.heap.size + 1, 0, none⟩ (.int .i64 2)).setCell ⟨w.heap.size + 1, 1, none⟩ (.string ⟨#[]⟩)).setCell ⟨w.heap.size + 1, 2, none⟩ (.bool false)).setCell ⟨w.heap.size + 1, 3, none⟩ (.string ⟨#[]⟩)).setCell ⟨w.heap.size + 1, 4, none⟩ (.int .i64 0)).setCell ⟨w.heap.size + 1, 5, none⟩ (.int .i64 0)).setCell ⟨w.heap.size + 1, 6, none⟩ (.int .i64 0)).setCell ⟨w.heap.size + 1, 7, none⟩ (.int .i64 0)).setCell ⟨w.heap.size + 1, 8, none⟩ (.bool false)).setCell ⟨w.heap.size + 1, 9, none⟩ (.bool false)).setCell ⟨w.heap.size + 1, 10, none⟩ (.int .i64 sec)).setCell ⟨w.heap.size + 1, 11, none⟩ (.int .i64 st)) = W4 at *
  exact bodyPost_ret (v := .agg #[.int .i64 2, .string ⟨#[]⟩, .bool false, .string ⟨#[]⟩, .int .i64 0, .int .i64 0, .int .i64 0, .int .i64 0, .bool false, .bool false, .int .i64 sec, .int .i64 st]) (by simp [results, Tryz.results9, go_sem, v0, v1, v2, v3, v4, v5, v6, v7, v8, v9, v10, v11]) rfl ⟨rfl, Z4.out⟩
def FmToV (x : ByteArray) (sec st : Int) (T : ByteArray) : Prop := ∀ W : World, TabPow W → Calls Tryz.prog 48 #[.string x, .int .i64 sec, .int .i64 st] W fun e w' => e = .returned (.string T) ∧ Below W.heap.size W w'
set_option maxHeartbeats 1000000 in
theorem stringM_any (b : Nat) (sec st : Int) (lang T : ByteArray) (w : World) (ht : TabPow w) (hF : FmToV lang sec st T) :
    Calls Tryz.prog 14 #[.agg #[.int .i64 2, .string ⟨#[]⟩, .bool false, .string ⟨#[]⟩, .int .i64 0, .int .i64 0, .int .i64 0, .int .i64 0, .bool false, .bool false, .int .i64 sec, .int .i64 st], .pointer (some ⟨b, 0, none⟩), .string lang] w fun e w' => e = .returned (.string T) ∧ Below w.heap.size w w' := by
  have HF := Lib.hid hF
  have Ht := Lib.hid (ht.alloc (.cells #[.int .i64 2, .string ⟨#[]⟩, .bool false, .string ⟨#[]⟩, .int .i64 0, .int .i64 0, .int .i64 0, .int .i64 0, .bool false, .bool false, .int .i64 sec, .int .i64 st] 33))
  clear hF ht
  go_enter Tryz.func14, Tryz.ntmps14
  go_wp2_with fail
  go_at_call 48
  refine (HF.out _ Ht.out).mono ?_
  rintro e w1 ⟨rfl, hb1⟩
  go_wp2
  go_ret
  exact ⟨rfl, below_box hb1⟩
set_option maxHeartbeats 1000000 in
theorem stringT_any (b : Nat) (tx lang : ByteArray) (w : World) :
    Calls Tryz.prog 14 #[.agg #[.int .i64 0, .string tx, .bool false, .string ⟨#[]⟩, .int .i64 0, .int .i64 0, .int .i64 0, .int .i64 0, .bool false, .bool false, .int .i64 0, .int .i64 0], .pointer (some ⟨b, 0, none⟩), .string lang] w fun e w' => e = .returned (.string tx) ∧ Below w.heap.size w w' := by
  go_enter Tryz.func14, Tryz.ntmps14
  go_wp2
  go_ret
  exact ⟨rfl, (Below.refl _ _).alloc (Nat.le_refl _) _⟩
end Go.Proofs.YtglennfjeacpoaaGreatDoor

namespace Go.Proofs.YtglennfjeacpoaaGreatDoor
open Go.RowKit
set_option linter.unusedVariables false
set_option linter.unusedSimpArgs false
set_option maxHeartbeats 4000000 in
set_option maxRecDepth 100000 in
theorem value1k_core (kd : Int) (hb13 : bits BinOp.and IntKind.i64 kd 3 = 1) (tx : ByteArray) (n : Bool) (s : ByteArray) (k : Int) (l : List OPT) (A : Option Addr) (c : Nat) (sec st mi mf xf : Int) (pl rk : Bool) (w : World) (hl : ListO w l A c)
    (hO : ∀ W : World, ListO W l A c → Calls Tryz.prog 11 #[.slice A l.length c] W fun e w' => e = .returned (.agg #[.int .i64 mi, .int .i64 mf, .int .i64 xf, .bool pl, .bool rk]) ∧ Below W.heap.size W w') :
    Calls Tryz.prog 9 #[.agg #[.int .i64 kd, .string tx, .bool n, .string s, .int .i64 k, .slice A l.length c, .int .i64 sec, .int .i64 st]] w fun e w' => e = .returned (.agg #[.int .i64 1, .string ⟨#[]⟩, .bool n, .string s, .int .i64 k, .int .i64 mi, .int .i64 mf, .int .i64 xf, .bool pl, .bool rk, .int .i64 0, .int .i64 0]) ∧ Below w.heap.size w w' := by
  have HO := Lib.hid hO
  have HL := Lib.hid hl
  clear hO hl
  generalize hL : l.length = L at *
  clear hL
  have Z0 := Lib.hid (((Below.refl w.heap.size w).alloc (Nat.le_refl _) (.cells #[.int .i64 kd, .string tx, .bool n, .string s, .int .i64 k, .slice A L c, .int .i64 sec, .int .i64 st] 26)).alloc (by simp) (.cells #[.int .i64 0, .string ⟨#[]⟩, .bool false, .string ⟨#[]⟩, .int .i64 0, .int .i64 0, .int .i64 0, .int .i64 0, .bool false, .bool false, .int .i64 0, .int .i64 0] 33))
  have M0 := Lib.hid ((BoxAt.new w #[.int .i64 kd, .string tx, .bool n, .string s, .int .i64 k, .slice A L c, .int .i64 sec, .int .i64 st] 26).alloc (.cells #[.int .i64 0, .string ⟨#[]⟩, .bool false, .string ⟨#[]⟩, .int .i64 0, .int .i64 0, .int .i64 0, .int .i64 0, .bool false, .bool false, .int .i64 0, .int .i64 0] 33))
  have R0 := Lib.hid (BoxAt.new' (w.alloc (.cells #[.int .i64 kd, .string tx, .bool n, .string s, .int .i64 k, .slice A L c, .int .i64 sec, .int .i64 st] 26)) (w.heap.size + 1) #[.int .i64 0, .string ⟨#[]⟩, .bool false, .string ⟨#[]⟩, .int .i64 0, .int .i64 0, .int .i64 0, .int .i64 0, .bool false, .bool false, .int .i64 0, .int .i64 0] 33 (by simp))
  go_enter Tryz.func9, Tryz.ntmps9
  go_wp2_with fail
  go_at_call 17
  refine (num_any _ _ _ _).mono ?_
  rintro e w1 ⟨rfl, hb1⟩
  have Z1 := Lib.hid (below_new (below_then Z0.out (Nat.le_refl _) hb1) (Nat.le_refl _) (.cells #[.int .i64 1, .string ⟨#[]⟩, .bool n, .string s, .int .i64 k, .int .i64 1, .int .i64 0, .int .i64 3, .bool false, .bool false, .int .i64 0, .int .i64 0] 33))
  have m1 := M0.out.later hb1
  have m5 := m1.cell 5
  have zm := m1.lt
  have M1 := Lib.hid (m1.alloc (.cells #[.int .i64 1, .string ⟨#[]⟩, .bool n, .string s, .int .i64 k, .int .i64 1, .int .i64 0, .int .i64 3, .bool false, .bool false, .int .i64 0, .int .i64 0] 33))
  have R1 := Lib.hid ((R0.out.later hb1).alloc (.cells #[.int .i64 1, .string ⟨#[]⟩, .bool n, .string s, .int .i64 k, .int .i64 1, .int .i64 0, .int .i64 3, .bool false, .bool false, .int .i64 0, .int .i64 0] 33))
  have V1 := Lib.hid (BoxAt.new w1 #[.int .i64 1, .string ⟨#[]⟩, .bool n, .string s, .int .i64 k, .int .i64 1, .int .i64 0, .int .i64 3, .bool false, .bool false, .int .i64 0, .int .i64 0] 33)
  have zr1 := (R0.out.later hb1).lt
  simp only [List.getElem?_toArray, List.getElem?_cons_zero, List.getElem?_cons_succ] at m5
  clear hb1 m1
  go_wp2_with fail
  go_at_call 11
  refine (HO.out _ (HL.out.later Z1.out)).mono ?_
  rintro e w2 ⟨rfl, hb2⟩
  clear m5 zm
  have Z2 := Lib.hid (below_then Z1.out (Nat.le_refl _) hb2)
  have v2 := V1.out.later hb2
  have r2 := R1.out.later hb2
  have zv := v2.lt
  have zr := r2.lt
  have g5 := v2.z 5
  have g6 := v2.z 6
  have g7 := v2.z 7
  have g8 := v2.z 8
  have g9 := v2.z 9
  have y5 := v2.cell 5
  have y6 := v2.cell 6
  have y7 := v2.cell 7
  have y8 := v2.cell 8
  have y9 := v2.cell 9
  simp only [List.getElem?_toArray, List.getElem?_cons_zero, List.getElem?_cons_succ] at y5 y6 y7 y8 y9
  have HV2 := Lib.hid v2
  have HR2 := Lib.hid r2
  clear v2 r2 hb2 M1 R1 V1 M0 R0 Z0 Z1
  go_upto_region 5 with fail
  have Z3 := Lib.hid (show Below w.heap.size w (((((w2.setCell ⟨w1.heap.size, 5, none⟩ (.int .i64 mi)).setCell ⟨w1.heap.size, 6, none⟩ (.int .i64 mf)).setCell ⟨w1.heap.size, 7, none⟩ (.int .i64 xf)).setCell ⟨w1.heap.size, 8, none⟩ (.bool pl)).setCell ⟨w1.heap.size, 9, none⟩ (.bool rk)) from (bs1 (bs1 (bs1 (bs1 (bs1 Z2.out (by omega : w.heap.size ≤ w1.heap.size) 5 (.int .i64 mi)) (by omega : w.heap.size ≤ w1.heap.size) 6 (.int .i64 mf)) (by omega : w.heap.size ≤ w1.heap.size) 7 (.int .i64 xf)) (by omega : w.heap.size ≤ w1.heap.size) 8 (.bool pl)) (by omega : w.heap.size ≤ w1.heap.size) 9 (.bool rk)))
  have bv3 := (((((HV2.out.set 5 (.int .i64 mi)).set 6 (.int .i64 mf)).set 7 (.int .i64 xf)).set 8 (.bool pl)).set 9 (.bool rk))
  have br3 := (BoxAt.setOther (BoxAt.setOther (BoxAt.setOther (BoxAt.setOther (BoxAt.setOther HR2.out ⟨w1.heap.size, 5, none⟩ (.int .i64 mi) (Nat.ne_of_lt zr1)) ⟨w1.heap.size, 6, none⟩ (.int .i64 mf) (Nat.ne_of_lt zr1)) ⟨w1.heap.size, 7, none⟩ (.int .i64 xf) (Nat.ne_of_lt zr1)) ⟨w1.heap.size, 8, none⟩ (.bool pl) (Nat.ne_of_lt zr1)) ⟨w1.heap.size, 9, none⟩ (.bool rk) (Nat.ne_of_lt zr1))
  clear g5 y5 g6 y6 g7 y7 g8 y8 g9 y9 HV2 HR2 zv zr
  have y0 := bv3.cell 0
  have y1 := bv3.cell 1
  have y2 := bv3.cell 2
  have y3 := bv3.cell 3
  have y4 := bv3.cell 4
  have y5 := bv3.cell 5
  have y6 := bv3.cell 6
  have y7 := bv3.cell 7
  have y8 := bv3.cell 8
  have y9 := bv3.cell 9
  have y10 := bv3.cell 10
  have y11 := bv3.cell 11
  simp only [List.getElem?_toArray, List.getElem?_cons_zero, List.getElem?_cons_succ, List.setIfInBounds_toArray, List.set_cons_zero, List.set_cons_succ] at y0 y1 y2 y3 y4 y5 y6 y7 y8 y9 y10 y11
  have v0 := br3.cell 0
  have v1 := br3.cell 1
  have v2 := br3.cell 2
  have v3 := br3.cell 3
  have v4 := br3.cell 4
  have v5 := br3.cell 5
  have v6 := br3.cell 6
  have v7 := br3.cell 7
  have v8 := br3.cell 8
  have v9 := br3.cell 9
  have v10 := br3.cell 10
  have v11 := br3.cell 11
  simp only [List.getElem?_toArray, List.getElem?_cons_zero, List.getElem?_cons_succ] at v0 v1 v2 v3 v4 v5 v6 v7 v8 v9 v10 v11
  have f0 := br3.z 0
  have f1 := br3.z 1
  have f2 := br3.z 2
  have f3 := br3.z 3
  have f4 := br3.z 4
  have f5 := br3.z 5
  have f6 := br3.z 6
  have f7 := br3.z 7
  have f8 := br3.z 8
  have f9 := br3.z 9
  have f10 := br3.z 10
  have f11 := br3.z 11
  have zv := bv3.lt
  have zr := br3.lt
  have HR3 := Lib.hid br3
  clear bv3 br3
  generalize (((((w2.setCell ⟨w1.heap.size, 5, none⟩ (.int .i64 mi)).setCell ⟨w1.heap.size, 6, none⟩ (.int .i64 mf)).setCell ⟨w1.heap.size, 7, none⟩ (.int .i64 xf)).setCell ⟨w1.heap.size, 8, none⟩ (.bool pl)).setCell ⟨w1.heap.size, 9, none⟩ (.bool rk)) = W3 at *
  go_wp2
  have Z4 := Lib.hid (show Below w.heap.size w ((((((((((((W3.setCell ⟨w.heap.size + 1, 0, none⟩ (.int .i64 1)).setCell ⟨w.heap.size + 1, 1, none⟩ (.string ⟨#[]⟩)).setCell ⟨w.heap.size + 1, 2, none⟩ (.bool n)).setCell ⟨w.heap.size + 1, 3, none⟩ (.string s)).setCell ⟨w.heap.size + 1, 4, none⟩ (.int .i64 k)).setCell ⟨w.heap.size + 1, 5, none⟩ (.int .i64 mi)).setCell ⟨w.heap.size + 1, 6, none⟩ (.int .i64 mf)).setCell ⟨w.heap.size + 1, 7, none⟩ (.int .i64 xf)).setCell ⟨w.heap.size + 1, 8, none⟩ (.bool pl)).setCell ⟨w.heap.size + 1, 9, none⟩ (.bool rk)).setCell ⟨w.heap.size + 1, 10, none⟩ (.int .i64 0)).setCell ⟨w.heap.size + 1, 11, none⟩ (.int .i64 0)) from below12 Z3.out (by omega) (.int .i64 1) (.string ⟨#[]⟩) (.bool n) (.string s) (.int .i64 k) (.int .i64 mi) (.int .i64 mf) (.int .i64 xf) (.bool pl) (.bool rk) (.int .i64 0) (.int .i64 0))
  have br4 := ((((((((((((HR3.out.set 0 (.int .i64 1)).set 1 (.string ⟨#[]⟩)).set 2 (.bool n)).set 3 (.string s)).set 4 (.int .i64 k)).set 5 (.int .i64 mi)).set 6 (.int .i64 mf)).set 7 (.int .i64 xf)).set 8 (.bool pl)).set 9 (.bool rk)).set 10 (.int .i64 0)).set 11 (.int .i64 0))
  clear v0 y0 f0 v1 y1 f1 v2 y2 f2 v3 y3 f3 v4 y4 f4 v5 y5 f5 v6 y6 f6 v7 y7 f7 v8 y8 f8 v9 y9 f9 v10 y10 f10 v11 y11 f11 HR3
  have v0 := br4.cell 0
  have v1 := br4.cell 1
  have v2 := br4.cell 2
  have v3 := br4.cell 3
  have v4 := br4.cell 4
  have v5 := br4.cell 5
  have v6 := br4.cell 6
  have v7 := br4.cell 7
  have v8 := br4.cell 8
  have v9 := br4.cell 9
  have v10 := br4.cell 10
  have v11 := br4.cell 11
  simp only [List.getElem?_toArray, List.getElem?_cons_zero, List.getElem?_cons_succ, List.setIfInBounds_toArray, List.set_cons_zero, List.set_cons_succ] at v0 v1 v2 v3 v4 v5 v6 v7 v8 v9 v10 v11
  clear br4
  generalize ((((((((((((W3.setCell ⟨w.heap.size + 1, 0, none⟩ (.int .i64 1)).setCell ⟨w.heap.size + 1, 1, none⟩ (.string ⟨#[]⟩)).setCell ⟨w.heap.size + 1, 2, none⟩ (.bool n)).setCell ⟨w.heap.size + 1, 3, none⟩ (.string s)).setCell ⟨w.heap.size + 1, 4, none⟩ (.int .i64 k)).setCell ⟨w.heap.size + 1, 5, none⟩ (.int .i64 mi)).setCell ⟨w.heap.size + 1, 6, none⟩ (.int .i64 mf)).setCell ⟨w.heap.size + 1, 7, none⟩ (.int .i64 xf)).setCell ⟨w.heap.size + 1, 8, none⟩ (.bool pl)).setCell ⟨w.heap.size + 1, 9, none⟩ (.bool rk)).setCell ⟨w.heap.size + 1, 10, none⟩ (.int .i64 0)).setCell ⟨w.heap.size + 1, 11, none⟩ (.int .i64 0)) = W4 at *
  exact bodyPost_ret (v := .agg #[.int .i64 1, .string ⟨#[]⟩, .bool n, .string s, .int .i64 k, .int .i64 mi, .int .i64 mf, .int .i64 xf, .bool pl, .bool rk, .int .i64 0, .int .i64 0]) (by simp [results, Tryz.results9, go_sem, v0, v1, v2, v3, v4, v5, v6, v7, v8, v9, v10, v11]) rfl ⟨rfl, Z4.out⟩
end Go.Proofs.YtglennfjeacpoaaGreatDoor

namespace Go.Proofs.YtglennfjeacpoaaGreatDoor
open Go.RowKit
set_option linter.unusedVariables false
set_option linter.unusedSimpArgs false
def OfEx (x s : ByteArray) (k : Nat) : Prop := ∃ c : Int, (0 ≤ c ∧ c ≤ 5) ∧ ∀ (n : Bool) (W : World), Calls Tryz.prog 96 #[.string x, .agg #[.bool n, .string s, .int .i64 (k : Int)]] W fun e w' => e = .returned (.int .i64 c) ∧ Below W.heap.size W w'
def RankEx (x s : ByteArray) (k : Nat) : Prop := ∃ c : Int, (0 ≤ c ∧ c ≤ 5) ∧ ∀ (n : Bool) (W : World), Calls Tryz.prog 95 #[.string x, .agg #[.bool n, .string s, .int .i64 (k : Int)]] W fun e w' => e = .returned (.int .i64 c) ∧ Below W.heap.size W w'
theorem ofEx {x s : ByteArray} {k : Nat} {F : ByteArray → Nat → Int} (hg : GoodD s k) (hR : ∀ w, GivesR 147 #[.string x] w F) (hF : 0 ≤ F s k ∧ F s k ≤ 5) : OfEx x s k :=
  ⟨F s k, hF, fun n W => of_gives x F (fun w => (hR w).first) n s k W hg⟩
theorem rankEx {x s : ByteArray} {k : Nat} {F : ByteArray → Nat → Int} (hg : GoodD s k) (hR : ∀ w, GivesR 146 #[.string x] w F) (hF : 0 ≤ F s k ∧ F s k ≤ 5) : RankEx x s k :=
  ⟨F s k, hF, fun n W => rank_gives x F (fun w => (hR w).first) n s k W hg⟩
theorem bd_cEn (s : ByteArray) (k : Nat) : 0 ≤ cEn s k ∧ cEn s k ≤ 5 := by
  unfold cEn
  repeat' split
  all_goals decide
theorem bd_cFr (s : ByteArray) (k : Nat) : 0 ≤ cFr s k ∧ cFr s k ≤ 5 := by
  unfold cFr
  repeat' split
  all_goals decide
theorem bd_cEs (s : ByteArray) (k : Nat) : 0 ≤ cEs s k ∧ cEs s k ≤ 5 := by
  unfold cEs
  repeat' split
  all_goals decide
theorem bd_cPl (s : ByteArray) (k : Nat) : 0 ≤ cPl s k ∧ cPl s k ≤ 5 := by
  unfold cPl
  repeat' split
  all_goals decide
theorem bd_cRu (s : ByteArray) (k : Nat) : 0 ≤ cRu s k ∧ cRu s k ≤ 5 := by
  unfold cRu
  repeat' split
  all_goals decide
theorem bd_cCs (s : ByteArray) (k : Nat) : 0 ≤ cCs s k ∧ cCs s k ≤ 5 := by
  unfold cCs
  repeat' split
  all_goals decide
theorem bd_cAr (s : ByteArray) (k : Nat) : 0 ≤ cAr s k ∧ cAr s k ≤ 5 := by
  unfold cAr
  repeat' split
  all_goals decide
theorem bd_rFr (s : ByteArray) (k : Nat) : 0 ≤ rFr s k ∧ rFr s k ≤ 5 := by
  unfold rFr
  repeat' split
  all_goals decide
theorem bd_rEn (s : ByteArray) (k : Nat) : 0 ≤ rEn s k ∧ rEn s k ≤ 5 := by
  unfold rEn
  repeat' split
  all_goals decide
theorem of_ex (x s : ByteArray) (k : Nat) (hg : GoodD s k) : OfEx x s k := by
  cases q0 : (x.toList == [101, 110])
  case true => rw [xW_eq q0]; exact ofEx hg count_en (bd_cEn s k)
  cases q1 : (x.toList == [100, 101])
  case true => rw [xW_eq q1]; exact ofEx hg count_de (bd_cEn s k)
  cases q2 : (x.toList == [110, 108])
  case true => rw [xW_eq q2]; exact ofEx hg count_nl (bd_cEn s k)
  cases q3 : (x.toList == [115, 118])
  case true => rw [xW_eq q3]; exact ofEx hg count_sv (bd_cEn s k)
  cases q4 : (x.toList == [102, 114])
  case true => rw [xW_eq q4]; exact ofEx hg count_fr (bd_cFr s k)
  cases q5 : (x.toList == [101, 115])
  case true => rw [xW_eq q5]; exact ofEx hg count_es (bd_cEs s k)
  cases q6 : (x.toList == [112, 108])
  case true => rw [xW_eq q6]; exact ofEx hg count_pl (bd_cPl s k)
  cases q7 : (x.toList == [114, 117])
  case true => rw [xW_eq q7]; exact ofEx hg count_ru (bd_cRu s k)
  cases q8 : (x.toList == [99, 115])
  case true => rw [xW_eq q8]; exact ofEx hg count_cs (bd_cCs s k)
  cases q9 : (x.toList == [97, 114])
  case true => rw [xW_eq q9]; exact ofEx hg count_ar (bd_cAr s k)
  exact ofEx hg (count_no x q0 q1 q2 q3 q4 q5 q6 q7 q8 q9) ⟨by decide, by decide⟩
theorem rank_ex (x s : ByteArray) (k : Nat) (hg : GoodD s k) : RankEx x s k := by
  cases q0 : (x.toList == [101, 110])
  case true => rw [xW_eq q0]; exact rankEx hg rank_en (bd_rEn s k)
  cases q4 : (x.toList == [102, 114])
  case true => rw [xW_eq q4]; exact rankEx hg rank_fr (bd_rFr s k)
  exact rankEx hg (rank_no x q4 q0) ⟨by decide, by decide⟩
theorem rnd_more (l : List UInt8) (k mf xf : Nat) (hk : k ≤ l.length) (hl : l.length ≤ 60) (hmf : mf ≤ 20) (hxf : xf ≤ 20) : rndK l k mf xf ≤ 20 ∧ (rndL l k mf xf).length ≤ 81 := by
  have h1 := roundL_length l k xf hk
  have h2 := rnd2_le (roundL l k xf) (min k xf) mf h1.1
  have h3 : rnd2K (roundL l k xf) (min k xf) mf ≤ min k xf := by
    unfold rnd2K
    split <;> omega
  unfold rndK rndL
  rw [List.length_append, List.length_replicate]
  omega
theorem rnd_digs (l : List UInt8) (k mf xf : Nat) (h : l.all digB = true) : (rndL l k mf xf).all digB = true := by
  unfold rndL
  rw [List.all_append, noughts_digs, Bool.and_true]
  have hr := roundL_digs l k xf h
  unfold rnd2L
  split
  · exact List.all_eq_true.2 fun c hc => List.all_eq_true.1 hr c (List.mem_of_mem_take hc)
  · exact hr
theorem shape_good (l : List UInt8) (k mi mf xf : Nat) (hd : l.all digB = true) (hk : k ≤ l.length) (hl : l.length ≤ 60) (hmi : mi ≤ 20) (hmf : mf ≤ 20) (hxf : xf ≤ 20) :
    GoodD (bL (ahd mi (rndL l k mf xf) (rndK l k mf xf) ++ rndL l k mf xf)) (rndK l k mf xf) := by
  have h1 := rnd_more l k mf xf hk hl hmf hxf
  have h2 := rnd_le l k mf xf hk hl (by omega)
  refine ⟨?_, ?_, ?_⟩
  · rw [bL_size, List.length_append]
    unfold ahd
    rw [List.length_replicate]
    omega
  · rw [bL_size, List.length_append]
    omega
  · rw [bL_list, List.all_append, rnd_digs l k mf xf hd, Bool.and_true]
    exact noughts_digs _
theorem cat_ex (n : Bool) (s : ByteArray) (k : Nat) (mi mf xf : Int) (pl rk : Bool) (lang : ByteArray) (hN : Num s.data.toList k) (hmi : 0 ≤ mi ∧ mi ≤ 20) (hmf : 0 ≤ mf ∧ mf ≤ 20) (hxf : 0 ≤ xf ∧ xf ≤ 20) :
    ∃ c : Int, (0 ≤ c ∧ c ≤ 5) ∧ ∀ W : World, Calls Tryz.prog 50 #[.agg #[.int .i64 1, .string ⟨#[]⟩, .bool n, .string s, .int .i64 (k : Int), .int .i64 mi, .int .i64 mf, .int .i64 xf, .bool pl, .bool rk, .int .i64 0, .int .i64 0], .string lang] W fun e w' => e = .returned (.int .i64 c) ∧ Below W.heap.size W w' := by
  obtain ⟨a, rfl⟩ := Int.eq_ofNat_of_zero_le hmi.1
  obtain ⟨b, rfl⟩ := Int.eq_ofNat_of_zero_le hmf.1
  obtain ⟨d, rfl⟩ := Int.eq_ofNat_of_zero_le hxf.1
  have hlt := hN.lt
  have hle := hN.le
  have hg := shape_good s.data.toList k a b d hN.digs (by omega) hle (by omega) (by omega) (by omega)
  rw [size_data] at hlt hle
  have hS := fun W => shape_any a b d pl rk n s k W (by omega) (by omega) hN.digs (by omega) (by omega) (by omega)
  cases rk
  · obtain ⟨c, hc, hO⟩ := of_ex lang _ _ hg
    exact ⟨c, hc, fun W => category_any n s (k : Int) a b d pl false lang _ _ n c W hS (fun _ W => hO n W) (fun h => by cases h)⟩
  · obtain ⟨c, hc, hO⟩ := rank_ex lang _ _ hg
    exact ⟨c, hc, fun W => category_any n s (k : Int) a b d pl true lang _ _ n c W hS (fun h => by cases h) (fun _ W => hO n W)⟩
def wordOf (c : Int) : ByteArray := #[⟨#[111, 116, 104, 101, 114]⟩, ⟨#[122, 101, 114, 111]⟩, ⟨#[111, 110, 101]⟩, ⟨#[116, 119, 111]⟩, ⟨#[102, 101, 119]⟩, ⟨#[109, 97, 110, 121]⟩][c.toNat]?.getD ByteArray.empty
def wdOf : Nat → ByteArray
  | 0 => ⟨#[122, 101, 114, 111]⟩
  | 1 => ⟨#[111, 110, 101]⟩
  | 2 => ⟨#[116, 119, 111]⟩
  | 3 => ⟨#[102, 101, 119]⟩
  | 4 => ⟨#[109, 97, 110, 121]⟩
  | _ => ⟨#[111, 116, 104, 101, 114]⟩
def isOf (c : Int) (i : Nat) : Bool := (wdOf i).toList == (wordOf c).toList
def cntQ (q : Nat → Bool) : Nat → Int
  | 0 => 0
  | i + 1 => cntQ q i + (if q i then 1 else 0)
theorem cnt_bd (q : Nat → Bool) : ∀ i : Nat, 0 ≤ cntQ q i ∧ cntQ q i ≤ i
  | 0 => ⟨Int.le_refl 0, Int.le_refl 0⟩
  | i + 1 => by
    have := cnt_bd q i
    unfold cntQ
    split <;> omega
theorem just_one (c : Int) (h : 0 ≤ c ∧ c ≤ 5) : cntQ (isOf c) 6 = 1 ∧ ((⟨#[]⟩ : ByteArray).toList == (wordOf c).toList) = false := by
  have : c = 0 ∨ c = 1 ∨ c = 2 ∨ c = 3 ∨ c = 4 ∨ c = 5 := by omega
  rcases this with rfl | rfl | rfl | rfl | rfl | rfl
  all_goals exact ⟨by decide +kernel, by decide +kernel⟩
theorem wdNo : ∀ i : Nat, ParseNo (wdOf i)
  | 0 => parseNo (by kernel_rfl) (by decide)
  | 1 => parseNo (by kernel_rfl) (by decide)
  | 2 => parseNo (by kernel_rfl) (by decide)
  | 3 => parseNo (by kernel_rfl) (by decide)
  | 4 => parseNo (by kernel_rfl) (by decide)
  | _ + 5 => parseNo (key := ⟨#[111, 116, 104, 101, 114]⟩) (by kernel_rfl) (by decide)
theorem empty_no : ParseNo ⟨#[]⟩ := parseNo (by kernel_rfl) (by decide)
theorem isWord (n : Bool) (s : ByteArray) (k : Nat) (mi mf xf : Int) (pl rk : Bool) (lang key : ByteArray) (c : Int) (hc : 0 ≤ c ∧ c ≤ 5) (hp : ParseNo key)
    (hK : ∀ W : World, Calls Tryz.prog 50 #[.agg #[.int .i64 1, .string ⟨#[]⟩, .bool n, .string s, .int .i64 (k : Int), .int .i64 mi, .int .i64 mf, .int .i64 xf, .bool pl, .bool rk, .int .i64 0, .int .i64 0], .string lang] W fun e w' => e = .returned (.int .i64 c) ∧ Below W.heap.size W w') :
    IsTo #[.int .i64 1, .string ⟨#[]⟩, .bool n, .string s, .int .i64 (k : Int), .int .i64 mi, .int .i64 mf, .int .i64 xf, .bool pl, .bool rk, .int .i64 0, .int .i64 0] key lang (key.toList == (wordOf c).toList) := fun W hW =>
  isNum_no n s (k : Int) mi mf xf pl rk key lang (wordOf c) c W hW hp hK (fun W => word_any c W hc.1 hc.2)
end Go.Proofs.YtglennfjeacpoaaGreatDoor
