/-
  Several texts put together (part 28): what the law and the program call, walked; their contracts.
-/
import Derived.Test.YtglennfjeacpoaaGreatDoorQ20
import Derived.Test.YtglennfjeacpoaaGreatDoorQ27
import Derived.Test.YtglennfjeacpoaaGreatDoorQ19
import Derived.Test.YtglennfjeacpoaaGreatDoorQ25
namespace Go.Proofs.YtglennfjeacpoaaGreatDoor
open Go.RowKit
set_option linter.unusedVariables false
set_option linter.unusedSimpArgs false
set_option maxHeartbeats 4000000 in
set_option maxRecDepth 100000 in
theorem value1_core (tx : ByteArray) (n : Bool) (s : ByteArray) (k : Int) (l : List OPT) (A : Option Addr) (c : Nat) (sec st mi mf xf : Int) (pl rk : Bool) (w : World) (hl : ListO w l A c)
    (hO : ∀ W : World, ListO W l A c → Calls Tryz.prog 11 #[.slice A l.length c] W fun e w' => e = .returned (.agg #[.int .i64 mi, .int .i64 mf, .int .i64 xf, .bool pl, .bool rk]) ∧ Below W.heap.size W w') :
    Calls Tryz.prog 9 #[.agg #[.int .i64 1, .string tx, .bool n, .string s, .int .i64 k, .slice A l.length c, .int .i64 sec, .int .i64 st]] w fun e w' => e = .returned (.agg #[.int .i64 1, .string ⟨#[]⟩, .bool n, .string s, .int .i64 k, .int .i64 mi, .int .i64 mf, .int .i64 xf, .bool pl, .bool rk, .int .i64 0, .int .i64 0]) ∧ Below w.heap.size w w' := by
  have HO := Lib.hid hO
  have HL := Lib.hid hl
  clear hO hl
  generalize hL : l.length = L at *
  clear hL
  have Z0 := Lib.hid (((Below.refl w.heap.size w).alloc (Nat.le_refl _) (.cells #[.int .i64 1, .string tx, .bool n, .string s, .int .i64 k, .slice A L c, .int .i64 sec, .int .i64 st] 26)).alloc (by simp) (.cells #[.int .i64 0, .string ⟨#[]⟩, .bool false, .string ⟨#[]⟩, .int .i64 0, .int .i64 0, .int .i64 0, .int .i64 0, .bool false, .bool false, .int .i64 0, .int .i64 0] 33))
  have M0 := Lib.hid ((BoxAt.new w #[.int .i64 1, .string tx, .bool n, .string s, .int .i64 k, .slice A L c, .int .i64 sec, .int .i64 st] 26).alloc (.cells #[.int .i64 0, .string ⟨#[]⟩, .bool false, .string ⟨#[]⟩, .int .i64 0, .int .i64 0, .int .i64 0, .int .i64 0, .bool false, .bool false, .int .i64 0, .int .i64 0] 33))
  have R0 := Lib.hid (BoxAt.new' (w.alloc (.cells #[.int .i64 1, .string tx, .bool n, .string s, .int .i64 k, .slice A L c, .int .i64 sec, .int .i64 st] 26)) (w.heap.size + 1) #[.int .i64 0, .string ⟨#[]⟩, .bool false, .string ⟨#[]⟩, .int .i64 0, .int .i64 0, .int .i64 0, .int .i64 0, .bool false, .bool false, .int .i64 0, .int .i64 0] 33 (by simp))
  have hb13 : bits BinOp.and IntKind.i64 1 3 = 1 := by decide
  go_enter Tryz.func9, Tryz.ntmps9
  go_wp2_with fail
  go_at_call 17
  refine (num_any _ _ _ _).mono ?_
  rintro e w1 ⟨rfl, hb1⟩
  have Z1 := Lib.hid (below_new (below_then Z0.out (Nat.le_refl _) hb1) (Nat.le_refl _) (.cells #[.int .i64 1, .string ⟨#[]⟩, .bool n, .string s, .int .i64 k, .int .i64 1, .int .i64 0, .int .i64 3, .bool false, .bool false, .int .i64 0, .int .i64 0] 33))
  have m1 := M0.out.later hb1
  have m5 := m1.cell 5
  have zm := m1.lt
  have M1 := Lib.hid (m1.alloc (.cells #[.int .i64 1, .string ⟨#[]⟩, .bool n, .string s, .int .i64 k, .int .i64 1, .int .i64 0, .int .i64 3, .bool false, .bool false, .int .i64 0, .int .i64 0] 33))
  have R1 := Lib.hid ((R0.out.later hb1).alloc (.cells #[.int .i64 1, .string ⟨#[]⟩, .bool n, .string s, .int .i64 k, .int .i64 1, .int .i64 0, .int .i64 3, .bool false, .bool false, .int .i64 0, .int .i64 0] 33))
  have V1 := Lib.hid (BoxAt.new w1 #[.int .i64 1, .string ⟨#[]⟩, .bool n, .string s, .int .i64 k, .int .i64 1, .int .i64 0, .int .i64 3, .bool false, .bool false, .int .i64 0, .int .i64 0] 33)
  have zr1 := (R0.out.later hb1).lt
  simp only [List.getElem?_toArray, List.getElem?_cons_zero, List.getElem?_cons_succ] at m5
  clear hb1 m1
  go_wp2_with fail
  go_at_call 11
  refine (HO.out _ (HL.out.later Z1.out)).mono ?_
  rintro e w2 ⟨rfl, hb2⟩
  clear m5 zm
  have Z2 := Lib.hid (below_then Z1.out (Nat.le_refl _) hb2)
  have v2 := V1.out.later hb2
  have r2 := R1.out.later hb2
  have zv := v2.lt
  have zr := r2.lt
  have g5 := v2.z 5
  have g6 := v2.z 6
  have g7 := v2.z 7
  have g8 := v2.z 8
  have g9 := v2.z 9
  have y5 := v2.cell 5
  have y6 := v2.cell 6
  have y7 := v2.cell 7
  have y8 := v2.cell 8
  have y9 := v2.cell 9
  simp only [List.getElem?_toArray, List.getElem?_cons_zero, List.getElem?_cons_succ] at y5 y6 y7 y8 y9
  have HV2 := Lib.hid v2
  have HR2 := Lib.hid r2
  clear v2 r2 hb2 M1 R1 V1 M0 R0 Z0 Z1
  go_upto_region 5 with fail
  have Z3 := Lib.hid (show Below w.heap.size w (((((w2.setCell ⟨w1.heap.size, 5, none⟩ (.int .i64 mi)).setCell ⟨w1.heap.size, 6, none⟩ (.int .i64 mf)).setCell ⟨w1.heap.size, 7, none⟩ (.int .i64 xf)).setCell ⟨w1.heap.size, 8, none⟩ (.bool pl)).setCell ⟨w1.heap.size, 9, none⟩ (.bool rk)) from (bs1 (bs1 (bs1 (bs1 (bs1 Z2.out (by omega : w.heap.size ≤ w1.heap.size) 5 (.int .i64 mi)) (by omega : w.heap.size ≤ w1.heap.size) 6 (.int .i64 mf)) (by omega : w.heap.size ≤ w1.heap.size) 7 (.int .i64 xf)) (by omega : w.heap.size ≤ w1.heap.size) 8 (.bool pl)) (by omega : w.heap.size ≤ w1.heap.size) 9 (.bool rk)))
  have bv3 := (((((HV2.out.set 5 (.int .i64 mi)).set 6 (.int .i64 mf)).set 7 (.int .i64 xf)).set 8 (.bool pl)).set 9 (.bool rk))
  have br3 := (BoxAt.setOther (BoxAt.setOther (BoxAt.setOther (BoxAt.setOther (BoxAt.setOther HR2.out ⟨w1.heap.size, 5, none⟩ (.int .i64 mi) (Nat.ne_of_lt zr1)) ⟨w1.heap.size, 6, none⟩ (.int .i64 mf) (Nat.ne_of_lt zr1)) ⟨w1.heap.size, 7, none⟩ (.int .i64 xf) (Nat.ne_of_lt zr1)) ⟨w1.heap.size, 8, none⟩ (.bool pl) (Nat.ne_of_lt zr1)) ⟨w1.heap.size, 9, none⟩ (.bool rk) (Nat.ne_of_lt zr1))
  clear g5 y5 g6 y6 g7 y7 g8 y8 g9 y9 HV2 HR2 zv zr
  have y0 := bv3.cell 0
  have y1 := bv3.cell 1
  have y2 := bv3.cell 2
  have y3 := bv3.cell 3
  have y4 := bv3.cell 4
  have y5 := bv3.cell 5
  have y6 := bv3.cell 6
  have y7 := bv3.cell 7
  have y8 := bv3.cell 8
  have y9 := bv3.cell 9
  have y10 := bv3.cell 10
  have y11 := bv3.cell 11
  simp only [List.getElem?_toArray, List.getElem?_cons_zero, List.getElem?_cons_succ, List.setIfInBounds_toArray, List.set_cons_zero, List.set_cons_succ] at y0 y1 y2 y3 y4 y5 y6 y7 y8 y9 y10 y11
  have v0 := br3.cell 0
  have v1 := br3.cell 1
  have v2 := br3.cell 2
  have v3 := br3.cell 3
  have v4 := br3.cell 4
  have v5 := br3.cell 5
  have v6 := br3.cell 6
  have v7 := br3.cell 7
  have v8 := br3.cell 8
  have v9 := br3.cell 9
  have v10 := br3.cell 10
  have v11 := br3.cell 11
  simp only [List.getElem?_toArray, List.getElem?_cons_zero, List.getElem?_cons_succ] at v0 v1 v2 v3 v4 v5 v6 v7 v8 v9 v10 v11
  have f0 := br3.z 0
  have f1 := br3.z 1
  have f2 := br3.z 2
  have f3 := br3.z 3
  have f4 := br3.z 4
  have f5 := br3.z 5
  have f6 := br3.z 6
  have f7 := br3.z 7
  have f8 := br3.z 8
  have f9 := br3.z 9
  have f10 := br3.z 10
  have f11 := br3.z 11
  have zv := bv3.lt
  have zr := br3.lt
  have HR3 := Lib.hid br3
  clear bv3 br3
  generalize (((((w2.setCell ⟨w1.heap.size, 5, none⟩ (.int .i64 mi)).setCell ⟨w1.heap.size, 6, none⟩ (.int .i64 mf)).setCell ⟨w1.heap.size, 7, none⟩ (.int .i64 xf)).setCell ⟨w1.heap.size, 8, none⟩ (.bool pl)).setCell ⟨w1.heap.size, 9, none⟩ (.bool rk)) = W3 at *
  go_wp2
  have Z4 := Lib.hid (show Below w.heap.size w ((((((((((((W3.setCell ⟨w.heap.size + 1, 0, none⟩ (.int .i64 1)).setCell ⟨w.heap.size + 1, 1, none⟩ (.string ⟨#[]⟩)).setCell ⟨w.heap.size + 1, 2, none⟩ (.bool n)).setCell ⟨w.heap.size + 1, 3, none⟩ (.string s)).setCell ⟨w.heap.size + 1, 4, none⟩ (.int .i64 k)).setCell ⟨w.heap.size + 1, 5, none⟩ (.int .i64 mi)).setCell ⟨w.heap.size + 1, 6, none⟩ (.int .i64 mf)).setCell ⟨w.heap.size + 1, 7, none⟩ (.int .i64 xf)).setCell ⟨w.heap.size + 1, 8, none⟩ (.bool pl)).setCell ⟨w.heap.size + 1, 9, none⟩ (.bool rk)).setCell ⟨w.heap.size + 1, 10, none⟩ (.int .i64 0)).setCell ⟨w.heap.size + 1, 11, none⟩ (.int .i64 0)) from below12 Z3.out (by omega) (.int .i64 1) (.string ⟨#[]⟩) (.bool n) (.string s) (.int .i64 k) (.int .i64 mi) (.int .i64 mf) (.int .i64 xf) (.bool pl) (.bool rk) (.int .i64 0) (.int .i64 0))
  have br4 := ((((((((((((HR3.out.set 0 (.int .i64 1)).set 1 (.string ⟨#[]⟩)).set 2 (.bool n)).set 3 (.string s)).set 4 (.int .i64 k)).set 5 (.int .i64 mi)).set 6 (.int .i64 mf)).set 7 (.int .i64 xf)).set 8 (.bool pl)).set 9 (.bool rk)).set 10 (.int .i64 0)).set 11 (.int .i64 0))
  clear v0 y0 f0 v1 y1 f1 v2 y2 f2 v3 y3 f3 v4 y4 f4 v5 y5 f5 v6 y6 f6 v7 y7 f7 v8 y8 f8 v9 y9 f9 v10 y10 f10 v11 y11 f11 HR3
  have v0 := br4.cell 0
  have v1 := br4.cell 1
  have v2 := br4.cell 2
  have v3 := br4.cell 3
  have v4 := br4.cell 4
  have v5 := br4.cell 5
  have v6 := br4.cell 6
  have v7 := br4.cell 7
  have v8 := br4.cell 8
  have v9 := br4.cell 9
  have v10 := br4.cell 10
  have v11 := br4.cell 11
  simp only [List.getElem?_toArray, List.getElem?_cons_zero, List.getElem?_cons_succ, List.setIfInBounds_toArray, List.set_cons_zero, List.set_cons_succ] at v0 v1 v2 v3 v4 v5 v6 v7 v8 v9 v10 v11
  clear br4
  generalize ((((((((((((W3.setCell ⟨w.heap.size + 1, 0, none⟩ (.int .i64 1)).setCell ⟨w.heap.size + 1, 1, none⟩ (.string ⟨#[]⟩)).setCell ⟨w.heap.size + 1, 2, none⟩ (.bool n)).setCell ⟨w.heap.size + 1, 3, none⟩ (.string s)).setCell ⟨w.heap.size + 1, 4, none⟩ (.int .i64 k)).setCell ⟨w.heap.size + 1, 5, none⟩ (.int .i64 mi)).setCell ⟨w.heap.size + 1, 6, none⟩ (.int .i64 mf)).setCell ⟨w.heap.size + 1, 7, none⟩ (.int .i64 xf)).setCell ⟨w.heap.size + 1, 8, none⟩ (.bool pl)).setCell ⟨w.heap.size + 1, 9, none⟩ (.bool rk)).setCell ⟨w.heap.size + 1, 10, none⟩ (.int .i64 0)).setCell ⟨w.heap.size + 1, 11, none⟩ (.int .i64 0)) = W4 at *
  exact bodyPost_ret (v := .agg #[.int .i64 1, .string ⟨#[]⟩, .bool n, .string s, .int .i64 k, .int .i64 mi, .int .i64 mf, .int .i64 xf, .bool pl, .bool rk, .int .i64 0, .int .i64 0]) (by simp [results, Tryz.results9, go_sem, v0, v1, v2, v3, v4, v5, v6, v7, v8, v9, v10, v11]) rfl ⟨rfl, Z4.out⟩
end Go.Proofs.YtglennfjeacpoaaGreatDoor

namespace Go.Proofs.YtglennfjeacpoaaGreatDoor
open Go.RowKit
set_option linter.unusedVariables false
set_option linter.unusedSimpArgs false
def OfEx (x s : ByteArray) (k : Nat) : Prop := ∃ c : Int, (0 ≤ c ∧ c ≤ 5) ∧ ∀ (n : Bool) (W : World), Calls Tryz.prog 96 #[.string x, .agg #[.bool n, .string s, .int .i64 (k : Int)]] W fun e w' => e = .returned (.int .i64 c) ∧ Below W.heap.size W w'
def RankEx (x s : ByteArray) (k : Nat) : Prop := ∃ c : Int, (0 ≤ c ∧ c ≤ 5) ∧ ∀ (n : Bool) (W : World), Calls Tryz.prog 95 #[.string x, .agg #[.bool n, .string s, .int .i64 (k : Int)]] W fun e w' => e = .returned (.int .i64 c) ∧ Below W.heap.size W w'
theorem ofEx {x s : ByteArray} {k : Nat} {F : ByteArray → Nat → Int} (hg : GoodD s k) (hR : ∀ w, GivesR 147 #[.string x] w F) (hF : 0 ≤ F s k ∧ F s k ≤ 5) : OfEx x s k :=
  ⟨F s k, hF, fun n W => of_gives x F (fun w => (hR w).first) n s k W hg⟩
theorem rankEx {x s : ByteArray} {k : Nat} {F : ByteArray → Nat → Int} (hg : GoodD s k) (hR : ∀ w, GivesR 146 #[.string x] w F) (hF : 0 ≤ F s k ∧ F s k ≤ 5) : RankEx x s k :=
  ⟨F s k, hF, fun n W => rank_gives x F (fun w => (hR w).first) n s k W hg⟩
theorem bd_cEn (s : ByteArray) (k : Nat) : 0 ≤ cEn s k ∧ cEn s k ≤ 5 := by
  unfold cEn
  repeat' split
  all_goals decide
theorem bd_cFr (s : ByteArray) (k : Nat) : 0 ≤ cFr s k ∧ cFr s k ≤ 5 := by
  unfold cFr
  repeat' split
  all_goals decide
theorem bd_cEs (s : ByteArray) (k : Nat) : 0 ≤ cEs s k ∧ cEs s k ≤ 5 := by
  unfold cEs
  repeat' split
  all_goals decide
theorem bd_cPl (s : ByteArray) (k : Nat) : 0 ≤ cPl s k ∧ cPl s k ≤ 5 := by
  unfold cPl
  repeat' split
  all_goals decide
theorem bd_cRu (s : ByteArray) (k : Nat) : 0 ≤ cRu s k ∧ cRu s k ≤ 5 := by
  unfold cRu
  repeat' split
  all_goals decide
theorem bd_cCs (s : ByteArray) (k : Nat) : 0 ≤ cCs s k ∧ cCs s k ≤ 5 := by
  unfold cCs
  repeat' split
  all_goals decide
theorem bd_cAr (s : ByteArray) (k : Nat) : 0 ≤ cAr s k ∧ cAr s k ≤ 5 := by
  unfold cAr
  repeat' split
  all_goals decide
theorem bd_rFr (s : ByteArray) (k : Nat) : 0 ≤ rFr s k ∧ rFr s k ≤ 5 := by
  unfold rFr
  repeat' split
  all_goals decide
theorem bd_rEn (s : ByteArray) (k : Nat) : 0 ≤ rEn s k ∧ rEn s k ≤ 5 := by
  unfold rEn
  repeat' split
  all_goals decide
theorem of_ex (x s : ByteArray) (k : Nat) (hg : GoodD s k) : OfEx x s k := by
  cases q0 : (x.toList == [101, 110])
  case true => rw [xW_eq q0]; exact ofEx hg count_en (bd_cEn s k)
  cases q1 : (x.toList == [100, 101])
  case true => rw [xW_eq q1]; exact ofEx hg count_de (bd_cEn s k)
  cases q2 : (x.toList == [110, 108])
  case true => rw [xW_eq q2]; exact ofEx hg count_nl (bd_cEn s k)
  cases q3 : (x.toList == [115, 118])
  case true => rw [xW_eq q3]; exact ofEx hg count_sv (bd_cEn s k)
  cases q4 : (x.toList == [102, 114])
  case true => rw [xW_eq q4]; exact ofEx hg count_fr (bd_cFr s k)
  cases q5 : (x.toList == [101, 115])
  case true => rw [xW_eq q5]; exact ofEx hg count_es (bd_cEs s k)
  cases q6 : (x.toList == [112, 108])
  case true => rw [xW_eq q6]; exact ofEx hg count_pl (bd_cPl s k)
  cases q7 : (x.toList == [114, 117])
  case true => rw [xW_eq q7]; exact ofEx hg count_ru (bd_cRu s k)
  cases q8 : (x.toList == [99, 115])
  case true => rw [xW_eq q8]; exact ofEx hg count_cs (bd_cCs s k)
  cases q9 : (x.toList == [97, 114])
  case true => rw [xW_eq q9]; exact ofEx hg count_ar (bd_cAr s k)
  exact ofEx hg (count_no x q0 q1 q2 q3 q4 q5 q6 q7 q8 q9) ⟨by decide, by decide⟩
theorem rank_ex (x s : ByteArray) (k : Nat) (hg : GoodD s k) : RankEx x s k := by
  cases q0 : (x.toList == [101, 110])
  case true => rw [xW_eq q0]; exact rankEx hg rank_en (bd_rEn s k)
  cases q4 : (x.toList == [102, 114])
  case true => rw [xW_eq q4]; exact rankEx hg rank_fr (bd_rFr s k)
  exact rankEx hg (rank_no x q4 q0) ⟨by decide, by decide⟩
theorem rnd_more (l : List UInt8) (k mf xf : Nat) (hk : k ≤ l.length) (hl : l.length ≤ 60) (hmf : mf ≤ 20) (hxf : xf ≤ 20) : rndK l k mf xf ≤ 20 ∧ (rndL l k mf xf).length ≤ 81 := by
  have h1 := roundL_length l k xf hk
  have h2 := rnd2_le (roundL l k xf) (min k xf) mf h1.1
  have h3 : rnd2K (roundL l k xf) (min k xf) mf ≤ min k xf := by
    unfold rnd2K
    split <;> omega
  unfold rndK rndL
  rw [List.length_append, List.length_replicate]
  omega
theorem rnd_digs (l : List UInt8) (k mf xf : Nat) (h : l.all digB = true) : (rndL l k mf xf).all digB = true := by
  unfold rndL
  rw [List.all_append, noughts_digs, Bool.and_true]
  have hr := roundL_digs l k xf h
  unfold rnd2L
  split
  · exact List.all_eq_true.2 fun c hc => List.all_eq_true.1 hr c (List.mem_of_mem_take hc)
  · exact hr
theorem shape_good (l : List UInt8) (k mi mf xf : Nat) (hd : l.all digB = true) (hk : k ≤ l.length) (hl : l.length ≤ 60) (hmi : mi ≤ 20) (hmf : mf ≤ 20) (hxf : xf ≤ 20) :
    GoodD (bL (ahd mi (rndL l k mf xf) (rndK l k mf xf) ++ rndL l k mf xf)) (rndK l k mf xf) := by
  have h1 := rnd_more l k mf xf hk hl hmf hxf
  have h2 := rnd_le l k mf xf hk hl (by omega)
  refine ⟨?_, ?_, ?_⟩
  · rw [bL_size, List.length_append]
    unfold ahd
    rw [List.length_replicate]
    omega
  · rw [bL_size, List.length_append]
    omega
  · rw [bL_list, List.all_append, rnd_digs l k mf xf hd, Bool.and_true]
    exact noughts_digs _
theorem cat_ex (n : Bool) (s : ByteArray) (k : Nat) (mi mf xf : Int) (pl rk : Bool) (lang : ByteArray) (hN : Num s.data.toList k) (hmi : 0 ≤ mi ∧ mi ≤ 20) (hmf : 0 ≤ mf ∧ mf ≤ 20) (hxf : 0 ≤ xf ∧ xf ≤ 20) :
    ∃ c : Int, (0 ≤ c ∧ c ≤ 5) ∧ ∀ W : World, Calls Tryz.prog 50 #[.agg #[.int .i64 1, .string ⟨#[]⟩, .bool n, .string s, .int .i64 (k : Int), .int .i64 mi, .int .i64 mf, .int .i64 xf, .bool pl, .bool rk, .int .i64 0, .int .i64 0], .string lang] W fun e w' => e = .returned (.int .i64 c) ∧ Below W.heap.size W w' := by
  obtain ⟨a, rfl⟩ := Int.eq_ofNat_of_zero_le hmi.1
  obtain ⟨b, rfl⟩ := Int.eq_ofNat_of_zero_le hmf.1
  obtain ⟨d, rfl⟩ := Int.eq_ofNat_of_zero_le hxf.1
  have hlt := hN.lt
  have hle := hN.le
  have hg := shape_good s.data.toList k a b d hN.digs (by omega) hle (by omega) (by omega) (by omega)
  rw [size_data] at hlt hle
  have hS := fun W => shape_any a b d pl rk n s k W (by omega) (by omega) hN.digs (by omega) (by omega) (by omega)
  cases rk
  · obtain ⟨c, hc, hO⟩ := of_ex lang _ _ hg
    exact ⟨c, hc, fun W => category_any n s (k : Int) a b d pl false lang _ _ n c W hS (fun _ W => hO n W) (fun h => by cases h)⟩
  · obtain ⟨c, hc, hO⟩ := rank_ex lang _ _ hg
    exact ⟨c, hc, fun W => category_any n s (k : Int) a b d pl true lang _ _ n c W hS (fun h => by cases h) (fun _ W => hO n W)⟩
def wordOf (c : Int) : ByteArray := #[⟨#[111, 116, 104, 101, 114]⟩, ⟨#[122, 101, 114, 111]⟩, ⟨#[111, 110, 101]⟩, ⟨#[116, 119, 111]⟩, ⟨#[102, 101, 119]⟩, ⟨#[109, 97, 110, 121]⟩][c.toNat]?.getD ByteArray.empty
def wdOf : Nat → ByteArray
  | 0 => ⟨#[122, 101, 114, 111]⟩
  | 1 => ⟨#[111, 110, 101]⟩
  | 2 => ⟨#[116, 119, 111]⟩
  | 3 => ⟨#[102, 101, 119]⟩
  | 4 => ⟨#[109, 97, 110, 121]⟩
  | _ => ⟨#[111, 116, 104, 101, 114]⟩
def isOf (c : Int) (i : Nat) : Bool := (wdOf i).toList == (wordOf c).toList
def cntQ (q : Nat → Bool) : Nat → Int
  | 0 => 0
  | i + 1 => cntQ q i + (if q i then 1 else 0)
theorem cnt_bd (q : Nat → Bool) : ∀ i : Nat, 0 ≤ cntQ q i ∧ cntQ q i ≤ i
  | 0 => ⟨Int.le_refl 0, Int.le_refl 0⟩
  | i + 1 => by
    have := cnt_bd q i
    unfold cntQ
    split <;> omega
theorem just_one (c : Int) (h : 0 ≤ c ∧ c ≤ 5) : cntQ (isOf c) 6 = 1 ∧ ((⟨#[]⟩ : ByteArray).toList == (wordOf c).toList) = false := by
  have : c = 0 ∨ c = 1 ∨ c = 2 ∨ c = 3 ∨ c = 4 ∨ c = 5 := by omega
  rcases this with rfl | rfl | rfl | rfl | rfl | rfl
  all_goals exact ⟨by decide +kernel, by decide +kernel⟩
theorem wdNo : ∀ i : Nat, ParseNo (wdOf i)
  | 0 => parseNo (by kernel_rfl) (by decide)
  | 1 => parseNo (by kernel_rfl) (by decide)
  | 2 => parseNo (by kernel_rfl) (by decide)
  | 3 => parseNo (by kernel_rfl) (by decide)
  | 4 => parseNo (by kernel_rfl) (by decide)
  | _ + 5 => parseNo (key := ⟨#[111, 116, 104, 101, 114]⟩) (by kernel_rfl) (by decide)
theorem empty_no : ParseNo ⟨#[]⟩ := parseNo (by kernel_rfl) (by decide)
theorem isWord (n : Bool) (s : ByteArray) (k : Nat) (mi mf xf : Int) (pl rk : Bool) (lang key : ByteArray) (c : Int) (hc : 0 ≤ c ∧ c ≤ 5) (hp : ParseNo key)
    (hK : ∀ W : World, Calls Tryz.prog 50 #[.agg #[.int .i64 1, .string ⟨#[]⟩, .bool n, .string s, .int .i64 (k : Int), .int .i64 mi, .int .i64 mf, .int .i64 xf, .bool pl, .bool rk, .int .i64 0, .int .i64 0], .string lang] W fun e w' => e = .returned (.int .i64 c) ∧ Below W.heap.size W w') :
    IsTo #[.int .i64 1, .string ⟨#[]⟩, .bool n, .string s, .int .i64 (k : Int), .int .i64 mi, .int .i64 mf, .int .i64 xf, .bool pl, .bool rk, .int .i64 0, .int .i64 0] key lang (key.toList == (wordOf c).toList) := fun W hW =>
  isNum_no n s (k : Int) mi mf xf pl rk key lang (wordOf c) c W hW hp hK (fun W => word_any c W hc.1 hc.2)
end Go.Proofs.YtglennfjeacpoaaGreatDoor

namespace Go.Proofs.YtglennfjeacpoaaGreatDoor
open Go.RowKit
set_option linter.unusedVariables false
set_option linter.unusedSimpArgs false
theorem words_cell : ∀ i : Nat, i < 6 → (#[.string ⟨#[122, 101, 114, 111]⟩, .string ⟨#[111, 110, 101]⟩, .string ⟨#[116, 119, 111]⟩, .string ⟨#[102, 101, 119]⟩, .string ⟨#[109, 97, 110, 121]⟩, .string ⟨#[111, 116, 104, 101, 114]⟩] : Array Value)[i]? = some (.string (wdOf i))
  | 0, _ => rfl
  | 1, _ => rfl
  | 2, _ => rfl
  | 3, _ => rfl
  | 4, _ => rfl
  | 5, _ => rfl
  | i + 6, h => absurd h (by omega)
set_option maxHeartbeats 8000000 in
set_option maxRecDepth 100000 in
theorem lawOnes (kd : Int) (tx : ByteArray) (n : Bool) (s : ByteArray) (r : Int) (l : List OPT) (A : Option Addr) (c : Nat) (sec st : Int) (lang : ByteArray) (w : World) (hsh : w.ShapedOpen Tryz.prog) (hl : ListO w l A c) (hs : s.size ≤ 9223372036854775807) (hr0 : -9223372036854775808 ≤ r) (hr1 : r ≤ 9223372036854775807) :
    Calls Tryz.prog 4 #[.agg #[.int .i64 kd, .string tx, .bool n, .string s, .int .i64 r, .slice A l.length c, .int .i64 sec, .int .i64 st], .string lang] w fun e w' => e = .returned (.bool true) ∧ Below w.heap.size w w' := by
  have hRt := fun W (h : ListO W l A c) => mright_any kd tx n s r l A c sec st W h hs hr0 hr1
  have HRt := Lib.hid hRt
  have HL := Lib.hid hl
  have Hsh := Lib.hid hsh
  have hVal := fun (k : Nat) (mi mf xf : Int) (pl rk : Bool) (hO : ∀ W : World, ListO W l A c → Calls Tryz.prog 11 #[.slice A l.length c] W fun e w' => e = .returned (.agg #[.int .i64 mi, .int .i64 mf, .int .i64 xf, .bool pl, .bool rk]) ∧ Below W.heap.size W w') (W : World) (h : ListO W l A c) => value1_core tx n s (k : Int) l A c sec st mi mf xf pl rk W h hO
  have hOp := fun (h : ∀ p ∈ l, OkO p) (W : World) (hW : ListO W l A c) => opts_any l A c W hW h
  have HVal := Lib.hid hVal
  have HOp := Lib.hid hOp
  clear hRt hl hsh hs hr0 hr1 hVal hOp
  generalize hL : l.length = L at *
  clear hL
  have Z0 := Lib.hid ((Below.refl w.heap.size w).alloc (Nat.le_refl _) (.cells #[.int .i64 kd, .string tx, .bool n, .string s, .int .i64 r, .slice A L c, .int .i64 sec, .int .i64 st] 26))
  have M0 := Lib.hid (BoxAt.new w #[.int .i64 kd, .string tx, .bool n, .string s, .int .i64 r, .slice A L c, .int .i64 sec, .int .i64 st] 26)
  go_enter Tryz.func4, Tryz.ntmps4
  go_wp2_with fail
  go_at_call 7
  refine (headV_any _ (shp_below Hsh.out Z0.out)).mono ?_
  rintro e w1 ⟨rfl, hb1⟩
  have Z1 := Lib.hid (below_then Z0.out (Nat.le_refl _) hb1)
  have m := M0.out.later hb1
  have zm := m.lt
  have m0 := m.cell 0
  have m1 := m.cell 1
  have m2 := m.cell 2
  have m3 := m.cell 3
  have m4 := m.cell 4
  have m5 := m.cell 5
  have m6 := m.cell 6
  have m7 := m.cell 7
  simp only [List.getElem?_toArray, List.getElem?_cons_zero, List.getElem?_cons_succ] at m0 m1 m2 m3 m4 m5 m6 m7
  have M1 := Lib.hid m
  clear hb1 m M0
  go_wp2_with fail
  go_at_call 8
  refine (HRt.out _ (HL.out.later Z1.out)).mono ?_
  rintro e w2 ⟨hr, hb2⟩
  have Z2 := Lib.hid (below_then Z1.out (Nat.le_refl _) hb2)
  have m := M1.out.later hb2
  clear zm m0 m1 m2 m3 m4 m5 m6 m7 hb2 M1
  have zm := m.lt
  have m0 := m.cell 0
  simp only [List.getElem?_toArray, List.getElem?_cons_zero, List.getElem?_cons_succ] at m0
  have f0 := m.z 0
  have M2 := Lib.hid m
  clear m
  rcases hr with rfl | ⟨hOk, ⟨k, rfl, hN⟩, h20, h60, rfl⟩
  · go_wp2
    go_ret
    exact ⟨rfl, Z2.out⟩
  have hb := opts_bd l dflO hOk dfl_bd
  obtain ⟨hb1, hb2, hb3⟩ := hb
  obtain ⟨cc, hc, hK⟩ := cat_ex n s k _ _ _ (optsF l dflO).pl (optsF l dflO).rk lang hN hb1 hb2 hb3
  have hV := HVal.out k _ _ _ _ _ (HOp.out hOk)
  generalize (optsF l dflO).mi = mi at *
  generalize (optsF l dflO).mf = mf at *
  generalize (optsF l dflO).xf = xf at *
  generalize (optsF l dflO).pl = pl at *
  generalize (optsF l dflO).rk = rk at *
  have hI := fun i => isWord n s k mi mf xf pl rk lang (wdOf i) cc hc (wdNo i) hK
  have hE := isWord n s k mi mf xf pl rk lang ⟨#[]⟩ cc hc empty_no hK
  obtain ⟨hj1, hj2⟩ := just_one cc hc
  rw [hj2] at hE
  have hI2 : ∀ i, IsTo #[.int .i64 1, .string ⟨#[]⟩, .bool n, .string s, .int .i64 (k : Int), .int .i64 mi, .int .i64 mf, .int .i64 xf, .bool pl, .bool rk, .int .i64 0, .int .i64 0] (wdOf i) lang (isOf cc i) := hI
  generalize isOf cc = q at *
  have HI := Lib.hid hI2
  have HE := Lib.hid hE
  have HV := Lib.hid hV
  have HJ := Lib.hid hj1
  clear hI hI2 hE hj1 hj2 hV hK hc hb1 hb2 hb3 hOk hN h20 h60
  have Z3 := Lib.hid (below_new (bs1 Z2.out (Nat.le_refl _) 0 (.int .i64 1)) (Nat.le_refl _) (.cells #[.string ⟨#[122, 101, 114, 111]⟩, .string ⟨#[111, 110, 101]⟩, .string ⟨#[116, 119, 111]⟩, .string ⟨#[102, 101, 119]⟩, .string ⟨#[109, 97, 110, 121]⟩, .string ⟨#[111, 116, 104, 101, 114]⟩] 9))
  have M3 := Lib.hid ((M2.out.set 0 (.int .i64 1)).alloc (.cells #[.string ⟨#[122, 101, 114, 111]⟩, .string ⟨#[111, 110, 101]⟩, .string ⟨#[116, 119, 111]⟩, .string ⟨#[102, 101, 119]⟩, .string ⟨#[109, 97, 110, 121]⟩, .string ⟨#[111, 116, 104, 101, 114]⟩] 9))
  have D3 := Lib.hid (BoxAt.new' (w2.setCell ⟨w.heap.size, 0, none⟩ (.int .i64 1)) w2.heap.size #[.string ⟨#[122, 101, 114, 111]⟩, .string ⟨#[111, 110, 101]⟩, .string ⟨#[116, 119, 111]⟩, .string ⟨#[102, 101, 119]⟩, .string ⟨#[109, 97, 110, 121]⟩, .string ⟨#[111, 116, 104, 101, 114]⟩] 9 (by simp))
  go_wp2_with fail
  clear zm m0 f0 M2 Z2 Z1 Z0
  generalize (w2.setCell ⟨w.heap.size, 0, none⟩ (.int .i64 1)).alloc (.cells #[.string ⟨#[122, 101, 114, 111]⟩, .string ⟨#[111, 110, 101]⟩, .string ⟨#[116, 119, 111]⟩, .string ⟨#[102, 101, 119]⟩, .string ⟨#[109, 97, 110, 121]⟩, .string ⟨#[111, 116, 104, 101, 114]⟩] 9) = W3 at *
  go_loopw [5, 16] (fun u t wr => ∃ i : Nat, t = .int .i64 (i : Int) ∧ u = .int .i64 (cntQ q i) ∧ i ≤ 6 ∧ Hid (Below w.heap.size w wr) ∧ Hid (BoxAt wr w.heap.size #[.int .i64 1, .string tx, .bool n, .string s, .int .i64 (k : Int), .slice A L c, .int .i64 sec, .int .i64 st] 26) ∧ Hid (BoxAt wr w2.heap.size #[.string ⟨#[122, 101, 114, 111]⟩, .string ⟨#[111, 110, 101]⟩, .string ⟨#[116, 119, 111]⟩, .string ⟨#[102, 101, 119]⟩, .string ⟨#[109, 97, 110, 121]⟩, .string ⟨#[111, 116, 104, 101, 114]⟩] 9)) (fun _ t _ => 6 - (intOf t).toNat)
  case atStart => exact ⟨0, rfl, rfl, by omega, Z3, M3, D3⟩
  case round =>
    obtain ⟨i, rfl, rfl, hi, hB, hM, hD⟩ := hrel
    by_cases hlt : i < 6
    · have g1 : decide ((i : Int) < 6) = true := decide_eq_true (by omega)
      have d := (hD.out.cell i).trans (words_cell i hlt)
      have m := hM.out
      have zm := m.lt
      have zd := hD.out.lt
      have m0 := m.cell 0
      have m1 := m.cell 1
      have m2 := m.cell 2
      have m3 := m.cell 3
      have m4 := m.cell 4
      have m5 := m.cell 5
      have m6 := m.cell 6
      have m7 := m.cell 7
      simp only [List.getElem?_toArray, List.getElem?_cons_zero, List.getElem?_cons_succ] at m0 m1 m2 m3 m4 m5 m6 m7
      clear m
      have hQ := cnt_bd q i
      have hQ1 : cntQ q (i + 1) = cntQ q i + (if q i then 1 else 0) := rfl
      have HIi := Lib.hid (HI.out i)
      generalize wdOf i = wd at *
      generalize q i = qi at *
      generalize cntQ q i = n1 at *
      obtain ⟨hQa, hQb⟩ := hQ
      have HQ1 := Lib.hid hQ1
      clear hQ1
      go_wp2_with fail
      go_at_call 9
      refine (HV.out _ (HL.out.later hB.out)).mono ?_
      rintro e w3 ⟨rfl, hb3⟩
      have hB3 := Lib.hid (below_then hB.out (Nat.le_refl _) hb3)
      have hM3 := Lib.hid (hM.out.later hb3)
      have hD3 := Lib.hid (hD.out.later hb3)
      clear hb3 m0 m1 m2 m3 m4 m5 m6 m7 zm zd d
      go_wp2_with fail
      go_at_call 15
      refine (HIi.out _ (shp_below Hsh.out hB3.out)).mono ?_
      rintro e w4 ⟨rfl, hb4⟩
      have hB4 := Lib.hid (below_then hB3.out (Nat.le_refl _) hb4)
      have hM4 := Lib.hid (hM3.out.later hb4)
      have hD4 := Lib.hid (hD3.out.later hb4)
      clear hb4
      cases qi
      case false =>
        go_wp2_with fail
        go_roundw
        case rel => exact ⟨i + 1, by go_num, by rw [HQ1.out]; simp, by omega, hB4, hM4, hD4⟩
        case measure => simp [intOf]; omega
      case true =>
        go_wp2_with fail
        go_roundw
        case rel => exact ⟨i + 1, by go_num, by rw [HQ1.out]; simp, by omega, hB4, hM4, hD4⟩
        case measure => simp [intOf]; omega
    · obtain rfl : i = 6 := by omega
      have g1 : decide (((6 : Nat) : Int) < 6) = false := by decide
      have hJ := HJ.out
      rw [hJ]
      have m := hM.out
      have zm := m.lt
      have m0 := m.cell 0
      have m1 := m.cell 1
      have m2 := m.cell 2
      have m3 := m.cell 3
      have m4 := m.cell 4
      have m5 := m.cell 5
      have m6 := m.cell 6
      have m7 := m.cell 7
      simp only [List.getElem?_toArray, List.getElem?_cons_zero, List.getElem?_cons_succ] at m0 m1 m2 m3 m4 m5 m6 m7
      clear m
      go_wp2_with fail
      go_at_call 9
      refine (HV.out _ (HL.out.later hB.out)).mono ?_
      rintro e w3 ⟨rfl, hb3⟩
      have hB3 := Lib.hid (below_then hB.out (Nat.le_refl _) hb3)
      clear hb3
      go_wp2_with fail
      go_at_call 15
      refine (HE.out _ (shp_below Hsh.out hB3.out)).mono ?_
      rintro e w4 ⟨rfl, hb4⟩
      go_wp2
      go_ret
      exact ⟨rfl, below_then hB3.out (Nat.le_refl _) hb4⟩
end Go.Proofs.YtglennfjeacpoaaGreatDoor
