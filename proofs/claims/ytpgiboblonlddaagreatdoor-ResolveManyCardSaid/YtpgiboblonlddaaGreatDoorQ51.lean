/-
  Several texts put together (part 51): what the law and the program call, walked; their contracts.
-/
import Derived.Test.YtpgiboblonlddaaGreatDoorQ47
import Derived.Test.YtpgiboblonlddaaGreatDoorQ50
import Derived.Test.YtpgiboblonlddaaGreatDoorQ41
namespace Go.Proofs.YtpgiboblonlddaaGreatDoor
open Go.RowKit
set_option linter.unusedVariables false
set_option linter.unusedSimpArgs false
def FmtAt (b : Nat) (lang : ByteArray) (d o : Value) (T : ByteArray) : Prop := ∀ (W : World) (made : Bool) (c : Nat), MarksAt W b made c → c ≤ 1000 → Calls Tryz.prog 36 #[.pointer (some ⟨b, 0, none⟩), .string lang, d, o] W fun e w' => e = .returned (.string T) ∧ MarksAt w' b true (c + 1) ∧ Kp b W w'
set_option maxHeartbeats 1000000 in
theorem stringN_any (b : Nat) (made : Bool) (c : Nat) (n : Bool) (s : ByteArray) (k : Int) (mi mf xf : Int) (pl rk : Bool) (lang T : ByteArray) (w : World) (hM : MarksAt w b made c) (hc : c ≤ 1000)
    (hF : FmtAt b lang (.agg #[.bool n, .string s, .int .i64 k]) (.agg #[.int .i64 mi, .int .i64 mf, .int .i64 xf, .bool pl, .bool rk]) T) :
    Calls Tryz.prog 18 #[.agg #[.int .i64 1, .string ⟨#[]⟩, .bool n, .string s, .int .i64 k, .int .i64 mi, .int .i64 mf, .int .i64 xf, .bool pl, .bool rk, .int .i64 0, .int .i64 0], .pointer (some ⟨b, 0, none⟩), .string lang] w fun e w' => e = .returned (.string T) ∧ MarksAt w' b true (c + 1) ∧ Kp b w w' := by
  have HF := Lib.hid hF
  have hlt := hM.lt
  have hM1 := Lib.hid (hM.later ((Below.refl _ _).alloc (Nat.le_refl _) (.cells #[.int .i64 1, .string ⟨#[]⟩, .bool n, .string s, .int .i64 k, .int .i64 mi, .int .i64 mf, .int .i64 xf, .bool pl, .bool rk, .int .i64 0, .int .i64 0] 69)))
  clear hM hF
  go_enter Tryz.func18, Tryz.ntmps18
  go_wp2_with fail
  go_at_call 36
  refine (HF.out _ _ _ hM1.out hc).mono ?_
  rintro e w1 ⟨rfl, hm, hk⟩
  go_wp2
  go_ret
  exact ⟨rfl, hm, ((Kp.refl b w).alloc (by omega) _).trans hk⟩
set_option maxHeartbeats 2000000 in
theorem written_yes (x D0 : ByteArray) (n : Bool) (k : Nat) (mf xf : Int) (w : World) (hsh : w.ShapedOpen Tryz.prog) (hp : ParseYes x n D0 k) (hmf : min (k : Int) 20 = mf) (hxf : max 3 mf = xf) :
    Calls Tryz.prog 32 #[.string x] w fun e w' => e = .returned (.agg #[.int .i64 1, .string ⟨#[]⟩, .bool n, .string D0, .int .i64 (k : Int), .int .i64 1, .int .i64 mf, .int .i64 xf, .bool false, .bool false, .int .i64 0, .int .i64 0]) ∧ Below w.heap.size w w' := by
  have HP := Lib.hid hp
  have hsh1 := Lib.hid (shp_alloc hsh (.cells #[.int .i64 0, .string ⟨#[]⟩, .bool false, .string ⟨#[]⟩, .int .i64 0, .int .i64 0, .int .i64 0, .int .i64 0, .bool false, .bool false, .int .i64 0, .int .i64 0] 69))
  clear hp hsh
  go_enter Tryz.func32, Tryz.ntmps32
  go_wp2_with fail
  go_at_call 52
  refine (HP.out _ hsh1.out).mono ?_
  rintro e w1 ⟨rfl, hb1⟩
  have B1 := Lib.hid ((BoxAt.new w #[.int .i64 0, .string ⟨#[]⟩, .bool false, .string ⟨#[]⟩, .int .i64 0, .int .i64 0, .int .i64 0, .int .i64 0, .bool false, .bool false, .int .i64 0, .int .i64 0] 69).later hb1)
  have hbel := Lib.hid (below_box hb1)
  clear hb1
  go_wp2_with fail
  go_at_call 29
  refine (num_any n D0 (k : Int) _).mono ?_
  rintro e w2 ⟨rfl, hb2⟩
  have B2 := (B1.out.alloc (.cells #[.bool n, .string D0, .int .i64 (k : Int)] 64)).later hb2
  have C2 := (BoxAt.new w1 #[.bool n, .string D0, .int .i64 (k : Int)] 64).later hb2
  have c2 := C2.cell 2
  have z3 := C2.lt
  have hbel2 := Lib.hid (below_then (below_new hbel.out (Nat.le_refl _) (.cells #[.bool n, .string D0, .int .i64 (k : Int)] 64)) (Nat.le_refl _) hb2)
  have z1 := B2.lt
  have b0 := B2.cell 0
  have b1 := B2.cell 1
  have b2 := B2.cell 2
  have b3 := B2.cell 3
  have b4 := B2.cell 4
  have b5 := B2.cell 5
  have b6 := B2.cell 6
  have b7 := B2.cell 7
  have b8 := B2.cell 8
  have b9 := B2.cell 9
  have b10 := B2.cell 10
  have b11 := B2.cell 11
  simp only [List.getElem?_toArray, List.getElem?_cons_zero, List.getElem?_cons_succ] at b0 b1 b2 b3 b4 b5 b6 b7 b8 b9 b10 b11
  have f0 := B2.z 0
  have f1 := B2.z 1
  have f2 := B2.z 2
  have f3 := B2.z 3
  have f4 := B2.z 4
  have f5 := B2.z 5
  have f6 := B2.z 6
  have f7 := B2.z 7
  have f8 := B2.z 8
  have f9 := B2.z 9
  have f10 := B2.z 10
  have f11 := B2.z 11
  simp only [List.getElem?_toArray, List.getElem?_cons_zero, List.getElem?_cons_succ] at c2
  have HB2 := Lib.hid B2
  clear hb2 B2 C2 B1 hbel
  go_wp2
  have hbel3 := Lib.hid (below_new (below12 hbel2.out (Nat.le_refl _) (.int .i64 1) (.string ⟨#[]⟩) (.bool n) (.string D0) (.int .i64 (k : Int)) (.int .i64 1) (.int .i64 mf) (.int .i64 xf) (.bool false) (.bool false) (.int .i64 0) (.int .i64 0)) (Nat.le_refl _) (.cells #[.int .i64 1, .string ⟨#[]⟩, .bool n, .string D0, .int .i64 (k : Int), .int .i64 1, .int .i64 mf, .int .i64 xf, .bool false, .bool false, .int .i64 0, .int .i64 0] 69))
  have B3 := (((((((((((((HB2.out.set 0 (.int .i64 1)).set 1 (.string ⟨#[]⟩)).set 2 (.bool n)).set 3 (.string D0)).set 4 (.int .i64 (k : Int))).set 5 (.int .i64 1)).set 6 (.int .i64 mf)).set 7 (.int .i64 xf)).set 8 (.bool false)).set 9 (.bool false)).set 10 (.int .i64 0)).set 11 (.int .i64 0))).alloc (.cells #[.int .i64 1, .string ⟨#[]⟩, .bool n, .string D0, .int .i64 (k : Int), .int .i64 1, .int .i64 mf, .int .i64 xf, .bool false, .bool false, .int .i64 0, .int .i64 0] 69)
  clear b0 f0 b1 f1 b2 f2 b3 f3 b4 f4 b5 f5 b6 f6 b7 f7 b8 f8 b9 f9 b10 f10 b11 f11
  have b0 := B3.cell 0
  have b1 := B3.cell 1
  have b2 := B3.cell 2
  have b3 := B3.cell 3
  have b4 := B3.cell 4
  have b5 := B3.cell 5
  have b6 := B3.cell 6
  have b7 := B3.cell 7
  have b8 := B3.cell 8
  have b9 := B3.cell 9
  have b10 := B3.cell 10
  have b11 := B3.cell 11
  simp only [List.getElem?_toArray, List.getElem?_cons_zero, List.getElem?_cons_succ, List.setIfInBounds_toArray, List.set_cons_zero, List.set_cons_succ] at b0 b1 b2 b3 b4 b5 b6 b7 b8 b9 b10 b11
  clear hbel2 HB2 B3 c2
  generalize ((((((((((((w2.setCell ⟨w.heap.size, 0, none⟩ (.int .i64 1)).setCell ⟨w.heap.size, 1, none⟩ (.string ⟨#[]⟩)).setCell ⟨w.heap.size, 2, none⟩ (.bool n)).setCell ⟨w.heap.size, 3, none⟩ (.string D0)).setCell ⟨w.heap.size, 4, none⟩ (.int .i64 (k : Int))).setCell ⟨w.heap.size, 5, none⟩ (.int .i64 1)).setCell ⟨w.heap.size, 6, none⟩ (.int .i64 mf)).setCell ⟨w.heap.size, 7, none⟩ (.int .i64 xf)).setCell ⟨w.heap.size, 8, none⟩ (.bool false)).setCell ⟨w.heap.size, 9, none⟩ (.bool false)).setCell ⟨w.heap.size, 10, none⟩ (.int .i64 0)).setCell ⟨w.heap.size, 11, none⟩ (.int .i64 0)).alloc (.cells #[.int .i64 1, .string ⟨#[]⟩, .bool n, .string D0, .int .i64 (k : Int), .int .i64 1, .int .i64 mf, .int .i64 xf, .bool false, .bool false, .int .i64 0, .int .i64 0] 69) = W at *
  refine bodyPost_ret (v := .agg #[.int .i64 1, .string ⟨#[]⟩, .bool n, .string D0, .int .i64 (k : Int), .int .i64 1, .int .i64 mf, .int .i64 xf, .bool false, .bool false, .int .i64 0, .int .i64 0]) (by simp [results, Tryz.results32, go_sem, b0, b1, b2, b3, b4, b5, b6, b7, b8, b9, b10, b11]) rfl ⟨rfl, ?_⟩
  exact hbel3.out
end Go.Proofs.YtpgiboblonlddaaGreatDoor
