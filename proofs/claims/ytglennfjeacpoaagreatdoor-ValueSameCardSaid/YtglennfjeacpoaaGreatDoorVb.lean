/-
  Package value: Is, category.
-/
import Derived.Test.YtglennfjeacpoaaGreatDoorVa
import Derived.Test.YtglennfjeacpoaaGreatDoorVm
import Derived.Deep.RegionHeld3
namespace Go.Proofs.YtglennfjeacpoaaGreatDoor
open Go.RowKit
set_option linter.unusedVariables false
set_option linter.unusedSimpArgs false

set_option maxHeartbeats 1000000 in
theorem isText_any (x key lang : ByteArray) (w : World) : Calls Tryz.prog 15 #[.agg #[.int .i64 0, .string x, .bool false, .string ⟨#[]⟩, .int .i64 0, .int .i64 0, .int .i64 0, .int .i64 0, .bool false, .bool false, .int .i64 0, .int .i64 0], .string key, .string lang] w fun e w' => e = .returned (.bool (key.toList == x.toList)) ∧ Below w.heap.size w w' := by
  obtain ⟨b, hb⟩ : ∃ b, (key.toList == x.toList) = b := ⟨_, rfl⟩
  rw [hb]
  go_enter Tryz.func15, Tryz.ntmps15
  go_wp2
  all_goals
    go_ret
    exact ⟨ret_bool (by simp_all), (Below.refl _ _).alloc (Nat.le_refl _) _⟩
set_option maxHeartbeats 1000000 in
theorem isAt_any (sec : Int) (key lang : ByteArray) (w : World) : Calls Tryz.prog 15 #[.agg #[.int .i64 2, .string ⟨#[]⟩, .bool false, .string ⟨#[]⟩, .int .i64 0, .int .i64 0, .int .i64 0, .int .i64 0, .bool false, .bool false, .int .i64 sec, .int .i64 0], .string key, .string lang] w fun e w' => e = .returned (.bool false) ∧ Below w.heap.size w w' := by
  go_enter Tryz.func15, Tryz.ntmps15
  go_wp2
  go_ret
  exact ⟨rfl, (Below.refl _ _).alloc (Nat.le_refl _) _⟩
/-- A number that is told by a key, and what its order to the value is. -/
def ParseYes (key : ByteArray) (n2 : Bool) (D : ByteArray) (k2 : Nat) : Prop := ∀ W : World, W.ShapedOpen Tryz.prog → Calls Tryz.prog 49 #[.string key] W fun e w' => e = .returned (.tuple #[.agg #[.bool n2, .string D, .int .i64 (k2 : Int)], .bool true]) ∧ Below W.heap.size W w'
def ParseNo (key : ByteArray) : Prop := ∀ W : World, W.ShapedOpen Tryz.prog → Calls Tryz.prog 49 #[.string key] W fun e w' => e = .returned (.tuple #[.agg #[.bool false, .string ⟨#[]⟩, .int .i64 0], .bool false]) ∧ Below W.heap.size W w'
theorem parseYes {key : ByteArray} {n2 : Bool} {d : List UInt8} {k2 : Nat} (hp : parseL key.data.toList = some (n2, d, k2)) (hs : key.size < 4294967281) : ParseYes key n2 ⟨d.toArray⟩ k2 := by
  intro W hW
  have := parse_val key W hW hs
  rw [hp] at this
  exact this
theorem parseNo {key : ByteArray} (hp : parseL key.data.toList = none) (hs : key.size < 4294967281) : ParseNo key := by
  intro W hW
  have := parse_val key W hW hs
  rw [hp] at this
  exact this
set_option maxHeartbeats 2000000 in
theorem isNum_yes (n : Bool) (s : ByteArray) (k : Int) (mi mf xf : Int) (pl rk : Bool) (key lang D : ByteArray) (n2 : Bool) (k2 : Nat) (c : Int) (w : World) (hsh : w.ShapedOpen Tryz.prog) (hp : ParseYes key n2 D k2)
    (hC : ∀ W : World, Calls Tryz.prog 20 #[.agg #[.bool n2, .string D, .int .i64 (k2 : Int)], .agg #[.bool n, .string s, .int .i64 k]] W fun e w' => e = .returned (.int .i64 c) ∧ Below W.heap.size W w') :
    Calls Tryz.prog 15 #[.agg #[.int .i64 1, .string ⟨#[]⟩, .bool n, .string s, .int .i64 k, .int .i64 mi, .int .i64 mf, .int .i64 xf, .bool pl, .bool rk, .int .i64 0, .int .i64 0], .string key, .string lang] w fun e w' => e = .returned (.bool (c == 0)) ∧ Below w.heap.size w w' := by
  have HP := Lib.hid hp
  have HC := Lib.hid hC
  have hsh1 := Lib.hid (shp_alloc hsh (.cells #[.int .i64 1, .string ⟨#[]⟩, .bool n, .string s, .int .i64 k, .int .i64 mi, .int .i64 mf, .int .i64 xf, .bool pl, .bool rk, .int .i64 0, .int .i64 0] 33))
  obtain ⟨q, hq⟩ : ∃ q, (c == 0) = q := ⟨_, rfl⟩
  rw [hq]
  clear hp hC hsh
  go_enter Tryz.func15, Tryz.ntmps15
  go_wp2_with fail
  go_at_call 49
  refine (HP.out _ hsh1.out).mono ?_
  rintro e w1 ⟨rfl, hb1⟩
  have B1 := (BoxAt.new w #[.int .i64 1, .string ⟨#[]⟩, .bool n, .string s, .int .i64 k, .int .i64 mi, .int .i64 mf, .int .i64 xf, .bool pl, .bool rk, .int .i64 0, .int .i64 0] 33).later hb1
  have z1 := B1.lt
  have b0 := B1.cell 0
  have b1 := B1.cell 1
  have b2 := B1.cell 2
  have b3 := B1.cell 3
  have b4 := B1.cell 4
  have b5 := B1.cell 5
  have b6 := B1.cell 6
  have b7 := B1.cell 7
  have b8 := B1.cell 8
  have b9 := B1.cell 9
  have b10 := B1.cell 10
  have b11 := B1.cell 11
  simp only [List.getElem?_toArray, List.getElem?_cons_zero, List.getElem?_cons_succ] at b0 b1 b2 b3 b4 b5 b6 b7 b8 b9 b10 b11
  have hbel := Lib.hid (below_box hb1)
  clear hb1 B1
  go_wp2_with fail
  go_at_call 20
  refine (HC.out _).mono ?_
  rintro e w2 ⟨rfl, hb2⟩
  go_wp2
  go_ret
  exact ⟨rfl, below_then (below_new hbel.out (Nat.le_refl _) _) (Nat.le_refl _) hb2⟩
set_option maxHeartbeats 2000000 in
theorem category_any (n : Bool) (s : ByteArray) (k : Int) (mi mf xf : Int) (pl rk : Bool) (lang s2 : ByteArray) (k2 : Int) (n2 : Bool) (c : Int) (w : World)
    (hS : ∀ W : World, Calls Tryz.prog 94 #[.agg #[.int .i64 mi, .int .i64 mf, .int .i64 xf, .bool pl, .bool rk], .agg #[.bool n, .string s, .int .i64 k]] W fun e w' => e = .returned (.agg #[.bool n2, .string s2, .int .i64 k2]) ∧ Below W.heap.size W w')
    (hO : rk = false → ∀ W : World, Calls Tryz.prog 96 #[.string lang, .agg #[.bool n2, .string s2, .int .i64 k2]] W fun e w' => e = .returned (.int .i64 c) ∧ Below W.heap.size W w')
    (hR : rk = true → ∀ W : World, Calls Tryz.prog 95 #[.string lang, .agg #[.bool n2, .string s2, .int .i64 k2]] W fun e w' => e = .returned (.int .i64 c) ∧ Below W.heap.size W w') :
    Calls Tryz.prog 50 #[.agg #[.int .i64 1, .string ⟨#[]⟩, .bool n, .string s, .int .i64 k, .int .i64 mi, .int .i64 mf, .int .i64 xf, .bool pl, .bool rk, .int .i64 0, .int .i64 0], .string lang] w fun e w' => e = .returned (.int .i64 c) ∧ Below w.heap.size w w' := by
  have HS := Lib.hid hS
  clear hS
  cases rk
  all_goals
    first | have HO := Lib.hid (hO rfl) | have HO := Lib.hid (hR rfl)
    clear hO hR
    go_enter Tryz.func50, Tryz.ntmps50
    go_wp2_with fail
    go_at_call 94
    refine (HS.out _).mono ?_
    rintro e w1 ⟨rfl, hb1⟩
    have B1 := (BoxAt.new w _ _).later hb1
    have z1 := B1.lt
    have b9 := B1.cell 9
    simp only [List.getElem?_toArray, List.getElem?_cons_zero, List.getElem?_cons_succ] at b9
    have hbel := Lib.hid (below_box hb1)
    clear hb1 B1
    go_wp2_with fail
    first | go_at_call 96 | go_at_call 95
    refine (HO.out _).mono ?_
    rintro e w2 ⟨rfl, hb2⟩
    go_wp2
    go_ret
    exact ⟨rfl, below_then (below_new hbel.out (Nat.le_refl _) _) (Nat.le_refl _) hb2⟩
set_option maxHeartbeats 2000000 in
theorem isNum_no (n : Bool) (s : ByteArray) (k : Int) (mi mf xf : Int) (pl rk : Bool) (key lang wd : ByteArray) (c : Int) (w : World) (hsh : w.ShapedOpen Tryz.prog) (hp : ParseNo key)
    (hK : ∀ W : World, Calls Tryz.prog 50 #[.agg #[.int .i64 1, .string ⟨#[]⟩, .bool n, .string s, .int .i64 k, .int .i64 mi, .int .i64 mf, .int .i64 xf, .bool pl, .bool rk, .int .i64 0, .int .i64 0], .string lang] W fun e w' => e = .returned (.int .i64 c) ∧ Below W.heap.size W w')
    (hW : ∀ W : World, Calls Tryz.prog 51 #[.int .i64 c] W fun e w' => e = .returned (.string wd) ∧ Below W.heap.size W w') :
    Calls Tryz.prog 15 #[.agg #[.int .i64 1, .string ⟨#[]⟩, .bool n, .string s, .int .i64 k, .int .i64 mi, .int .i64 mf, .int .i64 xf, .bool pl, .bool rk, .int .i64 0, .int .i64 0], .string key, .string lang] w fun e w' => e = .returned (.bool (key.toList == wd.toList)) ∧ Below w.heap.size w w' := by
  have HP := Lib.hid hp
  have HK := Lib.hid hK
  have HW := Lib.hid hW
  have hsh1 := Lib.hid (shp_alloc hsh (.cells #[.int .i64 1, .string ⟨#[]⟩, .bool n, .string s, .int .i64 k, .int .i64 mi, .int .i64 mf, .int .i64 xf, .bool pl, .bool rk, .int .i64 0, .int .i64 0] 33))
  obtain ⟨q, hq⟩ : ∃ q, (key.toList == wd.toList) = q := ⟨_, rfl⟩
  rw [hq]
  clear hp hK hW hsh
  go_enter Tryz.func15, Tryz.ntmps15
  go_wp2_with fail
  go_at_call 49
  refine (HP.out _ hsh1.out).mono ?_
  rintro e w1 ⟨rfl, hb1⟩
  have B1 := (BoxAt.new w #[.int .i64 1, .string ⟨#[]⟩, .bool n, .string s, .int .i64 k, .int .i64 mi, .int .i64 mf, .int .i64 xf, .bool pl, .bool rk, .int .i64 0, .int .i64 0] 33).later hb1
  have z1 := B1.lt
  have b0 := B1.cell 0
  have b1 := B1.cell 1
  have b2 := B1.cell 2
  have b3 := B1.cell 3
  have b4 := B1.cell 4
  have b5 := B1.cell 5
  have b6 := B1.cell 6
  have b7 := B1.cell 7
  have b8 := B1.cell 8
  have b9 := B1.cell 9
  have b10 := B1.cell 10
  have b11 := B1.cell 11
  simp only [List.getElem?_toArray, List.getElem?_cons_zero, List.getElem?_cons_succ] at b0 b1 b2 b3 b4 b5 b6 b7 b8 b9 b10 b11
  have hbel := Lib.hid (below_box hb1)
  clear hb1 B1
  go_wp2_with fail
  go_at_call 50
  refine (HK.out _).mono ?_
  rintro e w2 ⟨rfl, hb2⟩
  have hbel2 := Lib.hid (below_then (below_new hbel.out (Nat.le_refl _) (.cells #[.bool false, .string ⟨#[]⟩, .int .i64 0] 23)) (Nat.le_refl _) hb2)
  clear hb2
  go_wp2_with fail
  go_at_call 51
  refine (HW.out _).mono ?_
  rintro e w3 ⟨rfl, hb3⟩
  have hbel3 := Lib.hid (below_then hbel2.out (Nat.le_refl _) hb3)
  clear hb3
  cases q
  all_goals
    go_wp2
    all_goals
      go_ret
      first | exact ⟨rfl, hbel3.out⟩ | exact ⟨ret_bool (by simp_all), hbel3.out⟩
end Go.Proofs.YtglennfjeacpoaaGreatDoor
