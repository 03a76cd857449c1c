/-
  DecCompares: the order of any two, by their digits. Conditions: none.
-/
import Derived.Test.YtjgfijpgoffmlabDoorFixCmp
import Derived.Test.YtjgfijpgoffmlabDoorLawRight
import Derived.Test.YtjgfijpgoffmlabDoorA11
import Derived.Deep.RegionWith
import Derived.Deep.DrawnRows
import Derived.Deep.CutBlock
namespace Go.Proofs.YtjgfijpgoffmlabDoor
open Go.RowKit
attribute [local go_sem ↓] Go.wp_at_zero Go.wp_at_succ

def CompTo (n1 : Bool) (s1 : ByteArray) (k1 : Nat) (n2 : Bool) (s2 : ByteArray) (k2 : Nat) (c : Int) : Prop := ∀ W : World, Calls Tryd.prog 18 #[.agg #[.bool n1, .string s1, .int .i64 k1], .agg #[.bool n2, .string s2, .int .i64 k2]] W fun e w' => e = .returned (.int .i64 c) ∧ Below W.heap.size W w'
theorem CompTo.at_ {n1 n2 : Bool} {s1 s2 : ByteArray} {k1 k2 : Nat} {c : Int} (h : CompTo n1 s1 k1 n2 s2 k2 c) (W : World) : Calls Tryd.prog 18 #[.agg #[.bool n1, .string s1, .int .i64 k1], .agg #[.bool n2, .string s2, .int .i64 k2]] W fun e w' => e = .returned (.int .i64 c) ∧ Below W.heap.size W w' := h W
def ZeroTo (n : Bool) (s : ByteArray) (k : Nat) (z : Bool) : Prop := ∀ W : World, Calls Tryd.prog 19 #[.agg #[.bool n, .string s, .int .i64 k]] W fun e w' => e = .returned (.bool z) ∧ Below W.heap.size W w'
theorem ZeroTo.at_ {n : Bool} {s : ByteArray} {k : Nat} {z : Bool} (h : ZeroTo n s k z) (W : World) : Calls Tryd.prog 19 #[.agg #[.bool n, .string s, .int .i64 k]] W fun e w' => e = .returned (.bool z) ∧ Below W.heap.size W w' := h W
def OfTo (n : Bool) (s : ByteArray) (k : Nat) (A : Nat → Int) : Prop := ∀ W : World, Calls Tryd.prog 16 #[.agg #[.bool n, .string s, .int .i64 k]] W fun e w' => e = .returned (.agg (row 200 A)) ∧ Below W.heap.size W w'
theorem OfTo.at_ {n : Bool} {s : ByteArray} {k : Nat} {A : Nat → Int} (h : OfTo n s k A) (W : World) : Calls Tryd.prog 16 #[.agg #[.bool n, .string s, .int .i64 k]] W fun e w' => e = .returned (.agg (row 200 A)) ∧ Below W.heap.size W w' := h W
def LessTo (A B : Nat → Int) (c : Int) : Prop := ∀ W : World, Calls Tryd.prog 17 #[.agg (row 200 A), .agg (row 200 B)] W fun e w' => e = .returned (.int .i64 c) ∧ Below W.heap.size W w'
theorem LessTo.at_ {A B : Nat → Int} {c : Int} (h : LessTo A B c) (W : World) : Calls Tryd.prog 17 #[.agg (row 200 A), .agg (row 200 B)] W fun e w' => e = .returned (.int .i64 c) ∧ Below W.heap.size W w' := h W

/-- Two numbers of three cells, and the frame. -/
structure Two6 (Z C : Nat) (w W : World) (a0 a1 a2 b0 b1 b2 : Value) : Prop where
  a0 : W.cell? ⟨Z, 0, none⟩ = some a0
  a1 : W.cell? ⟨Z, 1, none⟩ = some a1
  a2 : W.cell? ⟨Z, 2, none⟩ = some a2
  b0 : W.cell? ⟨C, 0, none⟩ = some b0
  b1 : W.cell? ⟨C, 1, none⟩ = some b1
  b2 : W.cell? ⟨C, 2, none⟩ = some b2
  zA : Z + 1 ≤ W.heap.size
  zC : C + 1 ≤ W.heap.size
  hB : Below Z w W
theorem Two6.call {Z C : Nat} {w W w1 : World} {a0 a1 a2 b0 b1 b2 : Value} (h : Two6 Z C w W a0 a1 a2 b0 b1 b2) (hb : Below W.heap.size W w1) : Two6 Z C w w1 a0 a1 a2 b0 b1 b2 := by
  have hz := hb.size
  have zA := h.zA
  have zC := h.zC
  exact ⟨((bcell hb).1 Z 0 (by omega)).trans h.a0, ((bcell hb).1 Z 1 (by omega)).trans h.a1, ((bcell hb).1 Z 2 (by omega)).trans h.a2, ((bcell hb).1 C 0 (by omega)).trans h.b0, ((bcell hb).1 C 1 (by omega)).trans h.b1, ((bcell hb).1 C 2 (by omega)).trans h.b2, by omega, by omega, h.hB.trans (hb.mono (by omega))⟩
theorem Two6.alloc {Z C : Nat} {w W : World} {a0 a1 a2 b0 b1 b2 : Value} (h : Two6 Z C w W a0 a1 a2 b0 b1 b2) (o : Obj) : Two6 Z C w (W.alloc o) a0 a1 a2 b0 b1 b2 := h.call ((Below.refl _ _).alloc (Nat.le_refl _) o)
theorem Two6.drew {Z C : Nat} {w W : World} {a0 a1 a2 b0 b1 b2 : Value} (h : Two6 Z C w W a0 a1 a2 b0 b1 b2) : Two6 Z C w W.drew a0 a1 a2 b0 b1 b2 := h.call (Below.refl _ _).drew
theorem Two6.start {w w1 : World} {t1 t2 : TypeId} {a0 a1 a2 b0 b1 b2 : Value} (hb : Below ((w.alloc (.cells #[a0, a1, a2] t1)).alloc (.cells #[b0, b1, b2] t2)).heap.size ((w.alloc (.cells #[a0, a1, a2] t1)).alloc (.cells #[b0, b1, b2] t2)) w1) : Two6 w.heap.size (w.heap.size + 1) w w1 a0 a1 a2 b0 b1 b2 := by
  refine Two6.call (W := (w.alloc (.cells #[a0, a1, a2] t1)).alloc (.cells #[b0, b1, b2] t2)) ⟨?_, ?_, ?_, ?_, ?_, ?_, by simp, by simp, ((Below.refl _ _).alloc (Nat.le_refl _) _).alloc (by simp) _⟩ hb
  all_goals go_simp

theorem wrap_one (c : Int) (h0 : -1 ≤ c) (h1 : c ≤ 1) : IntKind.i64.wrap (-c) = -c := by
  have : c = -1 ∨ c = 0 ∨ c = 1 := by omega
  rcases this with rfl | rfl | rfl <;> decide
theorem range_call {W w1 : World} {b o : Nat} {cs : List Value} (h : W.rangeAt b o cs) (hb : Below W.heap.size W w1) (hl : b < W.heap.size) : w1.rangeAt b o cs := fun j v hv => by
  rw [(bcell hb).1 b (o + j) hl]
  exact h j v hv
theorem sixrow {Z X : Nat} {A : Nat → Int} {w W w1 : World} {a0 a1 a2 b0 b1 b2 : Value} (hb : Below W.heap.size W w1) (h : W.cell? ⟨Z, 0, none⟩ = some a0 ∧ W.cell? ⟨Z, 1, none⟩ = some a1 ∧ W.cell? ⟨Z, 2, none⟩ = some a2 ∧ W.cell? ⟨Z + 1, 0, none⟩ = some b0 ∧ W.cell? ⟨Z + 1, 1, none⟩ = some b1 ∧ W.cell? ⟨Z + 1, 2, none⟩ = some b2 ∧ W.rangeAt X 0 (row 200 A).toList ∧ Z + 1 ≤ W.heap.size ∧ Z + 1 + 1 ≤ W.heap.size ∧ X + 1 ≤ W.heap.size ∧ Below Z w W) : w1.cell? ⟨Z, 0, none⟩ = some a0 ∧ w1.cell? ⟨Z, 1, none⟩ = some a1 ∧ w1.cell? ⟨Z, 2, none⟩ = some a2 ∧ w1.cell? ⟨Z + 1, 0, none⟩ = some b0 ∧ w1.cell? ⟨Z + 1, 1, none⟩ = some b1 ∧ w1.cell? ⟨Z + 1, 2, none⟩ = some b2 ∧ w1.rangeAt X 0 (row 200 A).toList ∧ Z + 1 ≤ w1.heap.size ∧ Z + 1 + 1 ≤ w1.heap.size ∧ X + 1 ≤ w1.heap.size ∧ Below Z w w1 := by
  obtain ⟨x0, x1, x2, x3, x4, x5, hr, z0, z1, z2, hB⟩ := h
  have hz := hb.size
  exact ⟨((bcell hb).1 Z 0 (by omega)).trans x0, ((bcell hb).1 Z 1 (by omega)).trans x1, ((bcell hb).1 Z 2 (by omega)).trans x2, ((bcell hb).1 (Z + 1) 0 (by omega)).trans x3, ((bcell hb).1 (Z + 1) 1 (by omega)).trans x4, ((bcell hb).1 (Z + 1) 2 (by omega)).trans x5, range_call hr hb (by omega), by omega, by omega, by omega, hB.trans (hb.mono (by omega))⟩

theorem sixrow_below {Z X : Nat} {A : Nat → Int} {w W : World} {a0 a1 a2 b0 b1 b2 : Value} (h : W.cell? ⟨Z, 0, none⟩ = some a0 ∧ W.cell? ⟨Z, 1, none⟩ = some a1 ∧ W.cell? ⟨Z, 2, none⟩ = some a2 ∧ W.cell? ⟨Z + 1, 0, none⟩ = some b0 ∧ W.cell? ⟨Z + 1, 1, none⟩ = some b1 ∧ W.cell? ⟨Z + 1, 2, none⟩ = some b2 ∧ W.rangeAt X 0 (row 200 A).toList ∧ Z + 1 ≤ W.heap.size ∧ Z + 1 + 1 ≤ W.heap.size ∧ X + 1 ≤ W.heap.size ∧ Below Z w W) : Below Z w W := h.2.2.2.2.2.2.2.2.2.2

set_option maxHeartbeats 4000000 in
set_option maxRecDepth 100000 in
theorem compares_core (n1 n2 : Bool) (s1 s2 : ByteArray) (k1 k2 : Int) (w : World) (hsh : w.ShapedOpen Tryd.prog) (hs1 : s1.size ≤ 9223372036854775807) (lo1 : -9223372036854775808 ≤ k1) (hi1 : k1 ≤ 9223372036854775807) (hs2 : s2.size ≤ 9223372036854775807) (lo2 : -9223372036854775808 ≤ k2) (hi2 : k2 ≤ 9223372036854775807)
    (ht : ∀ m1 m2 : Nat, k1 = m1 → k2 = m2 → Num s1.data.toList m1 → Num s2.data.toList m2 → ∃ A B : Nat → Int, ∃ c c1 c2 : Int, ∃ z1 z2 : Bool, OfTo n1 s1 m1 A ∧ OfTo n2 s2 m2 B ∧ LessTo A B c ∧ eqF A (fun _ => 0) 200 = z1 ∧ eqF B (fun _ => 0) 200 = z2 ∧ CompTo n1 s1 m1 n2 s2 m2 c1 ∧ CompTo n2 s2 m2 n1 s1 m1 c2 ∧ ZeroTo n1 s1 m1 z1 ∧
      -1 ≤ c ∧ c ≤ 1 ∧ c1 = (if (n1 && !z1) = true then (if (n2 && !z2) = true then -c else -1) else (if (n2 && !z2) = true then 1 else c)) ∧ c2 = -c1) :
    Calls Tryd.prog 4 #[.agg #[.bool n1, .string s1, .int .i64 k1], .agg #[.bool n2, .string s2, .int .i64 k2]] w fun e w' => e = .returned (.bool true) ∧ Below w.heap.size w w' := by
  have Ht := Lib.hid ht
  have hrs := row_size 200
  have hz := fixZero
  have hq := fix_eq
  clear ht
  go_enter Tryd.func4, Tryd.ntmps4
  go_wp2_with fail
  go_at_call 8
  refine (head_any _ (shp_alloc (shp_alloc hsh _) _)).mono ?_
  rintro e wh ⟨rfl, hbh⟩
  have K := Two6.start hbh
  clear hbh hsh
  obtain ⟨f0, f1, f2, f3, f4, f5, zA, zC, hB⟩ := K
  go_wp2_with fail
  go_at_call 15
  refine (lawRight_any n1 s1 k1 _ hs1 lo1 hi1).mono ?_
  rintro e wr1 ⟨hr, hb⟩
  have K := Two6.call ⟨f0, f1, f2, f3, f4, f5, zA, zC, hB⟩ hb
  clear f0 f1 f2 f3 f4 f5 zA zC hB hb
  obtain ⟨f0, f1, f2, f3, f4, f5, zA, zC, hB⟩ := K
  rcases hr with rfl | ⟨m1, rfl, hN1, rfl⟩
  · go_wp2
    go_ret
    exact ⟨rfl, hB⟩
  go_wp2_with fail
  go_at_call 15
  refine (lawRight_any n2 s2 k2 _ hs2 lo2 hi2).mono ?_
  rintro e wr2 ⟨hr, hb⟩
  have K := Two6.call ⟨f0, f1, f2, f3, f4, f5, zA, zC, hB⟩ hb
  clear f0 f1 f2 f3 f4 f5 zA zC hB hb
  obtain ⟨f0, f1, f2, f3, f4, f5, zA, zC, hB⟩ := K
  rcases hr with rfl | ⟨m2, rfl, hN2, rfl⟩
  · go_wp2
    go_ret
    exact ⟨rfl, hB⟩
  obtain ⟨A, B, c, c1, c2, z1, z2, oA, oB, hl, e1, e2, hc1, hc2, hz1, r0, r1, g1, g2⟩ := Ht.out m1 m2 rfl rfl hN1 hN2
  clear Ht
  have E1 := Lib.hid e1
  have E2 := Lib.hid e2
  have G1 := Lib.hid g1
  have G2 := Lib.hid g2
  have N1 := Lib.hid hN1
  have N2 := Lib.hid hN2
  clear e1 e2 g1 g2 hN1 hN2
  go_wp2_with fail
  go_at_call 16
  refine (oA.at_ _).mono ?_
  rintro e wx ⟨rfl, hb⟩
  have K := Two6.call ⟨f0, f1, f2, f3, f4, f5, zA, zC, hB⟩ hb
  clear f0 f1 f2 f3 f4 f5 zA zC hB hb
  obtain ⟨f0, f1, f2, f3, f4, f5, zA, zC, hB⟩ := K
  go_wp2
  rw [fix_storeNew _ _ _ _ _ rfl]
  simp only [Result.andThen]
  rw [Oper.upon_skip]
  have K := (Two6.mk f0 f1 f2 f3 f4 f5 zA zC hB).alloc (.cells (row 200 A) 31)
  have KA := RowF.new wx A 31
  have yA : wx.heap.size < (wx.alloc (.cells (row 200 A) 31)).heap.size := by simp
  generalize wx.heap.size = X at *
  generalize wx.alloc (.cells (row 200 A) 31) = wx2 at *
  clear f0 f1 f2 f3 f4 f5 zA zC hB
  obtain ⟨f0, f1, f2, f3, f4, f5, zA, zC, hB⟩ := K
  go_wp2_with fail
  go_at_call 16
  refine (oB.at_ _).mono ?_
  rintro e wy ⟨rfl, hb⟩
  have K := Two6.call ⟨f0, f1, f2, f3, f4, f5, zA, zC, hB⟩ hb
  replace KA := KA.call hb yA
  replace yA : X < wy.heap.size := Nat.lt_of_lt_of_le yA hb.size
  clear f0 f1 f2 f3 f4 f5 zA zC hB hb
  obtain ⟨f0, f1, f2, f3, f4, f5, zA, zC, hB⟩ := K
  go_wp2
  rw [fix_storeNew _ _ _ _ _ rfl]
  simp only [Result.andThen]
  rw [Oper.upon_skip]
  have K := (Two6.mk f0 f1 f2 f3 f4 f5 zA zC hB).alloc (.cells (row 200 B) 31)
  have KB := RowF.new wy B 31
  replace KA := KA.alloc yA (.cells (row 200 B) 31)
  have yB : wy.heap.size < (wy.alloc (.cells (row 200 B) 31)).heap.size := by simp
  replace yA : X < (wy.alloc (.cells (row 200 B) 31)).heap.size := by simp; omega
  generalize wy.heap.size = Y at *
  generalize wy.alloc (.cells (row 200 B) 31) = wy2 at *
  clear f0 f1 f2 f3 f4 f5 zA zC hB
  obtain ⟨f0, f1, f2, f3, f4, f5, zA, zC, hB⟩ := K
  go_wp2
  refine wp_fix_load _ rfl _ rfl _ KA ?_
  go_wp2
  refine wp_fix_load _ rfl _ rfl _ KB ?_
  go_wp2_with fail
  go_at_call 17
  refine (hl.at_ _).mono ?_
  rintro e wz ⟨rfl, hb⟩
  have K := Two6.call ⟨f0, f1, f2, f3, f4, f5, zA, zC, hB⟩ hb
  replace KA := KA.call hb yA
  replace KB := KB.call hb yB
  replace yA : X < wz.heap.size := Nat.lt_of_lt_of_le yA hb.size
  replace yB : Y < wz.heap.size := Nat.lt_of_lt_of_le yB hb.size
  clear f0 f1 f2 f3 f4 f5 zA zC hB hb
  obtain ⟨f0, f1, f2, f3, f4, f5, zA, zC, hB⟩ := K
  -- THE WAYS
  have yX : X + 1 ≤ wz.heap.size := yA
  go_upto_region 8 with fail
  go_cut [8] from 28 (fun v wr => wr = wz ∧ v = .bool (n1 && !z1))
  case first =>
    have e1 := E1.out
    cases n1
    · go_wp2
      go_meet
      case rel => exact ⟨rfl, rfl⟩
    · go_wp2
      refine wp_fix_load _ rfl _ rfl _ KA ?_
      go_wp2
      go_meet
      case rel => exact ⟨rfl, rfl⟩
  obtain ⟨rfl, rfl⟩ := hcut
  go_upto_region 9 with fail
  go_cut [9] from 28 (fun v wr => wr = wc ∧ v = .bool (n2 && !z2))
  case first =>
    have e2 := E2.out
    cases n2
    · go_wp2
      go_meet
      case rel => exact ⟨rfl, rfl⟩
    · go_wp2
      refine wp_fix_load _ rfl _ rfl _ KB ?_
      go_wp2
      go_meet
      case rel => exact ⟨rfl, rfl⟩
  obtain ⟨rfl, rfl⟩ := hcut
  go_upto_block 0 with fail
  go_cut [10] from 28 (fun v wr => wr = wc ∧ v = .int .i64 c1)
  case first =>
    have g1 := G1.out
    generalize (n1 && !z1) = d1 at *
    generalize (n2 && !z2) = d2 at *
    cases d1 <;> cases d2
    all_goals
      go_wp2
      go_meet
      case rel => exact ⟨rfl, by rw [g1]; rfl⟩
  obtain ⟨rfl, rfl⟩ := hcut
  have e1 := E1.out
  have g2 := G2.out
  have b0 : -1 ≤ c1 := by
    have := G1.out
    (repeat' split at this) <;> omega
  have b1 : c1 ≤ 1 := by
    have := G1.out
    (repeat' split at this) <;> omega
  have hw : IntKind.i64.wrap (-c1) = c2 := by rw [g2]; exact wrap_one c1 b0 b1
  clear g2 G1 E2 E1 G2 KB yA yB
  have KR := KA.range
  have hu31 := fixUnder
  have hi31 : (Tryd.prog.info? 31).map (·.size) = some (row 200 A).toList.length := by rw [fixSize, Array.length_toList, row_size]
  have hta : (row 200 A).toList.toArray = row 200 A := Array.toArray_toList
  clear KA
  go_upto_region 17 with fail
  go_region_held3 (fun w' => w'.cell? ⟨w.heap.size, 0, none⟩ = some (.bool n1) ∧ w'.cell? ⟨w.heap.size, 1, none⟩ = some (.string s1) ∧ w'.cell? ⟨w.heap.size, 2, none⟩ = some (.int .i64 m1) ∧ w'.cell? ⟨w.heap.size + 1, 0, none⟩ = some (.bool n2) ∧ w'.cell? ⟨w.heap.size + 1, 1, none⟩ = some (.string s2) ∧ w'.cell? ⟨w.heap.size + 1, 2, none⟩ = some (.int .i64 m2) ∧ w'.rangeAt X 0 (row 200 A).toList ∧ w.heap.size + 1 ≤ w'.heap.size ∧ w.heap.size + 1 + 1 ≤ w'.heap.size ∧ X + 1 ≤ w'.heap.size ∧ Below w.heap.size w w')
    (first | (exact sixrow (by assumption) (by assumption)) | assumption | (exact ⟨f0, f1, f2, f3, f4, f5, KR, zA, zC, yX, hB⟩) | (exact ⟨by simpa using f0, by simpa using f1, by simpa using f2, by simpa using f3, by simpa using f4, by simpa using f5, (World.rangeAt_drew _ _ _ _).2 KR, by simpa using zA, by simpa using zC, by simpa using yX, hB.drew⟩) | go_keep)
    (first | (go_at_call 18; (with_reducible refine (hc1.at_ _).mono ?_); rintro e x1 ⟨rfl, hy1⟩) | (go_at_call 18; (with_reducible refine (hc2.at_ _).mono ?_); rintro e x2 ⟨rfl, hy2⟩) | (go_at_call 19; (with_reducible refine (hz1.at_ _).mono ?_); rintro e x3 ⟨rfl, hy3⟩))
  go_wp2
  go_ret
  exact ⟨rfl, sixrow_below (by assumption)⟩

theorem cmp_values (n1 n2 : Bool) (l1 l2 : List UInt8) (k1 k2 : Nat) (h1 : l1.all digB = true) (h2 : l2.all digB = true) (hk1 : k1 ≤ l1.length) (hk2 : k2 ≤ l2.length) :
    decC n1 l1 k1 n2 l2 k2 = (if (n1 && !zeroB l1) = true then (if (n2 && !zeroB l2) = true then -sizeC l1 k1 l2 k2 else -1) else (if (n2 && !zeroB l2) = true then 1 else sizeC l1 k1 l2 k2)) ∧ decC n2 l2 k2 n1 l1 k1 = -decC n1 l1 k1 n2 l2 k2 := by
  have hs := (sizeC_range l1 l2 k1 k2 h1 h2 hk1 hk2).1
  unfold decC cmpV
  rw [hs]
  cases (n1 && !zeroB l1) <;> cases (n2 && !zeroB l2) <;> simp
theorem lawCompares (n1 n2 : Bool) (s1 s2 : ByteArray) (k1 k2 : Int) (w : World) (hsh : w.ShapedOpen Tryd.prog) (hs1 : s1.size ≤ 9223372036854775807) (lo1 : -9223372036854775808 ≤ k1) (hi1 : k1 ≤ 9223372036854775807) (hs2 : s2.size ≤ 9223372036854775807) (lo2 : -9223372036854775808 ≤ k2) (hi2 : k2 ≤ 9223372036854775807) :
    Calls Tryd.prog 4 #[.agg #[.bool n1, .string s1, .int .i64 k1], .agg #[.bool n2, .string s2, .int .i64 k2]] w fun e w' => e = .returned (.bool true) ∧ Below w.heap.size w w' := by
  refine compares_core n1 n2 s1 s2 k1 k2 w hsh hs1 lo1 hi1 hs2 lo2 hi2 ?_
  rintro m1 m2 rfl rfl hN1 hN2
  have a1 := hN1.le
  have a2 := hN2.le
  have t1 := hN1.lt
  have t2 := hN2.lt
  have q1 : s1.size ≤ 60 := by rw [size_data] at a1; exact a1
  have q2 : s2.size ≤ 60 := by rw [size_data] at a2; exact a2
  have p1 : m1 ≤ s1.size := by rw [size_data] at t1; omega
  have p2 : m2 ≤ s2.size := by rw [size_data] at t2; omega
  have x1 : s1.size ≤ maxLen := by unfold maxLen; omega
  have x2 : s2.size ≤ maxLen := by unfold maxLen; omega
  have hv := cmp_values n1 n2 s1.data.toList s2.data.toList m1 m2 hN1.digs hN2.digs (by omega) (by omega)
  have hr := sizeC_range s1.data.toList s2.data.toList m1 m2 hN1.digs hN2.digs (by omega) (by omega)
  refine ⟨fixF s1.data.toList m1, fixF s2.data.toList m2, sizeC s1.data.toList m1 s2.data.toList m2, decC n1 s1.data.toList m1 n2 s2.data.toList m2, decC n2 s2.data.toList m2 n1 s1.data.toList m1, zeroB s1.data.toList, zeroB s2.data.toList,
    fun W => of_any n1 s1 m1 W p1 (by omega) (by omega) hN1.digs, fun W => of_any n2 s2 m2 W p2 (by omega) (by omega) hN2.digs, fun W => ?_,
    fix_zero _ _ hN1.digs (by omega) (by omega), fix_zero _ _ hN2.digs (by omega) (by omega), fun W => compare_any n1 n2 s1 s2 m1 m2 W x1 x2 p1 p2, fun W => compare_any n2 n1 s2 s1 m2 m1 W x2 x1 p2 p1, fun W => zero_any n1 s1 m1 W x1, hr.2.1, hr.2.2, hv.1, hv.2⟩
  have := less_any (fixF s1.data.toList m1) (fixF s2.data.toList m2) W
  rw [fix_cmp _ _ _ _ hN1.digs hN2.digs (by omega) (by omega) (by omega) (by omega)] at this
  exact this
end Go.Proofs.YtjgfijpgoffmlabDoor
