/-
  DecOrders: what is less than something that is less than a third is less than that; what is rounded stands as it did. Conditions: none.
-/
import Derived.Test.YtggnmkagkdlgnacDoorA11
import Derived.Test.YtggnmkagkdlgnacDoorRoundMath
import Derived.Test.YtggnmkagkdlgnacDoorLawRight
import Derived.Deep.RegionWith
import Derived.Deep.DrawnRows
namespace Go.Proofs.YtggnmkagkdlgnacDoor
open Go.RowKit
attribute [local go_sem ↓] Go.wp_at_zero Go.wp_at_succ

theorem box9 {A B C Z : Nat} {w W w1 : World} {a0 a1 a2 b0 b1 b2 c0 c1 c2 : Value} (hb1 : Below W.heap.size W w1)
    (h : W.cell? ⟨A, 0, none⟩ = some (a0) ∧ W.cell? ⟨A, 1, none⟩ = some (a1) ∧ W.cell? ⟨A, 2, none⟩ = some (a2) ∧ W.cell? ⟨B, 0, none⟩ = some (b0) ∧ W.cell? ⟨B, 1, none⟩ = some (b1) ∧ W.cell? ⟨B, 2, none⟩ = some (b2) ∧ W.cell? ⟨C, 0, none⟩ = some (c0) ∧ W.cell? ⟨C, 1, none⟩ = some (c1) ∧ W.cell? ⟨C, 2, none⟩ = some (c2) ∧ A < W.heap.size ∧ B < W.heap.size ∧ C < W.heap.size ∧ Z ≤ W.heap.size ∧ Below Z w W) :
    w1.cell? ⟨A, 0, none⟩ = some (a0) ∧ w1.cell? ⟨A, 1, none⟩ = some (a1) ∧ w1.cell? ⟨A, 2, none⟩ = some (a2) ∧ w1.cell? ⟨B, 0, none⟩ = some (b0) ∧ w1.cell? ⟨B, 1, none⟩ = some (b1) ∧ w1.cell? ⟨B, 2, none⟩ = some (b2) ∧ w1.cell? ⟨C, 0, none⟩ = some (c0) ∧ w1.cell? ⟨C, 1, none⟩ = some (c1) ∧ w1.cell? ⟨C, 2, none⟩ = some (c2) ∧ A < w1.heap.size ∧ B < w1.heap.size ∧ C < w1.heap.size ∧ Z ≤ w1.heap.size ∧ Below Z w w1 := by
  obtain ⟨f0, f1, f2, f3, f4, f5, f6, f7, f8, zA, zB, zC, zZ, hB⟩ := h
  have hz := hb1.size
  exact ⟨(hb1.cell (p := ⟨A, 0, none⟩) zA).trans f0, (hb1.cell (p := ⟨A, 1, none⟩) zA).trans f1, (hb1.cell (p := ⟨A, 2, none⟩) zA).trans f2, (hb1.cell (p := ⟨B, 0, none⟩) zB).trans f3, (hb1.cell (p := ⟨B, 1, none⟩) zB).trans f4, (hb1.cell (p := ⟨B, 2, none⟩) zB).trans f5, (hb1.cell (p := ⟨C, 0, none⟩) zC).trans f6, (hb1.cell (p := ⟨C, 1, none⟩) zC).trans f7, (hb1.cell (p := ⟨C, 2, none⟩) zC).trans f8, by omega, by omega, by omega, by omega, hB.trans (hb1.mono zZ)⟩
theorem box9_id {A B C Z : Nat} {w W : World} {a0 a1 a2 b0 b1 b2 c0 c1 c2 : Value}
    (h : W.cell? ⟨A, 0, none⟩ = some (a0) ∧ W.cell? ⟨A, 1, none⟩ = some (a1) ∧ W.cell? ⟨A, 2, none⟩ = some (a2) ∧ W.cell? ⟨B, 0, none⟩ = some (b0) ∧ W.cell? ⟨B, 1, none⟩ = some (b1) ∧ W.cell? ⟨B, 2, none⟩ = some (b2) ∧ W.cell? ⟨C, 0, none⟩ = some (c0) ∧ W.cell? ⟨C, 1, none⟩ = some (c1) ∧ W.cell? ⟨C, 2, none⟩ = some (c2) ∧ A < W.heap.size ∧ B < W.heap.size ∧ C < W.heap.size ∧ Z ≤ W.heap.size ∧ Below Z w W) :
    W.cell? ⟨A, 0, none⟩ = some (a0) ∧ W.cell? ⟨A, 1, none⟩ = some (a1) ∧ W.cell? ⟨A, 2, none⟩ = some (a2) ∧ W.cell? ⟨B, 0, none⟩ = some (b0) ∧ W.cell? ⟨B, 1, none⟩ = some (b1) ∧ W.cell? ⟨B, 2, none⟩ = some (b2) ∧ W.cell? ⟨C, 0, none⟩ = some (c0) ∧ W.cell? ⟨C, 1, none⟩ = some (c1) ∧ W.cell? ⟨C, 2, none⟩ = some (c2) ∧ A < W.heap.size ∧ B < W.heap.size ∧ C < W.heap.size ∧ Z ≤ W.heap.size ∧ Below Z w W := h
theorem box9_below {A B C Z : Nat} {w W : World} {a0 a1 a2 b0 b1 b2 c0 c1 c2 : Value}
    (h : W.cell? ⟨A, 0, none⟩ = some (a0) ∧ W.cell? ⟨A, 1, none⟩ = some (a1) ∧ W.cell? ⟨A, 2, none⟩ = some (a2) ∧ W.cell? ⟨B, 0, none⟩ = some (b0) ∧ W.cell? ⟨B, 1, none⟩ = some (b1) ∧ W.cell? ⟨B, 2, none⟩ = some (b2) ∧ W.cell? ⟨C, 0, none⟩ = some (c0) ∧ W.cell? ⟨C, 1, none⟩ = some (c1) ∧ W.cell? ⟨C, 2, none⟩ = some (c2) ∧ A < W.heap.size ∧ B < W.heap.size ∧ C < W.heap.size ∧ Z ≤ W.heap.size ∧ Below Z w W) : Below Z w W := h.2.2.2.2.2.2.2.2.2.2.2.2.2
theorem box9_start {w w1 : World} {t1 t2 t3 : TypeId} {a0 a1 a2 b0 b1 b2 c0 c1 c2 : Value} (hb1 : Below (((w.alloc (.cells #[a0, a1, a2] t1)).alloc (.cells #[b0, b1, b2] t2)).alloc (.cells #[c0, c1, c2] t3)).heap.size (((w.alloc (.cells #[a0, a1, a2] t1)).alloc (.cells #[b0, b1, b2] t2)).alloc (.cells #[c0, c1, c2] t3)) w1) :
    w1.cell? ⟨w.heap.size, 0, none⟩ = some (a0) ∧ w1.cell? ⟨w.heap.size, 1, none⟩ = some (a1) ∧ w1.cell? ⟨w.heap.size, 2, none⟩ = some (a2) ∧ w1.cell? ⟨w.heap.size + 1, 0, none⟩ = some (b0) ∧ w1.cell? ⟨w.heap.size + 1, 1, none⟩ = some (b1) ∧ w1.cell? ⟨w.heap.size + 1, 2, none⟩ = some (b2) ∧ w1.cell? ⟨w.heap.size + 2, 0, none⟩ = some (c0) ∧ w1.cell? ⟨w.heap.size + 2, 1, none⟩ = some (c1) ∧ w1.cell? ⟨w.heap.size + 2, 2, none⟩ = some (c2) ∧ w.heap.size < w1.heap.size ∧ w.heap.size + 1 < w1.heap.size ∧ w.heap.size + 2 < w1.heap.size ∧ w.heap.size ≤ w1.heap.size ∧ Below w.heap.size w w1 := by
  refine box9 hb1 ⟨?_, ?_, ?_, ?_, ?_, ?_, ?_, ?_, ?_, by simp <;> omega, by simp <;> omega, by simp <;> omega, by simp <;> omega, (((Below.refl _ _).alloc (Nat.le_refl _) _).alloc (by simp) _).alloc (by simp; omega) _⟩
  all_goals first | rfl | (go_simp; done) | (simp [World.cell?, World.alloc, Array.getElem_push, Array.getElem?_push]; done) | skip

def RoundTo (n : Bool) (s : ByteArray) (k : Nat) (x : Int) (R : ByteArray) (M : Nat) : Prop := ∀ W : World, Calls Tryd.prog 11 #[.agg #[.bool n, .string s, .int .i64 k], .int .i64 x] W fun e w' => e = .returned (.agg #[.bool n, .string R, .int .i64 M]) ∧ Below W.heap.size W w'
theorem RoundTo.at_ {n : Bool} {s : ByteArray} {k : Nat} {x : Int} {R : ByteArray} {M : Nat} (h : RoundTo n s k x R M) (W : World) : Calls Tryd.prog 11 #[.agg #[.bool n, .string s, .int .i64 k], .int .i64 x] W fun e w' => e = .returned (.agg #[.bool n, .string R, .int .i64 M]) ∧ Below W.heap.size W w' := h W
def CompTo (n1 : Bool) (s1 : ByteArray) (k1 : Nat) (n2 : Bool) (s2 : ByteArray) (k2 : Nat) (c : Int) : Prop := ∀ W : World, Calls Tryd.prog 10 #[.agg #[.bool n1, .string s1, .int .i64 k1], .agg #[.bool n2, .string s2, .int .i64 k2]] W fun e w' => e = .returned (.int .i64 c) ∧ Below W.heap.size W w'
theorem CompTo.at_ {n1 n2 : Bool} {s1 s2 : ByteArray} {k1 k2 : Nat} {c : Int} (h : CompTo n1 s1 k1 n2 s2 k2 c) (W : World) : Calls Tryd.prog 10 #[.agg #[.bool n1, .string s1, .int .i64 k1], .agg #[.bool n2, .string s2, .int .i64 k2]] W fun e w' => e = .returned (.int .i64 c) ∧ Below W.heap.size W w' := h W

def TrueTo (n : Bool) (s : ByteArray) (k : Nat) : Prop := ∀ W : World, Calls Tryd.prog 9 #[.agg #[.bool n, .string s, .int .i64 k]] W fun e w' => e = .returned (.bool true) ∧ Below W.heap.size W w'
theorem TrueTo.at_ {n : Bool} {s : ByteArray} {k : Nat} (h : TrueTo n s k) (W : World) : Calls Tryd.prog 9 #[.agg #[.bool n, .string s, .int .i64 k]] W fun e w' => e = .returned (.bool true) ∧ Below W.heap.size W w' := h W

set_option maxHeartbeats 4000000 in
set_option maxRecDepth 100000 in
theorem orders_core (n1 n2 n3 : Bool) (s1 s2 s3 : ByteArray) (k1 k2 k3 : Int) (x : Int) (w : World) (hsh : w.ShapedOpen Tryd.prog) (hx0 : -9223372036854775808 ≤ x) (hx1 : x ≤ 9223372036854775807) (hs1 : s1.size ≤ 9223372036854775807) (lo1 : -9223372036854775808 ≤ k1) (hi1 : k1 ≤ 9223372036854775807) (hs2 : s2.size ≤ 9223372036854775807) (lo2 : -9223372036854775808 ≤ k2) (hi2 : k2 ≤ 9223372036854775807) (hs3 : s3.size ≤ 9223372036854775807) (lo3 : -9223372036854775808 ≤ k3) (hi3 : k3 ≤ 9223372036854775807)
    (ht : ∀ k1' k2' k3' : Nat, k1 = k1' → k2 = k2' → k3 = k3' → Num s1.data.toList k1' → Num s2.data.toList k2' → Num s3.data.toList k3' → ∃ c12 c23 c13 c4 : Int, ∃ R1 R2 : ByteArray, ∃ M1 M2 : Nat, CompTo n1 s1 k1' n2 s2 k2' c12 ∧ CompTo n2 s2 k2' n3 s3 k3' c23 ∧ CompTo n1 s1 k1' n3 s3 k3' c13 ∧ RoundTo n1 s1 k1' x R1 M1 ∧ RoundTo n2 s2 k2' x R2 M2 ∧ CompTo n1 R1 M1 n2 R2 M2 c4 ∧ (c12 ≤ 0 → c23 ≤ 0 → c13 ≤ 0) ∧ (c12 ≤ 0 → c4 ≤ 0)) :
    Calls Tryd.prog 4 #[.agg #[.bool n1, .string s1, .int .i64 k1], .agg #[.bool n2, .string s2, .int .i64 k2], .agg #[.bool n3, .string s3, .int .i64 k3], .int .i64 x] w fun e w' => e = .returned (.bool true) ∧ Below w.heap.size w w' := by
  have Ht := Lib.hid ht
  clear ht
  go_enter Tryd.func4, Tryd.ntmps4
  go_wp2_with fail
  go_at_call 6
  refine (head_any _ (shp_alloc (shp_alloc (shp_alloc hsh _) _) _)).mono ?_
  rintro e wh ⟨rfl, hbh⟩
  have K := box9_start hbh
  clear hbh
  obtain ⟨f0, f1, f2, f3, f4, f5, f6, f7, f8, zA, zB, zC, zZ, hB⟩ := box9_id K
  go_wp2_with fail
  go_at_call 9
  refine (lawRight_any n1 s1 k1 _ hs1 lo1 hi1).mono ?_
  rintro e wr1 ⟨hr, hb⟩
  clear f0 f1 f2 f3 f4 f5 f6 f7 f8 zA zB zC zZ hB
  replace K := box9 hb K
  clear hb
  obtain ⟨f0, f1, f2, f3, f4, f5, f6, f7, f8, zA, zB, zC, zZ, hB⟩ := box9_id K
  rcases hr with rfl | ⟨m1, rfl, hN1, rfl⟩
  · go_wp2
    go_ret
    exact ⟨rfl, hB⟩
  go_wp2_with fail
  go_at_call 9
  refine (lawRight_any n2 s2 k2 _ hs2 lo2 hi2).mono ?_
  rintro e wr2 ⟨hr, hb⟩
  clear f0 f1 f2 f3 f4 f5 f6 f7 f8 zA zB zC zZ hB
  replace K := box9 hb K
  clear hb
  obtain ⟨f0, f1, f2, f3, f4, f5, f6, f7, f8, zA, zB, zC, zZ, hB⟩ := box9_id K
  rcases hr with rfl | ⟨m2, rfl, hN2, rfl⟩
  · go_wp2
    go_ret
    exact ⟨rfl, hB⟩
  go_wp2_with fail
  go_at_call 9
  refine (lawRight_any n3 s3 k3 _ hs3 lo3 hi3).mono ?_
  rintro e wr3 ⟨hr, hb⟩
  clear f0 f1 f2 f3 f4 f5 f6 f7 f8 zA zB zC zZ hB
  replace K := box9 hb K
  clear hb
  obtain ⟨f0, f1, f2, f3, f4, f5, f6, f7, f8, zA, zB, zC, zZ, hB⟩ := box9_id K
  rcases hr with rfl | ⟨m3, rfl, hN3, rfl⟩
  · go_wp2
    go_ret
    exact ⟨rfl, hB⟩
  by_cases hx : 40 < x
  · go_wp2
    go_ret
    exact ⟨rfl, hB⟩
  obtain ⟨c12, c23, c13, c4, R1, R2, M1, M2, h12, h23, h13, hr1, hr2, h4, hA, hD⟩ := Ht.out m1 m2 m3 rfl rfl rfl hN1 hN2 hN3
  have HA := Lib.hid hA
  have HD := Lib.hid hD
  clear hA hD Ht
  have g1' : (c12 ≤ 0 ∨ 0 < c12) := by omega
  by_cases g1 : c12 ≤ 0
  · have g4 := HD.out g1
    by_cases g2 : c23 ≤ 0
    · have g3 := HA.out g1 g2
      have g3' : ¬ 0 < c13 := by omega
      have g1'' : ¬ 0 < c12 := by omega
      have g1d : decide (0 < c12) = false := decide_eq_false g1''
      have g1e : decide (c12 > 0) = false := decide_eq_false g1''
      clear g1' HA HD hsh
      go_wp2_with fail
      go_at_call 10
      refine (h12.at_ _).mono ?_
      rintro e v1 ⟨rfl, hb⟩
      clear f0 f1 f2 f3 f4 f5 f6 f7 f8 zA zB zC zZ hB
      replace K := box9 hb K
      clear hb
      obtain ⟨f0, f1, f2, f3, f4, f5, f6, f7, f8, zA, zB, zC, zZ, hB⟩ := box9_id K
      go_wp2_with fail
      go_at_call 10
      refine (h23.at_ _).mono ?_
      rintro e v2 ⟨rfl, hb⟩
      clear f0 f1 f2 f3 f4 f5 f6 f7 f8 zA zB zC zZ hB
      replace K := box9 hb K
      clear hb
      obtain ⟨f0, f1, f2, f3, f4, f5, f6, f7, f8, zA, zB, zC, zZ, hB⟩ := box9_id K
      go_wp2_with fail
      go_at_call 10
      refine (h13.at_ _).mono ?_
      rintro e v3 ⟨rfl, hb⟩
      clear f0 f1 f2 f3 f4 f5 f6 f7 f8 zA zB zC zZ hB
      replace K := box9 hb K
      clear hb
      obtain ⟨f0, f1, f2, f3, f4, f5, f6, f7, f8, zA, zB, zC, zZ, hB⟩ := box9_id K
      go_wp2_with fail
      go_region_held3 (fun w' => w'.cell? ⟨w.heap.size, 0, none⟩ = some (.bool n1) ∧ w'.cell? ⟨w.heap.size, 1, none⟩ = some (.string s1) ∧ w'.cell? ⟨w.heap.size, 2, none⟩ = some (.int .i64 m1) ∧ w'.cell? ⟨w.heap.size + 1, 0, none⟩ = some (.bool n2) ∧ w'.cell? ⟨w.heap.size + 1, 1, none⟩ = some (.string s2) ∧ w'.cell? ⟨w.heap.size + 1, 2, none⟩ = some (.int .i64 m2) ∧ w'.cell? ⟨w.heap.size + 2, 0, none⟩ = some (.bool n3) ∧ w'.cell? ⟨w.heap.size + 2, 1, none⟩ = some (.string s3) ∧ w'.cell? ⟨w.heap.size + 2, 2, none⟩ = some (.int .i64 m3) ∧ w.heap.size < w'.heap.size ∧ w.heap.size + 1 < w'.heap.size ∧ w.heap.size + 2 < w'.heap.size ∧ w.heap.size ≤ w'.heap.size ∧ Below w.heap.size w w')
        (first | (exact box9 (by assumption) (by assumption)) | assumption | (exact ⟨f0, f1, f2, f3, f4, f5, f6, f7, f8, zA, zB, zC, zZ, hB.drew⟩) | go_keep)
        (first | (go_at_call 10; (with_reducible refine (h12.at_ _).mono ?_); rintro e x1 ⟨rfl, hy1⟩) | (go_at_call 11; (with_reducible refine (hr1.at_ _).mono ?_); rintro e x2 ⟨rfl, hy2⟩) | (go_at_call 11; (with_reducible refine (hr2.at_ _).mono ?_); rintro e x3 ⟨rfl, hy3⟩) | (go_at_call 10; (with_reducible refine (h4.at_ _).mono ?_); rintro e x4 ⟨rfl, hy4⟩))
      go_wp2
      go_ret
      exact ⟨rfl, box9_below (by assumption)⟩
    · have g1'' : ¬ 0 < c12 := by omega
      have g1d : decide (0 < c12) = false := decide_eq_false g1''
      have g1e : decide (c12 > 0) = false := decide_eq_false g1''
      clear g1' HA HD hsh
      go_wp2_with fail
      go_at_call 10
      refine (h12.at_ _).mono ?_
      rintro e v1 ⟨rfl, hb⟩
      clear f0 f1 f2 f3 f4 f5 f6 f7 f8 zA zB zC zZ hB
      replace K := box9 hb K
      clear hb
      obtain ⟨f0, f1, f2, f3, f4, f5, f6, f7, f8, zA, zB, zC, zZ, hB⟩ := box9_id K
      go_wp2_with fail
      go_at_call 10
      refine (h23.at_ _).mono ?_
      rintro e v2 ⟨rfl, hb⟩
      clear f0 f1 f2 f3 f4 f5 f6 f7 f8 zA zB zC zZ hB
      replace K := box9 hb K
      clear hb
      obtain ⟨f0, f1, f2, f3, f4, f5, f6, f7, f8, zA, zB, zC, zZ, hB⟩ := box9_id K
      go_wp2_with fail
      go_region_held3 (fun w' => w'.cell? ⟨w.heap.size, 0, none⟩ = some (.bool n1) ∧ w'.cell? ⟨w.heap.size, 1, none⟩ = some (.string s1) ∧ w'.cell? ⟨w.heap.size, 2, none⟩ = some (.int .i64 m1) ∧ w'.cell? ⟨w.heap.size + 1, 0, none⟩ = some (.bool n2) ∧ w'.cell? ⟨w.heap.size + 1, 1, none⟩ = some (.string s2) ∧ w'.cell? ⟨w.heap.size + 1, 2, none⟩ = some (.int .i64 m2) ∧ w'.cell? ⟨w.heap.size + 2, 0, none⟩ = some (.bool n3) ∧ w'.cell? ⟨w.heap.size + 2, 1, none⟩ = some (.string s3) ∧ w'.cell? ⟨w.heap.size + 2, 2, none⟩ = some (.int .i64 m3) ∧ w.heap.size < w'.heap.size ∧ w.heap.size + 1 < w'.heap.size ∧ w.heap.size + 2 < w'.heap.size ∧ w.heap.size ≤ w'.heap.size ∧ Below w.heap.size w w')
        (first | (exact box9 (by assumption) (by assumption)) | assumption | (exact ⟨f0, f1, f2, f3, f4, f5, f6, f7, f8, zA, zB, zC, zZ, hB.drew⟩) | go_keep)
        (first | (go_at_call 10; (with_reducible refine (h12.at_ _).mono ?_); rintro e x1 ⟨rfl, hy1⟩) | (go_at_call 11; (with_reducible refine (hr1.at_ _).mono ?_); rintro e x2 ⟨rfl, hy2⟩) | (go_at_call 11; (with_reducible refine (hr2.at_ _).mono ?_); rintro e x3 ⟨rfl, hy3⟩) | (go_at_call 10; (with_reducible refine (h4.at_ _).mono ?_); rintro e x4 ⟨rfl, hy4⟩))
      go_wp2
      go_ret
      exact ⟨rfl, box9_below (by assumption)⟩
  · have g1'' : 0 < c12 := by omega
    have g1d : decide (0 < c12) = true := decide_eq_true g1''
    have g1e : decide (c12 > 0) = true := decide_eq_true g1''
    clear g1' HA HD hsh
    go_wp2_with fail
    go_at_call 10
    refine (h12.at_ _).mono ?_
    rintro e v1 ⟨rfl, hb⟩
    clear f0 f1 f2 f3 f4 f5 f6 f7 f8 zA zB zC zZ hB
    replace K := box9 hb K
    clear hb
    obtain ⟨f0, f1, f2, f3, f4, f5, f6, f7, f8, zA, zB, zC, zZ, hB⟩ := box9_id K
    go_wp2_with fail
    have K0 := box9_id (W := v1.drew) ⟨f0, f1, f2, f3, f4, f5, f6, f7, f8, zA, zB, zC, zZ, hB.drew⟩
    first | (go_region_with (go_at_call 10; (with_reducible refine (h12.at_ _).mono ?_); rintro e x1 ⟨rfl, hy1⟩)) | fail
    all_goals go_wp2
    all_goals go_ret
    all_goals exact ⟨rfl, hB.drew.trans (hy1.mono (by simpa using zZ))⟩
end Go.Proofs.YtggnmkagkdlgnacDoor
