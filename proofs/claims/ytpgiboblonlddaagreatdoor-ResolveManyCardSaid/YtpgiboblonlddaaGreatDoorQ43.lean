/-
  Several texts put together (part 43): what the law and the program call, walked; their contracts.
-/
import Derived.Test.YtpgiboblonlddaaGreatDoorQ4
import Derived.Deep.RegionHeld3
namespace Go.Proofs.YtpgiboblonlddaaGreatDoor
open Go.RowKit
set_option maxHeartbeats 400000 in
theorem point_any (neg : Bool) (s : ByteArray) (sc : Nat) (w : World) (hs : s.size ≤ maxLen) (hsc : sc ≤ s.size) :
    Calls Tryz.prog 53 #[.agg #[.bool neg, .string s, .int .i64 sc]] w fun e w' => e = .returned (.int .i64 (↑s.size - ↑sc)) ∧ Below w.heap.size w w' := by
  unfold maxLen at hs
  go_enter Tryz.func53, Tryz.ntmps53
  go_wp2
  go_ret
  exact ⟨by first | rfl | (apply ret_int; simp; omega), by first | exact (Below.refl _ _).alloc (Nat.le_refl _) _⟩
theorem box3 {B : Nat} {w W w1 : World} {c0 c1 c2 : Value} (hb1 : Below W.heap.size W w1)
    (h : W.cell? ⟨B, 0, none⟩ = some c0 ∧ W.cell? ⟨B, 1, none⟩ = some c1 ∧ W.cell? ⟨B, 2, none⟩ = some c2 ∧ B + 1 ≤ W.heap.size ∧ Below B w W) :
    w1.cell? ⟨B, 0, none⟩ = some c0 ∧ w1.cell? ⟨B, 1, none⟩ = some c1 ∧ w1.cell? ⟨B, 2, none⟩ = some c2 ∧ B + 1 ≤ w1.heap.size ∧ Below B w w1 := by
  obtain ⟨h0, h1, h2, hs, hB⟩ := h
  exact ⟨(hb1.cell (p := ⟨B, 0, none⟩) hs).trans h0, (hb1.cell (p := ⟨B, 1, none⟩) hs).trans h1, (hb1.cell (p := ⟨B, 2, none⟩) hs).trans h2, Nat.le_trans hs hb1.size, hB.trans (hb1.mono (by omega))⟩
theorem box3_below {B : Nat} {w W : World} {c0 c1 c2 : Value}
    (h : W.cell? ⟨B, 0, none⟩ = some c0 ∧ W.cell? ⟨B, 1, none⟩ = some c1 ∧ W.cell? ⟨B, 2, none⟩ = some c2 ∧ B + 1 ≤ W.heap.size ∧ Below B w W) : Below B w W := h.2.2.2.2
set_option maxHeartbeats 400000 in
theorem whole_any (neg : Bool) (s : ByteArray) (sc : Nat) (w : World) (hs : s.size ≤ maxLen) (hsc : sc ≤ s.size) :
    Calls Tryz.prog 33 #[.agg #[.bool neg, .string s, .int .i64 sc]] w fun e w' => e = .returned (.string (s.extract 0 (s.size - sc))) ∧ Below w.heap.size w w' := by
  have hm := hs
  unfold maxLen at hs
  have hi0 : (0 : Int) ≤ (s.size : Int) - sc := by omega
  have hi1 : (s.size : Int) - sc ≤ s.size := by omega
  go_enter Tryz.func33, Tryz.ntmps33
  go_wp2
  go_region_held3 (fun w' => w'.cell? ⟨w.heap.size, 0, none⟩ = some (.bool neg) ∧ w'.cell? ⟨w.heap.size, 1, none⟩ = some (.string s) ∧ w'.cell? ⟨w.heap.size, 2, none⟩ = some (.int .i64 sc) ∧ w.heap.size + 1 ≤ w'.heap.size ∧ Below w.heap.size w w')
    (first | (exact box3 (by assumption) (by assumption)) | (exact ⟨by simp, by simp, by simp, by simp, ((Below.refl _ _).alloc (Nat.le_refl _) _).drew⟩) | go_keep)
    (first | (go_at_call 53; refine (point_any neg s sc _ hm hsc).mono ?_; rintro e w1 ⟨rfl, hb1⟩))
  go_wp2
  go_ret
  exact ⟨rfl, box3_below (by assumption)⟩
set_option maxHeartbeats 400000 in
theorem part_any (neg : Bool) (s : ByteArray) (sc : Nat) (w : World) (hs : s.size ≤ maxLen) (hsc : sc ≤ s.size) :
    Calls Tryz.prog 34 #[.agg #[.bool neg, .string s, .int .i64 sc]] w fun e w' => e = .returned (.string (s.extract (s.size - sc) s.size)) ∧ Below w.heap.size w w' := by
  have hm := hs
  unfold maxLen at hs
  have hi0 : (0 : Int) ≤ (s.size : Int) - sc := by omega
  have hi1 : (s.size : Int) - sc ≤ s.size := by omega
  go_enter Tryz.func34, Tryz.ntmps34
  go_wp2
  go_region_held3 (fun w' => w'.cell? ⟨w.heap.size, 0, none⟩ = some (.bool neg) ∧ w'.cell? ⟨w.heap.size, 1, none⟩ = some (.string s) ∧ w'.cell? ⟨w.heap.size, 2, none⟩ = some (.int .i64 sc) ∧ w.heap.size + 1 ≤ w'.heap.size ∧ Below w.heap.size w w')
    (first | (exact box3 (by assumption) (by assumption)) | (exact ⟨by simp, by simp, by simp, by simp, ((Below.refl _ _).alloc (Nat.le_refl _) _).drew⟩) | go_keep)
    (first | (go_at_call 53; refine (point_any neg s sc _ hm hsc).mono ?_; rintro e w1 ⟨rfl, hb1⟩))
  go_wp2
  go_ret
  exact ⟨rfl, box3_below (by assumption)⟩
end Go.Proofs.YtpgiboblonlddaaGreatDoor
