import Derived.Test.YtglennfjeacpoaaGreatDoorA2
import Derived.Test.YtglennfjeacpoaaGreatDoorA7
import Derived.Test.YtglennfjeacpoaaGreatDoorA8
import Derived.Deep.RegionHeld3
import Derived.IntWalk
namespace Go.Proofs.YtglennfjeacpoaaGreatDoor
open Go.RowKit

theorem box_cell2 {w w1 : World} {o o' : Obj} (hb : Below ((w.alloc o).alloc o').heap.size ((w.alloc o).alloc o') w1) (i : Nat) (v : Value) (h : (w.alloc o).cell? ⟨w.heap.size, i, none⟩ = some v) : w1.cell? ⟨w.heap.size, i, none⟩ = some v := by
  rw [hb.cell (p := ⟨w.heap.size, i, none⟩) (by simp; omega)]
  exact ((Below.refl (w.alloc o).heap.size (w.alloc o)).alloc (Nat.le_refl _) o').cell (p := ⟨w.heap.size, i, none⟩) (by simp) |>.trans h

def PartTo (neg : Bool) (s p : ByteArray) (sc : Nat) : Prop := ∀ W : World, Calls Tryz.prog 40 #[.agg #[.bool neg, .string s, .int .i64 sc]] W fun e w' => e = .returned (.string p) ∧ Below W.heap.size W w'

set_option maxHeartbeats 1000000 in
set_option maxRecDepth 100000 in
theorem round_same (neg : Bool) (s p : ByteArray) (sc : Nat) (x : Int) (w : World) (hp : PartTo neg s p sc) (hps : p.size = sc) (hx : (sc : Int) ≤ x ∨ (x < 0 ∧ sc = 0)) (hx1 : x ≤ 9223372036854775807) (hx0 : -9223372036854775808 ≤ x) :
    Calls Tryz.prog 74 #[.agg #[.bool neg, .string s, .int .i64 sc], .int .i64 x] w fun e w' => e = .returned (.agg #[.bool neg, .string s, .int .i64 sc]) ∧ Below w.heap.size w w' := by
  have Hps := Lib.hid hps
  clear hps
  rcases hx with hx | ⟨hx, h0⟩
  · have hmx : max x 0 = x := by omega
    have hle : (p.size : Int) ≤ x := by have := Hps.out; omega
    go_enter Tryz.func74, Tryz.ntmps74
    go_wp2_with (go_at_call 40; refine (hp _).mono ?_; rintro e w1 ⟨rfl, hb1⟩; obtain ⟨hc1, hf1⟩ := bcell hb1)
    exact bodyPost_ret (v := .agg #[.bool neg, .string s, .int .i64 sc]) (by simp [results, Tryz.results74, go_sem, hc1]) rfl ⟨rfl, Below.set3 (below_box2 hb1) (by omega) _ _ _⟩
  · have hle : (p.size : Int) ≤ 0 := by have := Hps.out; omega
    clear h0
    go_enter Tryz.func74, Tryz.ntmps74
    go_wp2_with (go_at_call 40; refine (hp _).mono ?_; rintro e w1 ⟨rfl, hb1⟩; obtain ⟨hc1, hf1⟩ := bcell hb1)
    exact bodyPost_ret (v := .agg #[.bool neg, .string s, .int .i64 sc]) (by simp [results, Tryz.results74, go_sem, hc1]) rfl ⟨rfl, Below.set3 (below_box2 hb1) (by omega) _ _ _⟩

def UpTo (a b : ByteArray) (up : Bool) : Prop := ∀ W : World, Calls Tryz.prog 126 #[.string a, .string b] W fun e w' => e = .returned (.bool up) ∧ W = w'
def IncTo (a b : ByteArray) : Prop := ∀ W : World, Calls Tryz.prog 127 #[.string a] W fun e w' => e = .returned (.string b) ∧ Below W.heap.size W w'

set_option maxHeartbeats 1000000 in
set_option maxRecDepth 100000 in
theorem round_less (neg up : Bool) (s p k2 : ByteArray) (sc m : Nat) (w : World) (hs : s.size ≤ 1000000) (hsc : sc ≤ s.size) (hp : PartTo neg s p sc) (hps : p.size = sc) (hm : m < sc)
    (hup : UpTo (s.extract 0 (s.size - sc + m)) (p.extract m p.size) up) (hinc : up = true → IncTo (s.extract 0 (s.size - sc + m)) k2) (hno : up = false → k2 = (s.extract 0 (s.size - sc + m))) :
    Calls Tryz.prog 74 #[.agg #[.bool neg, .string s, .int .i64 sc], .int .i64 m] w fun e w' => e = .returned (.agg #[.bool neg, .string k2, .int .i64 m]) ∧ Below w.heap.size w w' := by
  have Hps := Lib.hid hps
  have hpm : m < p.size := by omega
  clear hps
  have hi0 : (0 : Int) ≤ (s.size : Int) - sc + m := by omega
  have hi1 : (s.size : Int) - sc + m ≤ s.size := by omega
  have hi2 : ((s.size : Int) - sc + m).toNat = s.size - sc + m := by omega
  have hi3 : (sc : Int) ≤ s.size := by omega
  have hmax : s.size ≤ maxLen := by unfold maxLen; omega
  have hwr : IntKind.i64.wrap ((s.size : Int) - sc + m) = (s.size : Int) - sc + m := IntWalk.i64_in _ (by omega)
  have Hwr := Lib.hid hwr
  clear hwr
  cases up
  · obtain rfl := hno rfl
    clear hno hinc
    go_enter Tryz.func74, Tryz.ntmps74
    go_wp2_with (go_at_call 40; refine (hp _).mono ?_; rintro e w1 ⟨rfl, hb1⟩; obtain ⟨hc1, hf1⟩ := bcell hb1)
    have hwr := Hwr.out
    have hb1' := below_box2 hb1
    have hz1 := hb1.size
    have c0 := box_cell2 hb1 0 (.bool neg) (by simp)
    have c1 := box_cell2 hb1 1 (.string s) (by simp)
    have c2 := box_cell2 hb1 2 (.int .i64 sc) (by simp)
    go_region_held3 (fun w' => w'.cell? ⟨w.heap.size, 0, none⟩ = some (.bool neg) ∧ w'.cell? ⟨w.heap.size, 1, none⟩ = some (.string s) ∧ w'.cell? ⟨w.heap.size, 2, none⟩ = some (.int .i64 sc) ∧ w.heap.size + 1 ≤ w'.heap.size ∧ Below w.heap.size w w')
      (first | (exact box3 (by assumption) (by assumption)) | (exact ⟨by simpa using c0, by simpa using c1, by simpa using c2, by simp at hz1; simp; omega, hb1'.drew⟩) | go_keep)
      (first | (go_at_call 76; refine (point_any neg s sc _ hmax hsc).mono ?_; rintro e w2 ⟨rfl, hb2⟩))
    have hb12 : Below w1.heap.size w1 w2 := ((Below.refl _ w1).drew).trans hb2
    obtain ⟨hc2, hf2⟩ := bcell hb12
    clear hb2
    have hz1' : w.heap.size + 1 < w1.heap.size := by simp at hz1; omega
    have hz0' : w.heap.size < w1.heap.size := by omega
    clear hz1
    go_wp2_with (first | (go_at_call 126; refine (hup _).mono ?_; rintro e w3 ⟨rfl, rfl⟩))
    exact bodyPost_ret (v := .agg #[.bool neg, .string (s.extract 0 (s.size - sc + m)), .int .i64 m]) (by simp [results, Tryz.results74, go_sem, hc1, hc2, hz1']) rfl ⟨rfl, Below.set3 (below_then hb1' (Nat.le_refl _) hb12) (by omega) _ _ _⟩
  · have hinc' : IncTo (s.extract 0 (s.size - sc + m)) k2 := hinc rfl
    clear hno hinc
    go_enter Tryz.func74, Tryz.ntmps74
    go_wp2_with (go_at_call 40; refine (hp _).mono ?_; rintro e w1 ⟨rfl, hb1⟩; obtain ⟨hc1, hf1⟩ := bcell hb1)
    have hwr := Hwr.out
    have hb1' := below_box2 hb1
    have hz1 := hb1.size
    have c0 := box_cell2 hb1 0 (.bool neg) (by simp)
    have c1 := box_cell2 hb1 1 (.string s) (by simp)
    have c2 := box_cell2 hb1 2 (.int .i64 sc) (by simp)
    go_region_held3 (fun w' => w'.cell? ⟨w.heap.size, 0, none⟩ = some (.bool neg) ∧ w'.cell? ⟨w.heap.size, 1, none⟩ = some (.string s) ∧ w'.cell? ⟨w.heap.size, 2, none⟩ = some (.int .i64 sc) ∧ w.heap.size + 1 ≤ w'.heap.size ∧ Below w.heap.size w w')
      (first | (exact box3 (by assumption) (by assumption)) | (exact ⟨by simpa using c0, by simpa using c1, by simpa using c2, by simp at hz1; simp; omega, hb1'.drew⟩) | go_keep)
      (first | (go_at_call 76; refine (point_any neg s sc _ hmax hsc).mono ?_; rintro e w2 ⟨rfl, hb2⟩))
    have hb12 : Below w1.heap.size w1 w2 := ((Below.refl _ w1).drew).trans hb2
    obtain ⟨hc2, hf2⟩ := bcell hb12
    clear hb2
    have hz1' : w.heap.size + 1 < w1.heap.size := by simp at hz1; omega
    have hz0' : w.heap.size < w1.heap.size := by omega
    clear hz1
    have hz2 := hb12.size
    have hz2' : w.heap.size + 1 < w2.heap.size := by omega
    have hz2'' : w.heap.size < w2.heap.size := by omega
    clear hz2
    go_wp2_with (first | (go_at_call 126; refine (hup _).mono ?_; rintro e w3 ⟨rfl, rfl⟩) | (go_at_call 127; refine (hinc' _).mono ?_; rintro e w4 ⟨rfl, hb4⟩; obtain ⟨hc4, hf4⟩ := bcell hb4))
    exact bodyPost_ret (v := .agg #[.bool neg, .string k2, .int .i64 m]) (by simp [results, Tryz.results74, go_sem, hc1, hc2, hc4, hz1', hz2']) rfl ⟨rfl, Below.set3 (below_then (below_then hb1' (Nat.le_refl _) hb12) (Nat.le_refl _) hb4) (by omega) _ _ _⟩

set_option maxHeartbeats 1000000 in
set_option maxRecDepth 100000 in
theorem round_neg (neg up : Bool) (s p k2 : ByteArray) (sc : Nat) (x : Int) (hx : x < 0) (w : World) (hs : s.size ≤ 1000000) (hsc : sc ≤ s.size) (hp : PartTo neg s p sc) (hps : p.size = sc) (hm : 0 < sc)
    (hup : UpTo (s.extract 0 (s.size - sc)) p up) (hinc : up = true → IncTo (s.extract 0 (s.size - sc)) k2) (hno : up = false → k2 = (s.extract 0 (s.size - sc))) :
    Calls Tryz.prog 74 #[.agg #[.bool neg, .string s, .int .i64 sc], .int .i64 x] w fun e w' => e = .returned (.agg #[.bool neg, .string k2, .int .i64 0]) ∧ Below w.heap.size w w' := by
  have Hps := Lib.hid hps
  have hpm : 0 < p.size := by omega
  have hmx : max x 0 = 0 := by omega
  have hpe : ¬ p = ByteArray.empty := by intro e; rw [e] at hpm; exact absurd hpm (by decide)
  clear hps
  have hi0 : (0 : Int) ≤ (s.size : Int) - sc := by omega
  have hi1 : (s.size : Int) - sc ≤ s.size := by omega
  have hi2 : ((s.size : Int) - sc).toNat = s.size - sc := by omega
  have hi3 : (sc : Int) ≤ s.size := by omega
  have hmax : s.size ≤ maxLen := by unfold maxLen; omega
  have hwr : IntKind.i64.wrap ((s.size : Int) - sc) = (s.size : Int) - sc := IntWalk.i64_in _ (by omega)
  have Hwr := Lib.hid hwr
  clear hwr
  cases up
  · obtain rfl := hno rfl
    clear hno hinc
    go_enter Tryz.func74, Tryz.ntmps74
    go_wp2_with (go_at_call 40; refine (hp _).mono ?_; rintro e w1 ⟨rfl, hb1⟩; obtain ⟨hc1, hf1⟩ := bcell hb1)
    have hwr := Hwr.out
    have hb1' := below_box2 hb1
    have hz1 := hb1.size
    have c0 := box_cell2 hb1 0 (.bool neg) (by simp)
    have c1 := box_cell2 hb1 1 (.string s) (by simp)
    have c2 := box_cell2 hb1 2 (.int .i64 sc) (by simp)
    go_region_held3 (fun w' => w'.cell? ⟨w.heap.size, 0, none⟩ = some (.bool neg) ∧ w'.cell? ⟨w.heap.size, 1, none⟩ = some (.string s) ∧ w'.cell? ⟨w.heap.size, 2, none⟩ = some (.int .i64 sc) ∧ w.heap.size + 1 ≤ w'.heap.size ∧ Below w.heap.size w w')
      (first | (exact box3 (by assumption) (by assumption)) | (exact ⟨by simpa using c0, by simpa using c1, by simpa using c2, by simp at hz1; simp; omega, hb1'.drew⟩) | go_keep)
      (first | (go_at_call 76; refine (point_any neg s sc _ hmax hsc).mono ?_; rintro e w2 ⟨rfl, hb2⟩))
    have hb12 : Below w1.heap.size w1 w2 := ((Below.refl _ w1).drew).trans hb2
    obtain ⟨hc2, hf2⟩ := bcell hb12
    clear hb2
    have hz1' : w.heap.size + 1 < w1.heap.size := by simp at hz1; omega
    have hz0' : w.heap.size < w1.heap.size := by omega
    clear hz1
    go_wp2_with (first | (go_at_call 126; refine (hup _).mono ?_; rintro e w3 ⟨rfl, rfl⟩))
    exact bodyPost_ret (v := .agg #[.bool neg, .string (s.extract 0 (s.size - sc)), .int .i64 0]) (by simp [results, Tryz.results74, go_sem, hc1, hc2, hz1']) rfl ⟨rfl, Below.set3 (below_then hb1' (Nat.le_refl _) hb12) (by omega) _ _ _⟩
  · have hinc' : IncTo (s.extract 0 (s.size - sc)) k2 := hinc rfl
    clear hno hinc
    go_enter Tryz.func74, Tryz.ntmps74
    go_wp2_with (go_at_call 40; refine (hp _).mono ?_; rintro e w1 ⟨rfl, hb1⟩; obtain ⟨hc1, hf1⟩ := bcell hb1)
    have hwr := Hwr.out
    have hb1' := below_box2 hb1
    have hz1 := hb1.size
    have c0 := box_cell2 hb1 0 (.bool neg) (by simp)
    have c1 := box_cell2 hb1 1 (.string s) (by simp)
    have c2 := box_cell2 hb1 2 (.int .i64 sc) (by simp)
    go_region_held3 (fun w' => w'.cell? ⟨w.heap.size, 0, none⟩ = some (.bool neg) ∧ w'.cell? ⟨w.heap.size, 1, none⟩ = some (.string s) ∧ w'.cell? ⟨w.heap.size, 2, none⟩ = some (.int .i64 sc) ∧ w.heap.size + 1 ≤ w'.heap.size ∧ Below w.heap.size w w')
      (first | (exact box3 (by assumption) (by assumption)) | (exact ⟨by simpa using c0, by simpa using c1, by simpa using c2, by simp at hz1; simp; omega, hb1'.drew⟩) | go_keep)
      (first | (go_at_call 76; refine (point_any neg s sc _ hmax hsc).mono ?_; rintro e w2 ⟨rfl, hb2⟩))
    have hb12 : Below w1.heap.size w1 w2 := ((Below.refl _ w1).drew).trans hb2
    obtain ⟨hc2, hf2⟩ := bcell hb12
    clear hb2
    have hz1' : w.heap.size + 1 < w1.heap.size := by simp at hz1; omega
    have hz0' : w.heap.size < w1.heap.size := by omega
    clear hz1
    have hz2 := hb12.size
    have hz2' : w.heap.size + 1 < w2.heap.size := by omega
    have hz2'' : w.heap.size < w2.heap.size := by omega
    clear hz2
    go_wp2_with (first | (go_at_call 126; refine (hup _).mono ?_; rintro e w3 ⟨rfl, rfl⟩) | (go_at_call 127; refine (hinc' _).mono ?_; rintro e w4 ⟨rfl, hb4⟩; obtain ⟨hc4, hf4⟩ := bcell hb4))
    exact bodyPost_ret (v := .agg #[.bool neg, .string k2, .int .i64 0]) (by simp [results, Tryz.results74, go_sem, hc1, hc2, hc4, hz1', hz2']) rfl ⟨rfl, Below.set3 (below_then (below_then hb1' (Nat.le_refl _) hb12) (Nat.le_refl _) hb4) (by omega) _ _ _⟩
end Go.Proofs.YtglennfjeacpoaaGreatDoor
