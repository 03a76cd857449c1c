/-
  Several texts put together (part 9): what the law and the program call, walked; their contracts.
-/
import Derived.Test.YtjdpmdheapmanaaGreatDoorQ4
import Derived.Test.YtjdpmdheapmanaaGreatDoorQ7
import Derived.Test.YtjdpmdheapmanaaGreatDoorQ8
import Derived.Deep.RegionHeld3
import Derived.IntWalk
import Derived.Test.YtjdpmdheapmanaaGreatDoorQ6
import Derived.Test.YtjdpmdheapmanaaGreatDoorQ5
import Derived.Lib.SmallJoins
import Derived.Lib.RabinKarpLaws
namespace Go.Proofs.YtjdpmdheapmanaaGreatDoor
open Go.RowKit
theorem box_cell2 {w w1 : World} {o o' : Obj} (hb : Below ((w.alloc o).alloc o').heap.size ((w.alloc o).alloc o') w1) (i : Nat) (v : Value) (h : (w.alloc o).cell? ⟨w.heap.size, i, none⟩ = some v) : w1.cell? ⟨w.heap.size, i, none⟩ = some v := by
  rw [hb.cell (p := ⟨w.heap.size, i, none⟩) (by simp; omega)]
  exact ((Below.refl (w.alloc o).heap.size (w.alloc o)).alloc (Nat.le_refl _) o').cell (p := ⟨w.heap.size, i, none⟩) (by simp) |>.trans h
def PartTo (neg : Bool) (s p : ByteArray) (sc : Nat) : Prop := ∀ W : World, Calls Tryz.prog 24 #[.agg #[.bool neg, .string s, .int .i64 sc]] W fun e w' => e = .returned (.string p) ∧ Below W.heap.size W w'
set_option maxHeartbeats 1000000 in
set_option maxRecDepth 100000 in
theorem round_same (neg : Bool) (s p : ByteArray) (sc : Nat) (x : Int) (w : World) (hp : PartTo neg s p sc) (hps : p.size = sc) (hx : (sc : Int) ≤ x ∨ (x < 0 ∧ sc = 0)) (hx1 : x ≤ 9223372036854775807) (hx0 : -9223372036854775808 ≤ x) :
    Calls Tryz.prog 13 #[.agg #[.bool neg, .string s, .int .i64 sc], .int .i64 x] w fun e w' => e = .returned (.agg #[.bool neg, .string s, .int .i64 sc]) ∧ Below w.heap.size w w' := by
  have Hps := Lib.hid hps
  clear hps
  rcases hx with hx | ⟨hx, h0⟩
  · have hmx : max x 0 = x := by omega
    have hle : (p.size : Int) ≤ x := by have := Hps.out; omega
    go_enter Tryz.func13, Tryz.ntmps13
    go_wp2_with (go_at_call 24; refine (hp _).mono ?_; rintro e w1 ⟨rfl, hb1⟩; obtain ⟨hc1, hf1⟩ := bcell hb1)
    exact bodyPost_ret (v := .agg #[.bool neg, .string s, .int .i64 sc]) (by simp [results, Tryz.results13, go_sem, hc1]) rfl ⟨rfl, Below.set3 (below_box2 hb1) (by omega) _ _ _⟩
  · have hle : (p.size : Int) ≤ 0 := by have := Hps.out; omega
    clear h0
    go_enter Tryz.func13, Tryz.ntmps13
    go_wp2_with (go_at_call 24; refine (hp _).mono ?_; rintro e w1 ⟨rfl, hb1⟩; obtain ⟨hc1, hf1⟩ := bcell hb1)
    exact bodyPost_ret (v := .agg #[.bool neg, .string s, .int .i64 sc]) (by simp [results, Tryz.results13, go_sem, hc1]) rfl ⟨rfl, Below.set3 (below_box2 hb1) (by omega) _ _ _⟩
def UpTo (a b : ByteArray) (up : Bool) : Prop := ∀ W : World, Calls Tryz.prog 26 #[.string a, .string b] W fun e w' => e = .returned (.bool up) ∧ W = w'
def IncTo (a b : ByteArray) : Prop := ∀ W : World, Calls Tryz.prog 27 #[.string a] W fun e w' => e = .returned (.string b) ∧ Below W.heap.size W w'
set_option maxHeartbeats 1000000 in
set_option maxRecDepth 100000 in
theorem round_less (neg up : Bool) (s p k2 : ByteArray) (sc m : Nat) (w : World) (hs : s.size ≤ 1000000) (hsc : sc ≤ s.size) (hp : PartTo neg s p sc) (hps : p.size = sc) (hm : m < sc)
    (hup : UpTo (s.extract 0 (s.size - sc + m)) (p.extract m p.size) up) (hinc : up = true → IncTo (s.extract 0 (s.size - sc + m)) k2) (hno : up = false → k2 = (s.extract 0 (s.size - sc + m))) :
    Calls Tryz.prog 13 #[.agg #[.bool neg, .string s, .int .i64 sc], .int .i64 m] w fun e w' => e = .returned (.agg #[.bool neg, .string k2, .int .i64 m]) ∧ Below w.heap.size w w' := by
  have Hps := Lib.hid hps
  have hpm : m < p.size := by omega
  clear hps
  have hi0 : (0 : Int) ≤ (s.size : Int) - sc + m := by omega
  have hi1 : (s.size : Int) - sc + m ≤ s.size := by omega
  have hi2 : ((s.size : Int) - sc + m).toNat = s.size - sc + m := by omega
  have hi3 : (sc : Int) ≤ s.size := by omega
  have hmax : s.size ≤ maxLen := by unfold maxLen; omega
  have hwr : IntKind.i64.wrap ((s.size : Int) - sc + m) = (s.size : Int) - sc + m := IntWalk.i64_in _ (by omega)
  have Hwr := Lib.hid hwr
  clear hwr
  cases up
  · obtain rfl := hno rfl
    clear hno hinc
    go_enter Tryz.func13, Tryz.ntmps13
    go_wp2_with (go_at_call 24; refine (hp _).mono ?_; rintro e w1 ⟨rfl, hb1⟩; obtain ⟨hc1, hf1⟩ := bcell hb1)
    have hwr := Hwr.out
    have hb1' := below_box2 hb1
    have hz1 := hb1.size
    have c0 := box_cell2 hb1 0 (.bool neg) (by simp)
    have c1 := box_cell2 hb1 1 (.string s) (by simp)
    have c2 := box_cell2 hb1 2 (.int .i64 sc) (by simp)
    go_region_held3 (fun w' => w'.cell? ⟨w.heap.size, 0, none⟩ = some (.bool neg) ∧ w'.cell? ⟨w.heap.size, 1, none⟩ = some (.string s) ∧ w'.cell? ⟨w.heap.size, 2, none⟩ = some (.int .i64 sc) ∧ w.heap.size + 1 ≤ w'.heap.size ∧ Below w.heap.size w w')
      (first | (exact box3 (by assumption) (by assumption)) | (exact ⟨by simpa using c0, by simpa using c1, by simpa using c2, by simp at hz1; simp; omega, hb1'.drew⟩) | go_keep)
      (first | (go_at_call 25; refine (point_any neg s sc _ hmax hsc).mono ?_; rintro e w2 ⟨rfl, hb2⟩))
    have hb12 : Below w1.heap.size w1 w2 := ((Below.refl _ w1).drew).trans hb2
    obtain ⟨hc2, hf2⟩ := bcell hb12
    clear hb2
    have hz1' : w.heap.size + 1 < w1.heap.size := by simp at hz1; omega
    have hz0' : w.heap.size < w1.heap.size := by omega
    clear hz1
    go_wp2_with (first | (go_at_call 26; refine (hup _).mono ?_; rintro e w3 ⟨rfl, rfl⟩))
    exact bodyPost_ret (v := .agg #[.bool neg, .string (s.extract 0 (s.size - sc + m)), .int .i64 m]) (by simp [results, Tryz.results13, go_sem, hc1, hc2, hz1']) rfl ⟨rfl, Below.set3 (below_then hb1' (Nat.le_refl _) hb12) (by omega) _ _ _⟩
  · have hinc' : IncTo (s.extract 0 (s.size - sc + m)) k2 := hinc rfl
    clear hno hinc
    go_enter Tryz.func13, Tryz.ntmps13
    go_wp2_with (go_at_call 24; refine (hp _).mono ?_; rintro e w1 ⟨rfl, hb1⟩; obtain ⟨hc1, hf1⟩ := bcell hb1)
    have hwr := Hwr.out
    have hb1' := below_box2 hb1
    have hz1 := hb1.size
    have c0 := box_cell2 hb1 0 (.bool neg) (by simp)
    have c1 := box_cell2 hb1 1 (.string s) (by simp)
    have c2 := box_cell2 hb1 2 (.int .i64 sc) (by simp)
    go_region_held3 (fun w' => w'.cell? ⟨w.heap.size, 0, none⟩ = some (.bool neg) ∧ w'.cell? ⟨w.heap.size, 1, none⟩ = some (.string s) ∧ w'.cell? ⟨w.heap.size, 2, none⟩ = some (.int .i64 sc) ∧ w.heap.size + 1 ≤ w'.heap.size ∧ Below w.heap.size w w')
      (first | (exact box3 (by assumption) (by assumption)) | (exact ⟨by simpa using c0, by simpa using c1, by simpa using c2, by simp at hz1; simp; omega, hb1'.drew⟩) | go_keep)
      (first | (go_at_call 25; refine (point_any neg s sc _ hmax hsc).mono ?_; rintro e w2 ⟨rfl, hb2⟩))
    have hb12 : Below w1.heap.size w1 w2 := ((Below.refl _ w1).drew).trans hb2
    obtain ⟨hc2, hf2⟩ := bcell hb12
    clear hb2
    have hz1' : w.heap.size + 1 < w1.heap.size := by simp at hz1; omega
    have hz0' : w.heap.size < w1.heap.size := by omega
    clear hz1
    have hz2 := hb12.size
    have hz2' : w.heap.size + 1 < w2.heap.size := by omega
    have hz2'' : w.heap.size < w2.heap.size := by omega
    clear hz2
    go_wp2_with (first | (go_at_call 26; refine (hup _).mono ?_; rintro e w3 ⟨rfl, rfl⟩) | (go_at_call 27; refine (hinc' _).mono ?_; rintro e w4 ⟨rfl, hb4⟩; obtain ⟨hc4, hf4⟩ := bcell hb4))
    exact bodyPost_ret (v := .agg #[.bool neg, .string k2, .int .i64 m]) (by simp [results, Tryz.results13, go_sem, hc1, hc2, hc4, hz1', hz2']) rfl ⟨rfl, Below.set3 (below_then (below_then hb1' (Nat.le_refl _) hb12) (Nat.le_refl _) hb4) (by omega) _ _ _⟩
set_option maxHeartbeats 1000000 in
set_option maxRecDepth 100000 in
theorem round_neg (neg up : Bool) (s p k2 : ByteArray) (sc : Nat) (x : Int) (hx : x < 0) (w : World) (hs : s.size ≤ 1000000) (hsc : sc ≤ s.size) (hp : PartTo neg s p sc) (hps : p.size = sc) (hm : 0 < sc)
    (hup : UpTo (s.extract 0 (s.size - sc)) p up) (hinc : up = true → IncTo (s.extract 0 (s.size - sc)) k2) (hno : up = false → k2 = (s.extract 0 (s.size - sc))) :
    Calls Tryz.prog 13 #[.agg #[.bool neg, .string s, .int .i64 sc], .int .i64 x] w fun e w' => e = .returned (.agg #[.bool neg, .string k2, .int .i64 0]) ∧ Below w.heap.size w w' := by
  have Hps := Lib.hid hps
  have hpm : 0 < p.size := by omega
  have hmx : max x 0 = 0 := by omega
  have hpe : ¬ p = ByteArray.empty := by intro e; rw [e] at hpm; exact absurd hpm (by decide)
  clear hps
  have hi0 : (0 : Int) ≤ (s.size : Int) - sc := by omega
  have hi1 : (s.size : Int) - sc ≤ s.size := by omega
  have hi2 : ((s.size : Int) - sc).toNat = s.size - sc := by omega
  have hi3 : (sc : Int) ≤ s.size := by omega
  have hmax : s.size ≤ maxLen := by unfold maxLen; omega
  have hwr : IntKind.i64.wrap ((s.size : Int) - sc) = (s.size : Int) - sc := IntWalk.i64_in _ (by omega)
  have Hwr := Lib.hid hwr
  clear hwr
  cases up
  · obtain rfl := hno rfl
    clear hno hinc
    go_enter Tryz.func13, Tryz.ntmps13
    go_wp2_with (go_at_call 24; refine (hp _).mono ?_; rintro e w1 ⟨rfl, hb1⟩; obtain ⟨hc1, hf1⟩ := bcell hb1)
    have hwr := Hwr.out
    have hb1' := below_box2 hb1
    have hz1 := hb1.size
    have c0 := box_cell2 hb1 0 (.bool neg) (by simp)
    have c1 := box_cell2 hb1 1 (.string s) (by simp)
    have c2 := box_cell2 hb1 2 (.int .i64 sc) (by simp)
    go_region_held3 (fun w' => w'.cell? ⟨w.heap.size, 0, none⟩ = some (.bool neg) ∧ w'.cell? ⟨w.heap.size, 1, none⟩ = some (.string s) ∧ w'.cell? ⟨w.heap.size, 2, none⟩ = some (.int .i64 sc) ∧ w.heap.size + 1 ≤ w'.heap.size ∧ Below w.heap.size w w')
      (first | (exact box3 (by assumption) (by assumption)) | (exact ⟨by simpa using c0, by simpa using c1, by simpa using c2, by simp at hz1; simp; omega, hb1'.drew⟩) | go_keep)
      (first | (go_at_call 25; refine (point_any neg s sc _ hmax hsc).mono ?_; rintro e w2 ⟨rfl, hb2⟩))
    have hb12 : Below w1.heap.size w1 w2 := ((Below.refl _ w1).drew).trans hb2
    obtain ⟨hc2, hf2⟩ := bcell hb12
    clear hb2
    have hz1' : w.heap.size + 1 < w1.heap.size := by simp at hz1; omega
    have hz0' : w.heap.size < w1.heap.size := by omega
    clear hz1
    go_wp2_with (first | (go_at_call 26; refine (hup _).mono ?_; rintro e w3 ⟨rfl, rfl⟩))
    exact bodyPost_ret (v := .agg #[.bool neg, .string (s.extract 0 (s.size - sc)), .int .i64 0]) (by simp [results, Tryz.results13, go_sem, hc1, hc2, hz1']) rfl ⟨rfl, Below.set3 (below_then hb1' (Nat.le_refl _) hb12) (by omega) _ _ _⟩
  · have hinc' : IncTo (s.extract 0 (s.size - sc)) k2 := hinc rfl
    clear hno hinc
    go_enter Tryz.func13, Tryz.ntmps13
    go_wp2_with (go_at_call 24; refine (hp _).mono ?_; rintro e w1 ⟨rfl, hb1⟩; obtain ⟨hc1, hf1⟩ := bcell hb1)
    have hwr := Hwr.out
    have hb1' := below_box2 hb1
    have hz1 := hb1.size
    have c0 := box_cell2 hb1 0 (.bool neg) (by simp)
    have c1 := box_cell2 hb1 1 (.string s) (by simp)
    have c2 := box_cell2 hb1 2 (.int .i64 sc) (by simp)
    go_region_held3 (fun w' => w'.cell? ⟨w.heap.size, 0, none⟩ = some (.bool neg) ∧ w'.cell? ⟨w.heap.size, 1, none⟩ = some (.string s) ∧ w'.cell? ⟨w.heap.size, 2, none⟩ = some (.int .i64 sc) ∧ w.heap.size + 1 ≤ w'.heap.size ∧ Below w.heap.size w w')
      (first | (exact box3 (by assumption) (by assumption)) | (exact ⟨by simpa using c0, by simpa using c1, by simpa using c2, by simp at hz1; simp; omega, hb1'.drew⟩) | go_keep)
      (first | (go_at_call 25; refine (point_any neg s sc _ hmax hsc).mono ?_; rintro e w2 ⟨rfl, hb2⟩))
    have hb12 : Below w1.heap.size w1 w2 := ((Below.refl _ w1).drew).trans hb2
    obtain ⟨hc2, hf2⟩ := bcell hb12
    clear hb2
    have hz1' : w.heap.size + 1 < w1.heap.size := by simp at hz1; omega
    have hz0' : w.heap.size < w1.heap.size := by omega
    clear hz1
    have hz2 := hb12.size
    have hz2' : w.heap.size + 1 < w2.heap.size := by omega
    have hz2'' : w.heap.size < w2.heap.size := by omega
    clear hz2
    go_wp2_with (first | (go_at_call 26; refine (hup _).mono ?_; rintro e w3 ⟨rfl, rfl⟩) | (go_at_call 27; refine (hinc' _).mono ?_; rintro e w4 ⟨rfl, hb4⟩; obtain ⟨hc4, hf4⟩ := bcell hb4))
    exact bodyPost_ret (v := .agg #[.bool neg, .string k2, .int .i64 0]) (by simp [results, Tryz.results13, go_sem, hc1, hc2, hc4, hz1', hz2']) rfl ⟨rfl, Below.set3 (below_then (below_then hb1' (Nat.le_refl _) hb12) (Nat.le_refl _) hb4) (by omega) _ _ _⟩
end Go.Proofs.YtjdpmdheapmanaaGreatDoor

namespace Go.Proofs.YtjdpmdheapmanaaGreatDoor
open Go.RowKit
def decV (n : Bool) (s : ByteArray) (k : Nat) : Value := .agg #[.bool n, .string s, .int .i64 k]
def WholeTo (n : Bool) (s : ByteArray) (k : Nat) (r : ByteArray) : Prop := ∀ W : World, Calls Tryz.prog 31 #[.agg #[.bool n, .string s, .int .i64 k]] W fun e w' => e = .returned (.string r) ∧ Below W.heap.size W w'
def CmpITo (a b : Int) (c : Int) : Prop := ∀ W : World, Calls Tryz.prog 89 #[.int .i64 a, .int .i64 b] W fun e w' => e = .returned (.int .i64 c) ∧ W = w'
theorem cmpITo (a b : Int) : CmpITo a b (Lib.compareInt a b) := by
  intro W
  refine (Tryz.cmp_Compare_int a b W).mono ?_
  rintro e w' ⟨rfl, rfl⟩
  exact ⟨rfl, rfl⟩
theorem WholeTo.at_ {n : Bool} {s : ByteArray} {k : Nat} {r : ByteArray} (h : WholeTo n s k r) (W : World) : Calls Tryz.prog 31 #[.agg #[.bool n, .string s, .int .i64 k]] W fun e w' => e = .returned (.string r) ∧ Below W.heap.size W w' := h W
theorem PartTo.at_ {n : Bool} {s r : ByteArray} {k : Nat} (h : PartTo n s r k) (W : World) : Calls Tryz.prog 24 #[.agg #[.bool n, .string s, .int .i64 k]] W fun e w' => e = .returned (.string r) ∧ Below W.heap.size W w' := h W
theorem TrimTo.at_ {a c : ByteArray} (h : TrimTo a c) (W : World) : Calls Tryz.prog 88 #[.string a, .string ⟨#[48]⟩] W fun e w' => e = .returned (.string c) ∧ W = w' := h W
theorem TrimRTo.at_ {a c : ByteArray} (h : TrimRTo a c) (W : World) : Calls Tryz.prog 40 #[.string a, .string ⟨#[48]⟩] W fun e w' => e = .returned (.string c) ∧ W = w' := h W
theorem CmpTo.at_ {a b : ByteArray} {c : Int} (h : CmpTo a b c) (W : World) : Calls Tryz.prog 39 #[.string a, .string b] W fun e w' => e = .returned (.int .i64 c) ∧ W = w' := h W
theorem CmpITo.at_ {a b c : Int} (h : CmpITo a b c) (W : World) : Calls Tryz.prog 89 #[.int .i64 a, .int .i64 b] W fun e w' => e = .returned (.int .i64 c) ∧ W = w' := h W
theorem two6 {A C B : Nat} {w W w1 : World} {a0 a1 a2 c0 c1 c2 : Value} (hb1 : Below W.heap.size W w1)
    (h : W.cell? ⟨A, 0, none⟩ = some a0 ∧ W.cell? ⟨A, 1, none⟩ = some a1 ∧ W.cell? ⟨A, 2, none⟩ = some a2 ∧ W.cell? ⟨C, 0, none⟩ = some c0 ∧ W.cell? ⟨C, 1, none⟩ = some c1 ∧ W.cell? ⟨C, 2, none⟩ = some c2 ∧ A + 1 ≤ W.heap.size ∧ C + 1 ≤ W.heap.size ∧ B ≤ W.heap.size ∧ Below B w W) :
    w1.cell? ⟨A, 0, none⟩ = some a0 ∧ w1.cell? ⟨A, 1, none⟩ = some a1 ∧ w1.cell? ⟨A, 2, none⟩ = some a2 ∧ w1.cell? ⟨C, 0, none⟩ = some c0 ∧ w1.cell? ⟨C, 1, none⟩ = some c1 ∧ w1.cell? ⟨C, 2, none⟩ = some c2 ∧ A + 1 ≤ w1.heap.size ∧ C + 1 ≤ w1.heap.size ∧ B ≤ w1.heap.size ∧ Below B w w1 := by
  obtain ⟨h0, h1, h2, h3, h4, h5, hA, hC, hB0, hB⟩ := h
  have hz := hb1.size
  exact ⟨(hb1.cell (p := ⟨A, 0, none⟩) hA).trans h0, (hb1.cell (p := ⟨A, 1, none⟩) hA).trans h1, (hb1.cell (p := ⟨A, 2, none⟩) hA).trans h2, (hb1.cell (p := ⟨C, 0, none⟩) hC).trans h3, (hb1.cell (p := ⟨C, 1, none⟩) hC).trans h4, (hb1.cell (p := ⟨C, 2, none⟩) hC).trans h5, by omega, by omega, by omega, hB.trans (hb1.mono hB0)⟩
theorem two6_below {A C B : Nat} {w W : World} {a0 a1 a2 c0 c1 c2 : Value}
    (h : W.cell? ⟨A, 0, none⟩ = some a0 ∧ W.cell? ⟨A, 1, none⟩ = some a1 ∧ W.cell? ⟨A, 2, none⟩ = some a2 ∧ W.cell? ⟨C, 0, none⟩ = some c0 ∧ W.cell? ⟨C, 1, none⟩ = some c1 ∧ W.cell? ⟨C, 2, none⟩ = some c2 ∧ A + 1 ≤ W.heap.size ∧ C + 1 ≤ W.heap.size ∧ B ≤ W.heap.size ∧ Below B w W) : Below B w W := h.2.2.2.2.2.2.2.2.2
theorem two6_id {A C B : Nat} {w W : World} {a0 a1 a2 c0 c1 c2 : Value}
    (h : W.cell? ⟨A, 0, none⟩ = some a0 ∧ W.cell? ⟨A, 1, none⟩ = some a1 ∧ W.cell? ⟨A, 2, none⟩ = some a2 ∧ W.cell? ⟨C, 0, none⟩ = some c0 ∧ W.cell? ⟨C, 1, none⟩ = some c1 ∧ W.cell? ⟨C, 2, none⟩ = some c2 ∧ A + 1 ≤ W.heap.size ∧ C + 1 ≤ W.heap.size ∧ B ≤ W.heap.size ∧ Below B w W) :
    W.cell? ⟨A, 0, none⟩ = some a0 ∧ W.cell? ⟨A, 1, none⟩ = some a1 ∧ W.cell? ⟨A, 2, none⟩ = some a2 ∧ W.cell? ⟨C, 0, none⟩ = some c0 ∧ W.cell? ⟨C, 1, none⟩ = some c1 ∧ W.cell? ⟨C, 2, none⟩ = some c2 ∧ A + 1 ≤ W.heap.size ∧ C + 1 ≤ W.heap.size ∧ B ≤ W.heap.size ∧ Below B w W := h
def cszV (c c2 c3 : Int) : Int := if c = 0 then (if c2 = 0 then c3 else c2) else c
set_option maxHeartbeats 2000000 in
set_option maxRecDepth 100000 in
theorem sizes_core (n1 n2 : Bool) (s1 s2 W1 W2 T1 T2 P1 P2 R1 R2 : ByteArray) (k1 k2 : Nat) (c c2 c3 : Int) (w : World)
    (hW1 : WholeTo n1 s1 k1 W1) (hW2 : WholeTo n2 s2 k2 W2) (hT1 : TrimTo W1 T1) (hT2 : TrimTo W2 T2) (hP1 : PartTo n1 s1 P1 k1) (hP2 : PartTo n2 s2 P2 k2) (hR1 : TrimRTo P1 R1) (hR2 : TrimRTo P2 R2)
    (hc : CmpITo T1.size T2.size c) (hc2 : CmpTo T1 T2 c2) (hc3 : CmpTo R1 R2 c3) :
    Calls Tryz.prog 70 #[.agg #[.bool n1, .string s1, .int .i64 k1], .agg #[.bool n2, .string s2, .int .i64 k2]] w fun e w' => e = .returned (.int .i64 (cszV c c2 c3)) ∧ Below w.heap.size w w' := by
  by_cases h0 : c = 0
  · subst h0
    by_cases h2 : c2 = 0
    · subst h2
      go_enter Tryz.func70, Tryz.ntmps70
      go_wp2
      go_region_held3 (fun w' => w'.cell? ⟨w.heap.size, 0, none⟩ = some (.bool n1) ∧ w'.cell? ⟨w.heap.size, 1, none⟩ = some (.string s1) ∧ w'.cell? ⟨w.heap.size, 2, none⟩ = some (.int .i64 k1) ∧ w'.cell? ⟨w.heap.size + 1, 0, none⟩ = some (.bool n2) ∧ w'.cell? ⟨w.heap.size + 1, 1, none⟩ = some (.string s2) ∧ w'.cell? ⟨w.heap.size + 1, 2, none⟩ = some (.int .i64 k2) ∧ w.heap.size + 1 ≤ w'.heap.size ∧ w.heap.size + 1 + 1 ≤ w'.heap.size ∧ w.heap.size ≤ w'.heap.size ∧ Below w.heap.size w w')
        (first | (exact two6 (by assumption) (by assumption)) | assumption | (exact ⟨by simp, by simp, by simp, by simp, by simp, by simp, by simp <;> omega, by simp <;> omega, by simp <;> omega, (((Below.refl _ _).alloc (Nat.le_refl _) _).alloc (by simp) _).drew⟩) | go_keep)
        (first | (go_at_call 31; (with_reducible refine (hW1.at_ _).mono ?_); rintro e wa ⟨rfl, hba⟩) | (go_at_call 31; (with_reducible refine (hW2.at_ _).mono ?_); rintro e wb ⟨rfl, hbb⟩) | (go_at_call 88; (with_reducible refine (hT1.at_ _).mono ?_); rintro e wt ⟨rfl, rfl⟩) | (go_at_call 88; (with_reducible refine (hT2.at_ _).mono ?_); rintro e wt ⟨rfl, rfl⟩))
      obtain ⟨f0, f1, f2, f3, f4, f5, z0, z1, z2, hB⟩ := two6_id (A := w.heap.size) (C := w.heap.size + 1) (B := w.heap.size) (w := w) (W := wb) (by assumption)
      clear hba hbb
      go_wp2_with (first | (go_at_call 89; (with_reducible refine (hc.at_ _).mono ?_); rintro e wt ⟨rfl, rfl⟩) | (go_at_call 39; (with_reducible refine (hc2.at_ _).mono ?_); rintro e wt ⟨rfl, rfl⟩))
      go_region_held3 (fun w' => w'.cell? ⟨w.heap.size, 0, none⟩ = some (.bool n1) ∧ w'.cell? ⟨w.heap.size, 1, none⟩ = some (.string s1) ∧ w'.cell? ⟨w.heap.size, 2, none⟩ = some (.int .i64 k1) ∧ w'.cell? ⟨w.heap.size + 1, 0, none⟩ = some (.bool n2) ∧ w'.cell? ⟨w.heap.size + 1, 1, none⟩ = some (.string s2) ∧ w'.cell? ⟨w.heap.size + 1, 2, none⟩ = some (.int .i64 k2) ∧ w.heap.size + 1 ≤ w'.heap.size ∧ w.heap.size + 1 + 1 ≤ w'.heap.size ∧ w.heap.size ≤ w'.heap.size ∧ Below w.heap.size w w')
        (first | (exact two6 (by assumption) (by assumption)) | assumption | (exact ⟨f0, f1, f2, f3, f4, f5, z0, z1, z2, hB.drew⟩) | go_keep)
        (first | (go_at_call 24; (with_reducible refine (hP1.at_ _).mono ?_); rintro e wc ⟨rfl, hbc⟩) | (go_at_call 24; (with_reducible refine (hP2.at_ _).mono ?_); rintro e wd ⟨rfl, hbd⟩) | (go_at_call 40; (with_reducible refine (hR1.at_ _).mono ?_); rintro e wt ⟨rfl, rfl⟩) | (go_at_call 40; (with_reducible refine (hR2.at_ _).mono ?_); rintro e wt ⟨rfl, rfl⟩) | (go_at_call 39; (with_reducible refine (hc3.at_ _).mono ?_); rintro e wt ⟨rfl, rfl⟩))
      go_wp2
      go_ret
      exact ⟨ret_int (by simp [cszV]), two6_below (by assumption)⟩
    · have hb2 : (c2 == 0) = false := by rw [beq_eq_false_iff_ne]; exact h2
      have H2 := Lib.hid h2
      clear h2
      go_enter Tryz.func70, Tryz.ntmps70
      go_wp2
      go_region_held3 (fun w' => w'.cell? ⟨w.heap.size, 0, none⟩ = some (.bool n1) ∧ w'.cell? ⟨w.heap.size, 1, none⟩ = some (.string s1) ∧ w'.cell? ⟨w.heap.size, 2, none⟩ = some (.int .i64 k1) ∧ w'.cell? ⟨w.heap.size + 1, 0, none⟩ = some (.bool n2) ∧ w'.cell? ⟨w.heap.size + 1, 1, none⟩ = some (.string s2) ∧ w'.cell? ⟨w.heap.size + 1, 2, none⟩ = some (.int .i64 k2) ∧ w.heap.size + 1 ≤ w'.heap.size ∧ w.heap.size + 1 + 1 ≤ w'.heap.size ∧ w.heap.size ≤ w'.heap.size ∧ Below w.heap.size w w')
        (first | (exact two6 (by assumption) (by assumption)) | assumption | (exact ⟨by simp, by simp, by simp, by simp, by simp, by simp, by simp <;> omega, by simp <;> omega, by simp <;> omega, (((Below.refl _ _).alloc (Nat.le_refl _) _).alloc (by simp) _).drew⟩) | go_keep)
        (first | (go_at_call 31; (with_reducible refine (hW1.at_ _).mono ?_); rintro e wa ⟨rfl, hba⟩) | (go_at_call 31; (with_reducible refine (hW2.at_ _).mono ?_); rintro e wb ⟨rfl, hbb⟩) | (go_at_call 88; (with_reducible refine (hT1.at_ _).mono ?_); rintro e wt ⟨rfl, rfl⟩) | (go_at_call 88; (with_reducible refine (hT2.at_ _).mono ?_); rintro e wt ⟨rfl, rfl⟩))
      obtain ⟨f0, f1, f2, f3, f4, f5, z0, z1, z2, hB⟩ := two6_id (A := w.heap.size) (C := w.heap.size + 1) (B := w.heap.size) (w := w) (W := wb) (by assumption)
      clear hba hbb
      go_wp2_with (first | (go_at_call 89; (with_reducible refine (hc.at_ _).mono ?_); rintro e wt ⟨rfl, rfl⟩) | (go_at_call 39; (with_reducible refine (hc2.at_ _).mono ?_); rintro e wt ⟨rfl, rfl⟩))
      go_ret
      exact ⟨ret_int (by simp [cszV, H2.out]), hB⟩
  · have hb0 : (c == 0) = false := by rw [beq_eq_false_iff_ne]; exact h0
    have H0 := Lib.hid h0
    clear h0
    go_enter Tryz.func70, Tryz.ntmps70
    go_wp2
    go_region_held3 (fun w' => w'.cell? ⟨w.heap.size, 0, none⟩ = some (.bool n1) ∧ w'.cell? ⟨w.heap.size, 1, none⟩ = some (.string s1) ∧ w'.cell? ⟨w.heap.size, 2, none⟩ = some (.int .i64 k1) ∧ w'.cell? ⟨w.heap.size + 1, 0, none⟩ = some (.bool n2) ∧ w'.cell? ⟨w.heap.size + 1, 1, none⟩ = some (.string s2) ∧ w'.cell? ⟨w.heap.size + 1, 2, none⟩ = some (.int .i64 k2) ∧ w.heap.size + 1 ≤ w'.heap.size ∧ w.heap.size + 1 + 1 ≤ w'.heap.size ∧ w.heap.size ≤ w'.heap.size ∧ Below w.heap.size w w')
      (first | (exact two6 (by assumption) (by assumption)) | assumption | (exact ⟨by simp, by simp, by simp, by simp, by simp, by simp, by simp <;> omega, by simp <;> omega, by simp <;> omega, (((Below.refl _ _).alloc (Nat.le_refl _) _).alloc (by simp) _).drew⟩) | go_keep)
      (first | (go_at_call 31; (with_reducible refine (hW1.at_ _).mono ?_); rintro e wa ⟨rfl, hba⟩) | (go_at_call 31; (with_reducible refine (hW2.at_ _).mono ?_); rintro e wb ⟨rfl, hbb⟩) | (go_at_call 88; (with_reducible refine (hT1.at_ _).mono ?_); rintro e wt ⟨rfl, rfl⟩) | (go_at_call 88; (with_reducible refine (hT2.at_ _).mono ?_); rintro e wt ⟨rfl, rfl⟩))
    obtain ⟨f0, f1, f2, f3, f4, f5, z0, z1, z2, hB⟩ := two6_id (A := w.heap.size) (C := w.heap.size + 1) (B := w.heap.size) (w := w) (W := wb) (by assumption)
    clear hba hbb
    go_wp2_with (first | (go_at_call 89; (with_reducible refine (hc.at_ _).mono ?_); rintro e wt ⟨rfl, rfl⟩))
    go_ret
    exact ⟨ret_int (by simp [cszV, H0.out]), hB⟩
def BelowTo (n : Bool) (s : ByteArray) (k : Nat) (b : Bool) : Prop := ∀ W : World, Calls Tryz.prog 69 #[.agg #[.bool n, .string s, .int .i64 k]] W fun e w' => e = .returned (.bool b) ∧ Below W.heap.size W w'
theorem BelowTo.at_ {n : Bool} {s : ByteArray} {k : Nat} {b : Bool} (h : BelowTo n s k b) (W : World) : Calls Tryz.prog 69 #[.agg #[.bool n, .string s, .int .i64 k]] W fun e w' => e = .returned (.bool b) ∧ Below W.heap.size W w' := h W
def SizesTo (n1 : Bool) (s1 : ByteArray) (k1 : Nat) (n2 : Bool) (s2 : ByteArray) (k2 : Nat) (c : Int) : Prop := ∀ W : World, Calls Tryz.prog 70 #[.agg #[.bool n1, .string s1, .int .i64 k1], .agg #[.bool n2, .string s2, .int .i64 k2]] W fun e w' => e = .returned (.int .i64 c) ∧ Below W.heap.size W w'
theorem SizesTo.at_ {n1 n2 : Bool} {s1 s2 : ByteArray} {k1 k2 : Nat} {c : Int} (h : SizesTo n1 s1 k1 n2 s2 k2 c) (W : World) : Calls Tryz.prog 70 #[.agg #[.bool n1, .string s1, .int .i64 k1], .agg #[.bool n2, .string s2, .int .i64 k2]] W fun e w' => e = .returned (.int .i64 c) ∧ Below W.heap.size W w' := h W
def zeroB (l : List UInt8) : Bool := (Lib.trimB l 48).isEmpty
set_option maxHeartbeats 400000 in
theorem below_any (n : Bool) (s : ByteArray) (k : Nat) (hs : s.size ≤ maxLen) : BelowTo n s k (n && !zeroB s.data.toList) := by
  intro W
  have hz := fun w => zero_any n s k w hs
  have Hz := Lib.hid hz
  clear hz
  cases n
  · go_enter Tryz.func69, Tryz.ntmps69
    go_wp2
    go_ret
    exact ⟨rfl, (Below.refl _ _).alloc (Nat.le_refl _) _⟩
  · go_enter Tryz.func69, Tryz.ntmps69
    go_wp2_with (go_at_call 33; refine (Hz.out _).mono ?_; rintro e w1 ⟨rfl, hb1⟩)
    go_ret
    exact ⟨ret_bool (by simp [zeroB]), below_box hb1⟩
def cmpV (b1 b2 : Bool) (c c' : Int) : Int := if b1 = b2 then (if b1 then c' else c) else (if b1 then -1 else 1)
set_option maxHeartbeats 2000000 in
set_option maxRecDepth 100000 in
theorem compare_core (n1 n2 b1 b2 : Bool) (s1 s2 : ByteArray) (k1 k2 : Nat) (c c' : Int) (w : World)
    (hb1 : BelowTo n1 s1 k1 b1) (hb2 : BelowTo n2 s2 k2 b2) (hc : SizesTo n1 s1 k1 n2 s2 k2 c) (hd : SizesTo n2 s2 k2 n1 s1 k1 c') :
    Calls Tryz.prog 49 #[.agg #[.bool n1, .string s1, .int .i64 k1], .agg #[.bool n2, .string s2, .int .i64 k2]] w fun e w' => e = .returned (.int .i64 (cmpV b1 b2 c c')) ∧ Below w.heap.size w w' := by
  cases b1 <;> cases b2
  all_goals
    go_enter Tryz.func49, Tryz.ntmps49
    go_wp2
    go_region_held3 (fun w' => w'.cell? ⟨w.heap.size, 0, none⟩ = some (.bool n1) ∧ w'.cell? ⟨w.heap.size, 1, none⟩ = some (.string s1) ∧ w'.cell? ⟨w.heap.size, 2, none⟩ = some (.int .i64 k1) ∧ w'.cell? ⟨w.heap.size + 1, 0, none⟩ = some (.bool n2) ∧ w'.cell? ⟨w.heap.size + 1, 1, none⟩ = some (.string s2) ∧ w'.cell? ⟨w.heap.size + 1, 2, none⟩ = some (.int .i64 k2) ∧ w.heap.size + 1 ≤ w'.heap.size ∧ w.heap.size + 1 + 1 ≤ w'.heap.size ∧ w.heap.size ≤ w'.heap.size ∧ Below w.heap.size w w')
      (first | (exact two6 (by assumption) (by assumption)) | assumption | (exact ⟨by simp, by simp, by simp, by simp, by simp, by simp, by simp <;> omega, by simp <;> omega, by simp <;> omega, (((Below.refl _ _).alloc (Nat.le_refl _) _).alloc (by simp) _).drew⟩) | go_keep)
      (first | (go_at_call 69; (with_reducible refine (hb1.at_ _).mono ?_); rintro e wa ⟨rfl, hba⟩) | (go_at_call 69; (with_reducible refine (hb2.at_ _).mono ?_); rintro e wb ⟨rfl, hbb⟩))
    obtain ⟨f0, f1, f2, f3, f4, f5, z0, z1, z2, hB⟩ := two6_id (A := w.heap.size) (C := w.heap.size + 1) (B := w.heap.size) (w := w) (W := wb) (by assumption)
    clear hba hbb
    have y0 : w.heap.size < wb.heap.size := z0
    have y1 : w.heap.size + 1 < wb.heap.size := z1
    go_wp2_with fail
  · go_at_call 69
    refine (hb1.at_ _).mono ?_
    rintro e wc ⟨rfl, hbc⟩
    obtain ⟨hcc, hfc⟩ := bcell hbc
    go_wp2_with fail
    go_at_call 70
    refine (hc.at_ _).mono ?_
    rintro e wd ⟨rfl, hbd⟩
    go_wp2
    go_ret
    exact ⟨rfl, below_then (below_then hB (Nat.le_refl _) hbc) (Nat.le_refl _) hbd⟩
  · go_at_call 69
    refine (hb1.at_ _).mono ?_
    rintro e wc ⟨rfl, hbc⟩
    go_wp2
    go_ret
    exact ⟨rfl, below_then hB (Nat.le_refl _) hbc⟩
  · go_at_call 69
    refine (hb1.at_ _).mono ?_
    rintro e wc ⟨rfl, hbc⟩
    go_wp2
    go_ret
    exact ⟨rfl, below_then hB (Nat.le_refl _) hbc⟩
  · go_at_call 69
    refine (hb1.at_ _).mono ?_
    rintro e wc ⟨rfl, hbc⟩
    obtain ⟨hcc, hfc⟩ := bcell hbc
    go_wp2_with fail
    go_at_call 70
    refine (hd.at_ _).mono ?_
    rintro e wd ⟨rfl, hbd⟩
    go_wp2
    go_ret
    exact ⟨rfl, below_then (below_then hB (Nat.le_refl _) hbc) (Nat.le_refl _) hbd⟩
def sizeC (l1 : List UInt8) (k1 : Nat) (l2 : List UInt8) (k2 : Nat) : Int :=
  cszV (Lib.compareInt (Lib.trimLeftB (l1.take (l1.length - k1)) 48).length (Lib.trimLeftB (l2.take (l2.length - k2)) 48).length)
    (cmpS (Lib.trimLeftB (l1.take (l1.length - k1)) 48) (Lib.trimLeftB (l2.take (l2.length - k2)) 48))
    (cmpS (Lib.trimRightB (l1.drop (l1.length - k1)) 48) (Lib.trimRightB (l2.drop (l2.length - k2)) 48))
def decC (n1 : Bool) (l1 : List UInt8) (k1 : Nat) (n2 : Bool) (l2 : List UInt8) (k2 : Nat) : Int :=
  cmpV (n1 && !zeroB l1) (n2 && !zeroB l2) (sizeC l1 k1 l2 k2) (sizeC l2 k2 l1 k1)
theorem sizes_any (n1 n2 : Bool) (s1 s2 : ByteArray) (k1 k2 : Nat) (h1 : s1.size ≤ maxLen) (h2 : s2.size ≤ maxLen) (hk1 : k1 ≤ s1.size) (hk2 : k2 ≤ s2.size) : SizesTo n1 s1 k1 n2 s2 k2 (sizeC s1.data.toList k1 s2.data.toList k2) := by
  intro W
  have hw1 : WholeTo n1 s1 k1 (s1.extract 0 (s1.size - k1)) := fun W => whole_any n1 s1 k1 W h1 hk1
  have hw2 : WholeTo n2 s2 k2 (s2.extract 0 (s2.size - k2)) := fun W => whole_any n2 s2 k2 W h2 hk2
  have hp1 : PartTo n1 s1 (s1.extract (s1.size - k1) s1.size) k1 := fun W => part_any n1 s1 k1 W h1 hk1
  have hp2 : PartTo n2 s2 (s2.extract (s2.size - k2) s2.size) k2 := fun W => part_any n2 s2 k2 W h2 hk2
  have z1 : (s1.extract (s1.size - k1) s1.size).size ≤ 9223372036854775807 := by unfold maxLen at h1; rw [ByteArray.size_extract]; omega
  have z2 : (s2.extract (s2.size - k2) s2.size).size ≤ 9223372036854775807 := by unfold maxLen at h2; rw [ByteArray.size_extract]; omega
  have := sizes_core n1 n2 s1 s2 _ _ _ _ _ _ _ _ k1 k2 _ _ _ W hw1 hw2 (trimTo _) (trimTo _) hp1 hp2 (trimRTo _ z1) (trimRTo _ z2) (cmpITo _ _) (fun W => cmpString_any _ _ W) (fun W => cmpString_any _ _ W)
  simp only [size_mk, extract_take, extract_drop] at this
  unfold sizeC
  rw [size_data, size_data]
  exact this
theorem compare_any (n1 n2 : Bool) (s1 s2 : ByteArray) (k1 k2 : Nat) (w : World) (h1 : s1.size ≤ maxLen) (h2 : s2.size ≤ maxLen) (hk1 : k1 ≤ s1.size) (hk2 : k2 ≤ s2.size) :
    Calls Tryz.prog 49 #[.agg #[.bool n1, .string s1, .int .i64 k1], .agg #[.bool n2, .string s2, .int .i64 k2]] w fun e w' => e = .returned (.int .i64 (decC n1 s1.data.toList k1 n2 s2.data.toList k2)) ∧ Below w.heap.size w w' :=
  compare_core n1 n2 _ _ s1 s2 k1 k2 _ _ w (below_any n1 s1 k1 h1) (below_any n2 s2 k2 h2) (sizes_any n1 n2 s1 s2 k1 k2 h1 h2 hk1 hk2) (sizes_any n2 n1 s2 s1 k2 k1 h2 h1 hk2 hk1)
end Go.Proofs.YtjdpmdheapmanaaGreatDoor

namespace Go.Proofs.YtjdpmdheapmanaaGreatDoor
open Go.RowKit
def roundL (l : List UInt8) (sc m : Nat) : List UInt8 :=
  if m < sc then (if upB (l.take (l.length - sc + m)) (l.drop (l.length - sc + m)) = true then incL (l.take (l.length - sc + m)) else l.take (l.length - sc + m)) else l
theorem partTo (neg : Bool) (s : ByteArray) (sc : Nat) (hs : s.size ≤ maxLen) (hsc : sc ≤ s.size) : PartTo neg s (s.extract (s.size - sc) s.size) sc := fun W => part_any neg s sc W hs hsc
theorem round_any (neg : Bool) (s : ByteArray) (sc : Nat) (x : Int) (w : World) (hs : s.size ≤ 1000000) (hsc : sc ≤ s.size) (hd : s.data.toList.all digB = true) (hx0 : -9223372036854775808 ≤ x) (hx1 : x ≤ 9223372036854775807) :
    Calls Tryz.prog 13 #[.agg #[.bool neg, .string s, .int .i64 sc], .int .i64 x] w fun e w' => e = .returned (.agg #[.bool neg, .string ⟨(roundL s.data.toList sc x.toNat).toArray⟩, .int .i64 (min sc x.toNat : Nat)]) ∧ Below w.heap.size w w' := by
  have hmax : s.size ≤ maxLen := by unfold maxLen; omega
  have hp := partTo neg s sc hmax hsc
  have hps : (s.extract (s.size - sc) s.size).size = sc := by simp; omega
  by_cases hm : x.toNat < sc
  · have hk : (s.extract 0 (s.size - sc + x.toNat)).data.toList = s.data.toList.take (s.data.toList.length - sc + x.toNat) := by rw [extract_take, size_data]
    have ho : ((s.extract (s.size - sc) s.size).extract x.toNat (s.extract (s.size - sc) s.size).size).data.toList = s.data.toList.drop (s.data.toList.length - sc + x.toNat) := by
      rw [extract_drop, extract_drop, List.drop_drop, size_data]
    have hksz : (s.extract 0 (s.size - sc + x.toNat)).size ≤ 1000000 := by simp; omega
    have hkd : (s.extract 0 (s.size - sc + x.toNat)).data.toList.all digB = true := by
      rw [hk]
      exact List.all_eq_true.2 fun c hc => List.all_eq_true.1 hd c (List.mem_of_mem_take hc)
    have hup : UpTo (s.extract 0 (s.size - sc + x.toNat)) ((s.extract (s.size - sc) s.size).extract x.toNat (s.extract (s.size - sc) s.size).size) (upB (s.data.toList.take (s.data.toList.length - sc + x.toNat)) (s.data.toList.drop (s.data.toList.length - sc + x.toNat))) := by
      intro W
      rw [← hk, ← ho]
      exact roundsUp_any _ _ W (by unfold maxLen; omega) (by unfold maxLen; simp; omega)
    have hinc : IncTo (s.extract 0 (s.size - sc + x.toNat)) ⟨(incL (s.data.toList.take (s.data.toList.length - sc + x.toNat))).toArray⟩ := by
      intro W
      rw [← hk]
      exact plusOne_any _ W hksz hkd
    have hres : ∀ up, up = upB (s.data.toList.take (s.data.toList.length - sc + x.toNat)) (s.data.toList.drop (s.data.toList.length - sc + x.toNat)) →
        roundL s.data.toList sc x.toNat = if up = true then incL (s.data.toList.take (s.data.toList.length - sc + x.toNat)) else s.data.toList.take (s.data.toList.length - sc + x.toNat) := by
      intro up e
      rw [e]
      unfold roundL
      rw [if_pos hm]
    have hmin : min sc x.toNat = x.toNat := by omega
    generalize hU : upB (s.data.toList.take (s.data.toList.length - sc + x.toNat)) (s.data.toList.drop (s.data.toList.length - sc + x.toNat)) = up at hup hres
    have hr := hres up rfl
    have hk2 : ∀ k2 : ByteArray, k2.data.toList = roundL s.data.toList sc x.toNat → k2 = ⟨(roundL s.data.toList sc x.toNat).toArray⟩ := by
      intro k2 e
      rw [← e]
    rw [hmin]
    by_cases hneg : x < 0
    · have hx : x.toNat = 0 := by omega
      rw [hx] at hup hinc hr hk2 hk ⊢
      simp only [Nat.add_zero] at hup hinc hr hk
      have hpz : ((s.extract (s.size - sc) s.size).extract 0 (s.extract (s.size - sc) s.size).size) = s.extract (s.size - sc) s.size := by
        apply bytes_eq
        rw [extract_drop]
        rfl
      rw [hpz] at hup
      refine (round_neg neg up s _ ⟨(roundL s.data.toList sc 0).toArray⟩ sc x hneg w hs hsc hp hps (by omega) hup ?_ ?_).mono ?_
      · intro h; rw [hr, if_pos h]; exact hinc
      · intro h
        exact (hk2 _ (by rw [hk, hr, h]; rfl)).symm
      · rintro e w' ⟨rfl, hb⟩; exact ⟨rfl, hb⟩
    · have hx : ((x.toNat : Nat) : Int) = x := by omega
      refine hx ▸ (round_less neg up s _ ⟨(roundL s.data.toList sc x.toNat).toArray⟩ sc x.toNat w hs hsc hp hps hm hup ?_ ?_).mono ?_
      · intro h; rw [hr, if_pos h]; exact hinc
      · intro h
        exact (hk2 _ (by rw [hk, hr, h]; rfl)).symm
      · rintro e w' ⟨rfl, hb⟩; exact ⟨rfl, hb⟩
  · have hl : roundL s.data.toList sc x.toNat = s.data.toList := by unfold roundL; rw [if_neg hm]
    have hmin : min sc x.toNat = sc := by omega
    refine (round_same neg s _ sc x w hp hps (by omega) hx1 hx0).mono ?_
    rintro e w' ⟨rfl, hb⟩
    refine ⟨?_, hb⟩
    rw [hl, hmin]
end Go.Proofs.YtjdpmdheapmanaaGreatDoor

namespace Go.Proofs.YtjdpmdheapmanaaGreatDoor
open Go.RowKit
set_option linter.unusedVariables false
theorem drop48 (l : List UInt8) : ∃ k, l = List.replicate k 48 ++ l.dropWhile (· == 48) := by
  induction l with
  | nil => exact ⟨0, rfl⟩
  | cons c r ih =>
    obtain ⟨k, hk⟩ := ih
    by_cases h : c = 48
    · subst h
      refine ⟨k + 1, ?_⟩
      rw [List.dropWhile_cons_of_pos (by simp), List.replicate_succ, List.cons_append, ← hk]
    · exact ⟨0, by rw [List.dropWhile_cons_of_neg (by simpa using h)]; rfl⟩
theorem drop48_head (l : List UInt8) : (l.dropWhile (· == 48)).head? ≠ some 48 := by
  induction l with
  | nil => simp
  | cons c r ih =>
    by_cases h : c = 48
    · subst h
      rwa [List.dropWhile_cons_of_pos (by simp)]
    · rw [List.dropWhile_cons_of_neg (by simpa using h)]
      simpa using h
theorem trimR_split (l : List UInt8) : ∃ k, l = Lib.trimRightB l 48 ++ List.replicate k 48 := by
  obtain ⟨k, hk⟩ := drop48 l.reverse
  refine ⟨k, ?_⟩
  have := congrArg List.reverse hk
  rw [List.reverse_append, List.reverse_reverse, List.reverse_replicate] at this
  exact this
theorem incR_length (r : List UInt8) : r.length ≤ (incR r).length ∧ (incR r).length ≤ r.length + 1 := by
  induction r with
  | nil => exact ⟨by simp [incR], by simp [incR]⟩
  | cons c r ih =>
    rw [incR]
    split
    · simp only [List.length_cons]
      omega
    · simp
theorem incL_length (l : List UInt8) : l.length ≤ (incL l).length ∧ (incL l).length ≤ l.length + 1 := by
  have := incR_length l.reverse
  unfold incL
  simpa using this
theorem roundL_length (l : List UInt8) (k m : Nat) (hk : k ≤ l.length) : min k m ≤ (roundL l k m).length ∧ (roundL l k m).length ≤ l.length + 1 := by
  have hl : (l.take (l.length - k + m)).length = min (l.length - k + m) l.length := List.length_take
  unfold roundL
  split
  · split
    · have := incL_length (l.take (l.length - k + m))
      omega
    · omega
  · omega
def trimZ (l : List UInt8) (k m : Nat) : Nat := k - m - (Lib.trimRightB (l.drop (l.length - k + m)) 48).length
theorem trimZ_le (l : List UInt8) (k m : Nat) : trimZ l k m ≤ k - m := by unfold trimZ; omega
theorem trim_split (l : List UInt8) (k m : Nat) (hk : k ≤ l.length) (hm : m < k) :
    l = l.take (l.length - trimZ l k m) ++ List.replicate (trimZ l k m) 48 ∧ l.take (l.length - trimZ l k m) = l.take (l.length - k + m) ++ Lib.trimRightB (l.drop (l.length - k + m)) 48 ∧ (Lib.trimRightB (l.drop (l.length - k + m)) 48).length + trimZ l k m = k - m := by
  obtain ⟨j, hj⟩ := trimR_split (l.drop (l.length - k + m))
  have hl := congrArg List.length hj
  rw [List.length_append, List.length_replicate, List.length_drop] at hl
  have hz : trimZ l k m = j := by unfold trimZ; omega
  have e : l = (l.take (l.length - k + m) ++ Lib.trimRightB (l.drop (l.length - k + m)) 48) ++ List.replicate j 48 := by
    rw [List.append_assoc, ← hj, List.take_append_drop]
  have hlen : (l.take (l.length - k + m) ++ Lib.trimRightB (l.drop (l.length - k + m)) 48).length = l.length - j := by
    rw [List.length_append, List.length_take]; omega
  have ht : l.take (l.length - j) = l.take (l.length - k + m) ++ Lib.trimRightB (l.drop (l.length - k + m)) 48 := by
    have := congrArg (List.take (l.length - j)) e
    rw [this, ← hlen, List.take_left]
  rw [hz]
  refine ⟨?_, ht, by omega⟩
  rw [ht]
  exact e
end Go.Proofs.YtjdpmdheapmanaaGreatDoor

namespace Go.Proofs.YtjdpmdheapmanaaGreatDoor
open Go.RowKit
def numL : List UInt8 → Nat
  | [] => 0
  | c :: r => (c.toNat - 48) * 10 ^ r.length + numL r
theorem ten_pos (n : Nat) : 0 < 10 ^ n := Nat.pow_pos (by decide)
theorem numL_append (a b : List UInt8) : numL (a ++ b) = numL a * 10 ^ b.length + numL b := by
  induction a with
  | nil => simp [numL]
  | cons c a ih =>
    rw [List.cons_append, numL, numL, ih, List.length_append, Nat.pow_add, Nat.add_mul, Nat.mul_assoc]
    omega
theorem numL_noughts (k : Nat) : numL (List.replicate k 48) = 0 := by
  induction k with
  | zero => rfl
  | succ k ih => rw [List.replicate_succ, numL, ih]; simp
theorem numL_lt (l : List UInt8) (h : l.all digB = true) : numL l < 10 ^ l.length := by
  induction l with
  | nil => simp [numL]
  | cons c r ih =>
    rw [List.all_cons, Bool.and_eq_true] at h
    have h1 := ih h.2
    have h2 := dig_le h.1
    have h3 : (c.toNat - 48) * 10 ^ r.length ≤ 9 * 10 ^ r.length := Nat.mul_le_mul_right _ (by omega)
    rw [numL, List.length_cons, Nat.pow_succ]
    omega
def cmpN (a b : Nat) : Int := if a < b then -1 else if a = b then 0 else 1
theorem cmpN_mul (a b k : Nat) (hk : 0 < k) : cmpN (a * k) (b * k) = cmpN a b := by
  unfold cmpN
  simp only [Nat.mul_lt_mul_right hk, Nat.mul_left_inj (Nat.pos_iff_ne_zero.1 hk)]
theorem cmpN_mix (M a b x y : Nat) (hx : x < M) (hy : y < M) : cmpN (a * M + x) (b * M + y) = if a < b then -1 else if a = b then cmpN x y else 1 := by
  by_cases h1 : a < b
  · have h : (a + 1) * M ≤ b * M := Nat.mul_le_mul_right _ h1
    rw [Nat.add_mul] at h
    rw [if_pos h1]
    unfold cmpN
    rw [if_pos (by omega)]
  · rw [if_neg h1]
    by_cases h2 : a = b
    · subst h2
      rw [if_pos rfl]
      unfold cmpN
      by_cases h3 : x < y
      · rw [if_pos h3, if_pos (by omega)]
      · rw [if_neg h3, if_neg (by omega)]
        by_cases h4 : x = y
        · rw [if_pos h4, if_pos (by omega)]
        · rw [if_neg h4, if_neg (by omega)]
    · rw [if_neg h2]
      have h : (b + 1) * M ≤ a * M := Nat.mul_le_mul_right _ (by omega)
      rw [Nat.add_mul] at h
      unfold cmpN
      rw [if_neg (by omega), if_neg (by omega)]
theorem three (x y : Nat) (hx : 48 ≤ x) (hy : 48 ≤ y) (z : Int) : (if x < y then -1 else if x = y then z else 1) = (if x - 48 < y - 48 then -1 else if x - 48 = y - 48 then z else 1) := by
  have e1 : (x - 48 < y - 48) ↔ x < y := by omega
  have e2 : (x - 48 = y - 48) ↔ x = y := by omega
  simp only [e1, e2]
theorem cmpS_nil : cmpS [] [] = 0 := rfl
theorem cmpS_less (d : UInt8) (b : List UInt8) : cmpS [] (d :: b) = -1 := rfl
theorem cmpS_more (c : UInt8) (a : List UInt8) : cmpS (c :: a) [] = 1 := rfl
theorem cmpS_cons (c d : UInt8) (a b : List UInt8) : cmpS (c :: a) (d :: b) = if c.toNat < d.toNat then -1 else if c.toNat = d.toNat then cmpS a b else 1 := by
  have hlt : (c < d) ↔ c.toNat < d.toNat := UInt8.lt_iff_toNat_lt
  have heq : (c = d) ↔ c.toNat = d.toNat := UInt8.toNat_inj.symm
  unfold cmpS
  rw [Op.bytesLess]
  by_cases h1 : c.toNat < d.toNat
  · simp [h1, hlt.2 h1]
  · have h1' : ¬ c < d := fun h => h1 (hlt.1 h)
    by_cases h2 : c.toNat = d.toNat
    · have := heq.2 h2
      subst this
      simp [h1']
    · have h2' : ¬ c = d := fun h => h2 (heq.1 h)
      simp [h1, h1', h2, h2']
theorem cmpS_num : ∀ a b : List UInt8, a.all digB = true → b.all digB = true → a.length = b.length → cmpS a b = cmpN (numL a) (numL b)
  | [], [], _, _, _ => rfl
  | [], _ :: _, _, _, h => by simp at h
  | _ :: _, [], _, _, h => by simp at h
  | c :: a, d :: b, ha, hb, h => by
    rw [List.all_cons, Bool.and_eq_true] at ha hb
    have hl : a.length = b.length := by simpa using h
    have h1 := numL_lt a ha.2
    have h2 := numL_lt b hb.2
    have hc := dig_le ha.1
    have hd := dig_le hb.1
    rw [cmpS_cons, numL, numL, hl, cmpN_mix _ _ _ _ _ (hl ▸ h1) h2, cmpS_num a b ha.2 hb.2 hl]
    exact three _ _ hc.1 hd.1 _
def endsWell (l : List UInt8) : Prop := l.getLast? ≠ some 48
theorem endsWell_tail {c : UInt8} {l : List UInt8} (h : endsWell (c :: l)) : endsWell l := by
  unfold endsWell at *
  cases l with
  | nil => simp
  | cons d r => rwa [List.getLast?_cons_cons] at h
theorem numL_pos : ∀ l : List UInt8, l.all digB = true → endsWell l → l ≠ [] → 0 < numL l
  | [], _, _, h => absurd rfl h
  | [c], ha, he, _ => by
    have hc := dig_le (by simpa using ha : digB c = true)
    have : c.toNat ≠ 48 := fun h => he (by
      have : c = 48 := UInt8.toNat_inj.1 h
      simp [this])
    simp [numL]
    omega
  | c :: d :: r, ha, he, _ => by
    rw [List.all_cons, Bool.and_eq_true] at ha
    have := numL_pos (d :: r) ha.2 (endsWell_tail he) (by simp)
    rw [numL]
    omega
theorem cmpS_part : ∀ a b : List UInt8, a.all digB = true → b.all digB = true → endsWell a → endsWell b → cmpS a b = cmpN (numL a * 10 ^ b.length) (numL b * 10 ^ a.length)
  | [], [], _, _, _, _ => rfl
  | [], d :: b, _, hb, _, he => by
    have := numL_pos (d :: b) hb he (by simp)
    rw [cmpS_less]
    simp [cmpN, numL] at *
    omega
  | c :: a, [], ha, _, he, _ => by
    have := numL_pos (c :: a) ha he (by simp)
    rw [cmpS_more]
    simp [cmpN, numL] at *
    omega
  | c :: a, d :: b, ha, hb, hea, heb => by
    rw [List.all_cons, Bool.and_eq_true] at ha hb
    have h1 := numL_lt a ha.2
    have h2 := numL_lt b hb.2
    have hc := dig_le ha.1
    have hd := dig_le hb.1
    have g1 : numL a * 10 ^ b.length < 10 ^ a.length * 10 ^ b.length := Nat.mul_lt_mul_of_pos_right h1 (ten_pos _)
    have g2 : numL b * 10 ^ a.length < 10 ^ a.length * 10 ^ b.length := by
      rw [Nat.mul_comm (10 ^ a.length)]
      exact Nat.mul_lt_mul_of_pos_right h2 (ten_pos _)
    have e1 : numL (c :: a) * 10 ^ (d :: b).length = ((c.toNat - 48) * (10 ^ a.length * 10 ^ b.length) + numL a * 10 ^ b.length) * 10 := by
      rw [numL, List.length_cons, Nat.pow_succ, ← Nat.mul_assoc, Nat.add_mul, Nat.mul_assoc (c.toNat - 48)]
    have e2 : numL (d :: b) * 10 ^ (c :: a).length = ((d.toNat - 48) * (10 ^ a.length * 10 ^ b.length) + numL b * 10 ^ a.length) * 10 := by
      rw [numL, List.length_cons, Nat.pow_succ, ← Nat.mul_assoc, Nat.add_mul, Nat.mul_assoc (d.toNat - 48), Nat.mul_comm (10 ^ b.length)]
    rw [cmpS_cons, e1, e2, cmpN_mul _ _ _ (by decide), cmpN_mix _ _ _ _ _ g1 g2, cmpS_part a b ha.2 hb.2 (endsWell_tail hea) (endsWell_tail heb)]
    exact three _ _ hc.1 hd.1 _
theorem trimL_num (l : List UInt8) : numL (Lib.trimLeftB l 48) = numL l := by
  obtain ⟨k, hk⟩ := drop48 l
  have := congrArg numL hk
  rw [numL_append, numL_noughts] at this
  unfold Lib.trimLeftB
  omega
theorem trimL_digs {l : List UInt8} (h : l.all digB = true) : (Lib.trimLeftB l 48).all digB = true := by
  obtain ⟨k, hk⟩ := drop48 l
  rw [hk, List.all_append, Bool.and_eq_true] at h
  exact h.2
theorem trimR_digs {l : List UInt8} (h : l.all digB = true) : (Lib.trimRightB l 48).all digB = true := by
  obtain ⟨k, hk⟩ := trimR_split l
  rw [hk, List.all_append, Bool.and_eq_true] at h
  exact h.1
theorem trimR_ends (l : List UInt8) : endsWell (Lib.trimRightB l 48) := by
  unfold endsWell Lib.trimRightB
  rw [List.getLast?_reverse]
  exact drop48_head _
theorem parts_num (p q : List UInt8) (hp : p.all digB = true) (hq : q.all digB = true) : cmpS (Lib.trimRightB p 48) (Lib.trimRightB q 48) = cmpN (numL p * 10 ^ q.length) (numL q * 10 ^ p.length) := by
  rw [cmpS_part _ _ (trimR_digs hp) (trimR_digs hq) (trimR_ends p) (trimR_ends q)]
  obtain ⟨i, hi⟩ := trimR_split p
  obtain ⟨j, hj⟩ := trimR_split q
  generalize Lib.trimRightB p 48 = a at *
  generalize Lib.trimRightB q 48 = b at *
  subst hi hj
  rw [← cmpN_mul _ _ (10 ^ i * 10 ^ j) (Nat.mul_pos (ten_pos _) (ten_pos _))]
  rw [numL_append, numL_append, numL_noughts, numL_noughts]
  simp only [List.length_append, List.length_replicate, Nat.pow_add, Nat.add_zero]
  congr 1 <;> ac_rfl
theorem head_pow {l : List UInt8} (h : l.all digB = true) (hh : l.head? ≠ some 48) (hl : l ≠ []) : 10 ^ (l.length - 1) ≤ numL l := by
  cases l with
  | nil => exact absurd rfl hl
  | cons c r =>
    rw [List.all_cons, Bool.and_eq_true] at h
    have hc := dig_le h.1
    have : c.toNat ≠ 48 := fun e => hh (by
      have : c = 48 := UInt8.toNat_inj.1 e
      simp [this])
    have h3 : 1 * 10 ^ r.length ≤ (c.toNat - 48) * 10 ^ r.length := Nat.mul_le_mul_right _ (by omega)
    rw [numL]
    simp only [List.length_cons, Nat.add_sub_cancel]
    omega
theorem wholes_less {a b : List UInt8} (ha : a.all digB = true) (hb : b.all digB = true) (hh : b.head? ≠ some 48) (hl : a.length < b.length) : numL a < numL b := by
  have h1 := numL_lt a ha
  have h2 := head_pow hb hh (by intro e; rw [e] at hl; simp at hl)
  have h3 : 10 ^ a.length ≤ 10 ^ (b.length - 1) := Nat.pow_le_pow_right (by decide) (by omega)
  omega
theorem wholes_num (a b : List UInt8) (ha : a.all digB = true) (hb : b.all digB = true) (hha : a.head? ≠ some 48) (hhb : b.head? ≠ some 48) (z : Int) :
    cszV (Lib.compareInt a.length b.length) (cmpS a b) z = if numL a < numL b then -1 else if numL a = numL b then z else 1 := by
  by_cases h1 : a.length < b.length
  · have := wholes_less ha hb hhb h1
    have e : Lib.compareInt a.length b.length = -1 := by
      unfold Lib.compareInt
      rw [if_pos (by omega)]
    rw [e, if_pos this]
    rfl
  · by_cases h2 : b.length < a.length
    · have := wholes_less hb ha hha h2
      have e : Lib.compareInt a.length b.length = 1 := by
        unfold Lib.compareInt
        rw [if_neg (by omega), if_pos (by omega)]
      rw [e, if_neg (by omega), if_neg (by omega)]
      rfl
    · have hl : a.length = b.length := by omega
      have e : Lib.compareInt a.length b.length = 0 := by
        unfold Lib.compareInt
        rw [if_neg (by omega), if_neg (by omega)]
      rw [e, cmpS_num a b ha hb hl]
      unfold cszV cmpN
      rw [if_pos rfl]
      by_cases h3 : numL a < numL b
      · simp [h3]
      · by_cases h4 : numL a = numL b
        · simp [h4]
        · simp [h3, h4]
theorem all_drop {l : List UInt8} (h : l.all digB = true) (n : Nat) : (l.drop n).all digB = true :=
  List.all_eq_true.2 fun c hc => List.all_eq_true.1 h c (List.mem_of_mem_drop hc)
theorem numL_cut (l : List UInt8) (k : Nat) (hk : k ≤ l.length) : numL l = numL (l.take (l.length - k)) * 10 ^ k + numL (l.drop (l.length - k)) := by
  have e := congrArg numL (List.take_append_drop (l.length - k) l)
  rw [numL_append, List.length_drop] at e
  rw [← e]
  congr 3
  omega
theorem sizeC_num (l1 l2 : List UInt8) (k1 k2 : Nat) (h1 : l1.all digB = true) (h2 : l2.all digB = true) (hk1 : k1 ≤ l1.length) (hk2 : k2 ≤ l2.length) :
    sizeC l1 k1 l2 k2 = cmpN (numL l1 * 10 ^ k2) (numL l2 * 10 ^ k1) := by
  have d1 : (l1.drop (l1.length - k1)).length = k1 := by rw [List.length_drop]; omega
  have d2 : (l2.drop (l2.length - k2)).length = k2 := by rw [List.length_drop]; omega
  have b1 := numL_lt _ (all_drop h1 (l1.length - k1))
  have b2 := numL_lt _ (all_drop h2 (l2.length - k2))
  rw [d1] at b1
  rw [d2] at b2
  have hp := parts_num (l1.drop (l1.length - k1)) (l2.drop (l2.length - k2)) (all_drop h1 _) (all_drop h2 _)
  rw [d1, d2] at hp
  unfold sizeC
  rw [wholes_num _ _ (trimL_digs (all_take h1 _)) (trimL_digs (all_take h2 _)) (drop48_head _) (drop48_head _), hp, trimL_num, trimL_num, numL_cut l1 k1 hk1, numL_cut l2 k2 hk2]
  generalize numL (l1.take (l1.length - k1)) = a
  generalize numL (l2.take (l2.length - k2)) = b
  generalize numL (l1.drop (l1.length - k1)) = x at *
  generalize numL (l2.drop (l2.length - k2)) = y at *
  have g1 : x * 10 ^ k2 < 10 ^ k1 * 10 ^ k2 := Nat.mul_lt_mul_of_pos_right b1 (ten_pos _)
  have g2 : y * 10 ^ k1 < 10 ^ k1 * 10 ^ k2 := by
    rw [Nat.mul_comm (10 ^ k1)]
    exact Nat.mul_lt_mul_of_pos_right b2 (ten_pos _)
  rw [Nat.add_mul, Nat.add_mul, Nat.mul_assoc, Nat.mul_assoc, Nat.mul_comm (10 ^ k2) (10 ^ k1), cmpN_mix _ _ _ _ _ g1 g2]
theorem zeroB_num (l : List UInt8) (h : l.all digB = true) : zeroB l = decide (numL l = 0) := by
  obtain ⟨k, hk⟩ := trimR_split l
  have e : numL l = numL (Lib.trimLeftB (Lib.trimRightB l 48) 48) * 10 ^ k := by
    have := congrArg numL hk
    rw [numL_append, numL_noughts, List.length_replicate, ← trimL_num (Lib.trimRightB l 48)] at this
    exact this
  have hd := trimL_digs (trimR_digs h)
  unfold zeroB Lib.trimB
  cases hc : Lib.trimLeftB (Lib.trimRightB l 48) 48 with
  | nil =>
    rw [hc] at e
    simp [numL] at e
    simp [e]
  | cons c r =>
    have hp := head_pow hd (drop48_head _) (by rw [hc]; simp)
    have : 0 < numL l := by
      rw [e]
      exact Nat.mul_pos (Nat.lt_of_lt_of_le (ten_pos _) hp) (ten_pos _)
    simp
    omega
def sv (n : Bool) (x : Nat) : Int := if n = true then -(x : Int) else x
def cmpZ (a b : Int) : Int := if a < b then -1 else if a = b then 0 else 1
theorem decC_num (n1 n2 : Bool) (l1 l2 : List UInt8) (k1 k2 : Nat) (h1 : l1.all digB = true) (h2 : l2.all digB = true) (hk1 : k1 ≤ l1.length) (hk2 : k2 ≤ l2.length) :
    decC n1 l1 k1 n2 l2 k2 = cmpZ (sv n1 (numL l1 * 10 ^ k2)) (sv n2 (numL l2 * 10 ^ k1)) := by
  unfold decC
  rw [sizeC_num l1 l2 k1 k2 h1 h2 hk1 hk2, sizeC_num l2 l1 k2 k1 h2 h1 hk2 hk1, zeroB_num l1 h1, zeroB_num l2 h2]
  have z1 : numL l1 = 0 ↔ numL l1 * 10 ^ k2 = 0 := by
    constructor
    · intro e; simp [e]
    · intro e; rcases Nat.mul_eq_zero.1 e with e | e
      · exact e
      · exact absurd e (Nat.pos_iff_ne_zero.1 (ten_pos _))
  have z2 : numL l2 = 0 ↔ numL l2 * 10 ^ k1 = 0 := by
    constructor
    · intro e; simp [e]
    · intro e; rcases Nat.mul_eq_zero.1 e with e | e
      · exact e
      · exact absurd e (Nat.pos_iff_ne_zero.1 (ten_pos _))
  simp only [z1, z2]
  generalize numL l1 * 10 ^ k2 = x
  generalize numL l2 * 10 ^ k1 = y
  unfold cmpV cmpN cmpZ sv
  cases n1 <;> cases n2 <;> by_cases hx : x = 0 <;> by_cases hy : y = 0 <;> simp [hx, hy] <;> (repeat' split) <;> omega
theorem cmpZ_le (a b : Int) : cmpZ a b ≤ 0 ↔ a ≤ b := by
  unfold cmpZ
  split
  · omega
  · split <;> omega
theorem sv_mul (n : Bool) (x k : Nat) : sv n (x * k) = sv n x * (k : Int) := by
  unfold sv
  cases n <;> simp [Int.neg_mul]
theorem sv_le_mul (n m : Bool) (x y k : Nat) (hk : 0 < k) : sv n (x * k) ≤ sv m (y * k) ↔ sv n x ≤ sv m y := by
  rw [sv_mul, sv_mul]
  exact Int.mul_le_mul_right (by omega)
theorem decC_trans (n1 n2 n3 : Bool) (l1 l2 l3 : List UInt8) (k1 k2 k3 : Nat) (h1 : l1.all digB = true) (h2 : l2.all digB = true) (h3 : l3.all digB = true) (hk1 : k1 ≤ l1.length) (hk2 : k2 ≤ l2.length) (hk3 : k3 ≤ l3.length)
    (a : decC n1 l1 k1 n2 l2 k2 ≤ 0) (b : decC n2 l2 k2 n3 l3 k3 ≤ 0) : decC n1 l1 k1 n3 l3 k3 ≤ 0 := by
  rw [decC_num _ _ _ _ _ _ h1 h2 hk1 hk2, cmpZ_le, ← sv_le_mul _ _ _ _ (10 ^ k3) (ten_pos _)] at a
  rw [decC_num _ _ _ _ _ _ h2 h3 hk2 hk3, cmpZ_le, ← sv_le_mul _ _ _ _ (10 ^ k1) (ten_pos _)] at b
  rw [decC_num _ _ _ _ _ _ h1 h3 hk1 hk3, cmpZ_le, ← sv_le_mul _ _ _ _ (10 ^ k2) (ten_pos _)]
  have e1 : numL l1 * 10 ^ k3 * 10 ^ k2 = numL l1 * 10 ^ k2 * 10 ^ k3 := by ac_rfl
  have e2 : numL l2 * 10 ^ k1 * 10 ^ k3 = numL l2 * 10 ^ k3 * 10 ^ k1 := by ac_rfl
  have e3 : numL l3 * 10 ^ k2 * 10 ^ k1 = numL l3 * 10 ^ k1 * 10 ^ k2 := by ac_rfl
  rw [e1]
  rw [e2] at a
  rw [e3] at b
  exact Int.le_trans a b
end Go.Proofs.YtjdpmdheapmanaaGreatDoor
