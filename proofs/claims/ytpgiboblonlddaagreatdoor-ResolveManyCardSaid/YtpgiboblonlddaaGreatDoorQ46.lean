/-
  Several texts put together (part 46): what the law and the program call, walked; their contracts.
-/
import Derived.Test.YtpgiboblonlddaaGreatDoorQ43
import Derived.Test.YtpgiboblonlddaaGreatDoorQ7
import Derived.Test.YtpgiboblonlddaaGreatDoorQ45
import Derived.Deep.RegionHeld3
import Derived.IntWalk
import Derived.Test.YtpgiboblonlddaaGreatDoorQ44
import Derived.Test.YtpgiboblonlddaaGreatDoorQ6
import Derived.Lib.SmallJoins
import Derived.Lib.RabinKarpLaws
import Derived.Lib.Repeat
import Derived.Deep.RegionWith
namespace Go.Proofs.YtpgiboblonlddaaGreatDoor
open Go.RowKit
theorem box_cell2 {w w1 : World} {o o' : Obj} (hb : Below ((w.alloc o).alloc o').heap.size ((w.alloc o).alloc o') w1) (i : Nat) (v : Value) (h : (w.alloc o).cell? ⟨w.heap.size, i, none⟩ = some v) : w1.cell? ⟨w.heap.size, i, none⟩ = some v := by
  rw [hb.cell (p := ⟨w.heap.size, i, none⟩) (by simp; omega)]
  exact ((Below.refl (w.alloc o).heap.size (w.alloc o)).alloc (Nat.le_refl _) o').cell (p := ⟨w.heap.size, i, none⟩) (by simp) |>.trans h
def PartTo (neg : Bool) (s p : ByteArray) (sc : Nat) : Prop := ∀ W : World, Calls Tryz.prog 34 #[.agg #[.bool neg, .string s, .int .i64 sc]] W fun e w' => e = .returned (.string p) ∧ Below W.heap.size W w'
set_option maxHeartbeats 1000000 in
set_option maxRecDepth 100000 in
theorem round_same (neg : Bool) (s p : ByteArray) (sc : Nat) (x : Int) (w : World) (hp : PartTo neg s p sc) (hps : p.size = sc) (hx : (sc : Int) ≤ x ∨ (x < 0 ∧ sc = 0)) (hx1 : x ≤ 9223372036854775807) (hx0 : -9223372036854775808 ≤ x) :
    Calls Tryz.prog 87 #[.agg #[.bool neg, .string s, .int .i64 sc], .int .i64 x] w fun e w' => e = .returned (.agg #[.bool neg, .string s, .int .i64 sc]) ∧ Below w.heap.size w w' := by
  have Hps := Lib.hid hps
  clear hps
  rcases hx with hx | ⟨hx, h0⟩
  · have hmx : max x 0 = x := by omega
    have hle : (p.size : Int) ≤ x := by have := Hps.out; omega
    go_enter Tryz.func87, Tryz.ntmps87
    go_wp2_with (go_at_call 34; refine (hp _).mono ?_; rintro e w1 ⟨rfl, hb1⟩; obtain ⟨hc1, hf1⟩ := bcell hb1)
    exact bodyPost_ret (v := .agg #[.bool neg, .string s, .int .i64 sc]) (by simp [results, Tryz.results87, go_sem, hc1]) rfl ⟨rfl, Below.set3 (below_box2 hb1) (by omega) _ _ _⟩
  · have hle : (p.size : Int) ≤ 0 := by have := Hps.out; omega
    clear h0
    go_enter Tryz.func87, Tryz.ntmps87
    go_wp2_with (go_at_call 34; refine (hp _).mono ?_; rintro e w1 ⟨rfl, hb1⟩; obtain ⟨hc1, hf1⟩ := bcell hb1)
    exact bodyPost_ret (v := .agg #[.bool neg, .string s, .int .i64 sc]) (by simp [results, Tryz.results87, go_sem, hc1]) rfl ⟨rfl, Below.set3 (below_box2 hb1) (by omega) _ _ _⟩
def UpTo (a b : ByteArray) (up : Bool) : Prop := ∀ W : World, Calls Tryz.prog 123 #[.string a, .string b] W fun e w' => e = .returned (.bool up) ∧ W = w'
def IncTo (a b : ByteArray) : Prop := ∀ W : World, Calls Tryz.prog 124 #[.string a] W fun e w' => e = .returned (.string b) ∧ Below W.heap.size W w'
set_option maxHeartbeats 1000000 in
set_option maxRecDepth 100000 in
theorem round_less (neg up : Bool) (s p k2 : ByteArray) (sc m : Nat) (w : World) (hs : s.size ≤ 1000000) (hsc : sc ≤ s.size) (hp : PartTo neg s p sc) (hps : p.size = sc) (hm : m < sc)
    (hup : UpTo (s.extract 0 (s.size - sc + m)) (p.extract m p.size) up) (hinc : up = true → IncTo (s.extract 0 (s.size - sc + m)) k2) (hno : up = false → k2 = (s.extract 0 (s.size - sc + m))) :
    Calls Tryz.prog 87 #[.agg #[.bool neg, .string s, .int .i64 sc], .int .i64 m] w fun e w' => e = .returned (.agg #[.bool neg, .string k2, .int .i64 m]) ∧ Below w.heap.size w w' := by
  have Hps := Lib.hid hps
  have hpm : m < p.size := by omega
  clear hps
  have hi0 : (0 : Int) ≤ (s.size : Int) - sc + m := by omega
  have hi1 : (s.size : Int) - sc + m ≤ s.size := by omega
  have hi2 : ((s.size : Int) - sc + m).toNat = s.size - sc + m := by omega
  have hi3 : (sc : Int) ≤ s.size := by omega
  have hmax : s.size ≤ maxLen := by unfold maxLen; omega
  have hwr : IntKind.i64.wrap ((s.size : Int) - sc + m) = (s.size : Int) - sc + m := IntWalk.i64_in _ (by omega)
  have Hwr := Lib.hid hwr
  clear hwr
  cases up
  · obtain rfl := hno rfl
    clear hno hinc
    go_enter Tryz.func87, Tryz.ntmps87
    go_wp2_with (go_at_call 34; refine (hp _).mono ?_; rintro e w1 ⟨rfl, hb1⟩; obtain ⟨hc1, hf1⟩ := bcell hb1)
    have hwr := Hwr.out
    have hb1' := below_box2 hb1
    have hz1 := hb1.size
    have c0 := box_cell2 hb1 0 (.bool neg) (by simp)
    have c1 := box_cell2 hb1 1 (.string s) (by simp)
    have c2 := box_cell2 hb1 2 (.int .i64 sc) (by simp)
    go_region_held3 (fun w' => w'.cell? ⟨w.heap.size, 0, none⟩ = some (.bool neg) ∧ w'.cell? ⟨w.heap.size, 1, none⟩ = some (.string s) ∧ w'.cell? ⟨w.heap.size, 2, none⟩ = some (.int .i64 sc) ∧ w.heap.size + 1 ≤ w'.heap.size ∧ Below w.heap.size w w')
      (first | (exact box3 (by assumption) (by assumption)) | (exact ⟨by simpa using c0, by simpa using c1, by simpa using c2, by simp at hz1; simp; omega, hb1'.drew⟩) | go_keep)
      (first | (go_at_call 53; refine (point_any neg s sc _ hmax hsc).mono ?_; rintro e w2 ⟨rfl, hb2⟩))
    have hb12 : Below w1.heap.size w1 w2 := ((Below.refl _ w1).drew).trans hb2
    obtain ⟨hc2, hf2⟩ := bcell hb12
    clear hb2
    have hz1' : w.heap.size + 1 < w1.heap.size := by simp at hz1; omega
    have hz0' : w.heap.size < w1.heap.size := by omega
    clear hz1
    go_wp2_with (first | (go_at_call 123; refine (hup _).mono ?_; rintro e w3 ⟨rfl, rfl⟩))
    exact bodyPost_ret (v := .agg #[.bool neg, .string (s.extract 0 (s.size - sc + m)), .int .i64 m]) (by simp [results, Tryz.results87, go_sem, hc1, hc2, hz1']) rfl ⟨rfl, Below.set3 (below_then hb1' (Nat.le_refl _) hb12) (by omega) _ _ _⟩
  · have hinc' : IncTo (s.extract 0 (s.size - sc + m)) k2 := hinc rfl
    clear hno hinc
    go_enter Tryz.func87, Tryz.ntmps87
    go_wp2_with (go_at_call 34; refine (hp _).mono ?_; rintro e w1 ⟨rfl, hb1⟩; obtain ⟨hc1, hf1⟩ := bcell hb1)
    have hwr := Hwr.out
    have hb1' := below_box2 hb1
    have hz1 := hb1.size
    have c0 := box_cell2 hb1 0 (.bool neg) (by simp)
    have c1 := box_cell2 hb1 1 (.string s) (by simp)
    have c2 := box_cell2 hb1 2 (.int .i64 sc) (by simp)
    go_region_held3 (fun w' => w'.cell? ⟨w.heap.size, 0, none⟩ = some (.bool neg) ∧ w'.cell? ⟨w.heap.size, 1, none⟩ = some (.string s) ∧ w'.cell? ⟨w.heap.size, 2, none⟩ = some (.int .i64 sc) ∧ w.heap.size + 1 ≤ w'.heap.size ∧ Below w.heap.size w w')
      (first | (exact box3 (by assumption) (by assumption)) | (exact ⟨by simpa using c0, by simpa using c1, by simpa using c2, by simp at hz1; simp; omega, hb1'.drew⟩) | go_keep)
      (first | (go_at_call 53; refine (point_any neg s sc _ hmax hsc).mono ?_; rintro e w2 ⟨rfl, hb2⟩))
    have hb12 : Below w1.heap.size w1 w2 := ((Below.refl _ w1).drew).trans hb2
    obtain ⟨hc2, hf2⟩ := bcell hb12
    clear hb2
    have hz1' : w.heap.size + 1 < w1.heap.size := by simp at hz1; omega
    have hz0' : w.heap.size < w1.heap.size := by omega
    clear hz1
    have hz2 := hb12.size
    have hz2' : w.heap.size + 1 < w2.heap.size := by omega
    have hz2'' : w.heap.size < w2.heap.size := by omega
    clear hz2
    go_wp2_with (first | (go_at_call 123; refine (hup _).mono ?_; rintro e w3 ⟨rfl, rfl⟩) | (go_at_call 124; refine (hinc' _).mono ?_; rintro e w4 ⟨rfl, hb4⟩; obtain ⟨hc4, hf4⟩ := bcell hb4))
    exact bodyPost_ret (v := .agg #[.bool neg, .string k2, .int .i64 m]) (by simp [results, Tryz.results87, go_sem, hc1, hc2, hc4, hz1', hz2']) rfl ⟨rfl, Below.set3 (below_then (below_then hb1' (Nat.le_refl _) hb12) (Nat.le_refl _) hb4) (by omega) _ _ _⟩
set_option maxHeartbeats 1000000 in
set_option maxRecDepth 100000 in
theorem round_neg (neg up : Bool) (s p k2 : ByteArray) (sc : Nat) (x : Int) (hx : x < 0) (w : World) (hs : s.size ≤ 1000000) (hsc : sc ≤ s.size) (hp : PartTo neg s p sc) (hps : p.size = sc) (hm : 0 < sc)
    (hup : UpTo (s.extract 0 (s.size - sc)) p up) (hinc : up = true → IncTo (s.extract 0 (s.size - sc)) k2) (hno : up = false → k2 = (s.extract 0 (s.size - sc))) :
    Calls Tryz.prog 87 #[.agg #[.bool neg, .string s, .int .i64 sc], .int .i64 x] w fun e w' => e = .returned (.agg #[.bool neg, .string k2, .int .i64 0]) ∧ Below w.heap.size w w' := by
  have Hps := Lib.hid hps
  have hpm : 0 < p.size := by omega
  have hmx : max x 0 = 0 := by omega
  have hpe : ¬ p = ByteArray.empty := by intro e; rw [e] at hpm; exact absurd hpm (by decide)
  clear hps
  have hi0 : (0 : Int) ≤ (s.size : Int) - sc := by omega
  have hi1 : (s.size : Int) - sc ≤ s.size := by omega
  have hi2 : ((s.size : Int) - sc).toNat = s.size - sc := by omega
  have hi3 : (sc : Int) ≤ s.size := by omega
  have hmax : s.size ≤ maxLen := by unfold maxLen; omega
  have hwr : IntKind.i64.wrap ((s.size : Int) - sc) = (s.size : Int) - sc := IntWalk.i64_in _ (by omega)
  have Hwr := Lib.hid hwr
  clear hwr
  cases up
  · obtain rfl := hno rfl
    clear hno hinc
    go_enter Tryz.func87, Tryz.ntmps87
    go_wp2_with (go_at_call 34; refine (hp _).mono ?_; rintro e w1 ⟨rfl, hb1⟩; obtain ⟨hc1, hf1⟩ := bcell hb1)
    have hwr := Hwr.out
    have hb1' := below_box2 hb1
    have hz1 := hb1.size
    have c0 := box_cell2 hb1 0 (.bool neg) (by simp)
    have c1 := box_cell2 hb1 1 (.string s) (by simp)
    have c2 := box_cell2 hb1 2 (.int .i64 sc) (by simp)
    go_region_held3 (fun w' => w'.cell? ⟨w.heap.size, 0, none⟩ = some (.bool neg) ∧ w'.cell? ⟨w.heap.size, 1, none⟩ = some (.string s) ∧ w'.cell? ⟨w.heap.size, 2, none⟩ = some (.int .i64 sc) ∧ w.heap.size + 1 ≤ w'.heap.size ∧ Below w.heap.size w w')
      (first | (exact box3 (by assumption) (by assumption)) | (exact ⟨by simpa using c0, by simpa using c1, by simpa using c2, by simp at hz1; simp; omega, hb1'.drew⟩) | go_keep)
      (first | (go_at_call 53; refine (point_any neg s sc _ hmax hsc).mono ?_; rintro e w2 ⟨rfl, hb2⟩))
    have hb12 : Below w1.heap.size w1 w2 := ((Below.refl _ w1).drew).trans hb2
    obtain ⟨hc2, hf2⟩ := bcell hb12
    clear hb2
    have hz1' : w.heap.size + 1 < w1.heap.size := by simp at hz1; omega
    have hz0' : w.heap.size < w1.heap.size := by omega
    clear hz1
    go_wp2_with (first | (go_at_call 123; refine (hup _).mono ?_; rintro e w3 ⟨rfl, rfl⟩))
    exact bodyPost_ret (v := .agg #[.bool neg, .string (s.extract 0 (s.size - sc)), .int .i64 0]) (by simp [results, Tryz.results87, go_sem, hc1, hc2, hz1']) rfl ⟨rfl, Below.set3 (below_then hb1' (Nat.le_refl _) hb12) (by omega) _ _ _⟩
  · have hinc' : IncTo (s.extract 0 (s.size - sc)) k2 := hinc rfl
    clear hno hinc
    go_enter Tryz.func87, Tryz.ntmps87
    go_wp2_with (go_at_call 34; refine (hp _).mono ?_; rintro e w1 ⟨rfl, hb1⟩; obtain ⟨hc1, hf1⟩ := bcell hb1)
    have hwr := Hwr.out
    have hb1' := below_box2 hb1
    have hz1 := hb1.size
    have c0 := box_cell2 hb1 0 (.bool neg) (by simp)
    have c1 := box_cell2 hb1 1 (.string s) (by simp)
    have c2 := box_cell2 hb1 2 (.int .i64 sc) (by simp)
    go_region_held3 (fun w' => w'.cell? ⟨w.heap.size, 0, none⟩ = some (.bool neg) ∧ w'.cell? ⟨w.heap.size, 1, none⟩ = some (.string s) ∧ w'.cell? ⟨w.heap.size, 2, none⟩ = some (.int .i64 sc) ∧ w.heap.size + 1 ≤ w'.heap.size ∧ Below w.heap.size w w')
      (first | (exact box3 (by assumption) (by assumption)) | (exact ⟨by simpa using c0, by simpa using c1, by simpa using c2, by simp at hz1; simp; omega, hb1'.drew⟩) | go_keep)
      (first | (go_at_call 53; refine (point_any neg s sc _ hmax hsc).mono ?_; rintro e w2 ⟨rfl, hb2⟩))
    have hb12 : Below w1.heap.size w1 w2 := ((Below.refl _ w1).drew).trans hb2
    obtain ⟨hc2, hf2⟩ := bcell hb12
    clear hb2
    have hz1' : w.heap.size + 1 < w1.heap.size := by simp at hz1; omega
    have hz0' : w.heap.size < w1.heap.size := by omega
    clear hz1
    have hz2 := hb12.size
    have hz2' : w.heap.size + 1 < w2.heap.size := by omega
    have hz2'' : w.heap.size < w2.heap.size := by omega
    clear hz2
    go_wp2_with (first | (go_at_call 123; refine (hup _).mono ?_; rintro e w3 ⟨rfl, rfl⟩) | (go_at_call 124; refine (hinc' _).mono ?_; rintro e w4 ⟨rfl, hb4⟩; obtain ⟨hc4, hf4⟩ := bcell hb4))
    exact bodyPost_ret (v := .agg #[.bool neg, .string k2, .int .i64 0]) (by simp [results, Tryz.results87, go_sem, hc1, hc2, hc4, hz1', hz2']) rfl ⟨rfl, Below.set3 (below_then (below_then hb1' (Nat.le_refl _) hb12) (Nat.le_refl _) hb4) (by omega) _ _ _⟩
end Go.Proofs.YtpgiboblonlddaaGreatDoor

namespace Go.Proofs.YtpgiboblonlddaaGreatDoor
open Go.RowKit
def WholeTo (n : Bool) (s : ByteArray) (k : Nat) (r : ByteArray) : Prop := ∀ W : World, Calls Tryz.prog 33 #[.agg #[.bool n, .string s, .int .i64 k]] W fun e w' => e = .returned (.string r) ∧ Below W.heap.size W w'
def CmpITo (a b : Int) (c : Int) : Prop := ∀ W : World, Calls Tryz.prog 200 #[.int .i64 a, .int .i64 b] W fun e w' => e = .returned (.int .i64 c) ∧ W = w'
theorem WholeTo.at_ {n : Bool} {s : ByteArray} {k : Nat} {r : ByteArray} (h : WholeTo n s k r) (W : World) : Calls Tryz.prog 33 #[.agg #[.bool n, .string s, .int .i64 k]] W fun e w' => e = .returned (.string r) ∧ Below W.heap.size W w' := h W
theorem PartTo.at_ {n : Bool} {s r : ByteArray} {k : Nat} (h : PartTo n s r k) (W : World) : Calls Tryz.prog 34 #[.agg #[.bool n, .string s, .int .i64 k]] W fun e w' => e = .returned (.string r) ∧ Below W.heap.size W w' := h W
theorem TrimTo.at_ {a c : ByteArray} (h : TrimTo a c) (W : World) : Calls Tryz.prog 83 #[.string a, .string ⟨#[48]⟩] W fun e w' => e = .returned (.string c) ∧ W = w' := h W
theorem TrimRTo.at_ {a c : ByteArray} (h : TrimRTo a c) (W : World) : Calls Tryz.prog 125 #[.string a, .string ⟨#[48]⟩] W fun e w' => e = .returned (.string c) ∧ W = w' := h W
theorem CmpTo.at_ {a b : ByteArray} {c : Int} (h : CmpTo a b c) (W : World) : Calls Tryz.prog 158 #[.string a, .string b] W fun e w' => e = .returned (.int .i64 c) ∧ W = w' := h W
theorem CmpITo.at_ {a b c : Int} (h : CmpITo a b c) (W : World) : Calls Tryz.prog 200 #[.int .i64 a, .int .i64 b] W fun e w' => e = .returned (.int .i64 c) ∧ W = w' := h W
def BelowTo (n : Bool) (s : ByteArray) (k : Nat) (b : Bool) : Prop := ∀ W : World, Calls Tryz.prog 176 #[.agg #[.bool n, .string s, .int .i64 k]] W fun e w' => e = .returned (.bool b) ∧ Below W.heap.size W w'
theorem BelowTo.at_ {n : Bool} {s : ByteArray} {k : Nat} {b : Bool} (h : BelowTo n s k b) (W : World) : Calls Tryz.prog 176 #[.agg #[.bool n, .string s, .int .i64 k]] W fun e w' => e = .returned (.bool b) ∧ Below W.heap.size W w' := h W
def SizesTo (n1 : Bool) (s1 : ByteArray) (k1 : Nat) (n2 : Bool) (s2 : ByteArray) (k2 : Nat) (c : Int) : Prop := ∀ W : World, Calls Tryz.prog 177 #[.agg #[.bool n1, .string s1, .int .i64 k1], .agg #[.bool n2, .string s2, .int .i64 k2]] W fun e w' => e = .returned (.int .i64 c) ∧ Below W.heap.size W w'
theorem SizesTo.at_ {n1 n2 : Bool} {s1 s2 : ByteArray} {k1 k2 : Nat} {c : Int} (h : SizesTo n1 s1 k1 n2 s2 k2 c) (W : World) : Calls Tryz.prog 177 #[.agg #[.bool n1, .string s1, .int .i64 k1], .agg #[.bool n2, .string s2, .int .i64 k2]] W fun e w' => e = .returned (.int .i64 c) ∧ Below W.heap.size W w' := h W
end Go.Proofs.YtpgiboblonlddaaGreatDoor

namespace Go.Proofs.YtpgiboblonlddaaGreatDoor
open Go.RowKit
def roundL (l : List UInt8) (sc m : Nat) : List UInt8 :=
  if m < sc then (if upB (l.take (l.length - sc + m)) (l.drop (l.length - sc + m)) = true then incL (l.take (l.length - sc + m)) else l.take (l.length - sc + m)) else l
theorem partTo (neg : Bool) (s : ByteArray) (sc : Nat) (hs : s.size ≤ maxLen) (hsc : sc ≤ s.size) : PartTo neg s (s.extract (s.size - sc) s.size) sc := fun W => part_any neg s sc W hs hsc
theorem round_any (neg : Bool) (s : ByteArray) (sc : Nat) (x : Int) (w : World) (hs : s.size ≤ 1000000) (hsc : sc ≤ s.size) (hd : s.data.toList.all digB = true) (hx0 : -9223372036854775808 ≤ x) (hx1 : x ≤ 9223372036854775807) :
    Calls Tryz.prog 87 #[.agg #[.bool neg, .string s, .int .i64 sc], .int .i64 x] w fun e w' => e = .returned (.agg #[.bool neg, .string ⟨(roundL s.data.toList sc x.toNat).toArray⟩, .int .i64 (min sc x.toNat : Nat)]) ∧ Below w.heap.size w w' := by
  have hmax : s.size ≤ maxLen := by unfold maxLen; omega
  have hp := partTo neg s sc hmax hsc
  have hps : (s.extract (s.size - sc) s.size).size = sc := by simp; omega
  by_cases hm : x.toNat < sc
  · have hk : (s.extract 0 (s.size - sc + x.toNat)).data.toList = s.data.toList.take (s.data.toList.length - sc + x.toNat) := by rw [extract_take, size_data]
    have ho : ((s.extract (s.size - sc) s.size).extract x.toNat (s.extract (s.size - sc) s.size).size).data.toList = s.data.toList.drop (s.data.toList.length - sc + x.toNat) := by
      rw [extract_drop, extract_drop, List.drop_drop, size_data]
    have hksz : (s.extract 0 (s.size - sc + x.toNat)).size ≤ 1000000 := by simp; omega
    have hkd : (s.extract 0 (s.size - sc + x.toNat)).data.toList.all digB = true := by
      rw [hk]
      exact List.all_eq_true.2 fun c hc => List.all_eq_true.1 hd c (List.mem_of_mem_take hc)
    have hup : UpTo (s.extract 0 (s.size - sc + x.toNat)) ((s.extract (s.size - sc) s.size).extract x.toNat (s.extract (s.size - sc) s.size).size) (upB (s.data.toList.take (s.data.toList.length - sc + x.toNat)) (s.data.toList.drop (s.data.toList.length - sc + x.toNat))) := by
      intro W
      rw [← hk, ← ho]
      exact roundsUp_any _ _ W (by unfold maxLen; omega) (by unfold maxLen; simp; omega)
    have hinc : IncTo (s.extract 0 (s.size - sc + x.toNat)) ⟨(incL (s.data.toList.take (s.data.toList.length - sc + x.toNat))).toArray⟩ := by
      intro W
      rw [← hk]
      exact plusOne_any _ W hksz hkd
    have hres : ∀ up, up = upB (s.data.toList.take (s.data.toList.length - sc + x.toNat)) (s.data.toList.drop (s.data.toList.length - sc + x.toNat)) →
        roundL s.data.toList sc x.toNat = if up = true then incL (s.data.toList.take (s.data.toList.length - sc + x.toNat)) else s.data.toList.take (s.data.toList.length - sc + x.toNat) := by
      intro up e
      rw [e]
      unfold roundL
      rw [if_pos hm]
    have hmin : min sc x.toNat = x.toNat := by omega
    generalize hU : upB (s.data.toList.take (s.data.toList.length - sc + x.toNat)) (s.data.toList.drop (s.data.toList.length - sc + x.toNat)) = up at hup hres
    have hr := hres up rfl
    have hk2 : ∀ k2 : ByteArray, k2.data.toList = roundL s.data.toList sc x.toNat → k2 = ⟨(roundL s.data.toList sc x.toNat).toArray⟩ := by
      intro k2 e
      rw [← e]
    rw [hmin]
    by_cases hneg : x < 0
    · have hx : x.toNat = 0 := by omega
      rw [hx] at hup hinc hr hk2 hk ⊢
      simp only [Nat.add_zero] at hup hinc hr hk
      have hpz : ((s.extract (s.size - sc) s.size).extract 0 (s.extract (s.size - sc) s.size).size) = s.extract (s.size - sc) s.size := by
        apply bytes_eq
        rw [extract_drop]
        rfl
      rw [hpz] at hup
      refine (round_neg neg up s _ ⟨(roundL s.data.toList sc 0).toArray⟩ sc x hneg w hs hsc hp hps (by omega) hup ?_ ?_).mono ?_
      · intro h; rw [hr, if_pos h]; exact hinc
      · intro h
        exact (hk2 _ (by rw [hk, hr, h]; rfl)).symm
      · rintro e w' ⟨rfl, hb⟩; exact ⟨rfl, hb⟩
    · have hx : ((x.toNat : Nat) : Int) = x := by omega
      refine hx ▸ (round_less neg up s _ ⟨(roundL s.data.toList sc x.toNat).toArray⟩ sc x.toNat w hs hsc hp hps hm hup ?_ ?_).mono ?_
      · intro h; rw [hr, if_pos h]; exact hinc
      · intro h
        exact (hk2 _ (by rw [hk, hr, h]; rfl)).symm
      · rintro e w' ⟨rfl, hb⟩; exact ⟨rfl, hb⟩
  · have hl : roundL s.data.toList sc x.toNat = s.data.toList := by unfold roundL; rw [if_neg hm]
    have hmin : min sc x.toNat = sc := by omega
    refine (round_same neg s _ sc x w hp hps (by omega) hx1 hx0).mono ?_
    rintro e w' ⟨rfl, hb⟩
    refine ⟨?_, hb⟩
    rw [hl, hmin]
end Go.Proofs.YtpgiboblonlddaaGreatDoor

namespace Go.Proofs.YtpgiboblonlddaaGreatDoor
open Go.RowKit
set_option linter.unusedVariables false
theorem drop48 (l : List UInt8) : ∃ k, l = List.replicate k 48 ++ l.dropWhile (· == 48) := by
  induction l with
  | nil => exact ⟨0, rfl⟩
  | cons c r ih =>
    obtain ⟨k, hk⟩ := ih
    by_cases h : c = 48
    · subst h
      refine ⟨k + 1, ?_⟩
      rw [List.dropWhile_cons_of_pos (by simp), List.replicate_succ, List.cons_append, ← hk]
    · exact ⟨0, by rw [List.dropWhile_cons_of_neg (by simpa using h)]; rfl⟩
theorem trimR_split (l : List UInt8) : ∃ k, l = Lib.trimRightB l 48 ++ List.replicate k 48 := by
  obtain ⟨k, hk⟩ := drop48 l.reverse
  refine ⟨k, ?_⟩
  have := congrArg List.reverse hk
  rw [List.reverse_append, List.reverse_reverse, List.reverse_replicate] at this
  exact this
theorem incR_length (r : List UInt8) : r.length ≤ (incR r).length ∧ (incR r).length ≤ r.length + 1 := by
  induction r with
  | nil => exact ⟨by simp [incR], by simp [incR]⟩
  | cons c r ih =>
    rw [incR]
    split
    · simp only [List.length_cons]
      omega
    · simp
theorem incL_length (l : List UInt8) : l.length ≤ (incL l).length ∧ (incL l).length ≤ l.length + 1 := by
  have := incR_length l.reverse
  unfold incL
  simpa using this
theorem roundL_length (l : List UInt8) (k m : Nat) (hk : k ≤ l.length) : min k m ≤ (roundL l k m).length ∧ (roundL l k m).length ≤ l.length + 1 := by
  have hl : (l.take (l.length - k + m)).length = min (l.length - k + m) l.length := List.length_take
  unfold roundL
  split
  · split
    · have := incL_length (l.take (l.length - k + m))
      omega
    · omega
  · omega
def trimZ (l : List UInt8) (k m : Nat) : Nat := k - m - (Lib.trimRightB (l.drop (l.length - k + m)) 48).length
theorem trimZ_le (l : List UInt8) (k m : Nat) : trimZ l k m ≤ k - m := by unfold trimZ; omega
theorem trim_split (l : List UInt8) (k m : Nat) (hk : k ≤ l.length) (hm : m < k) :
    l = l.take (l.length - trimZ l k m) ++ List.replicate (trimZ l k m) 48 ∧ l.take (l.length - trimZ l k m) = l.take (l.length - k + m) ++ Lib.trimRightB (l.drop (l.length - k + m)) 48 ∧ (Lib.trimRightB (l.drop (l.length - k + m)) 48).length + trimZ l k m = k - m := by
  obtain ⟨j, hj⟩ := trimR_split (l.drop (l.length - k + m))
  have hl := congrArg List.length hj
  rw [List.length_append, List.length_replicate, List.length_drop] at hl
  have hz : trimZ l k m = j := by unfold trimZ; omega
  have e : l = (l.take (l.length - k + m) ++ Lib.trimRightB (l.drop (l.length - k + m)) 48) ++ List.replicate j 48 := by
    rw [List.append_assoc, ← hj, List.take_append_drop]
  have hlen : (l.take (l.length - k + m) ++ Lib.trimRightB (l.drop (l.length - k + m)) 48).length = l.length - j := by
    rw [List.length_append, List.length_take]; omega
  have ht : l.take (l.length - j) = l.take (l.length - k + m) ++ Lib.trimRightB (l.drop (l.length - k + m)) 48 := by
    have := congrArg (List.take (l.length - j)) e
    rw [this, ← hlen, List.take_left]
  rw [hz]
  refine ⟨?_, ht, by omega⟩
  rw [ht]
  exact e
end Go.Proofs.YtpgiboblonlddaaGreatDoor

namespace Go.Proofs.YtpgiboblonlddaaGreatDoor
open Go.RowKit
set_option linter.unusedVariables false
set_option linter.unusedSimpArgs false
theorem w64in (n : Int) (h0 : -9223372036854775808 ≤ n) (h1 : n ≤ 9223372036854775807) : wrap64 n = n := by unfold wrap64; omega
set_option maxHeartbeats 1000000 in
set_option maxRecDepth 100000 in
theorem trim_same (neg : Bool) (s p : ByteArray) (k m : Nat) (x : Int) (w : World) (hp : PartTo neg s p k) (hps : p.size = k) (hx : max x 0 = (m : Int)) (hkm : k ≤ m) :
    Calls Tryz.prog 88 #[.agg #[.bool neg, .string s, .int .i64 k], .int .i64 x] w fun e w' => e = .returned (.agg #[.bool neg, .string s, .int .i64 k]) ∧ Below w.heap.size w w' := by
  have hle : (p.size : Int) ≤ (m : Int) := by omega
  clear hps
  go_enter Tryz.func88, Tryz.ntmps88
  go_wp2_with (go_at_call 34; refine (hp _).mono ?_; rintro e w1 ⟨rfl, hb1⟩; obtain ⟨hc1, hf1⟩ := bcell hb1)
  exact bodyPost_ret (v := .agg #[.bool neg, .string s, .int .i64 k]) (by simp [results, Tryz.results88, go_sem, hc1]) rfl ⟨rfl, Below.set3 (below_box2 hb1) (by omega) _ _ _⟩
set_option maxHeartbeats 1000000 in
set_option maxRecDepth 100000 in
theorem trim_less (neg : Bool) (s p T : ByteArray) (k m z : Nat) (x : Int) (w : World) (hs : s.size ≤ 1000000) (hk : k ≤ s.size) (hp : PartTo neg s p k) (hps : p.size = k) (hx : max x 0 = (m : Int)) (hm : m < k) (hT : TrimRTo (p.extract m p.size) T) (hz : T.size + z = k - m) :
    Calls Tryz.prog 88 #[.agg #[.bool neg, .string s, .int .i64 k], .int .i64 x] w fun e w' => e = .returned (.agg #[.bool neg, .string (s.extract 0 (s.size - z)), .int .i64 (k - z : Nat)]) ∧ Below w.heap.size w w' := by
  have Hps := Lib.hid hps
  have hpm : m < p.size := by omega
  have hle : ¬ (p.size : Int) ≤ (m : Int) := by omega
  have hzi : (p.size : Int) - (m : Int) - (T.size : Int) = (z : Int) := by omega
  have hsi : (s.size : Int) - (z : Int) = ((s.size - z : Nat) : Int) := by omega
  have hpi : (p.size : Int) - (z : Int) = ((k - z : Nat) : Int) := by omega
  have Hzi := Lib.hid hzi
  have Hsi := Lib.hid hsi
  have Hpi := Lib.hid hpi
  clear hps hzi hsi hpi
  go_enter Tryz.func88, Tryz.ntmps88
  go_wp2_with (go_at_call 34; refine (hp _).mono ?_; rintro e w1 ⟨rfl, hb1⟩; obtain ⟨hc1, hf1⟩ := bcell hb1)
  go_at_call 125
  refine (hT _).mono ?_
  rintro e w2 ⟨rfl, rfl⟩
  have hzi := Hzi.out
  have hpb : p.size ≤ 1000000 := by have := Hps.out; omega
  have hTb : T.size ≤ 1000000 := by omega
  have hmb : m ≤ 1000000 := by omega
  have hz0 : (0 : Int) ≤ z := by omega
  have hz1 : (z : Int) ≤ s.size := by omega
  have hz2 : (z : Int) ≤ p.size := by have := Hps.out; omega
  have hi0 : (0 : Int) ≤ (s.size : Int) - (z : Int) := by omega
  have hi1 : (s.size : Int) - (z : Int) ≤ s.size := by omega
  have hi2 : ((s.size : Int) - (z : Int)).toNat = s.size - z := by omega
  have hw1 : wrap64 ((p.size : Int) - (m : Int)) = (p.size : Int) - (m : Int) := w64in _ (by omega) (by omega)
  have hw2 : wrap64 ((p.size : Int) - (m : Int) - (T.size : Int)) = (z : Int) := (w64in _ (by omega) (by omega)).trans hzi
  have hw3 : wrap64 ((s.size : Int) - (z : Int)) = (s.size : Int) - (z : Int) := w64in _ (by omega) (by omega)
  have hw4 : IntKind.i64.wrap ((s.size : Int) - (z : Int)) = (s.size : Int) - (z : Int) := IntWalk.i64_in _ (by omega)
  have hw5 : wrap64 ((p.size : Int) - (z : Int)) = (p.size : Int) - (z : Int) := w64in _ (by omega) (by omega)
  have hw6 : IntKind.i64.wrap ((p.size : Int) - (m : Int)) = (p.size : Int) - (m : Int) := IntWalk.i64_in _ (by omega)
  have hw7 : IntKind.i64.wrap ((p.size : Int) - (m : Int) - (T.size : Int)) = (z : Int) := (IntWalk.i64_in _ (by omega)).trans hzi
  go_wp2_with fail
  go_region
  go_wp2
  have hpi := Hpi.out
  exact bodyPost_ret (v := .agg #[.bool neg, .string (s.extract 0 (s.size - z)), .int .i64 (k - z : Nat)]) (by simp [results, Tryz.results88, go_sem, hc1, hpi]) rfl ⟨rfl, (Below.set3 (below_box2 hb1) (by omega) _ _ _).drew⟩
set_option maxHeartbeats 1000000 in
set_option maxRecDepth 100000 in
theorem pad_same (neg : Bool) (s p : ByteArray) (k : Nat) (y x : Int) (w : World) (hp : PartTo neg s p k) (hps : p.size = k) (hx : min x 40 = y) (hky : y ≤ (k : Int)) :
    Calls Tryz.prog 89 #[.agg #[.bool neg, .string s, .int .i64 k], .int .i64 x] w fun e w' => e = .returned (.agg #[.bool neg, .string s, .int .i64 k]) ∧ Below w.heap.size w w' := by
  have hle : y ≤ (p.size : Int) := by omega
  clear hps
  go_enter Tryz.func89, Tryz.ntmps89
  go_wp2_with (go_at_call 34; refine (hp _).mono ?_; rintro e w1 ⟨rfl, hb1⟩; obtain ⟨hc1, hf1⟩ := bcell hb1)
  exact bodyPost_ret (v := .agg #[.bool neg, .string s, .int .i64 k]) (by simp [results, Tryz.results89, go_sem, hc1]) rfl ⟨rfl, Below.set3 (below_box2 hb1) (by omega) _ _ _⟩
def RepTo (j : Nat) (r : ByteArray) : Prop := ∀ W : World, Calls Tryz.prog 90 #[.string ⟨#[48]⟩, .int .i64 j] W fun e w' => e = .returned (.string r) ∧ Below W.heap.size W w'
theorem RepTo.at_ {j : Nat} {r : ByteArray} (h : RepTo j r) (W : World) : Calls Tryz.prog 90 #[.string ⟨#[48]⟩, .int .i64 j] W fun e w' => e = .returned (.string r) ∧ Below W.heap.size W w' := h W
theorem repeat_noughts (j : Nat) : Lib.repeatL [48] j = List.replicate j 48 := by
  induction j with
  | zero => rfl
  | succ j ih => rw [Lib.repeatL, ih, List.replicate_succ]; rfl
theorem repTo (j : Nat) (h1 : 1 ≤ j) (h2 : j ≤ 1000) : RepTo j ⟨(List.replicate j 48).toArray⟩ := by
  intro W
  by_cases hj : j = 1
  · subst hj
    refine (Tryz.strings_Repeat_one _ W).mono ?_
    rintro e w' ⟨rfl, rfl⟩
    exact ⟨rfl, Below.refl _ _⟩
  · have h := Tryz.strings_Repeat_main ⟨#[48]⟩ j W (by omega) (by omega) (by show 1 * j ≤ _; omega) (by decide)
    have e : (⟨#[48]⟩ : ByteArray).data.toList = [48] := rfl
    rw [e, repeat_noughts] at h
    exact h
theorem boxR {b : Nat} {w W w1 : World} {a0 a1 a2 r0 r1 r2 : Value} (hb : Below W.heap.size W w1) (h : W.cell? ⟨b, 0, none⟩ = some a0 ∧ W.cell? ⟨b, 1, none⟩ = some a1 ∧ W.cell? ⟨b, 2, none⟩ = some a2 ∧ W.cell? ⟨b + 1, 0, none⟩ = some r0 ∧ W.cell? ⟨b + 1, 1, none⟩ = some r1 ∧ W.cell? ⟨b + 1, 2, none⟩ = some r2 ∧ W.frozen? ⟨b + 1, 0, none⟩ = false ∧ W.frozen? ⟨b + 1, 1, none⟩ = false ∧ W.frozen? ⟨b + 1, 2, none⟩ = false ∧ b + 1 + 1 ≤ W.heap.size ∧ Below b w W) : w1.cell? ⟨b, 0, none⟩ = some a0 ∧ w1.cell? ⟨b, 1, none⟩ = some a1 ∧ w1.cell? ⟨b, 2, none⟩ = some a2 ∧ w1.cell? ⟨b + 1, 0, none⟩ = some r0 ∧ w1.cell? ⟨b + 1, 1, none⟩ = some r1 ∧ w1.cell? ⟨b + 1, 2, none⟩ = some r2 ∧ w1.frozen? ⟨b + 1, 0, none⟩ = false ∧ w1.frozen? ⟨b + 1, 1, none⟩ = false ∧ w1.frozen? ⟨b + 1, 2, none⟩ = false ∧ b + 1 + 1 ≤ w1.heap.size ∧ Below b w w1 := by
  obtain ⟨x0, x1, x2, x3, x4, x5, f0, f1, f2, z, hB⟩ := h
  have hz := hb.size
  have c := bcell hb
  exact ⟨(c.1 b 0 (by omega)).trans x0, (c.1 b 1 (by omega)).trans x1, (c.1 b 2 (by omega)).trans x2, (c.1 (b + 1) 0 (by omega)).trans x3, (c.1 (b + 1) 1 (by omega)).trans x4, (c.1 (b + 1) 2 (by omega)).trans x5, (c.2 (b + 1) 0 (by omega)).trans f0, (c.2 (b + 1) 1 (by omega)).trans f1, (c.2 (b + 1) 2 (by omega)).trans f2, by omega, hB.trans (hb.mono (by omega))⟩
theorem boxR_start {w w1 : World} {t1 t2 : TypeId} {a0 a1 a2 r0 r1 r2 : Value} (hb : Below ((w.alloc (.cells #[a0, a1, a2] t1)).alloc (.cells #[r0, r1, r2] t2)).heap.size ((w.alloc (.cells #[a0, a1, a2] t1)).alloc (.cells #[r0, r1, r2] t2)) w1) : w1.cell? ⟨w.heap.size, 0, none⟩ = some a0 ∧ w1.cell? ⟨w.heap.size, 1, none⟩ = some a1 ∧ w1.cell? ⟨w.heap.size, 2, none⟩ = some a2 ∧ w1.cell? ⟨w.heap.size + 1, 0, none⟩ = some r0 ∧ w1.cell? ⟨w.heap.size + 1, 1, none⟩ = some r1 ∧ w1.cell? ⟨w.heap.size + 1, 2, none⟩ = some r2 ∧ w1.frozen? ⟨w.heap.size + 1, 0, none⟩ = false ∧ w1.frozen? ⟨w.heap.size + 1, 1, none⟩ = false ∧ w1.frozen? ⟨w.heap.size + 1, 2, none⟩ = false ∧ w.heap.size + 1 + 1 ≤ w1.heap.size ∧ Below w.heap.size w w1 := by
  refine boxR hb ⟨?_, ?_, ?_, ?_, ?_, ?_, ?_, ?_, ?_, by simp, ((Below.refl _ _).alloc (Nat.le_refl _) _).alloc (by simp) _⟩
  all_goals go_simp
theorem boxR_drew {b : Nat} {w W : World} {a0 a1 a2 r0 r1 r2 : Value} (h : W.cell? ⟨b, 0, none⟩ = some a0 ∧ W.cell? ⟨b, 1, none⟩ = some a1 ∧ W.cell? ⟨b, 2, none⟩ = some a2 ∧ W.cell? ⟨b + 1, 0, none⟩ = some r0 ∧ W.cell? ⟨b + 1, 1, none⟩ = some r1 ∧ W.cell? ⟨b + 1, 2, none⟩ = some r2 ∧ W.frozen? ⟨b + 1, 0, none⟩ = false ∧ W.frozen? ⟨b + 1, 1, none⟩ = false ∧ W.frozen? ⟨b + 1, 2, none⟩ = false ∧ b + 1 + 1 ≤ W.heap.size ∧ Below b w W) : W.drew.cell? ⟨b, 0, none⟩ = some a0 ∧ W.drew.cell? ⟨b, 1, none⟩ = some a1 ∧ W.drew.cell? ⟨b, 2, none⟩ = some a2 ∧ W.drew.cell? ⟨b + 1, 0, none⟩ = some r0 ∧ W.drew.cell? ⟨b + 1, 1, none⟩ = some r1 ∧ W.drew.cell? ⟨b + 1, 2, none⟩ = some r2 ∧ W.drew.frozen? ⟨b + 1, 0, none⟩ = false ∧ W.drew.frozen? ⟨b + 1, 1, none⟩ = false ∧ W.drew.frozen? ⟨b + 1, 2, none⟩ = false ∧ b + 1 + 1 ≤ W.drew.heap.size ∧ Below b w W.drew := boxR (Below.refl _ _).drew h
set_option maxHeartbeats 1000000 in
set_option maxRecDepth 100000 in
theorem pad_more (neg : Bool) (s p r : ByteArray) (k m : Nat) (x : Int) (w : World) (hs : s.size ≤ 1000000) (hp : PartTo neg s p k) (hps : p.size = k) (hx : min x 40 = (m : Int)) (hm : k < m) (hr : RepTo (m - k) r) (hrs : r.size ≤ 1000000) :
    Calls Tryz.prog 89 #[.agg #[.bool neg, .string s, .int .i64 k], .int .i64 x] w fun e w' => e = .returned (.agg #[.bool neg, .string (s ++ r), .int .i64 m]) ∧ Below w.heap.size w w' := by
  have hle : ¬ (m : Int) ≤ (p.size : Int) := by omega
  have hsub : (m : Int) - (p.size : Int) = ((m - k : Nat) : Int) := by omega
  have Hsub := Lib.hid hsub
  clear hps hsub
  have hcat : ¬ 9223372036854775807 < s.size + r.size := by omega
  go_enter Tryz.func89, Tryz.ntmps89
  go_wp2_with (go_at_call 34; refine (hp _).mono ?_; rintro e w1 ⟨rfl, hb1⟩; obtain ⟨hc1, hf1⟩ := bcell hb1)
  have hsub := Hsub.out
  have hw1 : wrap64 ((m : Int) - (p.size : Int)) = ((m - k : Nat) : Int) := (w64in _ (by omega) (by omega)).trans hsub
  have hw2 : IntKind.i64.wrap ((m : Int) - (p.size : Int)) = ((m - k : Nat) : Int) := (IntWalk.i64_in _ (by omega)).trans hsub
  have hw3 : IntKind.i64.wrap ((m - k : Nat) : Int) = ((m - k : Nat) : Int) := IntWalk.i64_in _ (by omega)
  have hw4 : wrap64 ((m - k : Nat) : Int) = ((m - k : Nat) : Int) := w64in _ (by omega) (by omega)
  have hb1' := below_box2 hb1
  have hz1 := hb1.size
  have KS0 := Lib.hid (boxR_start hb1)
  obtain ⟨c0, c1, c2, c3, c4, c5, g0, g1, g2, zz, hBB⟩ := boxR_start hb1
  have zz1 : w.heap.size + 1 < w1.heap.size := zz
  have zz0 : w.heap.size < w1.heap.size := by omega
  clear hz1 hc1 hf1 hb1
  (go_region_with (first | (go_at_call 90; (with_reducible refine (hr.at_ _).mono ?_); rintro e w2 ⟨rfl, hb2⟩; obtain ⟨c0', c1', c2', c3', c4', c5', g0', g1', g2', zz', hBB'⟩ := boxR hb2 (boxR_drew KS0.out))))
  all_goals
    go_wp2
    exact bodyPost_ret (v := .agg #[.bool neg, .string (s ++ r), .int .i64 m]) (by simp [results, Tryz.results89, go_sem, c3', c4', c5']) rfl ⟨rfl, Below.set3 hBB' (by omega) _ _ _⟩
theorem trim_anyN (n : Bool) (s : ByteArray) (k m : Nat) (x : Int) (w : World) (hs : s.size ≤ 1000) (hk : k ≤ s.size) (hx : max x 0 = (m : Int)) :
    Calls Tryz.prog 88 #[.agg #[.bool n, .string s, .int .i64 k], .int .i64 x] w fun e w' => e = .returned (if m < k then .agg #[.bool n, .string (s.extract 0 (s.size - trimZ s.data.toList k m)), .int .i64 (k - trimZ s.data.toList k m : Nat)] else .agg #[.bool n, .string s, .int .i64 k]) ∧ Below w.heap.size w w' := by
  have hp := partTo n s k (by unfold maxLen; omega) hk
  have hps : (s.extract (s.size - k) s.size).size = k := by simp; omega
  by_cases hm : m < k
  · rw [if_pos hm]
    have hl : ((s.extract (s.size - k) s.size).extract m (s.extract (s.size - k) s.size).size).data.toList = s.data.toList.drop (s.data.toList.length - k + m) := by
      rw [extract_drop, extract_drop, List.drop_drop, size_data]
    have hT := trimRTo ((s.extract (s.size - k) s.size).extract m (s.extract (s.size - k) s.size).size) (by simp; omega)
    rw [hl] at hT
    have hz := (trim_split s.data.toList k m (by rw [size_data]; exact hk) hm).2.2
    exact trim_less n s _ _ k m _ x w (by omega) hk hp hps hx hm hT (by rw [size_mk]; exact hz)
  · rw [if_neg hm]
    exact trim_same n s _ k m x w hp hps hx (by omega)
theorem pad_any (n : Bool) (s : ByteArray) (k : Nat) (x : Int) (w : World) (hs : s.size ≤ 1000) (hk : k ≤ s.size) :
    Calls Tryz.prog 89 #[.agg #[.bool n, .string s, .int .i64 k], .int .i64 x] w fun e w' => e = .returned (.agg #[.bool n, .string (s ++ ⟨(List.replicate ((min x 40).toNat - k) 48).toArray⟩), .int .i64 (k + ((min x 40).toNat - k) : Nat)]) ∧ Below w.heap.size w w' := by
  have hp := partTo n s k (by unfold maxLen; omega) hk
  have hps : (s.extract (s.size - k) s.size).size = k := by simp; omega
  by_cases hm : (k : Int) < min x 40
  · have hmn : min x 40 = (((min x 40).toNat : Nat) : Int) := by omega
    have h := pad_more n s _ ⟨(List.replicate ((min x 40).toNat - k) 48).toArray⟩ k (min x 40).toNat x w (by omega) hp hps hmn (by omega) (repTo _ (by omega) (by omega)) (by rw [size_mk, List.length_replicate]; omega)
    have e : k + ((min x 40).toNat - k) = (min x 40).toNat := by omega
    rw [e]
    exact h
  · have e : (min x 40).toNat - k = 0 := by omega
    have e2 : s ++ (⟨([] : List UInt8).toArray⟩ : ByteArray) = s := by
      apply bytes_eq
      simp
    rw [e, List.replicate_zero, Nat.add_zero, e2]
    exact pad_same n s _ k _ x w hp hps rfl (by omega)
end Go.Proofs.YtpgiboblonlddaaGreatDoor
