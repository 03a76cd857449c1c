import Derived.Test.YtglennfjeacpoaaGreatDoorA2
import Derived.Test.YtglennfjeacpoaaGreatDoorA3z
import Derived.Test.YtglennfjeacpoaaGreatDoorA6
import Derived.Test.YtglennfjeacpoaaGreatDoorA7
import Derived.Test.YtglennfjeacpoaaGreatDoorA9
namespace Go.Proofs.YtglennfjeacpoaaGreatDoor
open Go.RowKit

def decV (n : Bool) (s : ByteArray) (k : Nat) : Value := .agg #[.bool n, .string s, .int .i64 k]
def WholeTo (n : Bool) (s : ByteArray) (k : Nat) (r : ByteArray) : Prop := ∀ W : World, Calls Tryz.prog 37 #[.agg #[.bool n, .string s, .int .i64 k]] W fun e w' => e = .returned (.string r) ∧ Below W.heap.size W w'
def CmpITo (a b : Int) (c : Int) : Prop := ∀ W : World, Calls Tryz.prog 97 #[.int .i64 a, .int .i64 b] W fun e w' => e = .returned (.int .i64 c) ∧ W = w'
theorem cmpITo (a b : Int) : CmpITo a b (Lib.compareInt a b) := by
  intro W
  refine (Tryz.cmp_Compare_int a b W).mono ?_
  rintro e w' ⟨rfl, rfl⟩
  exact ⟨rfl, rfl⟩

theorem WholeTo.at_ {n : Bool} {s : ByteArray} {k : Nat} {r : ByteArray} (h : WholeTo n s k r) (W : World) : Calls Tryz.prog 37 #[.agg #[.bool n, .string s, .int .i64 k]] W fun e w' => e = .returned (.string r) ∧ Below W.heap.size W w' := h W
theorem PartTo.at_ {n : Bool} {s r : ByteArray} {k : Nat} (h : PartTo n s r k) (W : World) : Calls Tryz.prog 40 #[.agg #[.bool n, .string s, .int .i64 k]] W fun e w' => e = .returned (.string r) ∧ Below W.heap.size W w' := h W
theorem TrimTo.at_ {a c : ByteArray} (h : TrimTo a c) (W : World) : Calls Tryz.prog 93 #[.string a, .string ⟨#[48]⟩] W fun e w' => e = .returned (.string c) ∧ W = w' := h W
theorem TrimRTo.at_ {a c : ByteArray} (h : TrimRTo a c) (W : World) : Calls Tryz.prog 99 #[.string a, .string ⟨#[48]⟩] W fun e w' => e = .returned (.string c) ∧ W = w' := h W
theorem CmpTo.at_ {a b : ByteArray} {c : Int} (h : CmpTo a b c) (W : World) : Calls Tryz.prog 98 #[.string a, .string b] W fun e w' => e = .returned (.int .i64 c) ∧ W = w' := h W
theorem CmpITo.at_ {a b c : Int} (h : CmpITo a b c) (W : World) : Calls Tryz.prog 97 #[.int .i64 a, .int .i64 b] W fun e w' => e = .returned (.int .i64 c) ∧ W = w' := h W

/-- What is said of two boxed structs of three fields in a region. -/
theorem two6 {A C B : Nat} {w W w1 : World} {a0 a1 a2 c0 c1 c2 : Value} (hb1 : Below W.heap.size W w1)
    (h : W.cell? ⟨A, 0, none⟩ = some a0 ∧ W.cell? ⟨A, 1, none⟩ = some a1 ∧ W.cell? ⟨A, 2, none⟩ = some a2 ∧ W.cell? ⟨C, 0, none⟩ = some c0 ∧ W.cell? ⟨C, 1, none⟩ = some c1 ∧ W.cell? ⟨C, 2, none⟩ = some c2 ∧ A + 1 ≤ W.heap.size ∧ C + 1 ≤ W.heap.size ∧ B ≤ W.heap.size ∧ Below B w W) :
    w1.cell? ⟨A, 0, none⟩ = some a0 ∧ w1.cell? ⟨A, 1, none⟩ = some a1 ∧ w1.cell? ⟨A, 2, none⟩ = some a2 ∧ w1.cell? ⟨C, 0, none⟩ = some c0 ∧ w1.cell? ⟨C, 1, none⟩ = some c1 ∧ w1.cell? ⟨C, 2, none⟩ = some c2 ∧ A + 1 ≤ w1.heap.size ∧ C + 1 ≤ w1.heap.size ∧ B ≤ w1.heap.size ∧ Below B w w1 := by
  obtain ⟨h0, h1, h2, h3, h4, h5, hA, hC, hB0, hB⟩ := h
  have hz := hb1.size
  exact ⟨(hb1.cell (p := ⟨A, 0, none⟩) hA).trans h0, (hb1.cell (p := ⟨A, 1, none⟩) hA).trans h1, (hb1.cell (p := ⟨A, 2, none⟩) hA).trans h2, (hb1.cell (p := ⟨C, 0, none⟩) hC).trans h3, (hb1.cell (p := ⟨C, 1, none⟩) hC).trans h4, (hb1.cell (p := ⟨C, 2, none⟩) hC).trans h5, by omega, by omega, by omega, hB.trans (hb1.mono hB0)⟩
theorem two6_below {A C B : Nat} {w W : World} {a0 a1 a2 c0 c1 c2 : Value}
    (h : W.cell? ⟨A, 0, none⟩ = some a0 ∧ W.cell? ⟨A, 1, none⟩ = some a1 ∧ W.cell? ⟨A, 2, none⟩ = some a2 ∧ W.cell? ⟨C, 0, none⟩ = some c0 ∧ W.cell? ⟨C, 1, none⟩ = some c1 ∧ W.cell? ⟨C, 2, none⟩ = some c2 ∧ A + 1 ≤ W.heap.size ∧ C + 1 ≤ W.heap.size ∧ B ≤ W.heap.size ∧ Below B w W) : Below B w W := h.2.2.2.2.2.2.2.2.2

theorem two6_id {A C B : Nat} {w W : World} {a0 a1 a2 c0 c1 c2 : Value}
    (h : W.cell? ⟨A, 0, none⟩ = some a0 ∧ W.cell? ⟨A, 1, none⟩ = some a1 ∧ W.cell? ⟨A, 2, none⟩ = some a2 ∧ W.cell? ⟨C, 0, none⟩ = some c0 ∧ W.cell? ⟨C, 1, none⟩ = some c1 ∧ W.cell? ⟨C, 2, none⟩ = some c2 ∧ A + 1 ≤ W.heap.size ∧ C + 1 ≤ W.heap.size ∧ B ≤ W.heap.size ∧ Below B w W) :
    W.cell? ⟨A, 0, none⟩ = some a0 ∧ W.cell? ⟨A, 1, none⟩ = some a1 ∧ W.cell? ⟨A, 2, none⟩ = some a2 ∧ W.cell? ⟨C, 0, none⟩ = some c0 ∧ W.cell? ⟨C, 1, none⟩ = some c1 ∧ W.cell? ⟨C, 2, none⟩ = some c2 ∧ A + 1 ≤ W.heap.size ∧ C + 1 ≤ W.heap.size ∧ B ≤ W.heap.size ∧ Below B w W := h

def cszV (c c2 c3 : Int) : Int := if c = 0 then (if c2 = 0 then c3 else c2) else c

set_option maxHeartbeats 2000000 in
set_option maxRecDepth 100000 in
theorem sizes_core (n1 n2 : Bool) (s1 s2 W1 W2 T1 T2 P1 P2 R1 R2 : ByteArray) (k1 k2 : Nat) (c c2 c3 : Int) (w : World)
    (hW1 : WholeTo n1 s1 k1 W1) (hW2 : WholeTo n2 s2 k2 W2) (hT1 : TrimTo W1 T1) (hT2 : TrimTo W2 T2) (hP1 : PartTo n1 s1 P1 k1) (hP2 : PartTo n2 s2 P2 k2) (hR1 : TrimRTo P1 R1) (hR2 : TrimRTo P2 R2)
    (hc : CmpITo T1.size T2.size c) (hc2 : CmpTo T1 T2 c2) (hc3 : CmpTo R1 R2 c3) :
    Calls Tryz.prog 53 #[.agg #[.bool n1, .string s1, .int .i64 k1], .agg #[.bool n2, .string s2, .int .i64 k2]] w fun e w' => e = .returned (.int .i64 (cszV c c2 c3)) ∧ Below w.heap.size w w' := by
  by_cases h0 : c = 0
  · subst h0
    by_cases h2 : c2 = 0
    · subst h2
      go_enter Tryz.func53, Tryz.ntmps53
      go_wp2
      go_region_held3 (fun w' => w'.cell? ⟨w.heap.size, 0, none⟩ = some (.bool n1) ∧ w'.cell? ⟨w.heap.size, 1, none⟩ = some (.string s1) ∧ w'.cell? ⟨w.heap.size, 2, none⟩ = some (.int .i64 k1) ∧ w'.cell? ⟨w.heap.size + 1, 0, none⟩ = some (.bool n2) ∧ w'.cell? ⟨w.heap.size + 1, 1, none⟩ = some (.string s2) ∧ w'.cell? ⟨w.heap.size + 1, 2, none⟩ = some (.int .i64 k2) ∧ w.heap.size + 1 ≤ w'.heap.size ∧ w.heap.size + 1 + 1 ≤ w'.heap.size ∧ w.heap.size ≤ w'.heap.size ∧ Below w.heap.size w w')
        (first | (exact two6 (by assumption) (by assumption)) | assumption | (exact ⟨by simp, by simp, by simp, by simp, by simp, by simp, by simp <;> omega, by simp <;> omega, by simp <;> omega, (((Below.refl _ _).alloc (Nat.le_refl _) _).alloc (by simp) _).drew⟩) | go_keep)
        (first | (go_at_call 37; (with_reducible refine (hW1.at_ _).mono ?_); rintro e wa ⟨rfl, hba⟩) | (go_at_call 37; (with_reducible refine (hW2.at_ _).mono ?_); rintro e wb ⟨rfl, hbb⟩) | (go_at_call 93; (with_reducible refine (hT1.at_ _).mono ?_); rintro e wt ⟨rfl, rfl⟩) | (go_at_call 93; (with_reducible refine (hT2.at_ _).mono ?_); rintro e wt ⟨rfl, rfl⟩))
      obtain ⟨f0, f1, f2, f3, f4, f5, z0, z1, z2, hB⟩ := two6_id (A := w.heap.size) (C := w.heap.size + 1) (B := w.heap.size) (w := w) (W := wb) (by assumption)
      clear hba hbb
      go_wp2_with (first | (go_at_call 97; (with_reducible refine (hc.at_ _).mono ?_); rintro e wt ⟨rfl, rfl⟩) | (go_at_call 98; (with_reducible refine (hc2.at_ _).mono ?_); rintro e wt ⟨rfl, rfl⟩))
      go_region_held3 (fun w' => w'.cell? ⟨w.heap.size, 0, none⟩ = some (.bool n1) ∧ w'.cell? ⟨w.heap.size, 1, none⟩ = some (.string s1) ∧ w'.cell? ⟨w.heap.size, 2, none⟩ = some (.int .i64 k1) ∧ w'.cell? ⟨w.heap.size + 1, 0, none⟩ = some (.bool n2) ∧ w'.cell? ⟨w.heap.size + 1, 1, none⟩ = some (.string s2) ∧ w'.cell? ⟨w.heap.size + 1, 2, none⟩ = some (.int .i64 k2) ∧ w.heap.size + 1 ≤ w'.heap.size ∧ w.heap.size + 1 + 1 ≤ w'.heap.size ∧ w.heap.size ≤ w'.heap.size ∧ Below w.heap.size w w')
        (first | (exact two6 (by assumption) (by assumption)) | assumption | (exact ⟨f0, f1, f2, f3, f4, f5, z0, z1, z2, hB.drew⟩) | go_keep)
        (first | (go_at_call 40; (with_reducible refine (hP1.at_ _).mono ?_); rintro e wc ⟨rfl, hbc⟩) | (go_at_call 40; (with_reducible refine (hP2.at_ _).mono ?_); rintro e wd ⟨rfl, hbd⟩) | (go_at_call 99; (with_reducible refine (hR1.at_ _).mono ?_); rintro e wt ⟨rfl, rfl⟩) | (go_at_call 99; (with_reducible refine (hR2.at_ _).mono ?_); rintro e wt ⟨rfl, rfl⟩) | (go_at_call 98; (with_reducible refine (hc3.at_ _).mono ?_); rintro e wt ⟨rfl, rfl⟩))
      go_wp2
      go_ret
      exact ⟨ret_int (by simp [cszV]), two6_below (by assumption)⟩
    · have hb2 : (c2 == 0) = false := by rw [beq_eq_false_iff_ne]; exact h2
      have H2 := Lib.hid h2
      clear h2
      go_enter Tryz.func53, Tryz.ntmps53
      go_wp2
      go_region_held3 (fun w' => w'.cell? ⟨w.heap.size, 0, none⟩ = some (.bool n1) ∧ w'.cell? ⟨w.heap.size, 1, none⟩ = some (.string s1) ∧ w'.cell? ⟨w.heap.size, 2, none⟩ = some (.int .i64 k1) ∧ w'.cell? ⟨w.heap.size + 1, 0, none⟩ = some (.bool n2) ∧ w'.cell? ⟨w.heap.size + 1, 1, none⟩ = some (.string s2) ∧ w'.cell? ⟨w.heap.size + 1, 2, none⟩ = some (.int .i64 k2) ∧ w.heap.size + 1 ≤ w'.heap.size ∧ w.heap.size + 1 + 1 ≤ w'.heap.size ∧ w.heap.size ≤ w'.heap.size ∧ Below w.heap.size w w')
        (first | (exact two6 (by assumption) (by assumption)) | assumption | (exact ⟨by simp, by simp, by simp, by simp, by simp, by simp, by simp <;> omega, by simp <;> omega, by simp <;> omega, (((Below.refl _ _).alloc (Nat.le_refl _) _).alloc (by simp) _).drew⟩) | go_keep)
        (first | (go_at_call 37; (with_reducible refine (hW1.at_ _).mono ?_); rintro e wa ⟨rfl, hba⟩) | (go_at_call 37; (with_reducible refine (hW2.at_ _).mono ?_); rintro e wb ⟨rfl, hbb⟩) | (go_at_call 93; (with_reducible refine (hT1.at_ _).mono ?_); rintro e wt ⟨rfl, rfl⟩) | (go_at_call 93; (with_reducible refine (hT2.at_ _).mono ?_); rintro e wt ⟨rfl, rfl⟩))
      obtain ⟨f0, f1, f2, f3, f4, f5, z0, z1, z2, hB⟩ := two6_id (A := w.heap.size) (C := w.heap.size + 1) (B := w.heap.size) (w := w) (W := wb) (by assumption)
      clear hba hbb
      go_wp2_with (first | (go_at_call 97; (with_reducible refine (hc.at_ _).mono ?_); rintro e wt ⟨rfl, rfl⟩) | (go_at_call 98; (with_reducible refine (hc2.at_ _).mono ?_); rintro e wt ⟨rfl, rfl⟩))
      go_ret
      exact ⟨ret_int (by simp [cszV, H2.out]), hB⟩
  · have hb0 : (c == 0) = false := by rw [beq_eq_false_iff_ne]; exact h0
    have H0 := Lib.hid h0
    clear h0
    go_enter Tryz.func53, Tryz.ntmps53
    go_wp2
    go_region_held3 (fun w' => w'.cell? ⟨w.heap.size, 0, none⟩ = some (.bool n1) ∧ w'.cell? ⟨w.heap.size, 1, none⟩ = some (.string s1) ∧ w'.cell? ⟨w.heap.size, 2, none⟩ = some (.int .i64 k1) ∧ w'.cell? ⟨w.heap.size + 1, 0, none⟩ = some (.bool n2) ∧ w'.cell? ⟨w.heap.size + 1, 1, none⟩ = some (.string s2) ∧ w'.cell? ⟨w.heap.size + 1, 2, none⟩ = some (.int .i64 k2) ∧ w.heap.size + 1 ≤ w'.heap.size ∧ w.heap.size + 1 + 1 ≤ w'.heap.size ∧ w.heap.size ≤ w'.heap.size ∧ Below w.heap.size w w')
      (first | (exact two6 (by assumption) (by assumption)) | assumption | (exact ⟨by simp, by simp, by simp, by simp, by simp, by simp, by simp <;> omega, by simp <;> omega, by simp <;> omega, (((Below.refl _ _).alloc (Nat.le_refl _) _).alloc (by simp) _).drew⟩) | go_keep)
      (first | (go_at_call 37; (with_reducible refine (hW1.at_ _).mono ?_); rintro e wa ⟨rfl, hba⟩) | (go_at_call 37; (with_reducible refine (hW2.at_ _).mono ?_); rintro e wb ⟨rfl, hbb⟩) | (go_at_call 93; (with_reducible refine (hT1.at_ _).mono ?_); rintro e wt ⟨rfl, rfl⟩) | (go_at_call 93; (with_reducible refine (hT2.at_ _).mono ?_); rintro e wt ⟨rfl, rfl⟩))
    obtain ⟨f0, f1, f2, f3, f4, f5, z0, z1, z2, hB⟩ := two6_id (A := w.heap.size) (C := w.heap.size + 1) (B := w.heap.size) (w := w) (W := wb) (by assumption)
    clear hba hbb
    go_wp2_with (first | (go_at_call 97; (with_reducible refine (hc.at_ _).mono ?_); rintro e wt ⟨rfl, rfl⟩))
    go_ret
    exact ⟨ret_int (by simp [cszV, H0.out]), hB⟩

def BelowTo (n : Bool) (s : ByteArray) (k : Nat) (b : Bool) : Prop := ∀ W : World, Calls Tryz.prog 52 #[.agg #[.bool n, .string s, .int .i64 k]] W fun e w' => e = .returned (.bool b) ∧ Below W.heap.size W w'
theorem BelowTo.at_ {n : Bool} {s : ByteArray} {k : Nat} {b : Bool} (h : BelowTo n s k b) (W : World) : Calls Tryz.prog 52 #[.agg #[.bool n, .string s, .int .i64 k]] W fun e w' => e = .returned (.bool b) ∧ Below W.heap.size W w' := h W
def SizesTo (n1 : Bool) (s1 : ByteArray) (k1 : Nat) (n2 : Bool) (s2 : ByteArray) (k2 : Nat) (c : Int) : Prop := ∀ W : World, Calls Tryz.prog 53 #[.agg #[.bool n1, .string s1, .int .i64 k1], .agg #[.bool n2, .string s2, .int .i64 k2]] W fun e w' => e = .returned (.int .i64 c) ∧ Below W.heap.size W w'
theorem SizesTo.at_ {n1 n2 : Bool} {s1 s2 : ByteArray} {k1 k2 : Nat} {c : Int} (h : SizesTo n1 s1 k1 n2 s2 k2 c) (W : World) : Calls Tryz.prog 53 #[.agg #[.bool n1, .string s1, .int .i64 k1], .agg #[.bool n2, .string s2, .int .i64 k2]] W fun e w' => e = .returned (.int .i64 c) ∧ Below W.heap.size W w' := h W

/-- Is it nought? -/
def zeroB (l : List UInt8) : Bool := (Lib.trimB l 48).isEmpty

set_option maxHeartbeats 400000 in
theorem below_any (n : Bool) (s : ByteArray) (k : Nat) (hs : s.size ≤ maxLen) : BelowTo n s k (n && !zeroB s.data.toList) := by
  intro W
  have hz := fun w => zero_any n s k w hs
  have Hz := Lib.hid hz
  clear hz
  cases n
  · go_enter Tryz.func52, Tryz.ntmps52
    go_wp2
    go_ret
    exact ⟨rfl, (Below.refl _ _).alloc (Nat.le_refl _) _⟩
  · go_enter Tryz.func52, Tryz.ntmps52
    go_wp2_with (go_at_call 39; refine (Hz.out _).mono ?_; rintro e w1 ⟨rfl, hb1⟩)
    go_ret
    exact ⟨ret_bool (by simp [zeroB]), below_box hb1⟩

def cmpV (b1 b2 : Bool) (c c' : Int) : Int := if b1 = b2 then (if b1 then c' else c) else (if b1 then -1 else 1)

set_option maxHeartbeats 2000000 in
set_option maxRecDepth 100000 in
theorem compare_core (n1 n2 b1 b2 : Bool) (s1 s2 : ByteArray) (k1 k2 : Nat) (c c' : Int) (w : World)
    (hb1 : BelowTo n1 s1 k1 b1) (hb2 : BelowTo n2 s2 k2 b2) (hc : SizesTo n1 s1 k1 n2 s2 k2 c) (hd : SizesTo n2 s2 k2 n1 s1 k1 c') :
    Calls Tryz.prog 20 #[.agg #[.bool n1, .string s1, .int .i64 k1], .agg #[.bool n2, .string s2, .int .i64 k2]] w fun e w' => e = .returned (.int .i64 (cmpV b1 b2 c c')) ∧ Below w.heap.size w w' := by
  cases b1 <;> cases b2
  all_goals
    go_enter Tryz.func20, Tryz.ntmps20
    go_wp2
    go_region_held3 (fun w' => w'.cell? ⟨w.heap.size, 0, none⟩ = some (.bool n1) ∧ w'.cell? ⟨w.heap.size, 1, none⟩ = some (.string s1) ∧ w'.cell? ⟨w.heap.size, 2, none⟩ = some (.int .i64 k1) ∧ w'.cell? ⟨w.heap.size + 1, 0, none⟩ = some (.bool n2) ∧ w'.cell? ⟨w.heap.size + 1, 1, none⟩ = some (.string s2) ∧ w'.cell? ⟨w.heap.size + 1, 2, none⟩ = some (.int .i64 k2) ∧ w.heap.size + 1 ≤ w'.heap.size ∧ w.heap.size + 1 + 1 ≤ w'.heap.size ∧ w.heap.size ≤ w'.heap.size ∧ Below w.heap.size w w')
      (first | (exact two6 (by assumption) (by assumption)) | assumption | (exact ⟨by simp, by simp, by simp, by simp, by simp, by simp, by simp <;> omega, by simp <;> omega, by simp <;> omega, (((Below.refl _ _).alloc (Nat.le_refl _) _).alloc (by simp) _).drew⟩) | go_keep)
      (first | (go_at_call 52; (with_reducible refine (hb1.at_ _).mono ?_); rintro e wa ⟨rfl, hba⟩) | (go_at_call 52; (with_reducible refine (hb2.at_ _).mono ?_); rintro e wb ⟨rfl, hbb⟩))
    obtain ⟨f0, f1, f2, f3, f4, f5, z0, z1, z2, hB⟩ := two6_id (A := w.heap.size) (C := w.heap.size + 1) (B := w.heap.size) (w := w) (W := wb) (by assumption)
    clear hba hbb
    have y0 : w.heap.size < wb.heap.size := z0
    have y1 : w.heap.size + 1 < wb.heap.size := z1
    go_wp2_with fail
  · go_at_call 52
    refine (hb1.at_ _).mono ?_
    rintro e wc ⟨rfl, hbc⟩
    obtain ⟨hcc, hfc⟩ := bcell hbc
    go_wp2_with fail
    go_at_call 53
    refine (hc.at_ _).mono ?_
    rintro e wd ⟨rfl, hbd⟩
    go_wp2
    go_ret
    exact ⟨rfl, below_then (below_then hB (Nat.le_refl _) hbc) (Nat.le_refl _) hbd⟩
  · go_at_call 52
    refine (hb1.at_ _).mono ?_
    rintro e wc ⟨rfl, hbc⟩
    go_wp2
    go_ret
    exact ⟨rfl, below_then hB (Nat.le_refl _) hbc⟩
  · go_at_call 52
    refine (hb1.at_ _).mono ?_
    rintro e wc ⟨rfl, hbc⟩
    go_wp2
    go_ret
    exact ⟨rfl, below_then hB (Nat.le_refl _) hbc⟩
  · go_at_call 52
    refine (hb1.at_ _).mono ?_
    rintro e wc ⟨rfl, hbc⟩
    obtain ⟨hcc, hfc⟩ := bcell hbc
    go_wp2_with fail
    go_at_call 53
    refine (hd.at_ _).mono ?_
    rintro e wd ⟨rfl, hbd⟩
    go_wp2
    go_ret
    exact ⟨rfl, below_then (below_then hB (Nat.le_refl _) hbc) (Nat.le_refl _) hbd⟩

/-- The order of the sizes, and of two numbers. -/
def sizeC (l1 : List UInt8) (k1 : Nat) (l2 : List UInt8) (k2 : Nat) : Int :=
  cszV (Lib.compareInt (Lib.trimLeftB (l1.take (l1.length - k1)) 48).length (Lib.trimLeftB (l2.take (l2.length - k2)) 48).length)
    (cmpS (Lib.trimLeftB (l1.take (l1.length - k1)) 48) (Lib.trimLeftB (l2.take (l2.length - k2)) 48))
    (cmpS (Lib.trimRightB (l1.drop (l1.length - k1)) 48) (Lib.trimRightB (l2.drop (l2.length - k2)) 48))
def decC (n1 : Bool) (l1 : List UInt8) (k1 : Nat) (n2 : Bool) (l2 : List UInt8) (k2 : Nat) : Int :=
  cmpV (n1 && !zeroB l1) (n2 && !zeroB l2) (sizeC l1 k1 l2 k2) (sizeC l2 k2 l1 k1)

theorem sizes_any (n1 n2 : Bool) (s1 s2 : ByteArray) (k1 k2 : Nat) (h1 : s1.size ≤ maxLen) (h2 : s2.size ≤ maxLen) (hk1 : k1 ≤ s1.size) (hk2 : k2 ≤ s2.size) : SizesTo n1 s1 k1 n2 s2 k2 (sizeC s1.data.toList k1 s2.data.toList k2) := by
  intro W
  have hw1 : WholeTo n1 s1 k1 (s1.extract 0 (s1.size - k1)) := fun W => whole_any n1 s1 k1 W h1 hk1
  have hw2 : WholeTo n2 s2 k2 (s2.extract 0 (s2.size - k2)) := fun W => whole_any n2 s2 k2 W h2 hk2
  have hp1 : PartTo n1 s1 (s1.extract (s1.size - k1) s1.size) k1 := fun W => part_any n1 s1 k1 W h1 hk1
  have hp2 : PartTo n2 s2 (s2.extract (s2.size - k2) s2.size) k2 := fun W => part_any n2 s2 k2 W h2 hk2
  have z1 : (s1.extract (s1.size - k1) s1.size).size ≤ 9223372036854775807 := by unfold maxLen at h1; rw [ByteArray.size_extract]; omega
  have z2 : (s2.extract (s2.size - k2) s2.size).size ≤ 9223372036854775807 := by unfold maxLen at h2; rw [ByteArray.size_extract]; omega
  have := sizes_core n1 n2 s1 s2 _ _ _ _ _ _ _ _ k1 k2 _ _ _ W hw1 hw2 (trimTo _) (trimTo _) hp1 hp2 (trimRTo _ z1) (trimRTo _ z2) (cmpITo _ _) (fun W => cmpString_any _ _ W) (fun W => cmpString_any _ _ W)
  simp only [size_mk, extract_take, extract_drop] at this
  unfold sizeC
  rw [size_data, size_data]
  exact this
theorem compare_any (n1 n2 : Bool) (s1 s2 : ByteArray) (k1 k2 : Nat) (w : World) (h1 : s1.size ≤ maxLen) (h2 : s2.size ≤ maxLen) (hk1 : k1 ≤ s1.size) (hk2 : k2 ≤ s2.size) :
    Calls Tryz.prog 20 #[.agg #[.bool n1, .string s1, .int .i64 k1], .agg #[.bool n2, .string s2, .int .i64 k2]] w fun e w' => e = .returned (.int .i64 (decC n1 s1.data.toList k1 n2 s2.data.toList k2)) ∧ Below w.heap.size w w' :=
  compare_core n1 n2 _ _ s1 s2 k1 k2 _ _ w (below_any n1 s1 k1 h1) (below_any n2 s2 k2 h2) (sizes_any n1 n2 s1 s2 k1 k2 h1 h2 hk1 hk2) (sizes_any n2 n1 s2 s1 k2 k1 h2 h1 hk2 hk1)
end Go.Proofs.YtglennfjeacpoaaGreatDoor
