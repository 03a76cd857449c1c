/-
  DecSigns: below nought all is as above it, but for the sign.
-/
import Derived.Test.YtjgfijpgoffmlacDoorA11
import Derived.Test.YtjgfijpgoffmlacDoorCmp
import Derived.Test.YtjgfijpgoffmlacDoorLawRight
import Derived.Deep.RegionWith
import Derived.Deep.DrawnRows
namespace Go.Proofs.YtjgfijpgoffmlacDoor
open Go.RowKit
attribute [local go_sem ↓] Go.wp_at_zero Go.wp_at_succ

theorem box12 {D N A B Z : Nat} {w W w1 : World} {d0 d1 d2 n0 n1 n2 a0 a1 a2 b0 b1 b2 : Value} (hb1 : Below W.heap.size W w1)
    (h : W.cell? ⟨D, 0, none⟩ = some d0 ∧ W.cell? ⟨D, 1, none⟩ = some d1 ∧ W.cell? ⟨D, 2, none⟩ = some d2 ∧ W.cell? ⟨N, 0, none⟩ = some n0 ∧ W.cell? ⟨N, 1, none⟩ = some n1 ∧ W.cell? ⟨N, 2, none⟩ = some n2 ∧ W.cell? ⟨A, 0, none⟩ = some a0 ∧ W.cell? ⟨A, 1, none⟩ = some a1 ∧ W.cell? ⟨A, 2, none⟩ = some a2 ∧ W.cell? ⟨B, 0, none⟩ = some b0 ∧ W.cell? ⟨B, 1, none⟩ = some b1 ∧ W.cell? ⟨B, 2, none⟩ = some b2 ∧ D + 1 ≤ W.heap.size ∧ N + 1 ≤ W.heap.size ∧ A + 1 ≤ W.heap.size ∧ B + 1 ≤ W.heap.size ∧ Z ≤ W.heap.size ∧ Below Z w W) :
    w1.cell? ⟨D, 0, none⟩ = some d0 ∧ w1.cell? ⟨D, 1, none⟩ = some d1 ∧ w1.cell? ⟨D, 2, none⟩ = some d2 ∧ w1.cell? ⟨N, 0, none⟩ = some n0 ∧ w1.cell? ⟨N, 1, none⟩ = some n1 ∧ w1.cell? ⟨N, 2, none⟩ = some n2 ∧ w1.cell? ⟨A, 0, none⟩ = some a0 ∧ w1.cell? ⟨A, 1, none⟩ = some a1 ∧ w1.cell? ⟨A, 2, none⟩ = some a2 ∧ w1.cell? ⟨B, 0, none⟩ = some b0 ∧ w1.cell? ⟨B, 1, none⟩ = some b1 ∧ w1.cell? ⟨B, 2, none⟩ = some b2 ∧ D + 1 ≤ w1.heap.size ∧ N + 1 ≤ w1.heap.size ∧ A + 1 ≤ w1.heap.size ∧ B + 1 ≤ w1.heap.size ∧ Z ≤ w1.heap.size ∧ Below Z w w1 := by
  obtain ⟨x0, x1, x2, x3, x4, x5, x6, x7, x8, x9, x10, x11, zD, zN, zA, zB, hZ, hB⟩ := h
  have hz := hb1.size
  exact ⟨(hb1.cell (p := ⟨D, 0, none⟩) zD).trans x0, (hb1.cell (p := ⟨D, 1, none⟩) zD).trans x1, (hb1.cell (p := ⟨D, 2, none⟩) zD).trans x2, (hb1.cell (p := ⟨N, 0, none⟩) zN).trans x3, (hb1.cell (p := ⟨N, 1, none⟩) zN).trans x4, (hb1.cell (p := ⟨N, 2, none⟩) zN).trans x5, (hb1.cell (p := ⟨A, 0, none⟩) zA).trans x6, (hb1.cell (p := ⟨A, 1, none⟩) zA).trans x7, (hb1.cell (p := ⟨A, 2, none⟩) zA).trans x8, (hb1.cell (p := ⟨B, 0, none⟩) zB).trans x9, (hb1.cell (p := ⟨B, 1, none⟩) zB).trans x10, (hb1.cell (p := ⟨B, 2, none⟩) zB).trans x11, by omega, by omega, by omega, by omega, by omega, hB.trans (hb1.mono hZ)⟩
theorem box12_id {D N A B Z : Nat} {w W : World} {d0 d1 d2 n0 n1 n2 a0 a1 a2 b0 b1 b2 : Value}
    (h : W.cell? ⟨D, 0, none⟩ = some d0 ∧ W.cell? ⟨D, 1, none⟩ = some d1 ∧ W.cell? ⟨D, 2, none⟩ = some d2 ∧ W.cell? ⟨N, 0, none⟩ = some n0 ∧ W.cell? ⟨N, 1, none⟩ = some n1 ∧ W.cell? ⟨N, 2, none⟩ = some n2 ∧ W.cell? ⟨A, 0, none⟩ = some a0 ∧ W.cell? ⟨A, 1, none⟩ = some a1 ∧ W.cell? ⟨A, 2, none⟩ = some a2 ∧ W.cell? ⟨B, 0, none⟩ = some b0 ∧ W.cell? ⟨B, 1, none⟩ = some b1 ∧ W.cell? ⟨B, 2, none⟩ = some b2 ∧ D + 1 ≤ W.heap.size ∧ N + 1 ≤ W.heap.size ∧ A + 1 ≤ W.heap.size ∧ B + 1 ≤ W.heap.size ∧ Z ≤ W.heap.size ∧ Below Z w W) :
    W.cell? ⟨D, 0, none⟩ = some d0 ∧ W.cell? ⟨D, 1, none⟩ = some d1 ∧ W.cell? ⟨D, 2, none⟩ = some d2 ∧ W.cell? ⟨N, 0, none⟩ = some n0 ∧ W.cell? ⟨N, 1, none⟩ = some n1 ∧ W.cell? ⟨N, 2, none⟩ = some n2 ∧ W.cell? ⟨A, 0, none⟩ = some a0 ∧ W.cell? ⟨A, 1, none⟩ = some a1 ∧ W.cell? ⟨A, 2, none⟩ = some a2 ∧ W.cell? ⟨B, 0, none⟩ = some b0 ∧ W.cell? ⟨B, 1, none⟩ = some b1 ∧ W.cell? ⟨B, 2, none⟩ = some b2 ∧ D + 1 ≤ W.heap.size ∧ N + 1 ≤ W.heap.size ∧ A + 1 ≤ W.heap.size ∧ B + 1 ≤ W.heap.size ∧ Z ≤ W.heap.size ∧ Below Z w W := h

theorem bytesLess_irrefl : ∀ l : List UInt8, Op.bytesLess l l = false
  | [] => rfl
  | c :: l => by
    have ih := bytesLess_irrefl l
    simp [Op.bytesLess, ih]
theorem cmpS_self (l : List UInt8) : cmpS l l = 0 := by
  unfold cmpS
  rw [bytesLess_irrefl]
  simp
theorem sizeC_self (l : List UInt8) (k : Nat) : sizeC l k l k = 0 := by
  unfold sizeC cszV
  rw [cmpS_self, cmpS_self]
  simp [Lib.compareInt]

def ZeroTo (n : Bool) (s : ByteArray) (k : Nat) (z : Bool) : Prop := ∀ W : World, Calls Tryd.prog 12 #[.agg #[.bool n, .string s, .int .i64 k]] W fun e w' => e = .returned (.bool z) ∧ Below W.heap.size W w'
theorem ZeroTo.at_ {n : Bool} {s : ByteArray} {k : Nat} {z : Bool} (h : ZeroTo n s k z) (W : World) : Calls Tryd.prog 12 #[.agg #[.bool n, .string s, .int .i64 k]] W fun e w' => e = .returned (.bool z) ∧ Below W.heap.size W w' := h W
def RoundTo (n : Bool) (s : ByteArray) (k : Nat) (x : Int) (R : ByteArray) (M : Nat) : Prop := ∀ W : World, Calls Tryd.prog 11 #[.agg #[.bool n, .string s, .int .i64 k], .int .i64 x] W fun e w' => e = .returned (.agg #[.bool n, .string R, .int .i64 M]) ∧ Below W.heap.size W w'
theorem RoundTo.at_ {n : Bool} {s : ByteArray} {k : Nat} {x : Int} {R : ByteArray} {M : Nat} (h : RoundTo n s k x R M) (W : World) : Calls Tryd.prog 11 #[.agg #[.bool n, .string s, .int .i64 k], .int .i64 x] W fun e w' => e = .returned (.agg #[.bool n, .string R, .int .i64 M]) ∧ Below W.heap.size W w' := h W
def CompTo (n1 : Bool) (s1 : ByteArray) (k1 : Nat) (n2 : Bool) (s2 : ByteArray) (k2 : Nat) (c : Int) : Prop := ∀ W : World, Calls Tryd.prog 10 #[.agg #[.bool n1, .string s1, .int .i64 k1], .agg #[.bool n2, .string s2, .int .i64 k2]] W fun e w' => e = .returned (.int .i64 c) ∧ Below W.heap.size W w'
theorem CompTo.at_ {n1 n2 : Bool} {s1 s2 : ByteArray} {k1 k2 : Nat} {c : Int} (h : CompTo n1 s1 k1 n2 s2 k2 c) (W : World) : Calls Tryd.prog 10 #[.agg #[.bool n1, .string s1, .int .i64 k1], .agg #[.bool n2, .string s2, .int .i64 k2]] W fun e w' => e = .returned (.int .i64 c) ∧ Below W.heap.size W w' := h W
def TrueTo (n : Bool) (s : ByteArray) (k : Int) (b : Bool) : Prop := ∀ W : World, Calls Tryd.prog 9 #[.agg #[.bool n, .string s, .int .i64 k]] W fun e w' => e = .returned (.bool b) ∧ Below W.heap.size W w'

set_option linter.unusedSimpArgs false in
set_option maxHeartbeats 12000000 in
set_option maxRecDepth 100000 in
theorem signs_core (n z : Bool) (s R P1 Q1 : ByteArray) (k M : Nat) (x c c' : Int) (w : World) (hsh : w.ShapedOpen Tryd.prog) (hx : x ≤ 40)
    (hr : TrueTo n s k true) (hr1 : RoundTo n s k x R M) (hr2 : RoundTo (!n) s k x R M) (hz1 : ZeroTo n s k z) (hz2 : ZeroTo (!n) s k z) (hw1 : WholeTo n s k P1) (hw2 : WholeTo (!n) s k P1) (hp1 : PartTo n s Q1 k) (hp2 : PartTo (!n) s Q1 k)
    (hc1 : CompTo n s k (!n) s k c) (hc2 : CompTo (!n) s k n s k c') (hres : z = true ∧ (c == 0) = true ∨ z = false ∧ IntKind.i64.wrap (-c') = c ∧ (c != 0) = true) :
    Calls Tryd.prog 5 #[.agg #[.bool n, .string s, .int .i64 k], .int .i64 x] w fun e w' => e = .returned (.bool true) ∧ Below w.heap.size w w' := by
  cases n
  · simp only [Bool.not_false] at hr2 hz2 hw2 hp2 hc1 hc2
    go_enter Tryd.func5, Tryd.ntmps5
    go_wp2_with fail
    go_at_call 6
    refine (head_any _ (shp_alloc hsh _)).mono ?_
    rintro e wh ⟨rfl, hbh⟩
    obtain ⟨hch, hfh⟩ := bcell hbh
    have yh : w.heap.size < wh.heap.size := by have := hbh.size; simp at this; omega
    go_wp2_with fail
    go_at_call 9
    refine (hr _).mono ?_
    rintro e wr ⟨rfl, hbr⟩
    obtain ⟨hcr, hfr⟩ := bcell hbr
    have yr : w.heap.size < wr.heap.size := by have := hbr.size; omega
    go_wp2_with fail
    go_at_call 11
    refine (hr1.at_ _).mono ?_
    rintro e wa ⟨rfl, hba⟩
    obtain ⟨hca, hfa⟩ := bcell hba
    have ya : wr.heap.size < wa.heap.size := by have := hba.size; simp at this; omega
    have ya2 : w.heap.size < wa.heap.size := by omega
    go_wp2_with fail
    go_at_call 11
    refine (hr2.at_ _).mono ?_
    rintro e wb ⟨rfl, hbb⟩
    obtain ⟨hcb, hfb⟩ := bcell hbb
    have yb : wa.heap.size < wb.heap.size := by have := hbb.size; simp at this; omega
    have yb2 : wr.heap.size < wb.heap.size := by omega
    have yb3 : w.heap.size < wb.heap.size := by omega
    go_wp2_with fail
    have hB0 := below_then (below_then (below_then (below_box hbh) (Nat.le_refl _) hbr) (Nat.le_refl _) (below_box hba)) (Nat.le_refl _) (below_box hbb)
    have eh : ∀ i v, (w.alloc (.cells #[.bool false, .string s, .int .i64 k] 27)).cell? ⟨w.heap.size, i, none⟩ = some v → wb.cell? ⟨w.heap.size, i, none⟩ = some v := by
      intro i v h
      rw [hcb _ _ (by simp; omega), World.cell?_alloc_lt _ _ _ (show w.heap.size < wa.heap.size from ya2), hca _ _ (by simp; omega), World.cell?_alloc_lt _ _ _ (show w.heap.size < wr.heap.size from yr), hcr _ _ yh, hch _ _ (by simp)]
      exact h
    have er : ∀ i v, (wr.alloc (.cells #[.bool true, .string s, .int .i64 k] 27)).cell? ⟨wr.heap.size, i, none⟩ = some v → wb.cell? ⟨wr.heap.size, i, none⟩ = some v := by
      intro i v h
      rw [hcb _ _ (by simp; omega), World.cell?_alloc_lt _ _ _ (show wr.heap.size < wa.heap.size from ya), hca _ _ (by simp)]
      exact h
    have ea : ∀ i v, (wa.alloc (.cells #[.bool false, .string R, .int .i64 M] 27)).cell? ⟨wa.heap.size, i, none⟩ = some v → wb.cell? ⟨wa.heap.size, i, none⟩ = some v := by
      intro i v h
      rw [hcb _ _ (by simp)]
      exact h
    have tb : ∀ b i v, b < wb.heap.size → wb.cell? ⟨b, i, none⟩ = some v → (wb.alloc (.cells #[.bool true, .string R, .int .i64 M] 27)).cell? ⟨b, i, none⟩ = some v := by
      intro b i v hb h
      rw [World.cell?_alloc_lt _ _ _ (show b < wb.heap.size from hb)]
      exact h
    have d0 := tb _ 0 (.bool false) (by omega) (eh 0 (.bool false) (by simp))
    have d1 := tb _ 1 (.string s) (by omega) (eh 1 (.string s) (by simp))
    have d2 := tb _ 2 (.int .i64 k) (by omega) (eh 2 (.int .i64 k) (by simp))
    have n0 := tb _ 0 (.bool true) (by omega) (er 0 (.bool true) (by simp))
    have n1 := tb _ 1 (.string s) (by omega) (er 1 (.string s) (by simp))
    have n2 := tb _ 2 (.int .i64 k) (by omega) (er 2 (.int .i64 k) (by simp))
    have a0 := tb _ 0 (.bool false) (by omega) (ea 0 (.bool false) (by simp))
    have a1 := tb _ 1 (.string R) (by omega) (ea 1 (.string R) (by simp))
    have a2 := tb _ 2 (.int .i64 M) (by omega) (ea 2 (.int .i64 M) (by simp))
    clear eh er ea tb hch hfh hcr hfr hca hfa hcb hfb hbh hbr hba hbb hsh
    go_region_held3 (fun w' => w'.cell? ⟨w.heap.size, 0, none⟩ = some (.bool false) ∧ w'.cell? ⟨w.heap.size, 1, none⟩ = some (.string s) ∧ w'.cell? ⟨w.heap.size, 2, none⟩ = some (.int .i64 k) ∧ w'.cell? ⟨wr.heap.size, 0, none⟩ = some (.bool true) ∧ w'.cell? ⟨wr.heap.size, 1, none⟩ = some (.string s) ∧ w'.cell? ⟨wr.heap.size, 2, none⟩ = some (.int .i64 k) ∧ w'.cell? ⟨wa.heap.size, 0, none⟩ = some (.bool false) ∧ w'.cell? ⟨wa.heap.size, 1, none⟩ = some (.string R) ∧ w'.cell? ⟨wa.heap.size, 2, none⟩ = some (.int .i64 M) ∧ w'.cell? ⟨wb.heap.size, 0, none⟩ = some (.bool true) ∧ w'.cell? ⟨wb.heap.size, 1, none⟩ = some (.string R) ∧ w'.cell? ⟨wb.heap.size, 2, none⟩ = some (.int .i64 M) ∧ w.heap.size + 1 ≤ w'.heap.size ∧ wr.heap.size + 1 ≤ w'.heap.size ∧ wa.heap.size + 1 ≤ w'.heap.size ∧ wb.heap.size + 1 ≤ w'.heap.size ∧ w.heap.size ≤ w'.heap.size ∧ Below w.heap.size w w')
      (first | (exact box12 (by assumption) (by assumption)) | assumption | (exact ⟨by simpa using d0, by simpa using d1, by simpa using d2, by simpa using n0, by simpa using n1, by simpa using n2, by simpa using a0, by simpa using a1, by simpa using a2, by simp, by simp, by simp, by simp <;> omega, by simp <;> omega, by simp <;> omega, by simp <;> omega, by simp <;> omega, (below_new hB0 (Nat.le_refl _) _).drew⟩) | go_keep)
      (first | (go_at_call 12; (with_reducible refine (hz1.at_ _).mono ?_); rintro e w4 ⟨rfl, hb4⟩) | (go_at_call 12; (with_reducible refine (hz2.at_ _).mono ?_); rintro e w5 ⟨rfl, hb5⟩) | (go_at_call 13; (with_reducible refine (hw1.at_ _).mono ?_); rintro e w6 ⟨rfl, hb6⟩) | (go_at_call 13; (with_reducible refine (hw2.at_ _).mono ?_); rintro e w7 ⟨rfl, hb7⟩) | (go_at_call 14; (with_reducible refine (hp1.at_ _).mono ?_); rintro e w8 ⟨rfl, hb8⟩) | (go_at_call 14; (with_reducible refine (hp2.at_ _).mono ?_); rintro e w9 ⟨rfl, hb9⟩))
    obtain ⟨m0, m1, m2, m3, m4, m5, _, _, _, _, _, _, s0, s1, _, _, s4, hBB⟩ := box12_id (D := w.heap.size) (N := wr.heap.size) (A := wa.heap.size) (B := wb.heap.size) (Z := w.heap.size) (w := w) (W := w9) (by assumption)
    clear hb4 hb5 hb6 hb7 hb8 hb9 d0 d1 d2 n0 n1 n2 a0 a1 a2
    have K0 := two6_id (A := w.heap.size) (C := wr.heap.size) (B := w.heap.size) (w := w) (W := w9.drew) ⟨m0, m1, m2, m3, m4, m5, s0, s1, s4, hBB.drew⟩
    clear K0
    rcases hres with ⟨rfl, hres0⟩ | ⟨rfl, hres0, hres1⟩
    · go_wp2
      refine wp_region_held_drew (S := (fun w' => w'.cell? ⟨w.heap.size, 0, none⟩ = some (.bool false) ∧ w'.cell? ⟨w.heap.size, 1, none⟩ = some (.string s) ∧ w'.cell? ⟨w.heap.size, 2, none⟩ = some (.int .i64 k) ∧ w'.cell? ⟨wr.heap.size, 0, none⟩ = some (.bool true) ∧ w'.cell? ⟨wr.heap.size, 1, none⟩ = some (.string s) ∧ w'.cell? ⟨wr.heap.size, 2, none⟩ = some (.int .i64 k) ∧ w.heap.size + 1 ≤ w'.heap.size ∧ wr.heap.size + 1 ≤ w'.heap.size ∧ w.heap.size ≤ w'.heap.size ∧ Below w.heap.size w w')) (by kernel_rfl) ⟨m0, m1, m2, m3, m4, m5, s0, s1, s4, hBB.drew⟩ (fun hHeld => ?_)
      refine wpAnyH_take (i := 0) (v := ?_) rfl (by kernel_rfl) (by kernel_rfl) (by kernel_rfl) (fun _ _ _ h => h) (Or.inl ⟨by kernel_rfl, ?_⟩) (by assumption) ?_
      rotate_left
      · intro w0 hSw; (try dsimp only at hSw); (go_simp <;> with_reducible rfl)
      try simp only [Act.put, List.setIfInBounds_toArray, List.set_cons_zero, List.set_cons_succ]
      refine wpAnyH_ready (rs := [1]) (by kernel_rfl) (by simp) ?_
      refine AllReadyH.cons rfl (fun K hK => ?_) AllReadyH.nil
      go_simp
      go_at_call 12
      refine (hz1.at_ _).mono ?_
      rintro e x1 ⟨rfl, hbx⟩
      go_wp2_with fail
      refine hK.out _ _ (two6 hbx hHeld) (fun hHeld2 => ?_)
      clear hHeld hbx hK K
      have hHeld := hHeld2
      clear hHeld2
      try simp only [Act.put, List.setIfInBounds_toArray, List.set_cons_zero, List.set_cons_succ]
      refine wpAnyH_take (i := 2) (v := ?_) rfl (by kernel_rfl) (by kernel_rfl) (by kernel_rfl) (fun _ _ _ h => h) (Or.inl ⟨by kernel_rfl, ?_⟩) (by assumption) ?_
      rotate_left
      · intro w0 hSw; (try dsimp only at hSw); (go_simp <;> with_reducible rfl)
      try simp only [Act.put, List.setIfInBounds_toArray, List.set_cons_zero, List.set_cons_succ]
      refine wpAnyH_take (i := 3) (v := ?_) rfl (by kernel_rfl) (by kernel_rfl) (by kernel_rfl) (fun _ _ _ h => h) (Or.inl ⟨by kernel_rfl, ?_⟩) (by assumption) ?_
      rotate_left
      · intro w0 hSw; (try dsimp only at hSw); (go_simp <;> with_reducible rfl)
      try simp only [Act.put, List.setIfInBounds_toArray, List.set_cons_zero, List.set_cons_succ]
      refine wpAnyH_take (i := 4) (v := ?_) rfl (by kernel_rfl) (by kernel_rfl) (by kernel_rfl) (fun _ _ _ h => h) (Or.inl ⟨by kernel_rfl, ?_⟩) (by assumption) ?_
      rotate_left
      · intro w0 hSw; (try dsimp only at hSw); (go_simp <;> with_reducible rfl)
      try simp only [Act.put, List.setIfInBounds_toArray, List.set_cons_zero, List.set_cons_succ]
      refine wpAnyH_ready (rs := [5]) (by kernel_rfl) (by simp) ?_
      refine AllReadyH.cons rfl (fun K hK => ?_) AllReadyH.nil
      go_simp
      go_at_call 10
      refine (hc1.at_ _).mono ?_
      rintro e x2 ⟨rfl, hbx⟩
      go_wp2_with fail
      refine hK.out _ _ (two6 hbx hHeld) (fun hHeld2 => ?_)
      clear hHeld hbx hK K
      have hHeld := hHeld2
      clear hHeld2
      try simp only [Act.put, List.setIfInBounds_toArray, List.set_cons_zero, List.set_cons_succ]
      refine wpAnyH_take (i := 6) (v := ?_) rfl (by kernel_rfl) (by kernel_rfl) (by kernel_rfl) (fun _ _ _ h => h) (Or.inl ⟨by kernel_rfl, ?_⟩) (by assumption) ?_
      rotate_left
      · intro w0 hSw; (try dsimp only at hSw); (go_simp <;> with_reducible rfl)
      try simp only [Act.put, List.setIfInBounds_toArray, List.set_cons_zero, List.set_cons_succ]
      refine wpAnyH_take (i := 7) (v := ?_) rfl (by kernel_rfl) (by kernel_rfl) (by kernel_rfl) (fun _ _ _ h => h) (Or.inl ⟨by kernel_rfl, ?_⟩) (by assumption) ?_
      rotate_left
      · intro w0 hSw; (try dsimp only at hSw); (go_simp <;> with_reducible rfl)
      try simp only [Act.put, List.setIfInBounds_toArray, List.set_cons_zero, List.set_cons_succ]
      refine wpAnyH_take (i := 8) (v := ?_) rfl (by kernel_rfl) (by kernel_rfl) (by kernel_rfl) (fun _ _ _ h => h) (Or.inl ⟨by kernel_rfl, ?_⟩) (by assumption) ?_
      rotate_left
      · intro w0 hSw; (try dsimp only at hSw); (go_simp <;> with_reducible rfl)
      try simp only [Act.put, List.setIfInBounds_toArray, List.set_cons_zero, List.set_cons_succ]
      refine wpAnyH_take (i := 9) (v := undef) rfl (by kernel_rfl) (by kernel_rfl) (by kernel_rfl) (fun _ _ _ h => h) (Or.inr ⟨by kernel_rfl, rfl⟩) (by assumption) ?_
      try simp only [Act.put, List.setIfInBounds_toArray, List.set_cons_zero, List.set_cons_succ]
      refine wpAnyH_take (i := 10) (v := undef) rfl (by kernel_rfl) (by kernel_rfl) (by kernel_rfl) (fun _ _ _ h => h) (Or.inr ⟨by kernel_rfl, rfl⟩) (by assumption) ?_
      try simp only [Act.put, List.setIfInBounds_toArray, List.set_cons_zero, List.set_cons_succ]
      refine wpAnyH_take (i := 11) (v := undef) rfl (by kernel_rfl) (by kernel_rfl) (by kernel_rfl) (fun _ _ _ h => h) (Or.inr ⟨by kernel_rfl, rfl⟩) (by assumption) ?_
      try simp only [Act.put, List.setIfInBounds_toArray, List.set_cons_zero, List.set_cons_succ]
      refine wpAnyH_take (i := 12) (v := undef) rfl (by kernel_rfl) (by kernel_rfl) (by kernel_rfl) (fun _ _ _ h => h) (Or.inr ⟨by kernel_rfl, rfl⟩) (by assumption) ?_
      try simp only [Act.put, List.setIfInBounds_toArray, List.set_cons_zero, List.set_cons_succ]
      refine wpAnyH_take (i := 13) (v := undef) rfl (by kernel_rfl) (by kernel_rfl) (by kernel_rfl) (fun _ _ _ h => h) (Or.inr ⟨by kernel_rfl, rfl⟩) (by assumption) ?_
      try simp only [Act.put, List.setIfInBounds_toArray, List.set_cons_zero, List.set_cons_succ]
      refine wpAnyH_take (i := 14) (v := undef) rfl (by kernel_rfl) (by kernel_rfl) (by kernel_rfl) (fun _ _ _ h => h) (Or.inr ⟨by kernel_rfl, rfl⟩) (by assumption) ?_
      try simp only [Act.put, List.setIfInBounds_toArray, List.set_cons_zero, List.set_cons_succ]
      refine wpAnyH_take (i := 15) (v := undef) rfl (by kernel_rfl) (by kernel_rfl) (by kernel_rfl) (fun _ _ _ h => h) (Or.inr ⟨by kernel_rfl, rfl⟩) (by assumption) ?_
      try simp only [Act.put, List.setIfInBounds_toArray, List.set_cons_zero, List.set_cons_succ]
      refine wpAnyH_take (i := 16) (v := undef) rfl (by kernel_rfl) (by kernel_rfl) (by kernel_rfl) (fun _ _ _ h => h) (Or.inr ⟨by kernel_rfl, rfl⟩) (by assumption) ?_
      try simp only [Act.put, List.setIfInBounds_toArray, List.set_cons_zero, List.set_cons_succ]
      refine wpAnyH_take (i := 17) (v := undef) rfl (by kernel_rfl) (by kernel_rfl) (by kernel_rfl) (fun _ _ _ h => h) (Or.inr ⟨by kernel_rfl, rfl⟩) (by assumption) ?_
      try simp only [Act.put, List.setIfInBounds_toArray, List.set_cons_zero, List.set_cons_succ]
      refine wpAnyH_take (i := 18) (v := undef) rfl (by kernel_rfl) (by kernel_rfl) (by kernel_rfl) (fun _ _ _ h => h) (Or.inr ⟨by kernel_rfl, rfl⟩) (by assumption) ?_
      try simp only [Act.put, List.setIfInBounds_toArray, List.set_cons_zero, List.set_cons_succ]
      refine wpAnyH_take (i := 19) (v := undef) rfl (by kernel_rfl) (by kernel_rfl) (by kernel_rfl) (fun _ _ _ h => h) (Or.inr ⟨by kernel_rfl, rfl⟩) (by assumption) ?_
      try simp only [Act.put, List.setIfInBounds_toArray, List.set_cons_zero, List.set_cons_succ]
      refine wpAnyH_take (i := 20) (v := undef) rfl (by kernel_rfl) (by kernel_rfl) (by kernel_rfl) (fun _ _ _ h => h) (Or.inr ⟨by kernel_rfl, rfl⟩) (by assumption) ?_
      try simp only [Act.put, List.setIfInBounds_toArray, List.set_cons_zero, List.set_cons_succ]
      refine wpAnyH_take (i := 21) (v := undef) rfl (by kernel_rfl) (by kernel_rfl) (by kernel_rfl) (fun _ _ _ h => h) (Or.inr ⟨by kernel_rfl, rfl⟩) (by assumption) ?_
      try simp only [Act.put, List.setIfInBounds_toArray, List.set_cons_zero, List.set_cons_succ]
      refine wpAnyH_take (i := 22) (v := undef) rfl (by kernel_rfl) (by kernel_rfl) (by kernel_rfl) (fun _ _ _ h => h) (Or.inr ⟨by kernel_rfl, rfl⟩) (by assumption) ?_
      try simp only [Act.put, List.setIfInBounds_toArray, List.set_cons_zero, List.set_cons_succ]
      refine wpAnyH_take (i := 23) (v := undef) rfl (by kernel_rfl) (by kernel_rfl) (by kernel_rfl) (fun _ _ _ h => h) (Or.inr ⟨by kernel_rfl, rfl⟩) (by assumption) ?_
      try simp only [Act.put, List.setIfInBounds_toArray, List.set_cons_zero, List.set_cons_succ]
      refine wpAnyH_take (i := 24) (v := undef) rfl (by kernel_rfl) (by kernel_rfl) (by kernel_rfl) (fun _ _ _ h => h) (Or.inr ⟨by kernel_rfl, rfl⟩) (by assumption) ?_
      try simp only [Act.put, List.setIfInBounds_toArray, List.set_cons_zero, List.set_cons_succ]
      refine wpAnyH_take (i := 25) (v := undef) rfl (by kernel_rfl) (by kernel_rfl) (by kernel_rfl) (fun _ _ _ h => h) (Or.inr ⟨by kernel_rfl, rfl⟩) (by assumption) ?_
      try simp only [Act.put, List.setIfInBounds_toArray, List.set_cons_zero, List.set_cons_succ]
      refine wpAnyH_take (i := 26) (v := undef) rfl (by kernel_rfl) (by kernel_rfl) (by kernel_rfl) (fun _ _ _ h => h) (Or.inr ⟨by kernel_rfl, rfl⟩) (by assumption) ?_
      try simp only [Act.put, List.setIfInBounds_toArray, List.set_cons_zero, List.set_cons_succ]
      refine wpAnyH_take (i := 27) (v := undef) rfl (by kernel_rfl) (by kernel_rfl) (by kernel_rfl) (fun _ _ _ h => h) (Or.inr ⟨by kernel_rfl, rfl⟩) (by assumption) ?_
      try simp only [Act.put, List.setIfInBounds_toArray, List.set_cons_zero, List.set_cons_succ]
      refine wpAnyH_take (i := 28) (v := ?_) rfl (by kernel_rfl) (by kernel_rfl) (by kernel_rfl) (fun _ _ _ h => h) (Or.inl ⟨by kernel_rfl, ?_⟩) (by assumption) ?_
      rotate_left
      · intro w0 hSw; (try dsimp only at hSw); (go_simp <;> with_reducible rfl)
      try simp only [Act.put, List.setIfInBounds_toArray, List.set_cons_zero, List.set_cons_succ]
      refine wpAnyH_take (i := 29) (v := ?_) rfl (by kernel_rfl) (by kernel_rfl) (by kernel_rfl) (fun _ _ _ h => h) (Or.inl ⟨by kernel_rfl, ?_⟩) (by assumption) ?_
      rotate_left
      · intro w0 hSw; (try dsimp only at hSw); (go_simp <;> with_reducible rfl)
      try simp only [Act.put, List.setIfInBounds_toArray, List.set_cons_zero, List.set_cons_succ]
      refine wpAnyH_done (by kernel_rfl) ?_ _
      go_wp2
      go_ret
      refine ⟨?_, two6_below hHeld⟩
      first | rfl | (injections; subst_vars; rfl) | (simp_all; done) | (simp; done) | (simp [hres0]; done) | (simp [hres0c, hres1]; done) | (go_simp; done) | go_simp
    · have hres0b : (IntKind.i64.wrap (-c') == c) = true := by rw [beq_iff_eq]; exact hres0
      have hres0c : (c == IntKind.i64.wrap (-c')) = true := by rw [beq_iff_eq]; exact hres0.symm
      clear hres0
      go_wp2
      refine wp_region_held_drew (S := (fun w' => w'.cell? ⟨w.heap.size, 0, none⟩ = some (.bool false) ∧ w'.cell? ⟨w.heap.size, 1, none⟩ = some (.string s) ∧ w'.cell? ⟨w.heap.size, 2, none⟩ = some (.int .i64 k) ∧ w'.cell? ⟨wr.heap.size, 0, none⟩ = some (.bool true) ∧ w'.cell? ⟨wr.heap.size, 1, none⟩ = some (.string s) ∧ w'.cell? ⟨wr.heap.size, 2, none⟩ = some (.int .i64 k) ∧ w.heap.size + 1 ≤ w'.heap.size ∧ wr.heap.size + 1 ≤ w'.heap.size ∧ w.heap.size ≤ w'.heap.size ∧ Below w.heap.size w w')) (by kernel_rfl) ⟨m0, m1, m2, m3, m4, m5, s0, s1, s4, hBB.drew⟩ (fun hHeld => ?_)
      refine wpAnyH_take (i := 0) (v := ?_) rfl (by kernel_rfl) (by kernel_rfl) (by kernel_rfl) (fun _ _ _ h => h) (Or.inl ⟨by kernel_rfl, ?_⟩) (by assumption) ?_
      rotate_left
      · intro w0 hSw; (try dsimp only at hSw); (go_simp <;> with_reducible rfl)
      try simp only [Act.put, List.setIfInBounds_toArray, List.set_cons_zero, List.set_cons_succ]
      refine wpAnyH_ready (rs := [1]) (by kernel_rfl) (by simp) ?_
      refine AllReadyH.cons rfl (fun K hK => ?_) AllReadyH.nil
      go_simp
      go_at_call 12
      refine (hz1.at_ _).mono ?_
      rintro e x1 ⟨rfl, hbx⟩
      go_wp2_with fail
      refine hK.out _ _ (two6 hbx hHeld) (fun hHeld2 => ?_)
      clear hHeld hbx hK K
      have hHeld := hHeld2
      clear hHeld2
      try simp only [Act.put, List.setIfInBounds_toArray, List.set_cons_zero, List.set_cons_succ]
      refine wpAnyH_take (i := 2) (v := ?_) rfl (by kernel_rfl) (by kernel_rfl) (by kernel_rfl) (fun _ _ _ h => h) (Or.inl ⟨by kernel_rfl, ?_⟩) (by assumption) ?_
      rotate_left
      · intro w0 hSw; (try dsimp only at hSw); (go_simp <;> with_reducible rfl)
      try simp only [Act.put, List.setIfInBounds_toArray, List.set_cons_zero, List.set_cons_succ]
      refine wpAnyH_take (i := 3) (v := undef) rfl (by kernel_rfl) (by kernel_rfl) (by kernel_rfl) (fun _ _ _ h => h) (Or.inr ⟨by kernel_rfl, rfl⟩) (by assumption) ?_
      try simp only [Act.put, List.setIfInBounds_toArray, List.set_cons_zero, List.set_cons_succ]
      refine wpAnyH_take (i := 4) (v := undef) rfl (by kernel_rfl) (by kernel_rfl) (by kernel_rfl) (fun _ _ _ h => h) (Or.inr ⟨by kernel_rfl, rfl⟩) (by assumption) ?_
      try simp only [Act.put, List.setIfInBounds_toArray, List.set_cons_zero, List.set_cons_succ]
      refine wpAnyH_take (i := 5) (v := undef) rfl (by kernel_rfl) (by kernel_rfl) (by kernel_rfl) (fun _ _ _ h => h) (Or.inr ⟨by kernel_rfl, rfl⟩) (by assumption) ?_
      try simp only [Act.put, List.setIfInBounds_toArray, List.set_cons_zero, List.set_cons_succ]
      refine wpAnyH_take (i := 6) (v := undef) rfl (by kernel_rfl) (by kernel_rfl) (by kernel_rfl) (fun _ _ _ h => h) (Or.inr ⟨by kernel_rfl, rfl⟩) (by assumption) ?_
      try simp only [Act.put, List.setIfInBounds_toArray, List.set_cons_zero, List.set_cons_succ]
      refine wpAnyH_take (i := 7) (v := ?_) rfl (by kernel_rfl) (by kernel_rfl) (by kernel_rfl) (fun _ _ _ h => h) (Or.inl ⟨by kernel_rfl, ?_⟩) (by assumption) ?_
      rotate_left
      · intro w0 hSw; (try dsimp only at hSw); (go_simp <;> with_reducible rfl)
      try simp only [Act.put, List.setIfInBounds_toArray, List.set_cons_zero, List.set_cons_succ]
      refine wpAnyH_take (i := 8) (v := ?_) rfl (by kernel_rfl) (by kernel_rfl) (by kernel_rfl) (fun _ _ _ h => h) (Or.inl ⟨by kernel_rfl, ?_⟩) (by assumption) ?_
      rotate_left
      · intro w0 hSw; (try dsimp only at hSw); (go_simp <;> with_reducible rfl)
      try simp only [Act.put, List.setIfInBounds_toArray, List.set_cons_zero, List.set_cons_succ]
      refine wpAnyH_take (i := 9) (v := ?_) rfl (by kernel_rfl) (by kernel_rfl) (by kernel_rfl) (fun _ _ _ h => h) (Or.inl ⟨by kernel_rfl, ?_⟩) (by assumption) ?_
      rotate_left
      · intro w0 hSw; (try dsimp only at hSw); (go_simp <;> with_reducible rfl)
      try simp only [Act.put, List.setIfInBounds_toArray, List.set_cons_zero, List.set_cons_succ]
      refine wpAnyH_ready (rs := [10]) (by kernel_rfl) (by simp) ?_
      refine AllReadyH.cons rfl (fun K hK => ?_) AllReadyH.nil
      go_simp
      go_at_call 12
      refine (hz1.at_ _).mono ?_
      rintro e x2 ⟨rfl, hbx⟩
      go_wp2_with fail
      refine hK.out _ _ (two6 hbx hHeld) (fun hHeld2 => ?_)
      clear hHeld hbx hK K
      have hHeld := hHeld2
      clear hHeld2
      try simp only [Act.put, List.setIfInBounds_toArray, List.set_cons_zero, List.set_cons_succ]
      refine wpAnyH_take (i := 11) (v := ?_) rfl (by kernel_rfl) (by kernel_rfl) (by kernel_rfl) (fun _ _ _ h => h) (Or.inl ⟨by kernel_rfl, ?_⟩) (by assumption) ?_
      rotate_left
      · intro w0 hSw; (try dsimp only at hSw); (go_simp <;> with_reducible rfl)
      try simp only [Act.put, List.setIfInBounds_toArray, List.set_cons_zero, List.set_cons_succ]
      refine wpAnyH_take (i := 12) (v := ?_) rfl (by kernel_rfl) (by kernel_rfl) (by kernel_rfl) (fun _ _ _ h => h) (Or.inl ⟨by kernel_rfl, ?_⟩) (by assumption) ?_
      rotate_left
      · intro w0 hSw; (try dsimp only at hSw); (go_simp <;> with_reducible rfl)
      try simp only [Act.put, List.setIfInBounds_toArray, List.set_cons_zero, List.set_cons_succ]
      refine wpAnyH_take (i := 13) (v := ?_) rfl (by kernel_rfl) (by kernel_rfl) (by kernel_rfl) (fun _ _ _ h => h) (Or.inl ⟨by kernel_rfl, ?_⟩) (by assumption) ?_
      rotate_left
      · intro w0 hSw; (try dsimp only at hSw); (go_simp <;> with_reducible rfl)
      try simp only [Act.put, List.setIfInBounds_toArray, List.set_cons_zero, List.set_cons_succ]
      refine wpAnyH_take (i := 14) (v := ?_) rfl (by kernel_rfl) (by kernel_rfl) (by kernel_rfl) (fun _ _ _ h => h) (Or.inl ⟨by kernel_rfl, ?_⟩) (by assumption) ?_
      rotate_left
      · intro w0 hSw; (try dsimp only at hSw); (go_simp <;> with_reducible rfl)
      try simp only [Act.put, List.setIfInBounds_toArray, List.set_cons_zero, List.set_cons_succ]
      refine wpAnyH_take (i := 16) (v := ?_) rfl (by kernel_rfl) (by kernel_rfl) (by kernel_rfl) (fun _ _ _ h => h) (Or.inl ⟨by kernel_rfl, ?_⟩) (by assumption) ?_
      rotate_left
      · intro w0 hSw; (try dsimp only at hSw); (go_simp <;> with_reducible rfl)
      try simp only [Act.put, List.setIfInBounds_toArray, List.set_cons_zero, List.set_cons_succ]
      refine wpAnyH_take (i := 17) (v := ?_) rfl (by kernel_rfl) (by kernel_rfl) (by kernel_rfl) (fun _ _ _ h => h) (Or.inl ⟨by kernel_rfl, ?_⟩) (by assumption) ?_
      rotate_left
      · intro w0 hSw; (try dsimp only at hSw); (go_simp <;> with_reducible rfl)
      try simp only [Act.put, List.setIfInBounds_toArray, List.set_cons_zero, List.set_cons_succ]
      refine wpAnyH_ready (rs := [15]) (by kernel_rfl) (by simp) ?_
      refine AllReadyH.cons rfl (fun K hK => ?_) AllReadyH.nil
      go_simp
      go_at_call 10
      refine (hc1.at_ _).mono ?_
      rintro e x3 ⟨rfl, hbx⟩
      go_wp2_with fail
      refine hK.out _ _ (two6 hbx hHeld) (fun hHeld2 => ?_)
      clear hHeld hbx hK K
      have hHeld := hHeld2
      clear hHeld2
      try simp only [Act.put, List.setIfInBounds_toArray, List.set_cons_zero, List.set_cons_succ]
      refine wpAnyH_ready (rs := [18]) (by kernel_rfl) (by simp) ?_
      refine AllReadyH.cons rfl (fun K hK => ?_) AllReadyH.nil
      go_simp
      go_at_call 10
      refine (hc2.at_ _).mono ?_
      rintro e x4 ⟨rfl, hbx⟩
      go_wp2_with fail
      refine hK.out _ _ (two6 hbx hHeld) (fun hHeld2 => ?_)
      clear hHeld hbx hK K
      have hHeld := hHeld2
      clear hHeld2
      try simp only [Act.put, List.setIfInBounds_toArray, List.set_cons_zero, List.set_cons_succ]
      refine wpAnyH_take (i := 19) (v := ?_) rfl (by kernel_rfl) (by kernel_rfl) (by kernel_rfl) (fun _ _ _ h => h) (Or.inl ⟨by kernel_rfl, ?_⟩) (by assumption) ?_
      rotate_left
      · intro w0 hSw; (try dsimp only at hSw); (go_simp <;> with_reducible rfl)
      try simp only [Act.put, List.setIfInBounds_toArray, List.set_cons_zero, List.set_cons_succ]
      refine wpAnyH_take (i := 20) (v := ?_) rfl (by kernel_rfl) (by kernel_rfl) (by kernel_rfl) (fun _ _ _ h => h) (Or.inl ⟨by kernel_rfl, ?_⟩) (by assumption) ?_
      rotate_left
      · intro w0 hSw; (try dsimp only at hSw); (go_simp <;> with_reducible rfl)
      try simp only [Act.put, List.setIfInBounds_toArray, List.set_cons_zero, List.set_cons_succ]
      refine wpAnyH_take (i := 21) (v := ?_) rfl (by kernel_rfl) (by kernel_rfl) (by kernel_rfl) (fun _ _ _ h => h) (Or.inl ⟨by kernel_rfl, ?_⟩) (by assumption) ?_
      rotate_left
      · intro w0 hSw; (try dsimp only at hSw); (go_simp <;> with_reducible rfl)
      try simp only [Act.put, List.setIfInBounds_toArray, List.set_cons_zero, List.set_cons_succ]
      refine wpAnyH_take (i := 22) (v := ?_) rfl (by kernel_rfl) (by kernel_rfl) (by kernel_rfl) (fun _ _ _ h => h) (Or.inl ⟨by kernel_rfl, ?_⟩) (by assumption) ?_
      rotate_left
      · intro w0 hSw; (try dsimp only at hSw); (go_simp <;> with_reducible rfl)
      try simp only [Act.put, List.setIfInBounds_toArray, List.set_cons_zero, List.set_cons_succ]
      refine wpAnyH_take (i := 23) (v := ?_) rfl (by kernel_rfl) (by kernel_rfl) (by kernel_rfl) (fun _ _ _ h => h) (Or.inl ⟨by kernel_rfl, ?_⟩) (by assumption) ?_
      rotate_left
      · intro w0 hSw; (try dsimp only at hSw); (go_simp <;> with_reducible rfl)
      try simp only [Act.put, List.setIfInBounds_toArray, List.set_cons_zero, List.set_cons_succ]
      refine wpAnyH_take (i := 24) (v := ?_) rfl (by kernel_rfl) (by kernel_rfl) (by kernel_rfl) (fun _ _ _ h => h) (Or.inl ⟨by kernel_rfl, ?_⟩) (by assumption) ?_
      rotate_left
      · intro w0 hSw; (try dsimp only at hSw); (go_simp <;> with_reducible rfl)
      try simp only [Act.put, List.setIfInBounds_toArray, List.set_cons_zero, List.set_cons_succ]
      refine wpAnyH_ready (rs := [25]) (by kernel_rfl) (by simp) ?_
      refine AllReadyH.cons rfl (fun K hK => ?_) AllReadyH.nil
      go_simp
      go_at_call 10
      refine (hc1.at_ _).mono ?_
      rintro e x7 ⟨rfl, hbx⟩
      go_wp2_with fail
      refine hK.out _ _ (two6 hbx hHeld) (fun hHeld2 => ?_)
      clear hHeld hbx hK K
      have hHeld := hHeld2
      clear hHeld2
      try simp only [Act.put, List.setIfInBounds_toArray, List.set_cons_zero, List.set_cons_succ]
      refine wpAnyH_take (i := 26) (v := ?_) rfl (by kernel_rfl) (by kernel_rfl) (by kernel_rfl) (fun _ _ _ h => h) (Or.inl ⟨by kernel_rfl, ?_⟩) (by assumption) ?_
      rotate_left
      · intro w0 hSw; (try dsimp only at hSw); (go_simp <;> with_reducible rfl)
      try simp only [Act.put, List.setIfInBounds_toArray, List.set_cons_zero, List.set_cons_succ]
      refine wpAnyH_take (i := 27) (v := ?_) rfl (by kernel_rfl) (by kernel_rfl) (by kernel_rfl) (fun _ _ _ h => h) (Or.inl ⟨by kernel_rfl, ?_⟩) (by assumption) ?_
      rotate_left
      · intro w0 hSw; (try dsimp only at hSw); (go_simp <;> with_reducible rfl)
      try simp only [Act.put, List.setIfInBounds_toArray, List.set_cons_zero, List.set_cons_succ]
      refine wpAnyH_take (i := 28) (v := ?_) rfl (by kernel_rfl) (by kernel_rfl) (by kernel_rfl) (fun _ _ _ h => h) (Or.inl ⟨by kernel_rfl, ?_⟩) (by assumption) ?_
      rotate_left
      · intro w0 hSw; (try dsimp only at hSw); (go_simp <;> with_reducible rfl)
      try simp only [Act.put, List.setIfInBounds_toArray, List.set_cons_zero, List.set_cons_succ]
      refine wpAnyH_take (i := 29) (v := ?_) rfl (by kernel_rfl) (by kernel_rfl) (by kernel_rfl) (fun _ _ _ h => h) (Or.inl ⟨by kernel_rfl, ?_⟩) (by assumption) ?_
      rotate_left
      · intro w0 hSw; (try dsimp only at hSw); (go_simp <;> with_reducible rfl)
      try simp only [Act.put, List.setIfInBounds_toArray, List.set_cons_zero, List.set_cons_succ]
      refine wpAnyH_done (by kernel_rfl) ?_ _
      go_wp2
      go_ret
      refine ⟨?_, two6_below hHeld⟩
      first | rfl | (injections; subst_vars; rfl) | (simp_all; done) | (simp; done) | (simp [hres0]; done) | (simp [hres0c, hres1]; done) | (go_simp; done) | go_simp
  · simp only [Bool.not_true] at hr2 hz2 hw2 hp2 hc1 hc2
    go_enter Tryd.func5, Tryd.ntmps5
    go_wp2_with fail
    go_at_call 6
    refine (head_any _ (shp_alloc hsh _)).mono ?_
    rintro e wh ⟨rfl, hbh⟩
    obtain ⟨hch, hfh⟩ := bcell hbh
    have yh : w.heap.size < wh.heap.size := by have := hbh.size; simp at this; omega
    go_wp2_with fail
    go_at_call 9
    refine (hr _).mono ?_
    rintro e wr ⟨rfl, hbr⟩
    obtain ⟨hcr, hfr⟩ := bcell hbr
    have yr : w.heap.size < wr.heap.size := by have := hbr.size; omega
    go_wp2_with fail
    go_at_call 11
    refine (hr1.at_ _).mono ?_
    rintro e wa ⟨rfl, hba⟩
    obtain ⟨hca, hfa⟩ := bcell hba
    have ya : wr.heap.size < wa.heap.size := by have := hba.size; simp at this; omega
    have ya2 : w.heap.size < wa.heap.size := by omega
    go_wp2_with fail
    go_at_call 11
    refine (hr2.at_ _).mono ?_
    rintro e wb ⟨rfl, hbb⟩
    obtain ⟨hcb, hfb⟩ := bcell hbb
    have yb : wa.heap.size < wb.heap.size := by have := hbb.size; simp at this; omega
    have yb2 : wr.heap.size < wb.heap.size := by omega
    have yb3 : w.heap.size < wb.heap.size := by omega
    go_wp2_with fail
    have hB0 := below_then (below_then (below_then (below_box hbh) (Nat.le_refl _) hbr) (Nat.le_refl _) (below_box hba)) (Nat.le_refl _) (below_box hbb)
    have eh : ∀ i v, (w.alloc (.cells #[.bool true, .string s, .int .i64 k] 27)).cell? ⟨w.heap.size, i, none⟩ = some v → wb.cell? ⟨w.heap.size, i, none⟩ = some v := by
      intro i v h
      rw [hcb _ _ (by simp; omega), World.cell?_alloc_lt _ _ _ (show w.heap.size < wa.heap.size from ya2), hca _ _ (by simp; omega), World.cell?_alloc_lt _ _ _ (show w.heap.size < wr.heap.size from yr), hcr _ _ yh, hch _ _ (by simp)]
      exact h
    have er : ∀ i v, (wr.alloc (.cells #[.bool false, .string s, .int .i64 k] 27)).cell? ⟨wr.heap.size, i, none⟩ = some v → wb.cell? ⟨wr.heap.size, i, none⟩ = some v := by
      intro i v h
      rw [hcb _ _ (by simp; omega), World.cell?_alloc_lt _ _ _ (show wr.heap.size < wa.heap.size from ya), hca _ _ (by simp)]
      exact h
    have ea : ∀ i v, (wa.alloc (.cells #[.bool true, .string R, .int .i64 M] 27)).cell? ⟨wa.heap.size, i, none⟩ = some v → wb.cell? ⟨wa.heap.size, i, none⟩ = some v := by
      intro i v h
      rw [hcb _ _ (by simp)]
      exact h
    have tb : ∀ b i v, b < wb.heap.size → wb.cell? ⟨b, i, none⟩ = some v → (wb.alloc (.cells #[.bool false, .string R, .int .i64 M] 27)).cell? ⟨b, i, none⟩ = some v := by
      intro b i v hb h
      rw [World.cell?_alloc_lt _ _ _ (show b < wb.heap.size from hb)]
      exact h
    have d0 := tb _ 0 (.bool true) (by omega) (eh 0 (.bool true) (by simp))
    have d1 := tb _ 1 (.string s) (by omega) (eh 1 (.string s) (by simp))
    have d2 := tb _ 2 (.int .i64 k) (by omega) (eh 2 (.int .i64 k) (by simp))
    have n0 := tb _ 0 (.bool false) (by omega) (er 0 (.bool false) (by simp))
    have n1 := tb _ 1 (.string s) (by omega) (er 1 (.string s) (by simp))
    have n2 := tb _ 2 (.int .i64 k) (by omega) (er 2 (.int .i64 k) (by simp))
    have a0 := tb _ 0 (.bool true) (by omega) (ea 0 (.bool true) (by simp))
    have a1 := tb _ 1 (.string R) (by omega) (ea 1 (.string R) (by simp))
    have a2 := tb _ 2 (.int .i64 M) (by omega) (ea 2 (.int .i64 M) (by simp))
    clear eh er ea tb hch hfh hcr hfr hca hfa hcb hfb hbh hbr hba hbb hsh
    go_region_held3 (fun w' => w'.cell? ⟨w.heap.size, 0, none⟩ = some (.bool true) ∧ w'.cell? ⟨w.heap.size, 1, none⟩ = some (.string s) ∧ w'.cell? ⟨w.heap.size, 2, none⟩ = some (.int .i64 k) ∧ w'.cell? ⟨wr.heap.size, 0, none⟩ = some (.bool false) ∧ w'.cell? ⟨wr.heap.size, 1, none⟩ = some (.string s) ∧ w'.cell? ⟨wr.heap.size, 2, none⟩ = some (.int .i64 k) ∧ w'.cell? ⟨wa.heap.size, 0, none⟩ = some (.bool true) ∧ w'.cell? ⟨wa.heap.size, 1, none⟩ = some (.string R) ∧ w'.cell? ⟨wa.heap.size, 2, none⟩ = some (.int .i64 M) ∧ w'.cell? ⟨wb.heap.size, 0, none⟩ = some (.bool false) ∧ w'.cell? ⟨wb.heap.size, 1, none⟩ = some (.string R) ∧ w'.cell? ⟨wb.heap.size, 2, none⟩ = some (.int .i64 M) ∧ w.heap.size + 1 ≤ w'.heap.size ∧ wr.heap.size + 1 ≤ w'.heap.size ∧ wa.heap.size + 1 ≤ w'.heap.size ∧ wb.heap.size + 1 ≤ w'.heap.size ∧ w.heap.size ≤ w'.heap.size ∧ Below w.heap.size w w')
      (first | (exact box12 (by assumption) (by assumption)) | assumption | (exact ⟨by simpa using d0, by simpa using d1, by simpa using d2, by simpa using n0, by simpa using n1, by simpa using n2, by simpa using a0, by simpa using a1, by simpa using a2, by simp, by simp, by simp, by simp <;> omega, by simp <;> omega, by simp <;> omega, by simp <;> omega, by simp <;> omega, (below_new hB0 (Nat.le_refl _) _).drew⟩) | go_keep)
      (first | (go_at_call 12; (with_reducible refine (hz1.at_ _).mono ?_); rintro e w4 ⟨rfl, hb4⟩) | (go_at_call 12; (with_reducible refine (hz2.at_ _).mono ?_); rintro e w5 ⟨rfl, hb5⟩) | (go_at_call 13; (with_reducible refine (hw1.at_ _).mono ?_); rintro e w6 ⟨rfl, hb6⟩) | (go_at_call 13; (with_reducible refine (hw2.at_ _).mono ?_); rintro e w7 ⟨rfl, hb7⟩) | (go_at_call 14; (with_reducible refine (hp1.at_ _).mono ?_); rintro e w8 ⟨rfl, hb8⟩) | (go_at_call 14; (with_reducible refine (hp2.at_ _).mono ?_); rintro e w9 ⟨rfl, hb9⟩))
    obtain ⟨m0, m1, m2, m3, m4, m5, _, _, _, _, _, _, s0, s1, _, _, s4, hBB⟩ := box12_id (D := w.heap.size) (N := wr.heap.size) (A := wa.heap.size) (B := wb.heap.size) (Z := w.heap.size) (w := w) (W := w9) (by assumption)
    clear hb4 hb5 hb6 hb7 hb8 hb9 d0 d1 d2 n0 n1 n2 a0 a1 a2
    have K0 := two6_id (A := w.heap.size) (C := wr.heap.size) (B := w.heap.size) (w := w) (W := w9.drew) ⟨m0, m1, m2, m3, m4, m5, s0, s1, s4, hBB.drew⟩
    clear K0
    rcases hres with ⟨rfl, hres0⟩ | ⟨rfl, hres0, hres1⟩
    · go_wp2
      refine wp_region_held_drew (S := (fun w' => w'.cell? ⟨w.heap.size, 0, none⟩ = some (.bool true) ∧ w'.cell? ⟨w.heap.size, 1, none⟩ = some (.string s) ∧ w'.cell? ⟨w.heap.size, 2, none⟩ = some (.int .i64 k) ∧ w'.cell? ⟨wr.heap.size, 0, none⟩ = some (.bool false) ∧ w'.cell? ⟨wr.heap.size, 1, none⟩ = some (.string s) ∧ w'.cell? ⟨wr.heap.size, 2, none⟩ = some (.int .i64 k) ∧ w.heap.size + 1 ≤ w'.heap.size ∧ wr.heap.size + 1 ≤ w'.heap.size ∧ w.heap.size ≤ w'.heap.size ∧ Below w.heap.size w w')) (by kernel_rfl) ⟨m0, m1, m2, m3, m4, m5, s0, s1, s4, hBB.drew⟩ (fun hHeld => ?_)
      refine wpAnyH_take (i := 0) (v := ?_) rfl (by kernel_rfl) (by kernel_rfl) (by kernel_rfl) (fun _ _ _ h => h) (Or.inl ⟨by kernel_rfl, ?_⟩) (by assumption) ?_
      rotate_left
      · intro w0 hSw; (try dsimp only at hSw); (go_simp <;> with_reducible rfl)
      try simp only [Act.put, List.setIfInBounds_toArray, List.set_cons_zero, List.set_cons_succ]
      refine wpAnyH_ready (rs := [1]) (by kernel_rfl) (by simp) ?_
      refine AllReadyH.cons rfl (fun K hK => ?_) AllReadyH.nil
      go_simp
      go_at_call 12
      refine (hz1.at_ _).mono ?_
      rintro e x1 ⟨rfl, hbx⟩
      go_wp2_with fail
      refine hK.out _ _ (two6 hbx hHeld) (fun hHeld2 => ?_)
      clear hHeld hbx hK K
      have hHeld := hHeld2
      clear hHeld2
      try simp only [Act.put, List.setIfInBounds_toArray, List.set_cons_zero, List.set_cons_succ]
      refine wpAnyH_take (i := 2) (v := ?_) rfl (by kernel_rfl) (by kernel_rfl) (by kernel_rfl) (fun _ _ _ h => h) (Or.inl ⟨by kernel_rfl, ?_⟩) (by assumption) ?_
      rotate_left
      · intro w0 hSw; (try dsimp only at hSw); (go_simp <;> with_reducible rfl)
      try simp only [Act.put, List.setIfInBounds_toArray, List.set_cons_zero, List.set_cons_succ]
      refine wpAnyH_take (i := 3) (v := ?_) rfl (by kernel_rfl) (by kernel_rfl) (by kernel_rfl) (fun _ _ _ h => h) (Or.inl ⟨by kernel_rfl, ?_⟩) (by assumption) ?_
      rotate_left
      · intro w0 hSw; (try dsimp only at hSw); (go_simp <;> with_reducible rfl)
      try simp only [Act.put, List.setIfInBounds_toArray, List.set_cons_zero, List.set_cons_succ]
      refine wpAnyH_take (i := 4) (v := ?_) rfl (by kernel_rfl) (by kernel_rfl) (by kernel_rfl) (fun _ _ _ h => h) (Or.inl ⟨by kernel_rfl, ?_⟩) (by assumption) ?_
      rotate_left
      · intro w0 hSw; (try dsimp only at hSw); (go_simp <;> with_reducible rfl)
      try simp only [Act.put, List.setIfInBounds_toArray, List.set_cons_zero, List.set_cons_succ]
      refine wpAnyH_ready (rs := [5]) (by kernel_rfl) (by simp) ?_
      refine AllReadyH.cons rfl (fun K hK => ?_) AllReadyH.nil
      go_simp
      go_at_call 10
      refine (hc1.at_ _).mono ?_
      rintro e x2 ⟨rfl, hbx⟩
      go_wp2_with fail
      refine hK.out _ _ (two6 hbx hHeld) (fun hHeld2 => ?_)
      clear hHeld hbx hK K
      have hHeld := hHeld2
      clear hHeld2
      try simp only [Act.put, List.setIfInBounds_toArray, List.set_cons_zero, List.set_cons_succ]
      refine wpAnyH_take (i := 6) (v := ?_) rfl (by kernel_rfl) (by kernel_rfl) (by kernel_rfl) (fun _ _ _ h => h) (Or.inl ⟨by kernel_rfl, ?_⟩) (by assumption) ?_
      rotate_left
      · intro w0 hSw; (try dsimp only at hSw); (go_simp <;> with_reducible rfl)
      try simp only [Act.put, List.setIfInBounds_toArray, List.set_cons_zero, List.set_cons_succ]
      refine wpAnyH_take (i := 7) (v := ?_) rfl (by kernel_rfl) (by kernel_rfl) (by kernel_rfl) (fun _ _ _ h => h) (Or.inl ⟨by kernel_rfl, ?_⟩) (by assumption) ?_
      rotate_left
      · intro w0 hSw; (try dsimp only at hSw); (go_simp <;> with_reducible rfl)
      try simp only [Act.put, List.setIfInBounds_toArray, List.set_cons_zero, List.set_cons_succ]
      refine wpAnyH_take (i := 8) (v := ?_) rfl (by kernel_rfl) (by kernel_rfl) (by kernel_rfl) (fun _ _ _ h => h) (Or.inl ⟨by kernel_rfl, ?_⟩) (by assumption) ?_
      rotate_left
      · intro w0 hSw; (try dsimp only at hSw); (go_simp <;> with_reducible rfl)
      try simp only [Act.put, List.setIfInBounds_toArray, List.set_cons_zero, List.set_cons_succ]
      refine wpAnyH_take (i := 9) (v := undef) rfl (by kernel_rfl) (by kernel_rfl) (by kernel_rfl) (fun _ _ _ h => h) (Or.inr ⟨by kernel_rfl, rfl⟩) (by assumption) ?_
      try simp only [Act.put, List.setIfInBounds_toArray, List.set_cons_zero, List.set_cons_succ]
      refine wpAnyH_take (i := 10) (v := undef) rfl (by kernel_rfl) (by kernel_rfl) (by kernel_rfl) (fun _ _ _ h => h) (Or.inr ⟨by kernel_rfl, rfl⟩) (by assumption) ?_
      try simp only [Act.put, List.setIfInBounds_toArray, List.set_cons_zero, List.set_cons_succ]
      refine wpAnyH_take (i := 11) (v := undef) rfl (by kernel_rfl) (by kernel_rfl) (by kernel_rfl) (fun _ _ _ h => h) (Or.inr ⟨by kernel_rfl, rfl⟩) (by assumption) ?_
      try simp only [Act.put, List.setIfInBounds_toArray, List.set_cons_zero, List.set_cons_succ]
      refine wpAnyH_take (i := 12) (v := undef) rfl (by kernel_rfl) (by kernel_rfl) (by kernel_rfl) (fun _ _ _ h => h) (Or.inr ⟨by kernel_rfl, rfl⟩) (by assumption) ?_
      try simp only [Act.put, List.setIfInBounds_toArray, List.set_cons_zero, List.set_cons_succ]
      refine wpAnyH_take (i := 13) (v := undef) rfl (by kernel_rfl) (by kernel_rfl) (by kernel_rfl) (fun _ _ _ h => h) (Or.inr ⟨by kernel_rfl, rfl⟩) (by assumption) ?_
      try simp only [Act.put, List.setIfInBounds_toArray, List.set_cons_zero, List.set_cons_succ]
      refine wpAnyH_take (i := 14) (v := undef) rfl (by kernel_rfl) (by kernel_rfl) (by kernel_rfl) (fun _ _ _ h => h) (Or.inr ⟨by kernel_rfl, rfl⟩) (by assumption) ?_
      try simp only [Act.put, List.setIfInBounds_toArray, List.set_cons_zero, List.set_cons_succ]
      refine wpAnyH_take (i := 15) (v := undef) rfl (by kernel_rfl) (by kernel_rfl) (by kernel_rfl) (fun _ _ _ h => h) (Or.inr ⟨by kernel_rfl, rfl⟩) (by assumption) ?_
      try simp only [Act.put, List.setIfInBounds_toArray, List.set_cons_zero, List.set_cons_succ]
      refine wpAnyH_take (i := 16) (v := undef) rfl (by kernel_rfl) (by kernel_rfl) (by kernel_rfl) (fun _ _ _ h => h) (Or.inr ⟨by kernel_rfl, rfl⟩) (by assumption) ?_
      try simp only [Act.put, List.setIfInBounds_toArray, List.set_cons_zero, List.set_cons_succ]
      refine wpAnyH_take (i := 17) (v := undef) rfl (by kernel_rfl) (by kernel_rfl) (by kernel_rfl) (fun _ _ _ h => h) (Or.inr ⟨by kernel_rfl, rfl⟩) (by assumption) ?_
      try simp only [Act.put, List.setIfInBounds_toArray, List.set_cons_zero, List.set_cons_succ]
      refine wpAnyH_take (i := 18) (v := undef) rfl (by kernel_rfl) (by kernel_rfl) (by kernel_rfl) (fun _ _ _ h => h) (Or.inr ⟨by kernel_rfl, rfl⟩) (by assumption) ?_
      try simp only [Act.put, List.setIfInBounds_toArray, List.set_cons_zero, List.set_cons_succ]
      refine wpAnyH_take (i := 19) (v := undef) rfl (by kernel_rfl) (by kernel_rfl) (by kernel_rfl) (fun _ _ _ h => h) (Or.inr ⟨by kernel_rfl, rfl⟩) (by assumption) ?_
      try simp only [Act.put, List.setIfInBounds_toArray, List.set_cons_zero, List.set_cons_succ]
      refine wpAnyH_take (i := 20) (v := undef) rfl (by kernel_rfl) (by kernel_rfl) (by kernel_rfl) (fun _ _ _ h => h) (Or.inr ⟨by kernel_rfl, rfl⟩) (by assumption) ?_
      try simp only [Act.put, List.setIfInBounds_toArray, List.set_cons_zero, List.set_cons_succ]
      refine wpAnyH_take (i := 21) (v := undef) rfl (by kernel_rfl) (by kernel_rfl) (by kernel_rfl) (fun _ _ _ h => h) (Or.inr ⟨by kernel_rfl, rfl⟩) (by assumption) ?_
      try simp only [Act.put, List.setIfInBounds_toArray, List.set_cons_zero, List.set_cons_succ]
      refine wpAnyH_take (i := 22) (v := undef) rfl (by kernel_rfl) (by kernel_rfl) (by kernel_rfl) (fun _ _ _ h => h) (Or.inr ⟨by kernel_rfl, rfl⟩) (by assumption) ?_
      try simp only [Act.put, List.setIfInBounds_toArray, List.set_cons_zero, List.set_cons_succ]
      refine wpAnyH_take (i := 23) (v := undef) rfl (by kernel_rfl) (by kernel_rfl) (by kernel_rfl) (fun _ _ _ h => h) (Or.inr ⟨by kernel_rfl, rfl⟩) (by assumption) ?_
      try simp only [Act.put, List.setIfInBounds_toArray, List.set_cons_zero, List.set_cons_succ]
      refine wpAnyH_take (i := 24) (v := undef) rfl (by kernel_rfl) (by kernel_rfl) (by kernel_rfl) (fun _ _ _ h => h) (Or.inr ⟨by kernel_rfl, rfl⟩) (by assumption) ?_
      try simp only [Act.put, List.setIfInBounds_toArray, List.set_cons_zero, List.set_cons_succ]
      refine wpAnyH_take (i := 25) (v := undef) rfl (by kernel_rfl) (by kernel_rfl) (by kernel_rfl) (fun _ _ _ h => h) (Or.inr ⟨by kernel_rfl, rfl⟩) (by assumption) ?_
      try simp only [Act.put, List.setIfInBounds_toArray, List.set_cons_zero, List.set_cons_succ]
      refine wpAnyH_take (i := 26) (v := undef) rfl (by kernel_rfl) (by kernel_rfl) (by kernel_rfl) (fun _ _ _ h => h) (Or.inr ⟨by kernel_rfl, rfl⟩) (by assumption) ?_
      try simp only [Act.put, List.setIfInBounds_toArray, List.set_cons_zero, List.set_cons_succ]
      refine wpAnyH_take (i := 27) (v := undef) rfl (by kernel_rfl) (by kernel_rfl) (by kernel_rfl) (fun _ _ _ h => h) (Or.inr ⟨by kernel_rfl, rfl⟩) (by assumption) ?_
      try simp only [Act.put, List.setIfInBounds_toArray, List.set_cons_zero, List.set_cons_succ]
      refine wpAnyH_take (i := 28) (v := ?_) rfl (by kernel_rfl) (by kernel_rfl) (by kernel_rfl) (fun _ _ _ h => h) (Or.inl ⟨by kernel_rfl, ?_⟩) (by assumption) ?_
      rotate_left
      · intro w0 hSw; (try dsimp only at hSw); (go_simp <;> with_reducible rfl)
      try simp only [Act.put, List.setIfInBounds_toArray, List.set_cons_zero, List.set_cons_succ]
      refine wpAnyH_take (i := 29) (v := ?_) rfl (by kernel_rfl) (by kernel_rfl) (by kernel_rfl) (fun _ _ _ h => h) (Or.inl ⟨by kernel_rfl, ?_⟩) (by assumption) ?_
      rotate_left
      · intro w0 hSw; (try dsimp only at hSw); (go_simp <;> with_reducible rfl)
      try simp only [Act.put, List.setIfInBounds_toArray, List.set_cons_zero, List.set_cons_succ]
      refine wpAnyH_done (by kernel_rfl) ?_ _
      go_wp2
      go_ret
      refine ⟨?_, two6_below hHeld⟩
      first | rfl | (injections; subst_vars; rfl) | (simp_all; done) | (simp; done) | (simp [hres0]; done) | (simp [hres0c, hres1]; done) | (go_simp; done) | go_simp
    · have hres0b : (IntKind.i64.wrap (-c') == c) = true := by rw [beq_iff_eq]; exact hres0
      have hres0c : (c == IntKind.i64.wrap (-c')) = true := by rw [beq_iff_eq]; exact hres0.symm
      clear hres0
      go_wp2
      refine wp_region_held_drew (S := (fun w' => w'.cell? ⟨w.heap.size, 0, none⟩ = some (.bool true) ∧ w'.cell? ⟨w.heap.size, 1, none⟩ = some (.string s) ∧ w'.cell? ⟨w.heap.size, 2, none⟩ = some (.int .i64 k) ∧ w'.cell? ⟨wr.heap.size, 0, none⟩ = some (.bool false) ∧ w'.cell? ⟨wr.heap.size, 1, none⟩ = some (.string s) ∧ w'.cell? ⟨wr.heap.size, 2, none⟩ = some (.int .i64 k) ∧ w.heap.size + 1 ≤ w'.heap.size ∧ wr.heap.size + 1 ≤ w'.heap.size ∧ w.heap.size ≤ w'.heap.size ∧ Below w.heap.size w w')) (by kernel_rfl) ⟨m0, m1, m2, m3, m4, m5, s0, s1, s4, hBB.drew⟩ (fun hHeld => ?_)
      refine wpAnyH_take (i := 0) (v := ?_) rfl (by kernel_rfl) (by kernel_rfl) (by kernel_rfl) (fun _ _ _ h => h) (Or.inl ⟨by kernel_rfl, ?_⟩) (by assumption) ?_
      rotate_left
      · intro w0 hSw; (try dsimp only at hSw); (go_simp <;> with_reducible rfl)
      try simp only [Act.put, List.setIfInBounds_toArray, List.set_cons_zero, List.set_cons_succ]
      refine wpAnyH_ready (rs := [1]) (by kernel_rfl) (by simp) ?_
      refine AllReadyH.cons rfl (fun K hK => ?_) AllReadyH.nil
      go_simp
      go_at_call 12
      refine (hz1.at_ _).mono ?_
      rintro e x1 ⟨rfl, hbx⟩
      go_wp2_with fail
      refine hK.out _ _ (two6 hbx hHeld) (fun hHeld2 => ?_)
      clear hHeld hbx hK K
      have hHeld := hHeld2
      clear hHeld2
      try simp only [Act.put, List.setIfInBounds_toArray, List.set_cons_zero, List.set_cons_succ]
      refine wpAnyH_take (i := 2) (v := ?_) rfl (by kernel_rfl) (by kernel_rfl) (by kernel_rfl) (fun _ _ _ h => h) (Or.inl ⟨by kernel_rfl, ?_⟩) (by assumption) ?_
      rotate_left
      · intro w0 hSw; (try dsimp only at hSw); (go_simp <;> with_reducible rfl)
      try simp only [Act.put, List.setIfInBounds_toArray, List.set_cons_zero, List.set_cons_succ]
      refine wpAnyH_take (i := 3) (v := undef) rfl (by kernel_rfl) (by kernel_rfl) (by kernel_rfl) (fun _ _ _ h => h) (Or.inr ⟨by kernel_rfl, rfl⟩) (by assumption) ?_
      try simp only [Act.put, List.setIfInBounds_toArray, List.set_cons_zero, List.set_cons_succ]
      refine wpAnyH_take (i := 4) (v := undef) rfl (by kernel_rfl) (by kernel_rfl) (by kernel_rfl) (fun _ _ _ h => h) (Or.inr ⟨by kernel_rfl, rfl⟩) (by assumption) ?_
      try simp only [Act.put, List.setIfInBounds_toArray, List.set_cons_zero, List.set_cons_succ]
      refine wpAnyH_take (i := 5) (v := undef) rfl (by kernel_rfl) (by kernel_rfl) (by kernel_rfl) (fun _ _ _ h => h) (Or.inr ⟨by kernel_rfl, rfl⟩) (by assumption) ?_
      try simp only [Act.put, List.setIfInBounds_toArray, List.set_cons_zero, List.set_cons_succ]
      refine wpAnyH_take (i := 6) (v := undef) rfl (by kernel_rfl) (by kernel_rfl) (by kernel_rfl) (fun _ _ _ h => h) (Or.inr ⟨by kernel_rfl, rfl⟩) (by assumption) ?_
      try simp only [Act.put, List.setIfInBounds_toArray, List.set_cons_zero, List.set_cons_succ]
      refine wpAnyH_take (i := 7) (v := ?_) rfl (by kernel_rfl) (by kernel_rfl) (by kernel_rfl) (fun _ _ _ h => h) (Or.inl ⟨by kernel_rfl, ?_⟩) (by assumption) ?_
      rotate_left
      · intro w0 hSw; (try dsimp only at hSw); (go_simp <;> with_reducible rfl)
      try simp only [Act.put, List.setIfInBounds_toArray, List.set_cons_zero, List.set_cons_succ]
      refine wpAnyH_take (i := 8) (v := ?_) rfl (by kernel_rfl) (by kernel_rfl) (by kernel_rfl) (fun _ _ _ h => h) (Or.inl ⟨by kernel_rfl, ?_⟩) (by assumption) ?_
      rotate_left
      · intro w0 hSw; (try dsimp only at hSw); (go_simp <;> with_reducible rfl)
      try simp only [Act.put, List.setIfInBounds_toArray, List.set_cons_zero, List.set_cons_succ]
      refine wpAnyH_take (i := 9) (v := ?_) rfl (by kernel_rfl) (by kernel_rfl) (by kernel_rfl) (fun _ _ _ h => h) (Or.inl ⟨by kernel_rfl, ?_⟩) (by assumption) ?_
      rotate_left
      · intro w0 hSw; (try dsimp only at hSw); (go_simp <;> with_reducible rfl)
      try simp only [Act.put, List.setIfInBounds_toArray, List.set_cons_zero, List.set_cons_succ]
      refine wpAnyH_ready (rs := [10]) (by kernel_rfl) (by simp) ?_
      refine AllReadyH.cons rfl (fun K hK => ?_) AllReadyH.nil
      go_simp
      go_at_call 12
      refine (hz1.at_ _).mono ?_
      rintro e x2 ⟨rfl, hbx⟩
      go_wp2_with fail
      refine hK.out _ _ (two6 hbx hHeld) (fun hHeld2 => ?_)
      clear hHeld hbx hK K
      have hHeld := hHeld2
      clear hHeld2
      try simp only [Act.put, List.setIfInBounds_toArray, List.set_cons_zero, List.set_cons_succ]
      refine wpAnyH_take (i := 11) (v := ?_) rfl (by kernel_rfl) (by kernel_rfl) (by kernel_rfl) (fun _ _ _ h => h) (Or.inl ⟨by kernel_rfl, ?_⟩) (by assumption) ?_
      rotate_left
      · intro w0 hSw; (try dsimp only at hSw); (go_simp <;> with_reducible rfl)
      try simp only [Act.put, List.setIfInBounds_toArray, List.set_cons_zero, List.set_cons_succ]
      refine wpAnyH_take (i := 12) (v := ?_) rfl (by kernel_rfl) (by kernel_rfl) (by kernel_rfl) (fun _ _ _ h => h) (Or.inl ⟨by kernel_rfl, ?_⟩) (by assumption) ?_
      rotate_left
      · intro w0 hSw; (try dsimp only at hSw); (go_simp <;> with_reducible rfl)
      try simp only [Act.put, List.setIfInBounds_toArray, List.set_cons_zero, List.set_cons_succ]
      refine wpAnyH_take (i := 13) (v := ?_) rfl (by kernel_rfl) (by kernel_rfl) (by kernel_rfl) (fun _ _ _ h => h) (Or.inl ⟨by kernel_rfl, ?_⟩) (by assumption) ?_
      rotate_left
      · intro w0 hSw; (try dsimp only at hSw); (go_simp <;> with_reducible rfl)
      try simp only [Act.put, List.setIfInBounds_toArray, List.set_cons_zero, List.set_cons_succ]
      refine wpAnyH_take (i := 14) (v := ?_) rfl (by kernel_rfl) (by kernel_rfl) (by kernel_rfl) (fun _ _ _ h => h) (Or.inl ⟨by kernel_rfl, ?_⟩) (by assumption) ?_
      rotate_left
      · intro w0 hSw; (try dsimp only at hSw); (go_simp <;> with_reducible rfl)
      try simp only [Act.put, List.setIfInBounds_toArray, List.set_cons_zero, List.set_cons_succ]
      refine wpAnyH_take (i := 16) (v := ?_) rfl (by kernel_rfl) (by kernel_rfl) (by kernel_rfl) (fun _ _ _ h => h) (Or.inl ⟨by kernel_rfl, ?_⟩) (by assumption) ?_
      rotate_left
      · intro w0 hSw; (try dsimp only at hSw); (go_simp <;> with_reducible rfl)
      try simp only [Act.put, List.setIfInBounds_toArray, List.set_cons_zero, List.set_cons_succ]
      refine wpAnyH_take (i := 17) (v := ?_) rfl (by kernel_rfl) (by kernel_rfl) (by kernel_rfl) (fun _ _ _ h => h) (Or.inl ⟨by kernel_rfl, ?_⟩) (by assumption) ?_
      rotate_left
      · intro w0 hSw; (try dsimp only at hSw); (go_simp <;> with_reducible rfl)
      try simp only [Act.put, List.setIfInBounds_toArray, List.set_cons_zero, List.set_cons_succ]
      refine wpAnyH_ready (rs := [15]) (by kernel_rfl) (by simp) ?_
      refine AllReadyH.cons rfl (fun K hK => ?_) AllReadyH.nil
      go_simp
      go_at_call 10
      refine (hc1.at_ _).mono ?_
      rintro e x3 ⟨rfl, hbx⟩
      go_wp2_with fail
      refine hK.out _ _ (two6 hbx hHeld) (fun hHeld2 => ?_)
      clear hHeld hbx hK K
      have hHeld := hHeld2
      clear hHeld2
      try simp only [Act.put, List.setIfInBounds_toArray, List.set_cons_zero, List.set_cons_succ]
      refine wpAnyH_ready (rs := [18]) (by kernel_rfl) (by simp) ?_
      refine AllReadyH.cons rfl (fun K hK => ?_) AllReadyH.nil
      go_simp
      go_at_call 10
      refine (hc2.at_ _).mono ?_
      rintro e x4 ⟨rfl, hbx⟩
      go_wp2_with fail
      refine hK.out _ _ (two6 hbx hHeld) (fun hHeld2 => ?_)
      clear hHeld hbx hK K
      have hHeld := hHeld2
      clear hHeld2
      try simp only [Act.put, List.setIfInBounds_toArray, List.set_cons_zero, List.set_cons_succ]
      refine wpAnyH_take (i := 19) (v := ?_) rfl (by kernel_rfl) (by kernel_rfl) (by kernel_rfl) (fun _ _ _ h => h) (Or.inl ⟨by kernel_rfl, ?_⟩) (by assumption) ?_
      rotate_left
      · intro w0 hSw; (try dsimp only at hSw); (go_simp <;> with_reducible rfl)
      try simp only [Act.put, List.setIfInBounds_toArray, List.set_cons_zero, List.set_cons_succ]
      refine wpAnyH_take (i := 20) (v := ?_) rfl (by kernel_rfl) (by kernel_rfl) (by kernel_rfl) (fun _ _ _ h => h) (Or.inl ⟨by kernel_rfl, ?_⟩) (by assumption) ?_
      rotate_left
      · intro w0 hSw; (try dsimp only at hSw); (go_simp <;> with_reducible rfl)
      try simp only [Act.put, List.setIfInBounds_toArray, List.set_cons_zero, List.set_cons_succ]
      refine wpAnyH_take (i := 21) (v := ?_) rfl (by kernel_rfl) (by kernel_rfl) (by kernel_rfl) (fun _ _ _ h => h) (Or.inl ⟨by kernel_rfl, ?_⟩) (by assumption) ?_
      rotate_left
      · intro w0 hSw; (try dsimp only at hSw); (go_simp <;> with_reducible rfl)
      try simp only [Act.put, List.setIfInBounds_toArray, List.set_cons_zero, List.set_cons_succ]
      refine wpAnyH_take (i := 22) (v := ?_) rfl (by kernel_rfl) (by kernel_rfl) (by kernel_rfl) (fun _ _ _ h => h) (Or.inl ⟨by kernel_rfl, ?_⟩) (by assumption) ?_
      rotate_left
      · intro w0 hSw; (try dsimp only at hSw); (go_simp <;> with_reducible rfl)
      try simp only [Act.put, List.setIfInBounds_toArray, List.set_cons_zero, List.set_cons_succ]
      refine wpAnyH_take (i := 23) (v := ?_) rfl (by kernel_rfl) (by kernel_rfl) (by kernel_rfl) (fun _ _ _ h => h) (Or.inl ⟨by kernel_rfl, ?_⟩) (by assumption) ?_
      rotate_left
      · intro w0 hSw; (try dsimp only at hSw); (go_simp <;> with_reducible rfl)
      try simp only [Act.put, List.setIfInBounds_toArray, List.set_cons_zero, List.set_cons_succ]
      refine wpAnyH_take (i := 24) (v := ?_) rfl (by kernel_rfl) (by kernel_rfl) (by kernel_rfl) (fun _ _ _ h => h) (Or.inl ⟨by kernel_rfl, ?_⟩) (by assumption) ?_
      rotate_left
      · intro w0 hSw; (try dsimp only at hSw); (go_simp <;> with_reducible rfl)
      try simp only [Act.put, List.setIfInBounds_toArray, List.set_cons_zero, List.set_cons_succ]
      refine wpAnyH_ready (rs := [25]) (by kernel_rfl) (by simp) ?_
      refine AllReadyH.cons rfl (fun K hK => ?_) AllReadyH.nil
      go_simp
      go_at_call 10
      refine (hc1.at_ _).mono ?_
      rintro e x7 ⟨rfl, hbx⟩
      go_wp2_with fail
      refine hK.out _ _ (two6 hbx hHeld) (fun hHeld2 => ?_)
      clear hHeld hbx hK K
      have hHeld := hHeld2
      clear hHeld2
      try simp only [Act.put, List.setIfInBounds_toArray, List.set_cons_zero, List.set_cons_succ]
      refine wpAnyH_take (i := 26) (v := ?_) rfl (by kernel_rfl) (by kernel_rfl) (by kernel_rfl) (fun _ _ _ h => h) (Or.inl ⟨by kernel_rfl, ?_⟩) (by assumption) ?_
      rotate_left
      · intro w0 hSw; (try dsimp only at hSw); (go_simp <;> with_reducible rfl)
      try simp only [Act.put, List.setIfInBounds_toArray, List.set_cons_zero, List.set_cons_succ]
      refine wpAnyH_take (i := 27) (v := ?_) rfl (by kernel_rfl) (by kernel_rfl) (by kernel_rfl) (fun _ _ _ h => h) (Or.inl ⟨by kernel_rfl, ?_⟩) (by assumption) ?_
      rotate_left
      · intro w0 hSw; (try dsimp only at hSw); (go_simp <;> with_reducible rfl)
      try simp only [Act.put, List.setIfInBounds_toArray, List.set_cons_zero, List.set_cons_succ]
      refine wpAnyH_take (i := 28) (v := ?_) rfl (by kernel_rfl) (by kernel_rfl) (by kernel_rfl) (fun _ _ _ h => h) (Or.inl ⟨by kernel_rfl, ?_⟩) (by assumption) ?_
      rotate_left
      · intro w0 hSw; (try dsimp only at hSw); (go_simp <;> with_reducible rfl)
      try simp only [Act.put, List.setIfInBounds_toArray, List.set_cons_zero, List.set_cons_succ]
      refine wpAnyH_take (i := 29) (v := ?_) rfl (by kernel_rfl) (by kernel_rfl) (by kernel_rfl) (fun _ _ _ h => h) (Or.inl ⟨by kernel_rfl, ?_⟩) (by assumption) ?_
      rotate_left
      · intro w0 hSw; (try dsimp only at hSw); (go_simp <;> with_reducible rfl)
      try simp only [Act.put, List.setIfInBounds_toArray, List.set_cons_zero, List.set_cons_succ]
      refine wpAnyH_done (by kernel_rfl) ?_ _
      go_wp2
      go_ret
      refine ⟨?_, two6_below hHeld⟩
      first | rfl | (injections; subst_vars; rfl) | (simp_all; done) | (simp; done) | (simp [hres0]; done) | (simp [hres0c, hres1]; done) | (go_simp; done) | go_simp
end Go.Proofs.YtjgfijpgoffmlacDoor
