/-
  Several texts put together (part 23): what the law and the program call, walked; their contracts.
-/
import Derived.Test.YtjdpmdheapmanaaGreatDoorQ14
import Derived.Test.YtjdpmdheapmanaaGreatDoorQ21
import Derived.Test.YtjdpmdheapmanaaGreatDoorQ11
namespace Go.Proofs.YtjdpmdheapmanaaGreatDoor
open Go.RowKit
set_option linter.unusedVariables false
set_option linter.unusedSimpArgs false
theorem marks_new (w : World) : MarksAt (w.alloc (.cells #[.int .u32 0, .int .i32 0, .int .u32 0, .map none, .int .i64 0] 62)) w.heap.size false 0 :=
  ⟨.map none, BoxAt.new w _ _, fun h => by cases h⟩
end Go.Proofs.YtjdpmdheapmanaaGreatDoor

namespace Go.Proofs.YtjdpmdheapmanaaGreatDoor
open Go.RowKit
set_option linter.unusedVariables false
set_option linter.unusedSimpArgs false
def exD : ByteArray := ⟨#[49, 50, 51, 52, 53]⟩
theorem ex_en (b c : Nat) (made : Bool) (w : World) (hM : MarksAt w b made c) (hc : c ≤ 1000) :
    Calls Tryz.prog 16 #[pt b, .string ⟨#[101, 110]⟩, .agg #[.bool false, .string ⟨#[49, 50, 51, 52, 53]⟩, .int .i64 1], .agg #[.int .i64 1, .int .i64 0, .int .i64 3, .bool false, .bool false]] w
      fun e w' => e = .returned (.string ⟨#[49, 44, 50, 51, 52, 46, 53]⟩) ∧ MarksAt w' b true (c + 1) ∧ Kp b w w' := by
  have h := format_any b c made ⟨#[101, 110]⟩ 1 0 3 false false false exD 1 w hM hc (by decide) (by decide) (by kernel_rfl) (by decide) (by decide) (by decide)
  have e : bL (fmtL false false (rndL exD.data.toList 1 0 3) (rndK exD.data.toList 1 0 3) 1 (sgn ⟨#[101, 110]⟩).1 (sgn ⟨#[101, 110]⟩).2) = ⟨#[49, 44, 50, 51, 52, 46, 53]⟩ := by kernel_rfl
  rw [e] at h
  exact h
theorem ex_de (b c : Nat) (made : Bool) (w : World) (hM : MarksAt w b made c) (hc : c ≤ 1000) :
    Calls Tryz.prog 16 #[pt b, .string ⟨#[100, 101]⟩, .agg #[.bool false, .string ⟨#[49, 50, 51, 52, 53]⟩, .int .i64 1], .agg #[.int .i64 1, .int .i64 0, .int .i64 3, .bool false, .bool false]] w
      fun e w' => e = .returned (.string ⟨#[49, 46, 50, 51, 52, 44, 53]⟩) ∧ MarksAt w' b true (c + 1) ∧ Kp b w w' := by
  have h := format_any b c made ⟨#[100, 101]⟩ 1 0 3 false false false exD 1 w hM hc (by decide) (by decide) (by kernel_rfl) (by decide) (by decide) (by decide)
  have e : bL (fmtL false false (rndL exD.data.toList 1 0 3) (rndK exD.data.toList 1 0 3) 1 (sgn ⟨#[100, 101]⟩).1 (sgn ⟨#[100, 101]⟩).2) = ⟨#[49, 46, 50, 51, 52, 44, 53]⟩ := by kernel_rfl
  rw [e] at h
  exact h
structure Dx (B d : Nat) (cd : Array Value) (w W : World) : Prop where
  d : BoxAt W d cd 29
  bel : Below B w W
theorem Dx.later {B d : Nat} {cd : Array Value} {w W W' : World} (h : Dx B d cd w W) (hB : B ≤ w.heap.size) (g : Below W.heap.size W W') : Dx B d cd w W' := ⟨h.d.later g, h.bel.trans (g.mono (Nat.le_trans hB h.bel.size))⟩
theorem Dx.kp {B d b : Nat} {cd : Array Value} {w W W' : World} (h : Dx B d cd w W) (hb : B ≤ b) (hne : d ≠ b) (g : Kp b W W') : Dx B d cd w W' := ⟨h.d.kp g hne, h.bel.trans (g.below.mono hb)⟩
theorem Dx.drew {B d : Nat} {cd : Array Value} {w W : World} (h : Dx B d cd w W) : Dx B d cd w W.drew := ⟨h.d, h.bel.drew⟩
set_option maxHeartbeats 4000000 in
set_option maxRecDepth 100000 in
theorem head_any (w : World) : Calls Tryz.prog 5 #[] w fun e w' => e = .returned (.bool true) ∧ Below w.heap.size w w' := by
  have m0 := marks_new w
  have M0 := Lib.hid ((m0.later ((Below.refl _ _).alloc (Nat.le_refl _) (.cells #[.bool false, .string ⟨#[49, 50, 51, 52, 53]⟩, .int .i64 1] 29))).drew)
  have S0 := Lib.hid (Dx.drew (Dx.mk (B := w.heap.size) (w := w) (BoxAt.new' (w.alloc (.cells #[.int .u32 0, .int .i32 0, .int .u32 0, .map none, .int .i64 0] 62)) (w.heap.size + 1) #[.bool false, .string ⟨#[49, 50, 51, 52, 53]⟩, .int .i64 1] 29 (by simp)) (((Below.refl _ _).alloc (Nat.le_refl _) _).alloc (by simp) _)))
  clear m0
  go_enter Tryz.func5, Tryz.ntmps5
  go_wp2_with fail
  refine wp_region_held_drew (S := Dx w.heap.size (w.heap.size + 1) #[.bool false, .string ⟨#[49, 50, 51, 52, 53]⟩, .int .i64 1] w) (by kernel_rfl) (S0.out) (fun hHeld => ?_)
  refine wpAnyH_take (i := 0) (v := ?_) rfl (by kernel_rfl) (by kernel_rfl) (by kernel_rfl) (fun _ _ _ h => h) (Or.inl ⟨by kernel_rfl, ?_⟩) (by assumption) ?_
  rotate_left
  · intro w0 hSw
    (go_simp <;> with_reducible rfl)
  try simp only [Act.put, List.setIfInBounds_toArray, List.set_cons_zero, List.set_cons_succ]
  refine wpAnyH_take (i := 1) (v := ?_) rfl (by kernel_rfl) (by kernel_rfl) (by kernel_rfl) (fun _ _ _ h => h) (Or.inl ⟨by kernel_rfl, ?_⟩) (by assumption) ?_
  rotate_left
  · intro w0 hSw
    have d0 : w0.cell? ⟨w.heap.size + 1, 0, none⟩ = some (.bool false) := hSw.d.cell 0
    have d1 : w0.cell? ⟨w.heap.size + 1, 1, none⟩ = some (.string ⟨#[49, 50, 51, 52, 53]⟩) := hSw.d.cell 1
    have d2 : w0.cell? ⟨w.heap.size + 1, 2, none⟩ = some (.int .i64 1) := hSw.d.cell 2
    (go_simp <;> with_reducible rfl)
  try simp only [Act.put, List.setIfInBounds_toArray, List.set_cons_zero, List.set_cons_succ]
  refine wpAnyH_ready (rs := [2]) (by kernel_rfl) (by simp) ?_
  refine AllReadyH.cons rfl (fun K hK => ?_) AllReadyH.nil
  go_simp
  go_at_call 7
  refine (default_any _).mono ?_
  rintro e x1 ⟨rfl, hb1⟩
  have M1 := Lib.hid (M0.out.later hb1)
  go_wp2_with fail
  refine hK.out _ _ (hHeld.later (Nat.le_refl _) hb1) (fun hHeld2 => ?_)
  clear hHeld hK K
  have hHeld := hHeld2
  clear hHeld2
  try simp only [Act.put, List.setIfInBounds_toArray, List.set_cons_zero, List.set_cons_succ]
  refine wpAnyH_ready (rs := [3]) (by kernel_rfl) (by simp) ?_
  refine AllReadyH.cons rfl (fun K hK => ?_) AllReadyH.nil
  go_simp
  go_at_call 16
  refine (ex_en w.heap.size 0 false _ M1.out (by decide)).mono ?_
  rintro e x2 ⟨rfl, hm2, hk2⟩
  have M2 := Lib.hid hm2
  go_wp2_with fail
  refine hK.out _ _ (hHeld.kp (Nat.le_refl _) (by omega) hk2) (fun hHeld2 => ?_)
  clear hHeld hK K
  have hHeld := hHeld2
  clear hHeld2
  try simp only [Act.put, List.setIfInBounds_toArray, List.set_cons_zero, List.set_cons_succ]
  refine wpAnyH_take (i := 4) (v := ?_) rfl (by kernel_rfl) (by kernel_rfl) (by kernel_rfl) (fun _ _ _ h => h) (Or.inl ⟨by kernel_rfl, ?_⟩) (by assumption) ?_
  rotate_left
  · intro w0 hSw
    (go_simp <;> with_reducible rfl)
  try simp only [Act.put, List.setIfInBounds_toArray, List.set_cons_zero, List.set_cons_succ]
  refine wpAnyH_take (i := 5) (v := ?_) rfl (by kernel_rfl) (by kernel_rfl) (by kernel_rfl) (fun _ _ _ h => h) (Or.inl ⟨by kernel_rfl, ?_⟩) (by assumption) ?_
  rotate_left
  · intro w0 hSw
    (go_simp <;> with_reducible rfl)
  try simp only [Act.put, List.setIfInBounds_toArray, List.set_cons_zero, List.set_cons_succ]
  refine wpAnyH_take (i := 6) (v := ?_) rfl (by kernel_rfl) (by kernel_rfl) (by kernel_rfl) (fun _ _ _ h => h) (Or.inl ⟨by kernel_rfl, ?_⟩) (by assumption) ?_
  rotate_left
  · intro w0 hSw
    (go_simp <;> with_reducible rfl)
  try simp only [Act.put, List.setIfInBounds_toArray, List.set_cons_zero, List.set_cons_succ]
  refine wpAnyH_take (i := 7) (v := ?_) rfl (by kernel_rfl) (by kernel_rfl) (by kernel_rfl) (fun _ _ _ h => h) (Or.inl ⟨by kernel_rfl, ?_⟩) (by assumption) ?_
  rotate_left
  · intro w0 hSw
    have d0 : w0.cell? ⟨w.heap.size + 1, 0, none⟩ = some (.bool false) := hSw.d.cell 0
    have d1 : w0.cell? ⟨w.heap.size + 1, 1, none⟩ = some (.string ⟨#[49, 50, 51, 52, 53]⟩) := hSw.d.cell 1
    have d2 : w0.cell? ⟨w.heap.size + 1, 2, none⟩ = some (.int .i64 1) := hSw.d.cell 2
    (go_simp <;> with_reducible rfl)
  try simp only [Act.put, List.setIfInBounds_toArray, List.set_cons_zero, List.set_cons_succ]
  refine wpAnyH_ready (rs := [8]) (by kernel_rfl) (by simp) ?_
  refine AllReadyH.cons rfl (fun K hK => ?_) AllReadyH.nil
  go_simp
  go_at_call 7
  refine (default_any _).mono ?_
  rintro e x3 ⟨rfl, hb3⟩
  have M3 := Lib.hid (M2.out.later hb3)
  go_wp2_with fail
  refine hK.out _ _ (hHeld.later (Nat.le_refl _) hb3) (fun hHeld2 => ?_)
  clear hHeld hK K
  have hHeld := hHeld2
  clear hHeld2
  try simp only [Act.put, List.setIfInBounds_toArray, List.set_cons_zero, List.set_cons_succ]
  refine wpAnyH_ready (rs := [9]) (by kernel_rfl) (by simp) ?_
  refine AllReadyH.cons rfl (fun K hK => ?_) AllReadyH.nil
  go_simp
  go_at_call 16
  refine (ex_de w.heap.size 1 true _ M3.out (by decide)).mono ?_
  rintro e x4 ⟨rfl, hm4, hk4⟩
  have M4 := Lib.hid hm4
  go_wp2_with fail
  refine hK.out _ _ (hHeld.kp (Nat.le_refl _) (by omega) hk4) (fun hHeld2 => ?_)
  clear hHeld hK K
  have hHeld := hHeld2
  clear hHeld2
  try simp only [Act.put, List.setIfInBounds_toArray, List.set_cons_zero, List.set_cons_succ]
  refine wpAnyH_take (i := 10) (v := ?_) rfl (by kernel_rfl) (by kernel_rfl) (by kernel_rfl) (fun _ _ _ h => h) (Or.inl ⟨by kernel_rfl, ?_⟩) (by assumption) ?_
  rotate_left
  · intro w0 hSw
    (go_simp <;> with_reducible rfl)
  try simp only [Act.put, List.setIfInBounds_toArray, List.set_cons_zero, List.set_cons_succ]
  refine wpAnyH_take (i := 11) (v := ?_) rfl (by kernel_rfl) (by kernel_rfl) (by kernel_rfl) (fun _ _ _ h => h) (Or.inl ⟨by kernel_rfl, ?_⟩) (by assumption) ?_
  rotate_left
  · intro w0 hSw
    (go_simp <;> with_reducible rfl)
  try simp only [Act.put, List.setIfInBounds_toArray, List.set_cons_zero, List.set_cons_succ]
  refine wpAnyH_take (i := 12) (v := ?_) rfl (by kernel_rfl) (by kernel_rfl) (by kernel_rfl) (fun _ _ _ h => h) (Or.inl ⟨by kernel_rfl, ?_⟩) (by assumption) ?_
  rotate_left
  · intro w0 hSw
    (go_simp <;> with_reducible rfl)
  try simp only [Act.put, List.setIfInBounds_toArray, List.set_cons_zero, List.set_cons_succ]
  refine wpAnyH_take (i := 13) (v := ?_) rfl (by kernel_rfl) (by kernel_rfl) (by kernel_rfl) (fun _ _ _ h => h) (Or.inl ⟨by kernel_rfl, ?_⟩) (by assumption) ?_
  rotate_left
  · intro w0 hSw
    (go_simp <;> with_reducible rfl)
  try simp only [Act.put, List.setIfInBounds_toArray, List.set_cons_zero, List.set_cons_succ]
  refine wpAnyH_ready (rs := [14]) (by kernel_rfl) (by simp) ?_
  refine AllReadyH.cons rfl (fun K hK => ?_) AllReadyH.nil
  go_simp
  go_at_call 17
  refine (asked_any w.heap.size 2 true _ M4.out).mono ?_
  rintro e x5 ⟨rfl, rfl⟩
  go_wp2_with fail
  refine hK.out _ _ (hHeld) (fun hHeld2 => ?_)
  clear hHeld hK K
  have hHeld := hHeld2
  clear hHeld2
  try simp only [Act.put, List.setIfInBounds_toArray, List.set_cons_zero, List.set_cons_succ]
  refine wpAnyH_take (i := 15) (v := ?_) rfl (by kernel_rfl) (by kernel_rfl) (by kernel_rfl) (fun _ _ _ h => h) (Or.inl ⟨by kernel_rfl, ?_⟩) (by assumption) ?_
  rotate_left
  · intro w0 hSw
    (go_simp <;> with_reducible rfl)
  try simp only [Act.put, List.setIfInBounds_toArray, List.set_cons_zero, List.set_cons_succ]
  refine wpAnyH_ready (rs := [16]) (by kernel_rfl) (by simp) ?_
  refine AllReadyH.cons rfl (fun K hK => ?_) AllReadyH.nil
  go_simp
  try go_wp2_with fail
  refine hK.out _ _ hHeld (fun hHeld2 => ?_)
  clear hK K hHeld2
  try simp only [Act.put, List.setIfInBounds_toArray, List.set_cons_zero, List.set_cons_succ]
  refine wpAnyH_ready (rs := [17]) (by kernel_rfl) (by simp) ?_
  refine AllReadyH.cons rfl (fun K hK => ?_) AllReadyH.nil
  go_simp
  try go_wp2_with fail
  refine hK.out _ _ hHeld (fun hHeld2 => ?_)
  clear hK K hHeld2
  try simp only [Act.put, List.setIfInBounds_toArray, List.set_cons_zero, List.set_cons_succ]
  refine wpAnyH_done (by kernel_rfl) ?_ _
  go_wp2
  go_ret
  exact ⟨rfl, hHeld.bel⟩
end Go.Proofs.YtjdpmdheapmanaaGreatDoor
