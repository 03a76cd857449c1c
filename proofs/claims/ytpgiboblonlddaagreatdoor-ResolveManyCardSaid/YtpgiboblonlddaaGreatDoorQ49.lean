/-
  Several texts put together (part 49): what the law and the program call, walked; their contracts.
-/
import Derived.Test.YtpgiboblonlddaaGreatDoorQ48
import Derived.Test.YtpgiboblonlddaaGreatDoorQ46
import Derived.Test.YtpgiboblonlddaaGreatDoorQ44
import Derived.Deep.RegionHeld3
namespace Go.Proofs.YtpgiboblonlddaaGreatDoor
open Go.RowKit
set_option linter.unusedVariables false
set_option linter.unusedSimpArgs false
structure HeldB (B a b rb : Nat) (ca cb : Array Value) (ta tb rt : TypeId) (w W : World) : Prop where
  a : BoxAt W a ca ta
  b : BoxAt W b cb tb
  r : ∃ r0 r1 r2, BoxAt W rb #[r0, r1, r2] rt
  bel : Below B w W
theorem HeldB.later {B a b rb : Nat} {ca cb : Array Value} {ta tb rt : TypeId} {w W W' : World} (h : HeldB B a b rb ca cb ta tb rt w W) (g : Below W.heap.size W W') (hB : B ≤ w.heap.size := by omega) : HeldB B a b rb ca cb ta tb rt w W' := by
  obtain ⟨r0, r1, r2, hr⟩ := h.r
  exact ⟨h.a.later g, h.b.later g, ⟨r0, r1, r2, hr.later g⟩, h.bel.trans (g.mono (Nat.le_trans hB h.bel.size))⟩
theorem HeldB.drew {B a b rb : Nat} {ca cb : Array Value} {ta tb rt : TypeId} {w W : World} (h : HeldB B a b rb ca cb ta tb rt w W) : HeldB B a b rb ca cb ta tb rt w W.drew := ⟨h.a, h.b, h.r, h.bel.drew⟩
theorem HeldB.store {B a b rb : Nat} {ca cb : Array Value} {ta tb rt : TypeId} {w W : World} (h : HeldB B a b rb ca cb ta tb rt w W) (hne : a ≠ rb ∧ b ≠ rb ∧ B ≤ rb) (v0 v1 v2 : Value) :
    HeldB B a b rb ca cb ta tb rt w (((W.setCell ⟨rb, 0, none⟩ v0).setCell ⟨rb, 1, none⟩ v1).setCell ⟨rb, 2, none⟩ v2) := by
  obtain ⟨r0, r1, r2, hr⟩ := h.r
  exact ⟨((h.a.setOther _ _ hne.1).setOther _ _ hne.1).setOther _ _ hne.1, ((h.b.setOther _ _ hne.2.1).setOther _ _ hne.2.1).setOther _ _ hne.2.1, ⟨v0, v1, v2, ((hr.set 0 v0).set 1 v1).set 2 v2⟩, Below.set3 h.bel hne.2.2 _ _ _⟩
set_option maxHeartbeats 4000000 in
set_option maxRecDepth 100000 in
theorem rounded_core (mi mf xf k k1 k2 k3 : Int) (pl rk n : Bool) (s s1 s2 s3 : ByteArray) (w : World)
    (hR : ∀ W : World, Calls Tryz.prog 87 #[.agg #[.bool n, .string s, .int .i64 k], .int .i64 xf] W fun e w' => e = .returned (.agg #[.bool n, .string s1, .int .i64 k1]) ∧ Below W.heap.size W w')
    (hT : ∀ W : World, Calls Tryz.prog 88 #[.agg #[.bool n, .string s1, .int .i64 k1], .int .i64 mf] W fun e w' => e = .returned (.agg #[.bool n, .string s2, .int .i64 k2]) ∧ Below W.heap.size W w')
    (hP : ∀ W : World, Calls Tryz.prog 89 #[.agg #[.bool n, .string s2, .int .i64 k2], .int .i64 mf] W fun e w' => e = .returned (.agg #[.bool n, .string s3, .int .i64 k3]) ∧ Below W.heap.size W w') :
    Calls Tryz.prog 56 #[.agg #[.int .i64 mi, .int .i64 mf, .int .i64 xf, .bool pl, .bool rk], .agg #[.bool n, .string s, .int .i64 k]] w fun e w' => e = .returned (.agg #[.bool n, .string s3, .int .i64 k3]) ∧ Below w.heap.size w w' := by
  have HR := Lib.hid hR
  have HT := Lib.hid hT
  have HP := Lib.hid hP
  clear hR hT hP
  go_enter Tryz.func56, Tryz.ntmps56
  go_wp2_with fail
  refine wp_region_held_drew (S := HeldB w.heap.size w.heap.size (w.heap.size + 1) (w.heap.size + 1 + 1) #[.int .i64 mi, .int .i64 mf, .int .i64 xf, .bool pl, .bool rk] #[.bool n, .string s, .int .i64 k] 66 64 64 w) (by kernel_rfl) (HeldB.drew ⟨((BoxAt.new w _ _).alloc _).alloc _, (BoxAt.new' _ _ _ _ (by simp)).alloc _, ⟨.bool false, .string ⟨#[]⟩, .int .i64 0, BoxAt.new' _ _ _ _ (by simp)⟩, (((Below.refl _ _).alloc (Nat.le_refl _) _).alloc (by simp) _).alloc (by simp; omega) _⟩) (fun hHeld => ?_)
  refine wpAnyH_take (i := 0) (v := ?_) rfl (by kernel_rfl) (by kernel_rfl) (by kernel_rfl) (fun _ _ _ h => h) (Or.inl ⟨by kernel_rfl, ?_⟩) (by assumption) ?_
  rotate_left
  · intro w0 hSw
    have c1 : w0.cell? ⟨w.heap.size, 1, none⟩ = some (.int .i64 mf) := hSw.a.cell 1
    have c2 : w0.cell? ⟨w.heap.size, 2, none⟩ = some (.int .i64 xf) := hSw.a.cell 2
    have d0 : w0.cell? ⟨w.heap.size + 1, 0, none⟩ = some (.bool n) := hSw.b.cell 0
    have d1 : w0.cell? ⟨w.heap.size + 1, 1, none⟩ = some (.string s) := hSw.b.cell 1
    have d2 : w0.cell? ⟨w.heap.size + 1, 2, none⟩ = some (.int .i64 k) := hSw.b.cell 2
    (go_simp <;> with_reducible rfl)
  try simp only [Act.put, List.setIfInBounds_toArray, List.set_cons_zero, List.set_cons_succ]
  refine wpAnyH_take (i := 1) (v := ?_) rfl (by kernel_rfl) (by kernel_rfl) (by kernel_rfl) (fun _ _ _ h => h) (Or.inl ⟨by kernel_rfl, ?_⟩) (by assumption) ?_
  rotate_left
  · intro w0 hSw
    have c1 : w0.cell? ⟨w.heap.size, 1, none⟩ = some (.int .i64 mf) := hSw.a.cell 1
    have c2 : w0.cell? ⟨w.heap.size, 2, none⟩ = some (.int .i64 xf) := hSw.a.cell 2
    have d0 : w0.cell? ⟨w.heap.size + 1, 0, none⟩ = some (.bool n) := hSw.b.cell 0
    have d1 : w0.cell? ⟨w.heap.size + 1, 1, none⟩ = some (.string s) := hSw.b.cell 1
    have d2 : w0.cell? ⟨w.heap.size + 1, 2, none⟩ = some (.int .i64 k) := hSw.b.cell 2
    (go_simp <;> with_reducible rfl)
  try simp only [Act.put, List.setIfInBounds_toArray, List.set_cons_zero, List.set_cons_succ]
  refine wpAnyH_take (i := 2) (v := ?_) rfl (by kernel_rfl) (by kernel_rfl) (by kernel_rfl) (fun _ _ _ h => h) (Or.inl ⟨by kernel_rfl, ?_⟩) (by assumption) ?_
  rotate_left
  · intro w0 hSw
    have c1 : w0.cell? ⟨w.heap.size, 1, none⟩ = some (.int .i64 mf) := hSw.a.cell 1
    have c2 : w0.cell? ⟨w.heap.size, 2, none⟩ = some (.int .i64 xf) := hSw.a.cell 2
    have d0 : w0.cell? ⟨w.heap.size + 1, 0, none⟩ = some (.bool n) := hSw.b.cell 0
    have d1 : w0.cell? ⟨w.heap.size + 1, 1, none⟩ = some (.string s) := hSw.b.cell 1
    have d2 : w0.cell? ⟨w.heap.size + 1, 2, none⟩ = some (.int .i64 k) := hSw.b.cell 2
    (go_simp <;> with_reducible rfl)
  try simp only [Act.put, List.setIfInBounds_toArray, List.set_cons_zero, List.set_cons_succ]
  refine wpAnyH_take (i := 4) (v := ?_) rfl (by kernel_rfl) (by kernel_rfl) (by kernel_rfl) (fun _ _ _ h => h) (Or.inl ⟨by kernel_rfl, ?_⟩) (by assumption) ?_
  rotate_left
  · intro w0 hSw
    have c1 : w0.cell? ⟨w.heap.size, 1, none⟩ = some (.int .i64 mf) := hSw.a.cell 1
    have c2 : w0.cell? ⟨w.heap.size, 2, none⟩ = some (.int .i64 xf) := hSw.a.cell 2
    have d0 : w0.cell? ⟨w.heap.size + 1, 0, none⟩ = some (.bool n) := hSw.b.cell 0
    have d1 : w0.cell? ⟨w.heap.size + 1, 1, none⟩ = some (.string s) := hSw.b.cell 1
    have d2 : w0.cell? ⟨w.heap.size + 1, 2, none⟩ = some (.int .i64 k) := hSw.b.cell 2
    (go_simp <;> with_reducible rfl)
  try simp only [Act.put, List.setIfInBounds_toArray, List.set_cons_zero, List.set_cons_succ]
  refine wpAnyH_take (i := 5) (v := ?_) rfl (by kernel_rfl) (by kernel_rfl) (by kernel_rfl) (fun _ _ _ h => h) (Or.inl ⟨by kernel_rfl, ?_⟩) (by assumption) ?_
  rotate_left
  · intro w0 hSw
    have c1 : w0.cell? ⟨w.heap.size, 1, none⟩ = some (.int .i64 mf) := hSw.a.cell 1
    have c2 : w0.cell? ⟨w.heap.size, 2, none⟩ = some (.int .i64 xf) := hSw.a.cell 2
    have d0 : w0.cell? ⟨w.heap.size + 1, 0, none⟩ = some (.bool n) := hSw.b.cell 0
    have d1 : w0.cell? ⟨w.heap.size + 1, 1, none⟩ = some (.string s) := hSw.b.cell 1
    have d2 : w0.cell? ⟨w.heap.size + 1, 2, none⟩ = some (.int .i64 k) := hSw.b.cell 2
    (go_simp <;> with_reducible rfl)
  try simp only [Act.put, List.setIfInBounds_toArray, List.set_cons_zero, List.set_cons_succ]
  refine wpAnyH_take (i := 7) (v := ?_) rfl (by kernel_rfl) (by kernel_rfl) (by kernel_rfl) (fun _ _ _ h => h) (Or.inl ⟨by kernel_rfl, ?_⟩) (by assumption) ?_
  rotate_left
  · intro w0 hSw
    have c1 : w0.cell? ⟨w.heap.size, 1, none⟩ = some (.int .i64 mf) := hSw.a.cell 1
    have c2 : w0.cell? ⟨w.heap.size, 2, none⟩ = some (.int .i64 xf) := hSw.a.cell 2
    have d0 : w0.cell? ⟨w.heap.size + 1, 0, none⟩ = some (.bool n) := hSw.b.cell 0
    have d1 : w0.cell? ⟨w.heap.size + 1, 1, none⟩ = some (.string s) := hSw.b.cell 1
    have d2 : w0.cell? ⟨w.heap.size + 1, 2, none⟩ = some (.int .i64 k) := hSw.b.cell 2
    (go_simp <;> with_reducible rfl)
  try simp only [Act.put, List.setIfInBounds_toArray, List.set_cons_zero, List.set_cons_succ]
  refine wpAnyH_take (i := 8) (v := ?_) rfl (by kernel_rfl) (by kernel_rfl) (by kernel_rfl) (fun _ _ _ h => h) (Or.inl ⟨by kernel_rfl, ?_⟩) (by assumption) ?_
  rotate_left
  · intro w0 hSw
    have c1 : w0.cell? ⟨w.heap.size, 1, none⟩ = some (.int .i64 mf) := hSw.a.cell 1
    have c2 : w0.cell? ⟨w.heap.size, 2, none⟩ = some (.int .i64 xf) := hSw.a.cell 2
    have d0 : w0.cell? ⟨w.heap.size + 1, 0, none⟩ = some (.bool n) := hSw.b.cell 0
    have d1 : w0.cell? ⟨w.heap.size + 1, 1, none⟩ = some (.string s) := hSw.b.cell 1
    have d2 : w0.cell? ⟨w.heap.size + 1, 2, none⟩ = some (.int .i64 k) := hSw.b.cell 2
    (go_simp <;> with_reducible rfl)
  try simp only [Act.put, List.setIfInBounds_toArray, List.set_cons_zero, List.set_cons_succ]
  refine wpAnyH_ready (rs := [3]) (by kernel_rfl) (by simp) ?_
  refine AllReadyH.cons rfl (fun K hK => ?_) AllReadyH.nil
  go_simp
  go_at_call 87
  refine (HR.out _).mono ?_
  rintro e x1 ⟨rfl, hbx⟩
  go_wp2_with fail
  refine hK.out _ _ (hHeld.later hbx) (fun hHeld2 => ?_)
  clear hHeld hbx hK K
  have hHeld := hHeld2
  clear hHeld2
  try simp only [Act.put, List.setIfInBounds_toArray, List.set_cons_zero, List.set_cons_succ]
  refine wpAnyH_ready (rs := [6]) (by kernel_rfl) (by simp) ?_
  refine AllReadyH.cons rfl (fun K hK => ?_) AllReadyH.nil
  go_simp
  go_at_call 88
  refine (HT.out _).mono ?_
  rintro e x1 ⟨rfl, hbx⟩
  go_wp2_with fail
  refine hK.out _ _ (hHeld.later hbx) (fun hHeld2 => ?_)
  clear hHeld hbx hK K
  have hHeld := hHeld2
  clear hHeld2
  try simp only [Act.put, List.setIfInBounds_toArray, List.set_cons_zero, List.set_cons_succ]
  refine wpAnyH_ready (rs := [9]) (by kernel_rfl) (by simp) ?_
  refine AllReadyH.cons rfl (fun K hK => ?_) AllReadyH.nil
  go_simp
  go_at_call 89
  refine (HP.out _).mono ?_
  rintro e x1 ⟨rfl, hbx⟩
  go_wp2_with fail
  refine hK.out _ _ (hHeld.later hbx) (fun hHeld2 => ?_)
  clear hHeld hbx hK K
  have hHeld := hHeld2
  clear hHeld2
  try simp only [Act.put, List.setIfInBounds_toArray, List.set_cons_zero, List.set_cons_succ]
  refine wpAnyH_ready (rs := [10]) (by kernel_rfl) (by simp) ?_
  refine AllReadyH.cons rfl (fun K hK => ?_) AllReadyH.nil
  obtain ⟨r0, r1, r2, hr⟩ := hHeld.r
  have e0 := hr.cell 0
  have e1 := hr.cell 1
  have e2 := hr.cell 2
  have z0 := hr.z 0
  have z1 := hr.z 1
  have z2 := hr.z 2
  have Hr := Lib.hid hr
  clear hr
  simp only [List.getElem?_toArray, List.getElem?_cons_zero, List.getElem?_cons_succ] at e0 e1 e2
  go_simp
  refine hK.out _ _ (hHeld.store (by refine ⟨?_, ?_, ?_⟩ <;> omega) _ _ _) (fun hHeld2 => ?_)
  try simp only [Act.put, List.setIfInBounds_toArray, List.set_cons_zero, List.set_cons_succ]
  refine wpAnyH_done (by kernel_rfl) ?_ _
  go_wp2
  exact bodyPost_ret (v := .agg #[.bool n, .string s3, .int .i64 k3]) (by simp [results, Tryz.results56, go_sem, e0, e1, e2]) rfl ⟨rfl, Below.set3 hHeld.bel (by omega) _ _ _⟩
structure No2 (w : World) (ca cb : Array Value) (W : World) : Prop where
  a : BoxAt W w.heap.size ca 66
  b : BoxAt W (w.heap.size + 1) cb 64
  bel : Below w.heap.size w W
theorem No2.later {w W W' : World} {ca cb : Array Value} (h : No2 w ca cb W) (g : Below W.heap.size W W') : No2 w ca cb W' := ⟨h.a.later g, h.b.later g, h.bel.trans (g.mono h.bel.size)⟩
theorem No2.keep {w W W' : World} {mi : Value} {n r k : Value} {x1 x2 x3 x4 : Value} (g : Below W.heap.size W W') (h : W.cell? ⟨w.heap.size, 0, none⟩ = some mi ∧ W.cell? ⟨w.heap.size + 1, 0, none⟩ = some n ∧ W.cell? ⟨w.heap.size + 1, 1, none⟩ = some r ∧ W.cell? ⟨w.heap.size + 1, 2, none⟩ = some k ∧ No2 w #[mi, x1, x2, x3, x4] #[n, r, k] W) :
    W'.cell? ⟨w.heap.size, 0, none⟩ = some mi ∧ W'.cell? ⟨w.heap.size + 1, 0, none⟩ = some n ∧ W'.cell? ⟨w.heap.size + 1, 1, none⟩ = some r ∧ W'.cell? ⟨w.heap.size + 1, 2, none⟩ = some k ∧ No2 w #[mi, x1, x2, x3, x4] #[n, r, k] W' := by
  have := h.2.2.2.2.later g
  exact ⟨this.a.cell 0, this.b.cell 0, this.b.cell 1, this.b.cell 2, this⟩
theorem no2_below {w W : World} {ca cb : Array Value} {mi n r k : Value} (h : W.cell? ⟨w.heap.size, 0, none⟩ = some mi ∧ W.cell? ⟨w.heap.size + 1, 0, none⟩ = some n ∧ W.cell? ⟨w.heap.size + 1, 1, none⟩ = some r ∧ W.cell? ⟨w.heap.size + 1, 2, none⟩ = some k ∧ No2 w ca cb W) : Below w.heap.size w W := h.2.2.2.2.bel
set_option maxHeartbeats 4000000 in
set_option maxRecDepth 100000 in
theorem noughts_core (mi mf xf kr d : Int) (j : Nat) (pl rk n : Bool) (R Wh Z : ByteArray) (w : World)
    (hW : ∀ W : World, Calls Tryz.prog 33 #[.agg #[.bool n, .string R, .int .i64 kr]] W fun e w' => e = .returned (.string Wh) ∧ Below W.heap.size W w')
    (hZ : ∀ W : World, Calls Tryz.prog 90 #[.string ⟨#[48]⟩, .int .i64 (j : Int)] W fun e w' => e = .returned (.string Z) ∧ Below W.heap.size W w')
    (h1 : IntKind.i64.wrap (mi - (Wh.size : Int)) = d) (h2 : wrap64 (mi - (Wh.size : Int)) = d) (h3 : max d 0 = (j : Int)) (h4 : Wh.size ≤ 9223372036854775807) :
    Calls Tryz.prog 57 #[.agg #[.int .i64 mi, .int .i64 mf, .int .i64 xf, .bool pl, .bool rk], .agg #[.bool n, .string R, .int .i64 kr]] w fun e w' => e = .returned (.string Z) ∧ Below w.heap.size w w' := by
  have HW := Lib.hid hW
  have HZ := Lib.hid hZ
  clear hW hZ
  have hs : (((w.alloc (.cells #[.int .i64 mi, .int .i64 mf, .int .i64 xf, .bool pl, .bool rk] 66)).alloc (.cells #[.bool n, .string R, .int .i64 kr] 64)).drew).cell? ⟨w.heap.size, 0, none⟩ = some (.int .i64 mi) := ((BoxAt.new w _ _).alloc _).cell 0
  have B0 : BoxAt (((w.alloc (.cells #[.int .i64 mi, .int .i64 mf, .int .i64 xf, .bool pl, .bool rk] 66)).alloc (.cells #[.bool n, .string R, .int .i64 kr] 64)).drew) w.heap.size #[.int .i64 mi, .int .i64 mf, .int .i64 xf, .bool pl, .bool rk] 66 := (BoxAt.new w _ _).alloc _
  have B1 : BoxAt (((w.alloc (.cells #[.int .i64 mi, .int .i64 mf, .int .i64 xf, .bool pl, .bool rk] 66)).alloc (.cells #[.bool n, .string R, .int .i64 kr] 64)).drew) (w.heap.size + 1) #[.bool n, .string R, .int .i64 kr] 64 := BoxAt.new' _ _ _ _ (by simp)
  have H0 := Lib.hid (No2.mk B0 B1 (((Below.refl w.heap.size w).alloc (Nat.le_refl _) _).alloc (by simp) _).drew)
  clear B0 B1 hs
  go_enter Tryz.func57, Tryz.ntmps57
  go_wp2_with fail
  go_region_held3 (fun w' => w'.cell? ⟨w.heap.size, 0, none⟩ = some (.int .i64 mi) ∧ w'.cell? ⟨w.heap.size + 1, 0, none⟩ = some (.bool n) ∧ w'.cell? ⟨w.heap.size + 1, 1, none⟩ = some (.string R) ∧ w'.cell? ⟨w.heap.size + 1, 2, none⟩ = some (.int .i64 kr) ∧ No2 w #[.int .i64 mi, .int .i64 mf, .int .i64 xf, .bool pl, .bool rk] #[.bool n, .string R, .int .i64 kr] w')
    (first | (exact No2.keep (by assumption) (by assumption)) | (exact ⟨H0.out.a.cell 0, H0.out.b.cell 0, H0.out.b.cell 1, H0.out.b.cell 2, H0.out⟩) | go_keep)
    (first | (go_at_call 33; refine (HW.out _).mono ?_; rintro e w1 ⟨rfl, hb1⟩) | (go_at_call 90; refine (HZ.out _).mono ?_; rintro e w1 ⟨rfl, hb1⟩))
  all_goals
    go_wp2
    go_ret
    exact ⟨rfl, no2_below (by assumption)⟩
end Go.Proofs.YtpgiboblonlddaaGreatDoor
