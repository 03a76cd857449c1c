/-
  DecTrims: noughts at the end are left out, or put there, and the number is the same. Conditions: none.
-/
import Derived.Test.YtjgfijpgoffmlabDoorFixCmp
import Derived.Test.YtjgfijpgoffmlabDoorLawRight
import Derived.Test.YtjgfijpgoffmlabDoorLawRightN
import Derived.Test.YtjgfijpgoffmlabDoorTrimWalk
import Derived.Test.YtjgfijpgoffmlabDoorA11
import Derived.Deep.RegionWith
import Derived.Deep.DrawnRows
import Derived.Deep.CutBlock
namespace Go.Proofs.YtjgfijpgoffmlabDoor
open Go.RowKit
attribute [local go_sem ↓] Go.wp_at_zero Go.wp_at_succ
set_option linter.unusedVariables false
set_option linter.unusedSimpArgs false

theorem box9 {D T P Z : Nat} {w W w1 : World} {d0 d1 d2 t0 t1 t2 p0 p1 p2 : Value} (hb1 : Below W.heap.size W w1) (h : W.cell? ⟨D, 0, none⟩ = some d0 ∧ W.cell? ⟨D, 1, none⟩ = some d1 ∧ W.cell? ⟨D, 2, none⟩ = some d2 ∧ W.cell? ⟨T, 0, none⟩ = some t0 ∧ W.cell? ⟨T, 1, none⟩ = some t1 ∧ W.cell? ⟨T, 2, none⟩ = some t2 ∧ W.cell? ⟨P, 0, none⟩ = some p0 ∧ W.cell? ⟨P, 1, none⟩ = some p1 ∧ W.cell? ⟨P, 2, none⟩ = some p2 ∧ D < W.heap.size ∧ T < W.heap.size ∧ P < W.heap.size ∧ Z ≤ W.heap.size ∧ Below Z w W) : w1.cell? ⟨D, 0, none⟩ = some d0 ∧ w1.cell? ⟨D, 1, none⟩ = some d1 ∧ w1.cell? ⟨D, 2, none⟩ = some d2 ∧ w1.cell? ⟨T, 0, none⟩ = some t0 ∧ w1.cell? ⟨T, 1, none⟩ = some t1 ∧ w1.cell? ⟨T, 2, none⟩ = some t2 ∧ w1.cell? ⟨P, 0, none⟩ = some p0 ∧ w1.cell? ⟨P, 1, none⟩ = some p1 ∧ w1.cell? ⟨P, 2, none⟩ = some p2 ∧ D < w1.heap.size ∧ T < w1.heap.size ∧ P < w1.heap.size ∧ Z ≤ w1.heap.size ∧ Below Z w w1 := by
  obtain ⟨f0, f1, f2, f3, f4, f5, f6, f7, f8, zA, zB, zC, zZ, hB⟩ := h
  have hz := hb1.size
  have c := (bcell hb1).1
  exact ⟨(c D 0 zA).trans f0, (c D 1 zA).trans f1, (c D 2 zA).trans f2, (c T 0 zB).trans f3, (c T 1 zB).trans f4, (c T 2 zB).trans f5, (c P 0 zC).trans f6, (c P 1 zC).trans f7, (c P 2 zC).trans f8, by omega, by omega, by omega, by omega, hB.trans (hb1.mono zZ)⟩
theorem box9_id {D T P Z : Nat} {w W : World} {d0 d1 d2 t0 t1 t2 p0 p1 p2 : Value} (h : W.cell? ⟨D, 0, none⟩ = some d0 ∧ W.cell? ⟨D, 1, none⟩ = some d1 ∧ W.cell? ⟨D, 2, none⟩ = some d2 ∧ W.cell? ⟨T, 0, none⟩ = some t0 ∧ W.cell? ⟨T, 1, none⟩ = some t1 ∧ W.cell? ⟨T, 2, none⟩ = some t2 ∧ W.cell? ⟨P, 0, none⟩ = some p0 ∧ W.cell? ⟨P, 1, none⟩ = some p1 ∧ W.cell? ⟨P, 2, none⟩ = some p2 ∧ D < W.heap.size ∧ T < W.heap.size ∧ P < W.heap.size ∧ Z ≤ W.heap.size ∧ Below Z w W) : W.cell? ⟨D, 0, none⟩ = some d0 ∧ W.cell? ⟨D, 1, none⟩ = some d1 ∧ W.cell? ⟨D, 2, none⟩ = some d2 ∧ W.cell? ⟨T, 0, none⟩ = some t0 ∧ W.cell? ⟨T, 1, none⟩ = some t1 ∧ W.cell? ⟨T, 2, none⟩ = some t2 ∧ W.cell? ⟨P, 0, none⟩ = some p0 ∧ W.cell? ⟨P, 1, none⟩ = some p1 ∧ W.cell? ⟨P, 2, none⟩ = some p2 ∧ D < W.heap.size ∧ T < W.heap.size ∧ P < W.heap.size ∧ Z ≤ W.heap.size ∧ Below Z w W := h

/-- A number of three cells, and the frame. -/
structure One3 (Z : Nat) (w W : World) (a0 a1 a2 : Value) : Prop where
  a0 : W.cell? ⟨Z, 0, none⟩ = some a0
  a1 : W.cell? ⟨Z, 1, none⟩ = some a1
  a2 : W.cell? ⟨Z, 2, none⟩ = some a2
  zA : Z + 1 ≤ W.heap.size
  hB : Below w.heap.size w W
theorem One3.next {Z : Nat} {w W w1 : World} {a0 a1 a2 : Value} (h : One3 Z w W a0 a1 a2) (hb : Below W.heap.size W w1) : One3 Z w w1 a0 a1 a2 := by
  have hz := hb.size
  have zA := h.zA
  have hw := h.hB.size
  exact ⟨((bcell hb).1 Z 0 (by omega)).trans h.a0, ((bcell hb).1 Z 1 (by omega)).trans h.a1, ((bcell hb).1 Z 2 (by omega)).trans h.a2, by omega, h.hB.trans (hb.mono hw)⟩
theorem One3.alloc {Z : Nat} {w W : World} {a0 a1 a2 : Value} (h : One3 Z w W a0 a1 a2) (o : Obj) : One3 Z w (W.alloc o) a0 a1 a2 := h.next ((Below.refl _ _).alloc (Nat.le_refl _) o)
theorem One3.start {w w1 : World} {t1 : TypeId} {a0 a1 a2 : Value} (hb : Below (w.alloc (.cells #[a0, a1, a2] t1)).heap.size (w.alloc (.cells #[a0, a1, a2] t1)) w1) : One3 w.heap.size w w1 a0 a1 a2 := by
  refine One3.next (W := w.alloc (.cells #[a0, a1, a2] t1)) ⟨?_, ?_, ?_, by simp, (Below.refl _ _).alloc (Nat.le_refl _) _⟩ hb
  all_goals go_simp
theorem One3.new {w W : World} {t1 : TypeId} {a0 a1 a2 : Value} (h : Below w.heap.size w W) : One3 W.heap.size w (W.alloc (.cells #[a0, a1, a2] t1)) a0 a1 a2 := by
  refine ⟨?_, ?_, ?_, by simp, h.alloc h.size _⟩
  all_goals go_simp

def OfTo (n : Bool) (s : ByteArray) (k : Nat) (A : Nat → Int) : Prop := ∀ W : World, Calls Tryd.prog 16 #[.agg #[.bool n, .string s, .int .i64 k]] W fun e w' => e = .returned (.agg (row 200 A)) ∧ Below W.heap.size W w'
theorem OfTo.at_ {n : Bool} {s : ByteArray} {k : Nat} {A : Nat → Int} (h : OfTo n s k A) (W : World) : Calls Tryd.prog 16 #[.agg #[.bool n, .string s, .int .i64 k]] W fun e w' => e = .returned (.agg (row 200 A)) ∧ Below W.heap.size W w' := h W
def RigTo (n : Bool) (s : ByteArray) (k : Nat) : Prop := ∀ W : World, Calls Tryd.prog 12 #[.agg #[.bool n, .string s, .int .i64 k]] W fun e w' => e = .returned (.bool true) ∧ Below W.heap.size W w'
theorem RigTo.at_ {n : Bool} {s : ByteArray} {k : Nat} (h : RigTo n s k) (W : World) : Calls Tryd.prog 12 #[.agg #[.bool n, .string s, .int .i64 k]] W fun e w' => e = .returned (.bool true) ∧ Below W.heap.size W w' := h W

set_option maxHeartbeats 12000000 in
set_option maxRecDepth 100000 in
theorem trims_core (n : Bool) (s ts ps : ByteArray) (k tk pk m : Nat) (A : Nat → Int) (x : Int) (w : World) (hsh : w.ShapedOpen Tryd.prog) (hx0 : -9223372036854775808 ≤ x) (hx1 : x ≤ 9223372036854775807) (hm : x.toNat = m) (hN : Num s.data.toList k)
    (ht : ∀ W, Calls Tryd.prog 23 #[.agg #[.bool n, .string s, .int .i64 k], .int .i64 x] W fun e w' => e = .returned (.agg #[.bool n, .string ts, .int .i64 tk]) ∧ Below W.heap.size W w')
    (hp : ∀ W, Calls Tryd.prog 24 #[.agg #[.bool n, .string s, .int .i64 k], .int .i64 x] W fun e w' => e = .returned (.agg #[.bool n, .string ps, .int .i64 pk]) ∧ Below W.heap.size W w')
    (od : OfTo n s k A) (ot : OfTo n ts tk A) (op : OfTo n ps pk A) (rt : RigTo n ts tk) (rp : RigTo n ps pk) (hk60 : k ≤ 60) (htk : tk ≤ k) (htl : m < tk → ∃ h : 0 < ts.size, ((ts[ts.size - 1]'(by omega)).toNat : Int) ≠ 48) (htm : tk < m → tk = k) (hts : ts.size ≤ 60) (hpk : pk = max k (min m 40)) :
    Calls Tryd.prog 6 #[.agg #[.bool n, .string s, .int .i64 k], .int .i64 x] w fun e w' => e = .returned (.bool true) ∧ Below w.heap.size w w' := by
  have hrs := row_size 200
  have hq := fix_eq
  have hAA : eqF A A 200 = true := (eqF_iff A A 200).2 (fun _ _ => rfl)
  have Htl := Lib.hid htl
  have Htm := Lib.hid htm
  have Hpk := Lib.hid hpk
  have HN := Lib.hid hN
  clear htl htm hpk hN
  go_enter Tryd.func6, Tryd.ntmps6
  go_wp2_with fail
  go_at_call 8
  refine (head_any _ (shp_alloc hsh _)).mono ?_
  rintro e wh ⟨rfl, hbh⟩
  have K := One3.start hbh
  clear hbh hsh
  have q1 := HN.out.le
  have q2 := HN.out.lt
  rw [size_data] at q1 q2
  obtain ⟨f0, f1, f2, zA, hB⟩ := K
  go_wp2_with fail
  go_at_call 15
  refine (lawRight_num n s k _ HN.out).mono ?_
  rintro e wr ⟨rfl, hb⟩
  have K := One3.next ⟨f0, f1, f2, zA, hB⟩ hb
  clear f0 f1 f2 zA hB hb
  obtain ⟨f0, f1, f2, zA, hB⟩ := K
  go_wp2_with fail
  go_at_call 23
  refine (ht _).mono ?_
  rintro e wt ⟨rfl, hb⟩
  have K := One3.next ⟨f0, f1, f2, zA, hB⟩ hb
  clear f0 f1 f2 zA hB hb
  go_upto_region 6 with fail
  have KT := One3.new (t1 := 24) (a0 := .bool n) (a1 := .string ts) (a2 := .int .i64 tk) K.hB
  replace K := K.alloc (.cells #[.bool n, .string ts, .int .i64 tk] 24)
  generalize wt.heap.size = T at *
  generalize wt.alloc (.cells #[.bool n, .string ts, .int .i64 tk] 24) = wt2 at *
  have HK := Lib.hid K
  obtain ⟨f0, f1, f2, zA, hB⟩ := K
  go_wp2_with fail
  go_at_call 24
  refine (hp _).mono ?_
  rintro e wp ⟨rfl, hb⟩
  have K := One3.next HK.out hb
  replace KT := KT.next hb
  clear f0 f1 f2 zA hB hb HK
  go_upto_region 7 with fail
  have KP := One3.new (t1 := 24) (a0 := .bool n) (a1 := .string ps) (a2 := .int .i64 pk) K.hB
  replace K := K.alloc (.cells #[.bool n, .string ps, .int .i64 pk] 24)
  replace KT := KT.alloc (.cells #[.bool n, .string ps, .int .i64 pk] 24)
  generalize wp.heap.size = P at *
  generalize wp.alloc (.cells #[.bool n, .string ps, .int .i64 pk] 24) = wq at *
  have B9 : wq.cell? ⟨w.heap.size, 0, none⟩ = some (.bool n) ∧ wq.cell? ⟨w.heap.size, 1, none⟩ = some (.string s) ∧ wq.cell? ⟨w.heap.size, 2, none⟩ = some (.int .i64 k) ∧ wq.cell? ⟨T, 0, none⟩ = some (.bool n) ∧ wq.cell? ⟨T, 1, none⟩ = some (.string ts) ∧ wq.cell? ⟨T, 2, none⟩ = some (.int .i64 tk) ∧ wq.cell? ⟨P, 0, none⟩ = some (.bool n) ∧ wq.cell? ⟨P, 1, none⟩ = some (.string ps) ∧ wq.cell? ⟨P, 2, none⟩ = some (.int .i64 pk) ∧ w.heap.size < wq.heap.size ∧ T < wq.heap.size ∧ P < wq.heap.size ∧ w.heap.size ≤ wq.heap.size ∧ Below w.heap.size w wq := ⟨K.a0, K.a1, K.a2, KT.a0, KT.a1, KT.a2, KP.a0, KP.a1, KP.a2, K.zA, KT.zA, KP.zA, K.hB.size, K.hB⟩
  have HB9 := Lib.hid B9
  clear K KT KP B9 ht hp
  by_cases hxn : x < 0
  · go_upto_region 9 with fail
    refine wp_region_held_drew (S := (fun w' => w'.cell? ⟨w.heap.size, 0, none⟩ = some (.bool n) ∧ w'.cell? ⟨w.heap.size, 1, none⟩ = some (.string s) ∧ w'.cell? ⟨w.heap.size, 2, none⟩ = some (.int .i64 k) ∧ w'.cell? ⟨T, 0, none⟩ = some (.bool n) ∧ w'.cell? ⟨T, 1, none⟩ = some (.string ts) ∧ w'.cell? ⟨T, 2, none⟩ = some (.int .i64 tk) ∧ w'.cell? ⟨P, 0, none⟩ = some (.bool n) ∧ w'.cell? ⟨P, 1, none⟩ = some (.string ps) ∧ w'.cell? ⟨P, 2, none⟩ = some (.int .i64 pk) ∧ w.heap.size < w'.heap.size ∧ T < w'.heap.size ∧ P < w'.heap.size ∧ w.heap.size ≤ w'.heap.size ∧ Below w.heap.size w w')) (by kernel_rfl) (box9 (Below.refl _ _).drew HB9.out) (fun hHeld => ?_)
    refine wpAnyH_take (i := 0) (v := ?_) rfl (by kernel_rfl) (by kernel_rfl) (by kernel_rfl) (fun _ _ _ h => h) (Or.inl ⟨by kernel_rfl, ?_⟩) (by assumption) ?_
    rotate_left
    · intro w0 hSw; (try dsimp only at hSw); (obtain ⟨y0, y1, y2, y3, y4, y5, y6, y7, y8, _, _, _, _, _⟩ := hSw); (go_simp <;> with_reducible rfl)
    try simp only [Act.put, List.setIfInBounds_toArray, List.set_cons_zero, List.set_cons_succ]
    refine wpAnyH_take (i := 2) (v := ?_) rfl (by kernel_rfl) (by kernel_rfl) (by kernel_rfl) (fun _ _ _ h => h) (Or.inl ⟨by kernel_rfl, ?_⟩) (by assumption) ?_
    rotate_left
    · intro w0 hSw; (try dsimp only at hSw); (obtain ⟨y0, y1, y2, y3, y4, y5, y6, y7, y8, _, _, _, _, _⟩ := hSw); (go_simp <;> with_reducible rfl)
    try simp only [Act.put, List.setIfInBounds_toArray, List.set_cons_zero, List.set_cons_succ]
    refine wpAnyH_ready (rs := [1]) (by kernel_rfl) (by simp) ?_
    refine AllReadyH.cons rfl (fun K hK => ?_) AllReadyH.nil
    go_simp
    go_at_call 16
    refine (ot.at_ _).mono ?_
    rintro e x1 ⟨rfl, hbx⟩
    go_wp2_with fail
    refine hK.out _ _ (box9 hbx hHeld) (fun hHeld2 => ?_)
    clear hHeld hbx hK K
    have hHeld := hHeld2
    clear hHeld2
    try simp only [Act.put, List.setIfInBounds_toArray, List.set_cons_zero, List.set_cons_succ]
    refine wpAnyH_ready (rs := [3]) (by kernel_rfl) (by simp) ?_
    refine AllReadyH.cons rfl (fun K hK => ?_) AllReadyH.nil
    go_simp
    go_at_call 16
    refine (od.at_ _).mono ?_
    rintro e x2 ⟨rfl, hbx⟩
    go_wp2_with fail
    refine hK.out _ _ (box9 hbx hHeld) (fun hHeld2 => ?_)
    clear hHeld hbx hK K
    have hHeld := hHeld2
    clear hHeld2
    try simp only [Act.put, List.setIfInBounds_toArray, List.set_cons_zero, List.set_cons_succ]
    refine wpAnyH_take (i := 4) (v := ?_) rfl (by kernel_rfl) (by kernel_rfl) (by kernel_rfl) (fun _ _ _ h => h) (Or.inl ⟨by kernel_rfl, ?_⟩) (by assumption) ?_
    rotate_left
    · intro w0 hSw; (try dsimp only at hSw); (obtain ⟨y0, y1, y2, y3, y4, y5, y6, y7, y8, _, _, _, _, _⟩ := hSw); (go_simp <;> with_reducible rfl)
    try simp only [Act.put, List.setIfInBounds_toArray, List.set_cons_zero, List.set_cons_succ]
    refine wpAnyH_take (i := 5) (v := ?_) rfl (by kernel_rfl) (by kernel_rfl) (by kernel_rfl) (fun _ _ _ h => h) (Or.inl ⟨by kernel_rfl, ?_⟩) (by assumption) ?_
    rotate_left
    · intro w0 hSw; (try dsimp only at hSw); (obtain ⟨y0, y1, y2, y3, y4, y5, y6, y7, y8, _, _, _, _, _⟩ := hSw); (go_simp <;> with_reducible rfl)
    try simp only [Act.put, List.setIfInBounds_toArray, List.set_cons_zero, List.set_cons_succ]
    refine wpAnyH_take (i := 6) (v := ?_) rfl (by kernel_rfl) (by kernel_rfl) (by kernel_rfl) (fun _ _ _ h => h) (Or.inl ⟨by kernel_rfl, ?_⟩) (by assumption) ?_
    rotate_left
    · intro w0 hSw; (try dsimp only at hSw); (obtain ⟨y0, y1, y2, y3, y4, y5, y6, y7, y8, _, _, _, _, _⟩ := hSw); (go_simp <;> with_reducible rfl)
    try simp only [Act.put, List.setIfInBounds_toArray, List.set_cons_zero, List.set_cons_succ]
    refine wpAnyH_take (i := 8) (v := ?_) rfl (by kernel_rfl) (by kernel_rfl) (by kernel_rfl) (fun _ _ _ h => h) (Or.inl ⟨by kernel_rfl, ?_⟩) (by assumption) ?_
    rotate_left
    · intro w0 hSw; (try dsimp only at hSw); (obtain ⟨y0, y1, y2, y3, y4, y5, y6, y7, y8, _, _, _, _, _⟩ := hSw); (go_simp <;> with_reducible rfl)
    try simp only [Act.put, List.setIfInBounds_toArray, List.set_cons_zero, List.set_cons_succ]
    refine wpAnyH_ready (rs := [7]) (by kernel_rfl) (by simp) ?_
    refine AllReadyH.cons rfl (fun K hK => ?_) AllReadyH.nil
    go_simp
    go_at_call 16
    refine (op.at_ _).mono ?_
    rintro e x3 ⟨rfl, hbx⟩
    go_wp2_with fail
    refine hK.out _ _ (box9 hbx hHeld) (fun hHeld2 => ?_)
    clear hHeld hbx hK K
    have hHeld := hHeld2
    clear hHeld2
    try simp only [Act.put, List.setIfInBounds_toArray, List.set_cons_zero, List.set_cons_succ]
    refine wpAnyH_ready (rs := [9]) (by kernel_rfl) (by simp) ?_
    refine AllReadyH.cons rfl (fun K hK => ?_) AllReadyH.nil
    go_simp
    go_at_call 16
    refine (od.at_ _).mono ?_
    rintro e x4 ⟨rfl, hbx⟩
    go_wp2_with fail
    refine hK.out _ _ (box9 hbx hHeld) (fun hHeld2 => ?_)
    clear hHeld hbx hK K
    have hHeld := hHeld2
    clear hHeld2
    try simp only [Act.put, List.setIfInBounds_toArray, List.set_cons_zero, List.set_cons_succ]
    refine wpAnyH_take (i := 10) (v := ?_) rfl (by kernel_rfl) (by kernel_rfl) (by kernel_rfl) (fun _ _ _ h => h) (Or.inl ⟨by kernel_rfl, ?_⟩) (by assumption) ?_
    rotate_left
    · intro w0 hSw; (try dsimp only at hSw); (obtain ⟨y0, y1, y2, y3, y4, y5, y6, y7, y8, _, _, _, _, _⟩ := hSw); (go_simp <;> with_reducible rfl)
    try simp only [Act.put, List.setIfInBounds_toArray, List.set_cons_zero, List.set_cons_succ]
    refine wpAnyH_take (i := 11) (v := ?_) rfl (by kernel_rfl) (by kernel_rfl) (by kernel_rfl) (fun _ _ _ h => h) (Or.inl ⟨by kernel_rfl, ?_⟩) (by assumption) ?_
    rotate_left
    · intro w0 hSw; (try dsimp only at hSw); (obtain ⟨y0, y1, y2, y3, y4, y5, y6, y7, y8, _, _, _, _, _⟩ := hSw); (go_simp <;> with_reducible rfl)
    try simp only [Act.put, List.setIfInBounds_toArray, List.set_cons_zero, List.set_cons_succ]
    refine wpAnyH_take (i := 12) (v := ?_) rfl (by kernel_rfl) (by kernel_rfl) (by kernel_rfl) (fun _ _ _ h => h) (Or.inl ⟨by kernel_rfl, ?_⟩) (by assumption) ?_
    rotate_left
    · intro w0 hSw; (try dsimp only at hSw); (obtain ⟨y0, y1, y2, y3, y4, y5, y6, y7, y8, _, _, _, _, _⟩ := hSw); (go_simp <;> with_reducible rfl)
    try simp only [Act.put, List.setIfInBounds_toArray, List.set_cons_zero, List.set_cons_succ]
    refine wpAnyH_take (i := 13) (v := ?_) rfl (by kernel_rfl) (by kernel_rfl) (by kernel_rfl) (fun _ _ _ h => h) (Or.inl ⟨by kernel_rfl, ?_⟩) (by assumption) ?_
    rotate_left
    · intro w0 hSw; (try dsimp only at hSw); (obtain ⟨y0, y1, y2, y3, y4, y5, y6, y7, y8, _, _, _, _, _⟩ := hSw); (go_simp <;> with_reducible rfl)
    try simp only [Act.put, List.setIfInBounds_toArray, List.set_cons_zero, List.set_cons_succ]
    refine wpAnyH_take (i := 14) (v := ?_) rfl (by kernel_rfl) (by kernel_rfl) (by kernel_rfl) (fun _ _ _ h => h) (Or.inl ⟨by kernel_rfl, ?_⟩) (by assumption) ?_
    rotate_left
    · intro w0 hSw; (try dsimp only at hSw); (obtain ⟨y0, y1, y2, y3, y4, y5, y6, y7, y8, _, _, _, _, _⟩ := hSw); (go_simp <;> with_reducible rfl)
    try simp only [Act.put, List.setIfInBounds_toArray, List.set_cons_zero, List.set_cons_succ]
    refine wpAnyH_take (i := 15) (v := ?_) rfl (by kernel_rfl) (by kernel_rfl) (by kernel_rfl) (fun _ _ _ h => h) (Or.inl ⟨by kernel_rfl, ?_⟩) (by assumption) ?_
    rotate_left
    · intro w0 hSw; (try dsimp only at hSw); (obtain ⟨y0, y1, y2, y3, y4, y5, y6, y7, y8, _, _, _, _, _⟩ := hSw); (go_simp <;> with_reducible rfl)
    try simp only [Act.put, List.setIfInBounds_toArray, List.set_cons_zero, List.set_cons_succ]
    refine wpAnyH_take (i := 16) (v := ?_) rfl (by kernel_rfl) (by kernel_rfl) (by kernel_rfl) (fun _ _ _ h => h) (Or.inl ⟨by kernel_rfl, ?_⟩) (by assumption) ?_
    rotate_left
    · intro w0 hSw; (try dsimp only at hSw); (obtain ⟨y0, y1, y2, y3, y4, y5, y6, y7, y8, _, _, _, _, _⟩ := hSw); (go_simp <;> with_reducible rfl)
    try simp only [Act.put, List.setIfInBounds_toArray, List.set_cons_zero, List.set_cons_succ]
    refine wpAnyH_take (i := 17) (v := ?_) rfl (by kernel_rfl) (by kernel_rfl) (by kernel_rfl) (fun _ _ _ h => h) (Or.inl ⟨by kernel_rfl, ?_⟩) (by assumption) ?_
    rotate_left
    · intro w0 hSw; (try dsimp only at hSw); (obtain ⟨y0, y1, y2, y3, y4, y5, y6, y7, y8, _, _, _, _, _⟩ := hSw); (go_simp <;> with_reducible rfl)
    try simp only [Act.put, List.setIfInBounds_toArray, List.set_cons_zero, List.set_cons_succ]
    refine wpAnyH_take (i := 18) (v := ?_) rfl (by kernel_rfl) (by kernel_rfl) (by kernel_rfl) (fun _ _ _ h => h) (Or.inl ⟨by kernel_rfl, ?_⟩) (by assumption) ?_
    rotate_left
    · intro w0 hSw; (try dsimp only at hSw); (obtain ⟨y0, y1, y2, y3, y4, y5, y6, y7, y8, _, _, _, _, _⟩ := hSw); (go_simp <;> with_reducible rfl)
    try simp only [Act.put, List.setIfInBounds_toArray, List.set_cons_zero, List.set_cons_succ]
    refine wpAnyH_take (i := 19) (v := ?_) rfl (by kernel_rfl) (by kernel_rfl) (by kernel_rfl) (fun _ _ _ h => h) (Or.inl ⟨by kernel_rfl, ?_⟩) (by assumption) ?_
    rotate_left
    · intro w0 hSw; (try dsimp only at hSw); (obtain ⟨y0, y1, y2, y3, y4, y5, y6, y7, y8, _, _, _, _, _⟩ := hSw); (go_simp <;> with_reducible rfl)
    try simp only [Act.put, List.setIfInBounds_toArray, List.set_cons_zero, List.set_cons_succ]
    refine wpAnyH_take (i := 20) (v := ?_) rfl (by kernel_rfl) (by kernel_rfl) (by kernel_rfl) (fun _ _ _ h => h) (Or.inl ⟨by kernel_rfl, ?_⟩) (by assumption) ?_
    rotate_left
    · intro w0 hSw; (try dsimp only at hSw); (obtain ⟨y0, y1, y2, y3, y4, y5, y6, y7, y8, _, _, _, _, _⟩ := hSw); (go_simp <;> with_reducible rfl)
    try simp only [Act.put, List.setIfInBounds_toArray, List.set_cons_zero, List.set_cons_succ]
    refine wpAnyH_take (i := 21) (v := ?_) rfl (by kernel_rfl) (by kernel_rfl) (by kernel_rfl) (fun _ _ _ h => h) (Or.inl ⟨by kernel_rfl, ?_⟩) (by assumption) ?_
    rotate_left
    · intro w0 hSw; (try dsimp only at hSw); (obtain ⟨y0, y1, y2, y3, y4, y5, y6, y7, y8, _, _, _, _, _⟩ := hSw); (go_simp <;> with_reducible rfl)
    try simp only [Act.put, List.setIfInBounds_toArray, List.set_cons_zero, List.set_cons_succ]
    refine wpAnyH_take (i := 22) (v := ?_) rfl (by kernel_rfl) (by kernel_rfl) (by kernel_rfl) (fun _ _ _ h => h) (Or.inl ⟨by kernel_rfl, ?_⟩) (by assumption) ?_
    rotate_left
    · intro w0 hSw; (try dsimp only at hSw); (obtain ⟨y0, y1, y2, y3, y4, y5, y6, y7, y8, _, _, _, _, _⟩ := hSw); (go_simp <;> with_reducible rfl)
    try simp only [Act.put, List.setIfInBounds_toArray, List.set_cons_zero, List.set_cons_succ]
    refine wpAnyH_take (i := 23) (v := ?_) rfl (by kernel_rfl) (by kernel_rfl) (by kernel_rfl) (fun _ _ _ h => h) (Or.inl ⟨by kernel_rfl, ?_⟩) (by assumption) ?_
    rotate_left
    · intro w0 hSw; (try dsimp only at hSw); (obtain ⟨y0, y1, y2, y3, y4, y5, y6, y7, y8, _, _, _, _, _⟩ := hSw); (go_simp <;> with_reducible rfl)
    try simp only [Act.put, List.setIfInBounds_toArray, List.set_cons_zero, List.set_cons_succ]
    refine wpAnyH_take (i := 24) (v := ?_) rfl (by kernel_rfl) (by kernel_rfl) (by kernel_rfl) (fun _ _ _ h => h) (Or.inl ⟨by kernel_rfl, ?_⟩) (by assumption) ?_
    rotate_left
    · intro w0 hSw; (try dsimp only at hSw); (obtain ⟨y0, y1, y2, y3, y4, y5, y6, y7, y8, _, _, _, _, _⟩ := hSw); (go_simp <;> with_reducible rfl)
    try simp only [Act.put, List.setIfInBounds_toArray, List.set_cons_zero, List.set_cons_succ]
    refine wpAnyH_take (i := 25) (v := ?_) rfl (by kernel_rfl) (by kernel_rfl) (by kernel_rfl) (fun _ _ _ h => h) (Or.inl ⟨by kernel_rfl, ?_⟩) (by assumption) ?_
    rotate_left
    · intro w0 hSw; (try dsimp only at hSw); (obtain ⟨y0, y1, y2, y3, y4, y5, y6, y7, y8, _, _, _, _, _⟩ := hSw); (go_simp <;> with_reducible rfl)
    try simp only [Act.put, List.setIfInBounds_toArray, List.set_cons_zero, List.set_cons_succ]
    refine wpAnyH_take (i := 26) (v := ?_) rfl (by kernel_rfl) (by kernel_rfl) (by kernel_rfl) (fun _ _ _ h => h) (Or.inl ⟨by kernel_rfl, ?_⟩) (by assumption) ?_
    rotate_left
    · intro w0 hSw; (try dsimp only at hSw); (obtain ⟨y0, y1, y2, y3, y4, y5, y6, y7, y8, _, _, _, _, _⟩ := hSw); (go_simp <;> with_reducible rfl)
    try simp only [Act.put, List.setIfInBounds_toArray, List.set_cons_zero, List.set_cons_succ]
    refine wpAnyH_take (i := 27) (v := ?_) rfl (by kernel_rfl) (by kernel_rfl) (by kernel_rfl) (fun _ _ _ h => h) (Or.inl ⟨by kernel_rfl, ?_⟩) (by assumption) ?_
    rotate_left
    · intro w0 hSw; (try dsimp only at hSw); (obtain ⟨y0, y1, y2, y3, y4, y5, y6, y7, y8, _, _, _, _, _⟩ := hSw); (go_simp <;> with_reducible rfl)
    try simp only [Act.put, List.setIfInBounds_toArray, List.set_cons_zero, List.set_cons_succ]
    refine wpAnyH_ready (rs := [28]) (by kernel_rfl) (by simp) ?_
    refine AllReadyH.cons rfl (fun K hK => ?_) AllReadyH.nil
    go_simp
    go_at_call 12
    refine (rt.at_ _).mono ?_
    rintro e x5 ⟨rfl, hbx⟩
    go_wp2_with fail
    refine hK.out _ _ (box9 hbx hHeld) (fun hHeld2 => ?_)
    clear hHeld hbx hK K
    have hHeld := hHeld2
    clear hHeld2
    try simp only [Act.put, List.setIfInBounds_toArray, List.set_cons_zero, List.set_cons_succ]
    refine wpAnyH_take (i := 29) (v := ?_) rfl (by kernel_rfl) (by kernel_rfl) (by kernel_rfl) (fun _ _ _ h => h) (Or.inl ⟨by kernel_rfl, ?_⟩) (by assumption) ?_
    rotate_left
    · intro w0 hSw; (try dsimp only at hSw); (obtain ⟨y0, y1, y2, y3, y4, y5, y6, y7, y8, _, _, _, _, _⟩ := hSw); (go_simp <;> with_reducible rfl)
    try simp only [Act.put, List.setIfInBounds_toArray, List.set_cons_zero, List.set_cons_succ]
    refine wpAnyH_take (i := 30) (v := ?_) rfl (by kernel_rfl) (by kernel_rfl) (by kernel_rfl) (fun _ _ _ h => h) (Or.inl ⟨by kernel_rfl, ?_⟩) (by assumption) ?_
    rotate_left
    · intro w0 hSw; (try dsimp only at hSw); (obtain ⟨y0, y1, y2, y3, y4, y5, y6, y7, y8, _, _, _, _, _⟩ := hSw); (go_simp <;> with_reducible rfl)
    try simp only [Act.put, List.setIfInBounds_toArray, List.set_cons_zero, List.set_cons_succ]
    refine wpAnyH_take (i := 31) (v := ?_) rfl (by kernel_rfl) (by kernel_rfl) (by kernel_rfl) (fun _ _ _ h => h) (Or.inl ⟨by kernel_rfl, ?_⟩) (by assumption) ?_
    rotate_left
    · intro w0 hSw; (try dsimp only at hSw); (obtain ⟨y0, y1, y2, y3, y4, y5, y6, y7, y8, _, _, _, _, _⟩ := hSw); (go_simp <;> with_reducible rfl)
    try simp only [Act.put, List.setIfInBounds_toArray, List.set_cons_zero, List.set_cons_succ]
    refine wpAnyH_take (i := 32) (v := ?_) rfl (by kernel_rfl) (by kernel_rfl) (by kernel_rfl) (fun _ _ _ h => h) (Or.inl ⟨by kernel_rfl, ?_⟩) (by assumption) ?_
    rotate_left
    · intro w0 hSw; (try dsimp only at hSw); (obtain ⟨y0, y1, y2, y3, y4, y5, y6, y7, y8, _, _, _, _, _⟩ := hSw); (go_simp <;> with_reducible rfl)
    try simp only [Act.put, List.setIfInBounds_toArray, List.set_cons_zero, List.set_cons_succ]
    refine wpAnyH_ready (rs := [33]) (by kernel_rfl) (by simp) ?_
    refine AllReadyH.cons rfl (fun K hK => ?_) AllReadyH.nil
    go_simp
    go_at_call 12
    refine (rp.at_ _).mono ?_
    rintro e x6 ⟨rfl, hbx⟩
    go_wp2_with fail
    refine hK.out _ _ (box9 hbx hHeld) (fun hHeld2 => ?_)
    clear hHeld hbx hK K
    have hHeld := hHeld2
    clear hHeld2
    try simp only [Act.put, List.setIfInBounds_toArray, List.set_cons_zero, List.set_cons_succ]
    refine wpAnyH_take (i := 34) (v := ?_) rfl (by kernel_rfl) (by kernel_rfl) (by kernel_rfl) (fun _ _ _ h => h) (Or.inl ⟨by kernel_rfl, ?_⟩) (by assumption) ?_
    rotate_left
    · intro w0 hSw; (try dsimp only at hSw); (obtain ⟨y0, y1, y2, y3, y4, y5, y6, y7, y8, _, _, _, _, _⟩ := hSw); (go_simp <;> with_reducible rfl)
    try simp only [Act.put, List.setIfInBounds_toArray, List.set_cons_zero, List.set_cons_succ]
    refine wpAnyH_take (i := 35) (v := ?_) rfl (by kernel_rfl) (by kernel_rfl) (by kernel_rfl) (fun _ _ _ h => h) (Or.inl ⟨by kernel_rfl, ?_⟩) (by assumption) ?_
    rotate_left
    · intro w0 hSw; (try dsimp only at hSw); (obtain ⟨y0, y1, y2, y3, y4, y5, y6, y7, y8, _, _, _, _, _⟩ := hSw); (go_simp <;> with_reducible rfl)
    try simp only [Act.put, List.setIfInBounds_toArray, List.set_cons_zero, List.set_cons_succ]
    refine wpAnyH_done (by kernel_rfl) ?_ _
    obtain ⟨y0, y1, y2, y3, y4, y5, y6, y7, y8, zA, zB, zC, zZ, hBend⟩ := box9_id (D := w.heap.size) (T := T) (P := P) (Z := w.heap.size) (w := w) hHeld
    clear hHeld HB9
    have htk' : ¬ (k : Int) < (tk : Int) := by omega
    have hm0 : m = 0 := by omega
    subst hm0
    have hpk : max (k : Int) 0 = (pk : Int) := by have := Hpk.out; omega
    by_cases hcase : 0 < tk
    · have hg1 : (0 : Int) < (tk : Int) := by omega
      obtain ⟨h0, h48⟩ := Htl.out hcase
      have hi0 : (0 : Int) ≤ (ts.size : Int) - 1 := by omega
      have hi1 : (ts.size : Int) - 1 < ts.size := by omega
      have hi2 : ((ts.size : Int) - 1).toNat = ts.size - 1 := by omega
      have hb48 : (((ts[ts.size - 1]'(by omega)).toNat : Int) == 48) = false := beq_eq_false_iff_ne.2 h48
      clear h48 Htl Htm
      have hg2 : ¬ (tk : Int) < 0 := by omega
      go_wp2
      go_ret
      exact ⟨rfl, hBend⟩
    · have hg1 : ¬ (0 : Int) < (tk : Int) := by omega
      have hg2 : ¬ (tk : Int) < 0 := by omega
      go_wp2
      go_ret
      exact ⟨rfl, hBend⟩
  · have hxm : x = (m : Int) := by omega
    subst hxm
    go_upto_region 9 with fail
    refine wp_region_held_drew (S := (fun w' => w'.cell? ⟨w.heap.size, 0, none⟩ = some (.bool n) ∧ w'.cell? ⟨w.heap.size, 1, none⟩ = some (.string s) ∧ w'.cell? ⟨w.heap.size, 2, none⟩ = some (.int .i64 k) ∧ w'.cell? ⟨T, 0, none⟩ = some (.bool n) ∧ w'.cell? ⟨T, 1, none⟩ = some (.string ts) ∧ w'.cell? ⟨T, 2, none⟩ = some (.int .i64 tk) ∧ w'.cell? ⟨P, 0, none⟩ = some (.bool n) ∧ w'.cell? ⟨P, 1, none⟩ = some (.string ps) ∧ w'.cell? ⟨P, 2, none⟩ = some (.int .i64 pk) ∧ w.heap.size < w'.heap.size ∧ T < w'.heap.size ∧ P < w'.heap.size ∧ w.heap.size ≤ w'.heap.size ∧ Below w.heap.size w w')) (by kernel_rfl) (box9 (Below.refl _ _).drew HB9.out) (fun hHeld => ?_)
    refine wpAnyH_take (i := 0) (v := ?_) rfl (by kernel_rfl) (by kernel_rfl) (by kernel_rfl) (fun _ _ _ h => h) (Or.inl ⟨by kernel_rfl, ?_⟩) (by assumption) ?_
    rotate_left
    · intro w0 hSw; (try dsimp only at hSw); (obtain ⟨y0, y1, y2, y3, y4, y5, y6, y7, y8, _, _, _, _, _⟩ := hSw); (go_simp <;> with_reducible rfl)
    try simp only [Act.put, List.setIfInBounds_toArray, List.set_cons_zero, List.set_cons_succ]
    refine wpAnyH_take (i := 2) (v := ?_) rfl (by kernel_rfl) (by kernel_rfl) (by kernel_rfl) (fun _ _ _ h => h) (Or.inl ⟨by kernel_rfl, ?_⟩) (by assumption) ?_
    rotate_left
    · intro w0 hSw; (try dsimp only at hSw); (obtain ⟨y0, y1, y2, y3, y4, y5, y6, y7, y8, _, _, _, _, _⟩ := hSw); (go_simp <;> with_reducible rfl)
    try simp only [Act.put, List.setIfInBounds_toArray, List.set_cons_zero, List.set_cons_succ]
    refine wpAnyH_ready (rs := [1]) (by kernel_rfl) (by simp) ?_
    refine AllReadyH.cons rfl (fun K hK => ?_) AllReadyH.nil
    go_simp
    go_at_call 16
    refine (ot.at_ _).mono ?_
    rintro e x1 ⟨rfl, hbx⟩
    go_wp2_with fail
    refine hK.out _ _ (box9 hbx hHeld) (fun hHeld2 => ?_)
    clear hHeld hbx hK K
    have hHeld := hHeld2
    clear hHeld2
    try simp only [Act.put, List.setIfInBounds_toArray, List.set_cons_zero, List.set_cons_succ]
    refine wpAnyH_ready (rs := [3]) (by kernel_rfl) (by simp) ?_
    refine AllReadyH.cons rfl (fun K hK => ?_) AllReadyH.nil
    go_simp
    go_at_call 16
    refine (od.at_ _).mono ?_
    rintro e x2 ⟨rfl, hbx⟩
    go_wp2_with fail
    refine hK.out _ _ (box9 hbx hHeld) (fun hHeld2 => ?_)
    clear hHeld hbx hK K
    have hHeld := hHeld2
    clear hHeld2
    try simp only [Act.put, List.setIfInBounds_toArray, List.set_cons_zero, List.set_cons_succ]
    refine wpAnyH_take (i := 4) (v := ?_) rfl (by kernel_rfl) (by kernel_rfl) (by kernel_rfl) (fun _ _ _ h => h) (Or.inl ⟨by kernel_rfl, ?_⟩) (by assumption) ?_
    rotate_left
    · intro w0 hSw; (try dsimp only at hSw); (obtain ⟨y0, y1, y2, y3, y4, y5, y6, y7, y8, _, _, _, _, _⟩ := hSw); (go_simp <;> with_reducible rfl)
    try simp only [Act.put, List.setIfInBounds_toArray, List.set_cons_zero, List.set_cons_succ]
    refine wpAnyH_take (i := 5) (v := ?_) rfl (by kernel_rfl) (by kernel_rfl) (by kernel_rfl) (fun _ _ _ h => h) (Or.inl ⟨by kernel_rfl, ?_⟩) (by assumption) ?_
    rotate_left
    · intro w0 hSw; (try dsimp only at hSw); (obtain ⟨y0, y1, y2, y3, y4, y5, y6, y7, y8, _, _, _, _, _⟩ := hSw); (go_simp <;> with_reducible rfl)
    try simp only [Act.put, List.setIfInBounds_toArray, List.set_cons_zero, List.set_cons_succ]
    refine wpAnyH_take (i := 6) (v := ?_) rfl (by kernel_rfl) (by kernel_rfl) (by kernel_rfl) (fun _ _ _ h => h) (Or.inl ⟨by kernel_rfl, ?_⟩) (by assumption) ?_
    rotate_left
    · intro w0 hSw; (try dsimp only at hSw); (obtain ⟨y0, y1, y2, y3, y4, y5, y6, y7, y8, _, _, _, _, _⟩ := hSw); (go_simp <;> with_reducible rfl)
    try simp only [Act.put, List.setIfInBounds_toArray, List.set_cons_zero, List.set_cons_succ]
    refine wpAnyH_take (i := 8) (v := ?_) rfl (by kernel_rfl) (by kernel_rfl) (by kernel_rfl) (fun _ _ _ h => h) (Or.inl ⟨by kernel_rfl, ?_⟩) (by assumption) ?_
    rotate_left
    · intro w0 hSw; (try dsimp only at hSw); (obtain ⟨y0, y1, y2, y3, y4, y5, y6, y7, y8, _, _, _, _, _⟩ := hSw); (go_simp <;> with_reducible rfl)
    try simp only [Act.put, List.setIfInBounds_toArray, List.set_cons_zero, List.set_cons_succ]
    refine wpAnyH_ready (rs := [7]) (by kernel_rfl) (by simp) ?_
    refine AllReadyH.cons rfl (fun K hK => ?_) AllReadyH.nil
    go_simp
    go_at_call 16
    refine (op.at_ _).mono ?_
    rintro e x3 ⟨rfl, hbx⟩
    go_wp2_with fail
    refine hK.out _ _ (box9 hbx hHeld) (fun hHeld2 => ?_)
    clear hHeld hbx hK K
    have hHeld := hHeld2
    clear hHeld2
    try simp only [Act.put, List.setIfInBounds_toArray, List.set_cons_zero, List.set_cons_succ]
    refine wpAnyH_ready (rs := [9]) (by kernel_rfl) (by simp) ?_
    refine AllReadyH.cons rfl (fun K hK => ?_) AllReadyH.nil
    go_simp
    go_at_call 16
    refine (od.at_ _).mono ?_
    rintro e x4 ⟨rfl, hbx⟩
    go_wp2_with fail
    refine hK.out _ _ (box9 hbx hHeld) (fun hHeld2 => ?_)
    clear hHeld hbx hK K
    have hHeld := hHeld2
    clear hHeld2
    try simp only [Act.put, List.setIfInBounds_toArray, List.set_cons_zero, List.set_cons_succ]
    refine wpAnyH_take (i := 10) (v := ?_) rfl (by kernel_rfl) (by kernel_rfl) (by kernel_rfl) (fun _ _ _ h => h) (Or.inl ⟨by kernel_rfl, ?_⟩) (by assumption) ?_
    rotate_left
    · intro w0 hSw; (try dsimp only at hSw); (obtain ⟨y0, y1, y2, y3, y4, y5, y6, y7, y8, _, _, _, _, _⟩ := hSw); (go_simp <;> with_reducible rfl)
    try simp only [Act.put, List.setIfInBounds_toArray, List.set_cons_zero, List.set_cons_succ]
    refine wpAnyH_take (i := 11) (v := ?_) rfl (by kernel_rfl) (by kernel_rfl) (by kernel_rfl) (fun _ _ _ h => h) (Or.inl ⟨by kernel_rfl, ?_⟩) (by assumption) ?_
    rotate_left
    · intro w0 hSw; (try dsimp only at hSw); (obtain ⟨y0, y1, y2, y3, y4, y5, y6, y7, y8, _, _, _, _, _⟩ := hSw); (go_simp <;> with_reducible rfl)
    try simp only [Act.put, List.setIfInBounds_toArray, List.set_cons_zero, List.set_cons_succ]
    refine wpAnyH_take (i := 12) (v := ?_) rfl (by kernel_rfl) (by kernel_rfl) (by kernel_rfl) (fun _ _ _ h => h) (Or.inl ⟨by kernel_rfl, ?_⟩) (by assumption) ?_
    rotate_left
    · intro w0 hSw; (try dsimp only at hSw); (obtain ⟨y0, y1, y2, y3, y4, y5, y6, y7, y8, _, _, _, _, _⟩ := hSw); (go_simp <;> with_reducible rfl)
    try simp only [Act.put, List.setIfInBounds_toArray, List.set_cons_zero, List.set_cons_succ]
    refine wpAnyH_take (i := 13) (v := ?_) rfl (by kernel_rfl) (by kernel_rfl) (by kernel_rfl) (fun _ _ _ h => h) (Or.inl ⟨by kernel_rfl, ?_⟩) (by assumption) ?_
    rotate_left
    · intro w0 hSw; (try dsimp only at hSw); (obtain ⟨y0, y1, y2, y3, y4, y5, y6, y7, y8, _, _, _, _, _⟩ := hSw); (go_simp <;> with_reducible rfl)
    try simp only [Act.put, List.setIfInBounds_toArray, List.set_cons_zero, List.set_cons_succ]
    refine wpAnyH_take (i := 14) (v := ?_) rfl (by kernel_rfl) (by kernel_rfl) (by kernel_rfl) (fun _ _ _ h => h) (Or.inl ⟨by kernel_rfl, ?_⟩) (by assumption) ?_
    rotate_left
    · intro w0 hSw; (try dsimp only at hSw); (obtain ⟨y0, y1, y2, y3, y4, y5, y6, y7, y8, _, _, _, _, _⟩ := hSw); (go_simp <;> with_reducible rfl)
    try simp only [Act.put, List.setIfInBounds_toArray, List.set_cons_zero, List.set_cons_succ]
    refine wpAnyH_take (i := 15) (v := ?_) rfl (by kernel_rfl) (by kernel_rfl) (by kernel_rfl) (fun _ _ _ h => h) (Or.inl ⟨by kernel_rfl, ?_⟩) (by assumption) ?_
    rotate_left
    · intro w0 hSw; (try dsimp only at hSw); (obtain ⟨y0, y1, y2, y3, y4, y5, y6, y7, y8, _, _, _, _, _⟩ := hSw); (go_simp <;> with_reducible rfl)
    try simp only [Act.put, List.setIfInBounds_toArray, List.set_cons_zero, List.set_cons_succ]
    refine wpAnyH_take (i := 16) (v := ?_) rfl (by kernel_rfl) (by kernel_rfl) (by kernel_rfl) (fun _ _ _ h => h) (Or.inl ⟨by kernel_rfl, ?_⟩) (by assumption) ?_
    rotate_left
    · intro w0 hSw; (try dsimp only at hSw); (obtain ⟨y0, y1, y2, y3, y4, y5, y6, y7, y8, _, _, _, _, _⟩ := hSw); (go_simp <;> with_reducible rfl)
    try simp only [Act.put, List.setIfInBounds_toArray, List.set_cons_zero, List.set_cons_succ]
    refine wpAnyH_take (i := 17) (v := ?_) rfl (by kernel_rfl) (by kernel_rfl) (by kernel_rfl) (fun _ _ _ h => h) (Or.inl ⟨by kernel_rfl, ?_⟩) (by assumption) ?_
    rotate_left
    · intro w0 hSw; (try dsimp only at hSw); (obtain ⟨y0, y1, y2, y3, y4, y5, y6, y7, y8, _, _, _, _, _⟩ := hSw); (go_simp <;> with_reducible rfl)
    try simp only [Act.put, List.setIfInBounds_toArray, List.set_cons_zero, List.set_cons_succ]
    refine wpAnyH_take (i := 18) (v := ?_) rfl (by kernel_rfl) (by kernel_rfl) (by kernel_rfl) (fun _ _ _ h => h) (Or.inl ⟨by kernel_rfl, ?_⟩) (by assumption) ?_
    rotate_left
    · intro w0 hSw; (try dsimp only at hSw); (obtain ⟨y0, y1, y2, y3, y4, y5, y6, y7, y8, _, _, _, _, _⟩ := hSw); (go_simp <;> with_reducible rfl)
    try simp only [Act.put, List.setIfInBounds_toArray, List.set_cons_zero, List.set_cons_succ]
    refine wpAnyH_take (i := 19) (v := ?_) rfl (by kernel_rfl) (by kernel_rfl) (by kernel_rfl) (fun _ _ _ h => h) (Or.inl ⟨by kernel_rfl, ?_⟩) (by assumption) ?_
    rotate_left
    · intro w0 hSw; (try dsimp only at hSw); (obtain ⟨y0, y1, y2, y3, y4, y5, y6, y7, y8, _, _, _, _, _⟩ := hSw); (go_simp <;> with_reducible rfl)
    try simp only [Act.put, List.setIfInBounds_toArray, List.set_cons_zero, List.set_cons_succ]
    refine wpAnyH_take (i := 20) (v := ?_) rfl (by kernel_rfl) (by kernel_rfl) (by kernel_rfl) (fun _ _ _ h => h) (Or.inl ⟨by kernel_rfl, ?_⟩) (by assumption) ?_
    rotate_left
    · intro w0 hSw; (try dsimp only at hSw); (obtain ⟨y0, y1, y2, y3, y4, y5, y6, y7, y8, _, _, _, _, _⟩ := hSw); (go_simp <;> with_reducible rfl)
    try simp only [Act.put, List.setIfInBounds_toArray, List.set_cons_zero, List.set_cons_succ]
    refine wpAnyH_take (i := 21) (v := ?_) rfl (by kernel_rfl) (by kernel_rfl) (by kernel_rfl) (fun _ _ _ h => h) (Or.inl ⟨by kernel_rfl, ?_⟩) (by assumption) ?_
    rotate_left
    · intro w0 hSw; (try dsimp only at hSw); (obtain ⟨y0, y1, y2, y3, y4, y5, y6, y7, y8, _, _, _, _, _⟩ := hSw); (go_simp <;> with_reducible rfl)
    try simp only [Act.put, List.setIfInBounds_toArray, List.set_cons_zero, List.set_cons_succ]
    refine wpAnyH_take (i := 22) (v := ?_) rfl (by kernel_rfl) (by kernel_rfl) (by kernel_rfl) (fun _ _ _ h => h) (Or.inl ⟨by kernel_rfl, ?_⟩) (by assumption) ?_
    rotate_left
    · intro w0 hSw; (try dsimp only at hSw); (obtain ⟨y0, y1, y2, y3, y4, y5, y6, y7, y8, _, _, _, _, _⟩ := hSw); (go_simp <;> with_reducible rfl)
    try simp only [Act.put, List.setIfInBounds_toArray, List.set_cons_zero, List.set_cons_succ]
    refine wpAnyH_take (i := 23) (v := ?_) rfl (by kernel_rfl) (by kernel_rfl) (by kernel_rfl) (fun _ _ _ h => h) (Or.inl ⟨by kernel_rfl, ?_⟩) (by assumption) ?_
    rotate_left
    · intro w0 hSw; (try dsimp only at hSw); (obtain ⟨y0, y1, y2, y3, y4, y5, y6, y7, y8, _, _, _, _, _⟩ := hSw); (go_simp <;> with_reducible rfl)
    try simp only [Act.put, List.setIfInBounds_toArray, List.set_cons_zero, List.set_cons_succ]
    refine wpAnyH_take (i := 24) (v := ?_) rfl (by kernel_rfl) (by kernel_rfl) (by kernel_rfl) (fun _ _ _ h => h) (Or.inl ⟨by kernel_rfl, ?_⟩) (by assumption) ?_
    rotate_left
    · intro w0 hSw; (try dsimp only at hSw); (obtain ⟨y0, y1, y2, y3, y4, y5, y6, y7, y8, _, _, _, _, _⟩ := hSw); (go_simp <;> with_reducible rfl)
    try simp only [Act.put, List.setIfInBounds_toArray, List.set_cons_zero, List.set_cons_succ]
    refine wpAnyH_take (i := 25) (v := ?_) rfl (by kernel_rfl) (by kernel_rfl) (by kernel_rfl) (fun _ _ _ h => h) (Or.inl ⟨by kernel_rfl, ?_⟩) (by assumption) ?_
    rotate_left
    · intro w0 hSw; (try dsimp only at hSw); (obtain ⟨y0, y1, y2, y3, y4, y5, y6, y7, y8, _, _, _, _, _⟩ := hSw); (go_simp <;> with_reducible rfl)
    try simp only [Act.put, List.setIfInBounds_toArray, List.set_cons_zero, List.set_cons_succ]
    refine wpAnyH_take (i := 26) (v := ?_) rfl (by kernel_rfl) (by kernel_rfl) (by kernel_rfl) (fun _ _ _ h => h) (Or.inl ⟨by kernel_rfl, ?_⟩) (by assumption) ?_
    rotate_left
    · intro w0 hSw; (try dsimp only at hSw); (obtain ⟨y0, y1, y2, y3, y4, y5, y6, y7, y8, _, _, _, _, _⟩ := hSw); (go_simp <;> with_reducible rfl)
    try simp only [Act.put, List.setIfInBounds_toArray, List.set_cons_zero, List.set_cons_succ]
    refine wpAnyH_take (i := 27) (v := ?_) rfl (by kernel_rfl) (by kernel_rfl) (by kernel_rfl) (fun _ _ _ h => h) (Or.inl ⟨by kernel_rfl, ?_⟩) (by assumption) ?_
    rotate_left
    · intro w0 hSw; (try dsimp only at hSw); (obtain ⟨y0, y1, y2, y3, y4, y5, y6, y7, y8, _, _, _, _, _⟩ := hSw); (go_simp <;> with_reducible rfl)
    try simp only [Act.put, List.setIfInBounds_toArray, List.set_cons_zero, List.set_cons_succ]
    refine wpAnyH_ready (rs := [28]) (by kernel_rfl) (by simp) ?_
    refine AllReadyH.cons rfl (fun K hK => ?_) AllReadyH.nil
    go_simp
    go_at_call 12
    refine (rt.at_ _).mono ?_
    rintro e x5 ⟨rfl, hbx⟩
    go_wp2_with fail
    refine hK.out _ _ (box9 hbx hHeld) (fun hHeld2 => ?_)
    clear hHeld hbx hK K
    have hHeld := hHeld2
    clear hHeld2
    try simp only [Act.put, List.setIfInBounds_toArray, List.set_cons_zero, List.set_cons_succ]
    refine wpAnyH_take (i := 29) (v := ?_) rfl (by kernel_rfl) (by kernel_rfl) (by kernel_rfl) (fun _ _ _ h => h) (Or.inl ⟨by kernel_rfl, ?_⟩) (by assumption) ?_
    rotate_left
    · intro w0 hSw; (try dsimp only at hSw); (obtain ⟨y0, y1, y2, y3, y4, y5, y6, y7, y8, _, _, _, _, _⟩ := hSw); (go_simp <;> with_reducible rfl)
    try simp only [Act.put, List.setIfInBounds_toArray, List.set_cons_zero, List.set_cons_succ]
    refine wpAnyH_take (i := 30) (v := ?_) rfl (by kernel_rfl) (by kernel_rfl) (by kernel_rfl) (fun _ _ _ h => h) (Or.inl ⟨by kernel_rfl, ?_⟩) (by assumption) ?_
    rotate_left
    · intro w0 hSw; (try dsimp only at hSw); (obtain ⟨y0, y1, y2, y3, y4, y5, y6, y7, y8, _, _, _, _, _⟩ := hSw); (go_simp <;> with_reducible rfl)
    try simp only [Act.put, List.setIfInBounds_toArray, List.set_cons_zero, List.set_cons_succ]
    refine wpAnyH_take (i := 31) (v := ?_) rfl (by kernel_rfl) (by kernel_rfl) (by kernel_rfl) (fun _ _ _ h => h) (Or.inl ⟨by kernel_rfl, ?_⟩) (by assumption) ?_
    rotate_left
    · intro w0 hSw; (try dsimp only at hSw); (obtain ⟨y0, y1, y2, y3, y4, y5, y6, y7, y8, _, _, _, _, _⟩ := hSw); (go_simp <;> with_reducible rfl)
    try simp only [Act.put, List.setIfInBounds_toArray, List.set_cons_zero, List.set_cons_succ]
    refine wpAnyH_take (i := 32) (v := ?_) rfl (by kernel_rfl) (by kernel_rfl) (by kernel_rfl) (fun _ _ _ h => h) (Or.inl ⟨by kernel_rfl, ?_⟩) (by assumption) ?_
    rotate_left
    · intro w0 hSw; (try dsimp only at hSw); (obtain ⟨y0, y1, y2, y3, y4, y5, y6, y7, y8, _, _, _, _, _⟩ := hSw); (go_simp <;> with_reducible rfl)
    try simp only [Act.put, List.setIfInBounds_toArray, List.set_cons_zero, List.set_cons_succ]
    refine wpAnyH_ready (rs := [33]) (by kernel_rfl) (by simp) ?_
    refine AllReadyH.cons rfl (fun K hK => ?_) AllReadyH.nil
    go_simp
    go_at_call 12
    refine (rp.at_ _).mono ?_
    rintro e x6 ⟨rfl, hbx⟩
    go_wp2_with fail
    refine hK.out _ _ (box9 hbx hHeld) (fun hHeld2 => ?_)
    clear hHeld hbx hK K
    have hHeld := hHeld2
    clear hHeld2
    try simp only [Act.put, List.setIfInBounds_toArray, List.set_cons_zero, List.set_cons_succ]
    refine wpAnyH_take (i := 34) (v := ?_) rfl (by kernel_rfl) (by kernel_rfl) (by kernel_rfl) (fun _ _ _ h => h) (Or.inl ⟨by kernel_rfl, ?_⟩) (by assumption) ?_
    rotate_left
    · intro w0 hSw; (try dsimp only at hSw); (obtain ⟨y0, y1, y2, y3, y4, y5, y6, y7, y8, _, _, _, _, _⟩ := hSw); (go_simp <;> with_reducible rfl)
    try simp only [Act.put, List.setIfInBounds_toArray, List.set_cons_zero, List.set_cons_succ]
    refine wpAnyH_take (i := 35) (v := ?_) rfl (by kernel_rfl) (by kernel_rfl) (by kernel_rfl) (fun _ _ _ h => h) (Or.inl ⟨by kernel_rfl, ?_⟩) (by assumption) ?_
    rotate_left
    · intro w0 hSw; (try dsimp only at hSw); (obtain ⟨y0, y1, y2, y3, y4, y5, y6, y7, y8, _, _, _, _, _⟩ := hSw); (go_simp <;> with_reducible rfl)
    try simp only [Act.put, List.setIfInBounds_toArray, List.set_cons_zero, List.set_cons_succ]
    refine wpAnyH_done (by kernel_rfl) ?_ _
    obtain ⟨y0, y1, y2, y3, y4, y5, y6, y7, y8, zA, zB, zC, zZ, hBend⟩ := box9_id (D := w.heap.size) (T := T) (P := P) (Z := w.heap.size) (w := w) hHeld
    clear hHeld HB9
    have htk' : ¬ (k : Int) < (tk : Int) := by omega
    by_cases h40 : 40 < m
    · have h40' : (40 : Int) < (m : Int) := by omega
      have hpk : max (k : Int) 40 = (pk : Int) := by have := Hpk.out; omega
      by_cases hcase : m < tk
      · have hg1 : (m : Int) < (tk : Int) := by omega
        have hg2 : ¬ (tk : Int) < (m : Int) := by omega
        obtain ⟨h0, h48⟩ := Htl.out hcase
        have hi0 : (0 : Int) ≤ (ts.size : Int) - 1 := by omega
        have hi1 : (ts.size : Int) - 1 < ts.size := by omega
        have hi2 : ((ts.size : Int) - 1).toNat = ts.size - 1 := by omega
        have hb48 : (((ts[ts.size - 1]'(by omega)).toNat : Int) == 48) = false := beq_eq_false_iff_ne.2 h48
        clear h48 Htl Htm
        go_wp2
        go_ret
        exact ⟨rfl, hBend⟩
      · have hg1 : ¬ (m : Int) < (tk : Int) := by omega
        by_cases hcase2 : tk < m
        · have hek := Htm.out hcase2
          subst hek
          have hg2 : (tk : Int) < (m : Int) := by omega
          go_wp2
          go_ret
          exact ⟨rfl, hBend⟩
        · have hg2 : ¬ (tk : Int) < (m : Int) := by omega
          go_wp2
          go_ret
          exact ⟨rfl, hBend⟩
    · have h40' : ¬ (40 : Int) < (m : Int) := by omega
      have hpk : max (k : Int) (m : Int) = (pk : Int) := by have := Hpk.out; omega
      by_cases hcase : m < tk
      · have hg1 : (m : Int) < (tk : Int) := by omega
        have hg2 : ¬ (tk : Int) < (m : Int) := by omega
        obtain ⟨h0, h48⟩ := Htl.out hcase
        have hi0 : (0 : Int) ≤ (ts.size : Int) - 1 := by omega
        have hi1 : (ts.size : Int) - 1 < ts.size := by omega
        have hi2 : ((ts.size : Int) - 1).toNat = ts.size - 1 := by omega
        have hb48 : (((ts[ts.size - 1]'(by omega)).toNat : Int) == 48) = false := beq_eq_false_iff_ne.2 h48
        clear h48 Htl Htm
        go_wp2
        go_ret
        exact ⟨rfl, hBend⟩
      · have hg1 : ¬ (m : Int) < (tk : Int) := by omega
        by_cases hcase2 : tk < m
        · have hek := Htm.out hcase2
          subst hek
          have hg2 : (tk : Int) < (m : Int) := by omega
          go_wp2
          go_ret
          exact ⟨rfl, hBend⟩
        · have hg2 : ¬ (tk : Int) < (m : Int) := by omega
          go_wp2
          go_ret
          exact ⟨rfl, hBend⟩
end Go.Proofs.YtjgfijpgoffmlabDoor
