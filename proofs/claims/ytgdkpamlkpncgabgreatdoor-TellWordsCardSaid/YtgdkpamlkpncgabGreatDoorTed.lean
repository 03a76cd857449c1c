/-
  Package run: an Ask of no bundles.
-/
import Derived.Test.YtgdkpamlkpncgabGreatDoorTec
import Derived.Test.YtgdkpamlkpncgabGreatDoorSwk
import Derived.Deep.RegionHeld3
namespace Go.Proofs.YtgdkpamlkpncgabGreatDoor
open Go.RowKit
set_option linter.unusedVariables false
set_option linter.unusedSimpArgs false

theorem box_o7 {w : World} {E : Nat} {x0 x1 x2 x3 x4 x5 x6 : Value} {t : TypeId} (h : BoxAt w E #[x0, x1, x2, x3, x4, x5, x6] t) (y0 y1 y2 y3 y4 y5 y6 : Value) :
    BoxAt (((((((w.setCell ⟨E, 0, none⟩ y0).setCell ⟨E, 1, none⟩ y1).setCell ⟨E, 2, none⟩ y2).setCell ⟨E, 3, none⟩ y3).setCell ⟨E, 4, none⟩ y4).setCell ⟨E, 5, none⟩ y5).setCell ⟨E, 6, none⟩ y6) E #[y0, y1, y2, y3, y4, y5, y6] t := by
  unfold BoxAt at h ⊢
  simp [World.setCell, Array.getElem?_modify, h]
set_option maxRecDepth 100000 in
theorem resO7 {fn : Func} {A : Nat} {tmps : Array Value} {w : World} {b : Nat} {x0 x1 x2 x3 x4 x5 x6 : Value} {t : TypeId} (hres : fn.results = #[.cell A 40]) (ha : tmps.getD A undef = .pointer (some ⟨b, 0, none⟩))
    (hb : BoxAt w b #[x0, x1, x2, x3, x4, x5, x6] t) : (results fn tmps).run Tryz.prog w = .ok (.agg #[x0, x1, x2, x3, x4, x5, x6]) w := by
  have q0 : w.cell? ⟨b, 0, none⟩ = some x0 := hb.cell 0
  have q1 : w.cell? ⟨b, 1, none⟩ = some x1 := hb.cell 1
  have q2 : w.cell? ⟨b, 2, none⟩ = some x2 := hb.cell 2
  have q3 : w.cell? ⟨b, 3, none⟩ = some x3 := hb.cell 3
  have q4 : w.cell? ⟨b, 4, none⟩ = some x4 := hb.cell 4
  have q5 : w.cell? ⟨b, 5, none⟩ = some x5 := hb.cell 5
  have q6 : w.cell? ⟨b, 6, none⟩ = some x6 := hb.cell 6
  have ha' : tmps[A]?.getD undef = .pointer (some ⟨b, 0, none⟩) := by rw [← ha]; simp
  simp [results, hres, ha', go_sem, q0, q1, q2, q3, q4, q5, q6]
theorem endO7 {fn : Func} {R : Ending → World → Prop} {a : Act} {w2 : World} {A b : Nat} {x0 x1 x2 x3 x4 x5 x6 : Value} {t : TypeId} (hres : fn.results = #[.cell A 40]) (hbox : BoxAt w2 b #[x0, x1, x2, x3, x4, x5, x6] t)
    (ha : a.tmps.getD A undef = .pointer (some ⟨b, 0, none⟩)) (hd : a.defers = []) (hR : R (.returned (.agg #[x0, x1, x2, x3, x4, x5, x6])) w2) : bodyPost Tryz.prog fn R .ret a w2 :=
  bodyPost_ret (resO7 hres ha hbox) hd hR
set_option maxHeartbeats 2000000 in
set_option maxRecDepth 100000 in
theorem rdo_none (b : Nat) (name : ByteArray) (x : ST) (hx : x = ⟨2, ⟨#[]⟩, ⟨#[]⟩, false, [], name, ⟨#[]⟩, []⟩) (hr : rightS x = true) (A1 A2 : Option Addr) (c1 c2 : Nat) (w : World) (hE : Env w) (h : ChE w b) :
    Calls Tryz.prog 15 #[.pointer (some ⟨b, 0, none⟩), .agg (stA x A1 c1 A2 c2)] w fun e w' => (∃ k, e = .returned (.agg #[.int .i64 0, .slice none 0 0, .int .i64 0, .string name, .slice (some ⟨k, 0, none⟩) 1 1, .string ⟨#[]⟩, .bool false]) ∧ BoxAt w' k #[.int .i64 2, .string name] 105) ∧ Below w.heap.size w w' := by
  subst hx
  have hin : ∀ W, StF W (Old W) ⟨2, ⟨#[]⟩, ⟨#[]⟩, false, [], name, ⟨#[]⟩, []⟩ A1 A2 := fun W => ⟨fun h => absurd h (by simp), fun h => absurd h (by simp)⟩
  have HR := fun W (hE : Env W) => right_any ⟨2, ⟨#[]⟩, ⟨#[]⟩, false, [], name, ⟨#[]⟩, []⟩ A1 A2 c1 c2 W hE (hin W) (by simp) (by simp) (by simp)
  simp only [hr] at HR
  unfold stA at *
  dsimp only [List.length_nil] at *
  obtain ⟨W2, hW2⟩ : ∃ W2, W2 = ((w.alloc (.cells #[.int .i64 2, .string ⟨#[]⟩, .string ⟨#[]⟩, .bool false, .slice A1 0 c1, .string name, .string ⟨#[]⟩, .slice A2 0 c2] 45)).alloc (.cells #[.int .i64 0, .slice none 0 0, .int .i64 0, .string ⟨#[]⟩, .slice none 0 0, .string ⟨#[]⟩, .bool false] 40)) := ⟨_, rfl⟩
  have hB : Below w.heap.size w W2 := by
    rw [hW2]
    exact ((Below.refl _ _).alloc (Nat.le_refl _) _).alloc (by simp) _
  have X1 : BoxAt W2 w.heap.size #[.int .i64 2, .string ⟨#[]⟩, .string ⟨#[]⟩, .bool false, .slice A1 0 c1, .string name, .string ⟨#[]⟩, .slice A2 0 c2] 45 := by
    rw [hW2]
    exact (BoxAt.new w _ _).alloc _
  have X2 : BoxAt W2 (w.heap.size + 1) #[.int .i64 0, .slice none 0 0, .int .i64 0, .string ⟨#[]⟩, .slice none 0 0, .string ⟨#[]⟩, .bool false] 40 := by
    rw [hW2]
    exact BoxAt.new' _ _ _ _ (by simp)
  have HR2 := Lib.hid (HR W2 (hE.below hB))
  have HC := Lib.hid (h.later hB)
  have HB := Lib.hid hB
  have HX1 := Lib.hid X1
  have HX2 := Lib.hid X2
  have HW2 := Lib.hid hW2
  clear h hE hin hr HR hB X1 X2 hW2
  go_enter Tryz.func15, Tryz.ntmps15
  go_wp2_with fail
  rw [← HW2.out]
  go_at_call 13
  refine HR2.out.mono ?_
  rintro e w3 ⟨rfl, h3⟩
  have HX3 := Lib.hid (HX1.out.later h3)
  have HY3 := Lib.hid (HX2.out.later h3)
  have HC3 := Lib.hid (HC.out.later h3)
  have HB3 := Lib.hid (HB.out.trans (h3.mono HB.out.size))
  have e0 : w3.cell? ⟨w.heap.size, 0, none⟩ = some (.int .i64 2) := HX3.out.cell 0
  have e5 : w3.cell? ⟨w.heap.size, 5, none⟩ = some (.string name) := HX3.out.cell 5
  have e6 : w3.cell? ⟨w.heap.size, 6, none⟩ = some (.string ⟨#[]⟩) := HX3.out.cell 6
  have e7 : w3.cell? ⟨w.heap.size, 7, none⟩ = some (.slice A2 0 c2) := HX3.out.cell 7
  have hlw := HX3.out.lt
  clear h3
  have HKp : Hid (∀ W W', (W.cell? ⟨w.heap.size, 5, none⟩ = some (.string name) ∧ W.cell? ⟨w.heap.size, 6, none⟩ = some (.string ⟨#[]⟩) ∧ W.cell? ⟨w.heap.size, 7, none⟩ = some (.slice A2 0 c2) ∧ w3.heap.size ≤ W.heap.size ∧ Below w3.heap.size w3 W) → Below W.heap.size W W' → (W'.cell? ⟨w.heap.size, 5, none⟩ = some (.string name) ∧ W'.cell? ⟨w.heap.size, 6, none⟩ = some (.string ⟨#[]⟩) ∧ W'.cell? ⟨w.heap.size, 7, none⟩ = some (.slice A2 0 c2) ∧ w3.heap.size ≤ W'.heap.size ∧ Below w3.heap.size w3 W')) := fun W W' ⟨h1, h2, h3, h4, h5⟩ g =>
    ⟨(g.cell (p := ⟨w.heap.size, 5, none⟩) (Nat.lt_of_lt_of_le hlw h4)).trans h1, (g.cell (p := ⟨w.heap.size, 6, none⟩) (Nat.lt_of_lt_of_le hlw h4)).trans h2, (g.cell (p := ⟨w.heap.size, 7, none⟩) (Nat.lt_of_lt_of_le hlw h4)).trans h3, Nat.le_trans h4 g.size, h5.trans (g.mono h4)⟩
  have HS0 := Lib.hid (show (w3.drew.cell? ⟨w.heap.size, 5, none⟩ = some (.string name) ∧ w3.drew.cell? ⟨w.heap.size, 6, none⟩ = some (.string ⟨#[]⟩) ∧ w3.drew.cell? ⟨w.heap.size, 7, none⟩ = some (.slice A2 0 c2) ∧ w3.heap.size ≤ w3.drew.heap.size ∧ Below w3.heap.size w3 w3.drew) from ⟨e5, e6, e7, Nat.le_refl _, (Below.refl _ _).drew⟩)
  have HKd : Hid (∀ W, (W.cell? ⟨w.heap.size, 5, none⟩ = some (.string name) ∧ W.cell? ⟨w.heap.size, 6, none⟩ = some (.string ⟨#[]⟩) ∧ W.cell? ⟨w.heap.size, 7, none⟩ = some (.slice A2 0 c2) ∧ w3.heap.size ≤ W.heap.size ∧ Below w3.heap.size w3 W) → (W.drew.cell? ⟨w.heap.size, 5, none⟩ = some (.string name) ∧ W.drew.cell? ⟨w.heap.size, 6, none⟩ = some (.string ⟨#[]⟩) ∧ W.drew.cell? ⟨w.heap.size, 7, none⟩ = some (.slice A2 0 c2) ∧ w3.heap.size ≤ W.drew.heap.size ∧ Below w3.heap.size w3 W.drew)) := fun W ⟨h1, h2, h3, h4, h5⟩ => ⟨h1, h2, h3, h4, h5.drew⟩
  have HKd : Hid (∀ W, (W.cell? ⟨w.heap.size, 5, none⟩ = some (.string name) ∧ W.cell? ⟨w.heap.size, 6, none⟩ = some (.string ⟨#[]⟩) ∧ W.cell? ⟨w.heap.size, 7, none⟩ = some (.slice A2 0 c2) ∧ w3.heap.size ≤ W.heap.size ∧ Below w3.heap.size w3 W) → (W.drew.cell? ⟨w.heap.size, 5, none⟩ = some (.string name) ∧ W.drew.cell? ⟨w.heap.size, 6, none⟩ = some (.string ⟨#[]⟩) ∧ W.drew.cell? ⟨w.heap.size, 7, none⟩ = some (.slice A2 0 c2) ∧ w3.heap.size ≤ W.drew.heap.size ∧ Below w3.heap.size w3 W.drew)) := fun W ⟨h1, h2, h3, h4, h5⟩ => ⟨h1, h2, h3, h4, h5.drew⟩
  have HKd : Hid (∀ W, (W.cell? ⟨w.heap.size, 5, none⟩ = some (.string name) ∧ W.cell? ⟨w.heap.size, 6, none⟩ = some (.string ⟨#[]⟩) ∧ W.cell? ⟨w.heap.size, 7, none⟩ = some (.slice A2 0 c2) ∧ w3.heap.size ≤ W.heap.size ∧ Below w3.heap.size w3 W) → (W.drew.cell? ⟨w.heap.size, 5, none⟩ = some (.string name) ∧ W.drew.cell? ⟨w.heap.size, 6, none⟩ = some (.string ⟨#[]⟩) ∧ W.drew.cell? ⟨w.heap.size, 7, none⟩ = some (.slice A2 0 c2) ∧ w3.heap.size ≤ W.drew.heap.size ∧ Below w3.heap.size w3 W.drew)) := fun W ⟨h1, h2, h3, h4, h5⟩ => ⟨h1, h2, h3, h4, h5.drew⟩
  have HKd : Hid (∀ W, (W.cell? ⟨w.heap.size, 5, none⟩ = some (.string name) ∧ W.cell? ⟨w.heap.size, 6, none⟩ = some (.string ⟨#[]⟩) ∧ W.cell? ⟨w.heap.size, 7, none⟩ = some (.slice A2 0 c2) ∧ w3.heap.size ≤ W.heap.size ∧ Below w3.heap.size w3 W) → (W.drew.cell? ⟨w.heap.size, 5, none⟩ = some (.string name) ∧ W.drew.cell? ⟨w.heap.size, 6, none⟩ = some (.string ⟨#[]⟩) ∧ W.drew.cell? ⟨w.heap.size, 7, none⟩ = some (.slice A2 0 c2) ∧ w3.heap.size ≤ W.drew.heap.size ∧ Below w3.heap.size w3 W.drew)) := fun W ⟨h1, h2, h3, h4, h5⟩ => ⟨h1, h2, h3, h4, h5.drew⟩
  have HKd : Hid (∀ W, (W.cell? ⟨w.heap.size, 5, none⟩ = some (.string name) ∧ W.cell? ⟨w.heap.size, 6, none⟩ = some (.string ⟨#[]⟩) ∧ W.cell? ⟨w.heap.size, 7, none⟩ = some (.slice A2 0 c2) ∧ w3.heap.size ≤ W.heap.size ∧ Below w3.heap.size w3 W) → (W.drew.cell? ⟨w.heap.size, 5, none⟩ = some (.string name) ∧ W.drew.cell? ⟨w.heap.size, 6, none⟩ = some (.string ⟨#[]⟩) ∧ W.drew.cell? ⟨w.heap.size, 7, none⟩ = some (.slice A2 0 c2) ∧ w3.heap.size ≤ W.drew.heap.size ∧ Below w3.heap.size w3 W.drew)) := fun W ⟨h1, h2, h3, h4, h5⟩ => ⟨h1, h2, h3, h4, h5.drew⟩
  have HKd : Hid (∀ W, (W.cell? ⟨w.heap.size, 5, none⟩ = some (.string name) ∧ W.cell? ⟨w.heap.size, 6, none⟩ = some (.string ⟨#[]⟩) ∧ W.cell? ⟨w.heap.size, 7, none⟩ = some (.slice A2 0 c2) ∧ w3.heap.size ≤ W.heap.size ∧ Below w3.heap.size w3 W) → (W.drew.cell? ⟨w.heap.size, 5, none⟩ = some (.string name) ∧ W.drew.cell? ⟨w.heap.size, 6, none⟩ = some (.string ⟨#[]⟩) ∧ W.drew.cell? ⟨w.heap.size, 7, none⟩ = some (.slice A2 0 c2) ∧ w3.heap.size ≤ W.drew.heap.size ∧ Below w3.heap.size w3 W.drew)) := fun W ⟨h1, h2, h3, h4, h5⟩ => ⟨h1, h2, h3, h4, h5.drew⟩
  have HF := Lib.hid (fun M W (q : W.cell? ⟨w.heap.size, 5, none⟩ = some (.string name) ∧ W.cell? ⟨w.heap.size, 6, none⟩ = some (.string ⟨#[]⟩) ∧ W.cell? ⟨w.heap.size, 7, none⟩ = some (.slice A2 0 c2) ∧ w3.heap.size ≤ W.heap.size ∧ Below w3.heap.size w3 W) => cformat_any b name M W (HC3.out.later q.2.2.2.2))
  have HKst : Hid (∀ W b' o v, w3.heap.size ≤ b' → (W.cell? ⟨w.heap.size, 5, none⟩ = some (.string name) ∧ W.cell? ⟨w.heap.size, 6, none⟩ = some (.string ⟨#[]⟩) ∧ W.cell? ⟨w.heap.size, 7, none⟩ = some (.slice A2 0 c2) ∧ w3.heap.size ≤ W.heap.size ∧ Below w3.heap.size w3 W) → ((W.setCell ⟨b', o, none⟩ v).cell? ⟨w.heap.size, 5, none⟩ = some (.string name) ∧ (W.setCell ⟨b', o, none⟩ v).cell? ⟨w.heap.size, 6, none⟩ = some (.string ⟨#[]⟩) ∧ (W.setCell ⟨b', o, none⟩ v).cell? ⟨w.heap.size, 7, none⟩ = some (.slice A2 0 c2) ∧ w3.heap.size ≤ (W.setCell ⟨b', o, none⟩ v).heap.size ∧ Below w3.heap.size w3 (W.setCell ⟨b', o, none⟩ v))) := fun W b' o v hb ⟨h1, h2, h3, h4, h5⟩ => by
    have e : (W.setCell ⟨b', o, none⟩ v).heap[w.heap.size]? = W.heap[w.heap.size]? := by
      simp only [World.setCell]
      rw [Array.getElem?_modify, if_neg (by omega)]
    have hB' := h5.setCell (p := ⟨b', o, none⟩) hb v
    exact ⟨(cellSame e 5).trans h1, (cellSame e 6).trans h2, (cellSame e 7).trans h3, hB'.size, hB'⟩
  go_wp2
  have hS0 := HS0.out
  refine wp_region_held_drew (S := (fun W => W.cell? ⟨w.heap.size, 5, none⟩ = some (.string name) ∧ W.cell? ⟨w.heap.size, 6, none⟩ = some (.string ⟨#[]⟩) ∧ W.cell? ⟨w.heap.size, 7, none⟩ = some (.slice A2 0 c2) ∧ w3.heap.size ≤ W.heap.size ∧ Below w3.heap.size w3 W)) (by kernel_rfl) hS0 (fun hHeld => ?_)
  refine wpAnyH_take (i := 0) (v := ?_) rfl (by kernel_rfl) (by kernel_rfl) (by kernel_rfl) (fun _ _ _ h => h) (Or.inl ⟨by kernel_rfl, ?_⟩) hS0 ?_
  rotate_left
  · intro w0 hSw; obtain ⟨q5, q6, q7, q8, q9⟩ := hSw; (go_simp <;> with_reducible rfl)
  try simp only [Act.put, List.setIfInBounds_toArray, List.set_cons_zero, List.set_cons_succ]
  refine wpAnyH_take (i := 1) (v := ?_) rfl (by kernel_rfl) (by kernel_rfl) (by kernel_rfl) (fun _ _ _ h => h) (Or.inl ⟨by kernel_rfl, ?_⟩) hS0 ?_
  rotate_left
  · intro w0 hSw; obtain ⟨q5, q6, q7, q8, q9⟩ := hSw; (go_simp <;> with_reducible rfl)
  try simp only [Act.put, List.setIfInBounds_toArray, List.set_cons_zero, List.set_cons_succ]
  refine wpAnyH_take (i := 2) (v := ?_) rfl (by kernel_rfl) (by kernel_rfl) (by kernel_rfl) (fun _ _ _ h => h) (Or.inl ⟨by kernel_rfl, ?_⟩) hS0 ?_
  rotate_left
  · intro w0 hSw; obtain ⟨q5, q6, q7, q8, q9⟩ := hSw; (go_simp <;> with_reducible rfl)
  try simp only [Act.put, List.setIfInBounds_toArray, List.set_cons_zero, List.set_cons_succ]
  refine wpAnyH_take (i := 3) (v := ?_) rfl (by kernel_rfl) (by kernel_rfl) (by kernel_rfl) (fun _ _ _ h => h) (Or.inl ⟨by kernel_rfl, ?_⟩) hS0 ?_
  rotate_left
  · intro w0 hSw; obtain ⟨q5, q6, q7, q8, q9⟩ := hSw; (go_simp <;> with_reducible rfl)
  try simp only [Act.put, List.setIfInBounds_toArray, List.set_cons_zero, List.set_cons_succ]
  refine wpAnyH_take (i := 4) (v := ?_) rfl (by kernel_rfl) (by kernel_rfl) (by kernel_rfl) (fun _ _ _ h => h) (Or.inl ⟨by kernel_rfl, ?_⟩) hS0 ?_
  rotate_left
  · intro w0 hSw; obtain ⟨q5, q6, q7, q8, q9⟩ := hSw; (go_simp <;> with_reducible rfl)
  try simp only [Act.put, List.setIfInBounds_toArray, List.set_cons_zero, List.set_cons_succ]
  refine wpAnyH_take (i := 5) (v := ?_) rfl (by kernel_rfl) (by kernel_rfl) (by kernel_rfl) (fun _ _ _ h => h) (Or.inl ⟨by kernel_rfl, ?_⟩) hS0 ?_
  rotate_left
  · intro w0 hSw; obtain ⟨q5, q6, q7, q8, q9⟩ := hSw; (go_simp <;> with_reducible rfl)
  try simp only [Act.put, List.setIfInBounds_toArray, List.set_cons_zero, List.set_cons_succ]
  refine wpAnyH_take (i := 6) (v := ?_) rfl (by kernel_rfl) (by kernel_rfl) (by kernel_rfl) (fun _ _ _ h => h) (Or.inl ⟨by kernel_rfl, ?_⟩) hS0 ?_
  rotate_left
  · intro w0 hSw; obtain ⟨q5, q6, q7, q8, q9⟩ := hSw; (go_simp <;> with_reducible rfl)
  try simp only [Act.put, List.setIfInBounds_toArray, List.set_cons_zero, List.set_cons_succ]
  refine wpAnyH_ready (rs := [7, 12]) (by kernel_rfl) (by simp) ?_
  refine AllReadyH.cons rfl (fun K hK => ?_) (AllReadyH.cons rfl (fun K hK => ?_) AllReadyH.nil)
  · go_simp
    go_at_call 27
    refine (rvals_none _ _ _).mono ?_
    rintro e wa ⟨⟨M, rfl⟩, hba⟩
    have hS1 := HKp.out _ _ hS0 hba
    refine hK.out _ _ hS1 (fun _ => ?_)
    clear hK K
    try simp only [Act.put, List.setIfInBounds_toArray, List.set_cons_zero, List.set_cons_succ]
    refine wpAnyH_ready (rs := [8, 12]) (by kernel_rfl) (by simp) ?_
    refine AllReadyH.cons rfl (fun K hK => ?_) (AllReadyH.cons rfl (fun K hK => ?_) AllReadyH.nil)
    · go_simp
      go_at_call 26
      refine (HF.out _ _ hS1).mono ?_
      rintro e wb ⟨⟨k, rfl, hk⟩, hbb⟩
      have hS2 := HKp.out _ _ hS1 hbb
      have hk2 := hk
      refine hK.out _ _ hS2 (fun _ => ?_)
      clear hK K
      try simp only [Act.put, List.setIfInBounds_toArray, List.set_cons_zero, List.set_cons_succ]
      refine wpAnyH_take (i := 9) (v := ?_) rfl (by kernel_rfl) (by kernel_rfl) (by kernel_rfl) (fun _ _ _ h => h) (Or.inl ⟨by kernel_rfl, ?_⟩) hS2 ?_
      rotate_left
      · intro w0 hSw; obtain ⟨q5, q6, q7, q8, q9⟩ := hSw; (go_simp <;> with_reducible rfl)
      try simp only [Act.put, List.setIfInBounds_toArray, List.set_cons_zero, List.set_cons_succ]
      refine wpAnyH_take (i := 10) (v := ?_) rfl (by kernel_rfl) (by kernel_rfl) (by kernel_rfl) (fun _ _ _ h => h) (Or.inl ⟨by kernel_rfl, ?_⟩) hS2 ?_
      rotate_left
      · intro w0 hSw; obtain ⟨q5, q6, q7, q8, q9⟩ := hSw; (go_simp <;> with_reducible rfl)
      try simp only [Act.put, List.setIfInBounds_toArray, List.set_cons_zero, List.set_cons_succ]
      refine wpAnyH_take (i := 11) (v := ?_) rfl (by kernel_rfl) (by kernel_rfl) (by kernel_rfl) (fun _ _ _ h => h) (Or.inl ⟨by kernel_rfl, ?_⟩) hS2 ?_
      rotate_left
      · intro w0 hSw; obtain ⟨q5, q6, q7, q8, q9⟩ := hSw; (go_simp <;> with_reducible rfl)
      try simp only [Act.put, List.setIfInBounds_toArray, List.set_cons_zero, List.set_cons_succ]
      refine wpAnyH_ready (rs := [12]) (by kernel_rfl) (by simp) ?_
      refine AllReadyH.cons rfl (fun K hK => ?_) AllReadyH.nil
      · go_simp
        have hS3 := HKp.out _ _ hS2 ((Below.refl _ _).alloc (Nat.le_refl _) (.cells #[.string ⟨#[]⟩, .slice none 0 0, .string ⟨#[]⟩] 38))
        have hz3 : w3.heap.size ≤ (wb).heap.size := (hS2).2.2.2.1
        have hx3 : BoxAt (wb.alloc (.cells #[.string ⟨#[]⟩, .slice none 0 0, .string ⟨#[]⟩] 38)) wb.heap.size #[.string ⟨#[]⟩, .slice none 0 0, .string ⟨#[]⟩] 38 := (BoxAt.new (wb) #[.string ⟨#[]⟩, .slice none 0 0, .string ⟨#[]⟩] 38)
        have hk3 := (BoxAt.alloc hk2 (.cells #[.string ⟨#[]⟩, .slice none 0 0, .string ⟨#[]⟩] 38))
        refine hK.out _ _ hS3 (fun _ => ?_)
        clear hK K
        try simp only [Act.put, List.setIfInBounds_toArray, List.set_cons_zero, List.set_cons_succ]
        have HSq := Lib.hid (hS3)
        have HXq := Lib.hid (hx3)
        have HKq := Lib.hid (hk3)
        have hAl := Lib.hid (hz3)
        generalize (wb.alloc (.cells #[.string ⟨#[]⟩, .slice none 0 0, .string ⟨#[]⟩] 38)) = wq at *
        generalize wb.heap.size = kA at *
        have e0 : wq.cell? ⟨kA, 0, none⟩ = some (.string ⟨#[]⟩) := HXq.out.cell 0
        have e1 : wq.cell? ⟨kA, 1, none⟩ = some (.slice none 0 0) := HXq.out.cell 1
        have e2 : wq.cell? ⟨kA, 2, none⟩ = some (.string ⟨#[]⟩) := HXq.out.cell 2
        have z0 : wq.frozen? ⟨kA, 0, none⟩ = false := Lib.frozen_of_heap HXq.out 0
        have z1 : wq.frozen? ⟨kA, 1, none⟩ = false := Lib.frozen_of_heap HXq.out 1
        have z2 : wq.frozen? ⟨kA, 2, none⟩ = false := Lib.frozen_of_heap HXq.out 2
        have hlA := HXq.out.lt
        refine wpAnyH_ready (rs := [13]) (by kernel_rfl) (by simp) ?_
        refine AllReadyH.cons rfl (fun K hK => ?_) AllReadyH.nil
        go_simp
        have hT := HKst.out _ kA 2 (.string ⟨#[]⟩) hAl.out (HKst.out _ kA 1 (.slice (some ⟨k, 0, none⟩) 1 1) hAl.out (HKst.out _ kA 0 (.string name) hAl.out HSq.out))
        refine hK.out _ _ hT (fun _ => ?_)
        clear hK K
        try simp only [Act.put, List.setIfInBounds_toArray, List.set_cons_zero, List.set_cons_succ]
        refine wpAnyH_take (i := 14) (v := ?_) rfl (by kernel_rfl) (by kernel_rfl) (by kernel_rfl) (fun _ _ _ h => h) (Or.inl ⟨by kernel_rfl, ?_⟩) hT ?_
        rotate_left
        · intro w0 hSw; obtain ⟨q5, q6, q7, q8, q9⟩ := hSw; (go_simp <;> with_reducible rfl)
        try simp only [Act.put, List.setIfInBounds_toArray, List.set_cons_zero, List.set_cons_succ]
        refine wpAnyH_done (by kernel_rfl) ?_ _
        clear hHeld
        have hkn : k ≠ kA := fun e => by
          have h1 := HXq.out
          have h2 := HKq.out
          subst e
          unfold BoxAt at h1 h2
          rw [h1] at h2
          cases h2
        have hoA : w.heap.size + 1 ≠ kA := by have := HY3.out.lt; have := hAl.out; omega
        have hX := box_a012 HXq.out (.string name) (.slice (some ⟨k, 0, none⟩) 1 1) (.string ⟨#[]⟩)
        have HK2 := Lib.hid (((HKq.out.setOther ⟨kA, 0, none⟩ (.string name) hkn).setOther ⟨kA, 1, none⟩ (.slice (some ⟨k, 0, none⟩) 1 1) hkn).setOther ⟨kA, 2, none⟩ (.string ⟨#[]⟩) hkn)
        have hY := (((HY3.out.later HSq.out.2.2.2.2).setOther ⟨kA, 0, none⟩ (.string name) hoA).setOther ⟨kA, 1, none⟩ (.slice (some ⟨k, 0, none⟩) 1 1) hoA).setOther ⟨kA, 2, none⟩ (.string ⟨#[]⟩) hoA
        have HBe := Lib.hid (HB3.out.trans (hT.2.2.2.2.mono HB3.out.size))
        clear hT e0 e1 e2 z0 z1 z2 hlA
        generalize World.setCell _ _ _ = wz at *
        have e0 : wz.cell? ⟨kA, 0, none⟩ = some (.string name) := hX.cell 0
        have e1 : wz.cell? ⟨kA, 1, none⟩ = some (.slice (some ⟨k, 0, none⟩) 1 1) := hX.cell 1
        have e2 : wz.cell? ⟨kA, 2, none⟩ = some (.string ⟨#[]⟩) := hX.cell 2
        have g0 : wz.cell? ⟨w.heap.size + 1, 0, none⟩ = some (.int .i64 0) := hY.cell 0
        have g1 : wz.cell? ⟨w.heap.size + 1, 1, none⟩ = some (.slice none 0 0) := hY.cell 1
        have g2 : wz.cell? ⟨w.heap.size + 1, 2, none⟩ = some (.int .i64 0) := hY.cell 2
        have g3 : wz.cell? ⟨w.heap.size + 1, 3, none⟩ = some (.string ⟨#[]⟩) := hY.cell 3
        have g4 : wz.cell? ⟨w.heap.size + 1, 4, none⟩ = some (.slice none 0 0) := hY.cell 4
        have g5 : wz.cell? ⟨w.heap.size + 1, 5, none⟩ = some (.string ⟨#[]⟩) := hY.cell 5
        have g6 : wz.cell? ⟨w.heap.size + 1, 6, none⟩ = some (.bool false) := hY.cell 6
        have z0 : wz.frozen? ⟨w.heap.size + 1, 0, none⟩ = false := Lib.frozen_of_heap hY 0
        have z1 : wz.frozen? ⟨w.heap.size + 1, 1, none⟩ = false := Lib.frozen_of_heap hY 1
        have z2 : wz.frozen? ⟨w.heap.size + 1, 2, none⟩ = false := Lib.frozen_of_heap hY 2
        have z3 : wz.frozen? ⟨w.heap.size + 1, 3, none⟩ = false := Lib.frozen_of_heap hY 3
        have z4 : wz.frozen? ⟨w.heap.size + 1, 4, none⟩ = false := Lib.frozen_of_heap hY 4
        have z5 : wz.frozen? ⟨w.heap.size + 1, 5, none⟩ = false := Lib.frozen_of_heap hY 5
        have z6 : wz.frozen? ⟨w.heap.size + 1, 6, none⟩ = false := Lib.frozen_of_heap hY 6
        have hlx := hX.lt
        have hly := hY.lt
        have hkr : k ≠ w.heap.size + 1 := fun e => by
          have h2 := HK2.out
          subst e
          unfold BoxAt at hY h2
          rw [hY] at h2
          cases h2
        have HYh := Lib.hid hY
        clear hX hY HSq HXq HKq
        go_wp2
        refine endO7 rfl (box_o7 HYh.out _ _ _ _ _ _ _) rfl rfl ⟨⟨k, rfl, ?_⟩, ?_⟩
        · exact ((((((HK2.out.setOther _ _ hkr).setOther _ _ hkr).setOther _ _ hkr).setOther _ _ hkr).setOther _ _ hkr).setOther _ _ hkr).setOther _ _ hkr
        · exact ((((((HBe.out.setCell (by simp) _).setCell (by simp) _).setCell (by simp) _).setCell (by simp) _).setCell (by simp) _).setCell (by simp) _).setCell (by simp) _
    · go_simp
      have hS2 := HKp.out _ _ hS1 ((Below.refl _ _).alloc (Nat.le_refl _) (.cells #[.string ⟨#[]⟩, .slice none 0 0, .string ⟨#[]⟩] 38))
      have hz2 : w3.heap.size ≤ (wa).heap.size := (hS1).2.2.2.1
      have hx2 : BoxAt (wa.alloc (.cells #[.string ⟨#[]⟩, .slice none 0 0, .string ⟨#[]⟩] 38)) wa.heap.size #[.string ⟨#[]⟩, .slice none 0 0, .string ⟨#[]⟩] 38 := (BoxAt.new (wa) #[.string ⟨#[]⟩, .slice none 0 0, .string ⟨#[]⟩] 38)
      refine hK.out _ _ hS2 (fun _ => ?_)
      clear hK K
      try simp only [Act.put, List.setIfInBounds_toArray, List.set_cons_zero, List.set_cons_succ]
      refine wpAnyH_ready (rs := [8]) (by kernel_rfl) (by simp) ?_
      refine AllReadyH.cons rfl (fun K hK => ?_) AllReadyH.nil
      · go_simp
        go_at_call 26
        refine (HF.out _ _ hS2).mono ?_
        rintro e wb ⟨⟨k, rfl, hk⟩, hbb⟩
        have hS3 := HKp.out _ _ hS2 hbb
        have hk3 := hk
        have hx3 := BoxAt.later hx2 hbb
        refine hK.out _ _ hS3 (fun _ => ?_)
        clear hK K
        try simp only [Act.put, List.setIfInBounds_toArray, List.set_cons_zero, List.set_cons_succ]
        refine wpAnyH_take (i := 9) (v := ?_) rfl (by kernel_rfl) (by kernel_rfl) (by kernel_rfl) (fun _ _ _ h => h) (Or.inl ⟨by kernel_rfl, ?_⟩) hS3 ?_
        rotate_left
        · intro w0 hSw; obtain ⟨q5, q6, q7, q8, q9⟩ := hSw; (go_simp <;> with_reducible rfl)
        try simp only [Act.put, List.setIfInBounds_toArray, List.set_cons_zero, List.set_cons_succ]
        refine wpAnyH_take (i := 10) (v := ?_) rfl (by kernel_rfl) (by kernel_rfl) (by kernel_rfl) (fun _ _ _ h => h) (Or.inl ⟨by kernel_rfl, ?_⟩) hS3 ?_
        rotate_left
        · intro w0 hSw; obtain ⟨q5, q6, q7, q8, q9⟩ := hSw; (go_simp <;> with_reducible rfl)
        try simp only [Act.put, List.setIfInBounds_toArray, List.set_cons_zero, List.set_cons_succ]
        refine wpAnyH_take (i := 11) (v := ?_) rfl (by kernel_rfl) (by kernel_rfl) (by kernel_rfl) (fun _ _ _ h => h) (Or.inl ⟨by kernel_rfl, ?_⟩) hS3 ?_
        rotate_left
        · intro w0 hSw; obtain ⟨q5, q6, q7, q8, q9⟩ := hSw; (go_simp <;> with_reducible rfl)
        try simp only [Act.put, List.setIfInBounds_toArray, List.set_cons_zero, List.set_cons_succ]
        have HSq := Lib.hid (hS3)
        have HXq := Lib.hid (hx3)
        have HKq := Lib.hid (hk3)
        have hAl := Lib.hid (hz2)
        generalize wb = wq at *
        generalize wa.heap.size = kA at *
        have e0 : wq.cell? ⟨kA, 0, none⟩ = some (.string ⟨#[]⟩) := HXq.out.cell 0
        have e1 : wq.cell? ⟨kA, 1, none⟩ = some (.slice none 0 0) := HXq.out.cell 1
        have e2 : wq.cell? ⟨kA, 2, none⟩ = some (.string ⟨#[]⟩) := HXq.out.cell 2
        have z0 : wq.frozen? ⟨kA, 0, none⟩ = false := Lib.frozen_of_heap HXq.out 0
        have z1 : wq.frozen? ⟨kA, 1, none⟩ = false := Lib.frozen_of_heap HXq.out 1
        have z2 : wq.frozen? ⟨kA, 2, none⟩ = false := Lib.frozen_of_heap HXq.out 2
        have hlA := HXq.out.lt
        refine wpAnyH_ready (rs := [13]) (by kernel_rfl) (by simp) ?_
        refine AllReadyH.cons rfl (fun K hK => ?_) AllReadyH.nil
        go_simp
        have hT := HKst.out _ kA 2 (.string ⟨#[]⟩) hAl.out (HKst.out _ kA 1 (.slice (some ⟨k, 0, none⟩) 1 1) hAl.out (HKst.out _ kA 0 (.string name) hAl.out HSq.out))
        refine hK.out _ _ hT (fun _ => ?_)
        clear hK K
        try simp only [Act.put, List.setIfInBounds_toArray, List.set_cons_zero, List.set_cons_succ]
        refine wpAnyH_take (i := 14) (v := ?_) rfl (by kernel_rfl) (by kernel_rfl) (by kernel_rfl) (fun _ _ _ h => h) (Or.inl ⟨by kernel_rfl, ?_⟩) hT ?_
        rotate_left
        · intro w0 hSw; obtain ⟨q5, q6, q7, q8, q9⟩ := hSw; (go_simp <;> with_reducible rfl)
        try simp only [Act.put, List.setIfInBounds_toArray, List.set_cons_zero, List.set_cons_succ]
        refine wpAnyH_done (by kernel_rfl) ?_ _
        clear hHeld
        have hkn : k ≠ kA := fun e => by
          have h1 := HXq.out
          have h2 := HKq.out
          subst e
          unfold BoxAt at h1 h2
          rw [h1] at h2
          cases h2
        have hoA : w.heap.size + 1 ≠ kA := by have := HY3.out.lt; have := hAl.out; omega
        have hX := box_a012 HXq.out (.string name) (.slice (some ⟨k, 0, none⟩) 1 1) (.string ⟨#[]⟩)
        have HK2 := Lib.hid (((HKq.out.setOther ⟨kA, 0, none⟩ (.string name) hkn).setOther ⟨kA, 1, none⟩ (.slice (some ⟨k, 0, none⟩) 1 1) hkn).setOther ⟨kA, 2, none⟩ (.string ⟨#[]⟩) hkn)
        have hY := (((HY3.out.later HSq.out.2.2.2.2).setOther ⟨kA, 0, none⟩ (.string name) hoA).setOther ⟨kA, 1, none⟩ (.slice (some ⟨k, 0, none⟩) 1 1) hoA).setOther ⟨kA, 2, none⟩ (.string ⟨#[]⟩) hoA
        have HBe := Lib.hid (HB3.out.trans (hT.2.2.2.2.mono HB3.out.size))
        clear hT e0 e1 e2 z0 z1 z2 hlA
        generalize World.setCell _ _ _ = wz at *
        have e0 : wz.cell? ⟨kA, 0, none⟩ = some (.string name) := hX.cell 0
        have e1 : wz.cell? ⟨kA, 1, none⟩ = some (.slice (some ⟨k, 0, none⟩) 1 1) := hX.cell 1
        have e2 : wz.cell? ⟨kA, 2, none⟩ = some (.string ⟨#[]⟩) := hX.cell 2
        have g0 : wz.cell? ⟨w.heap.size + 1, 0, none⟩ = some (.int .i64 0) := hY.cell 0
        have g1 : wz.cell? ⟨w.heap.size + 1, 1, none⟩ = some (.slice none 0 0) := hY.cell 1
        have g2 : wz.cell? ⟨w.heap.size + 1, 2, none⟩ = some (.int .i64 0) := hY.cell 2
        have g3 : wz.cell? ⟨w.heap.size + 1, 3, none⟩ = some (.string ⟨#[]⟩) := hY.cell 3
        have g4 : wz.cell? ⟨w.heap.size + 1, 4, none⟩ = some (.slice none 0 0) := hY.cell 4
        have g5 : wz.cell? ⟨w.heap.size + 1, 5, none⟩ = some (.string ⟨#[]⟩) := hY.cell 5
        have g6 : wz.cell? ⟨w.heap.size + 1, 6, none⟩ = some (.bool false) := hY.cell 6
        have z0 : wz.frozen? ⟨w.heap.size + 1, 0, none⟩ = false := Lib.frozen_of_heap hY 0
        have z1 : wz.frozen? ⟨w.heap.size + 1, 1, none⟩ = false := Lib.frozen_of_heap hY 1
        have z2 : wz.frozen? ⟨w.heap.size + 1, 2, none⟩ = false := Lib.frozen_of_heap hY 2
        have z3 : wz.frozen? ⟨w.heap.size + 1, 3, none⟩ = false := Lib.frozen_of_heap hY 3
        have z4 : wz.frozen? ⟨w.heap.size + 1, 4, none⟩ = false := Lib.frozen_of_heap hY 4
        have z5 : wz.frozen? ⟨w.heap.size + 1, 5, none⟩ = false := Lib.frozen_of_heap hY 5
        have z6 : wz.frozen? ⟨w.heap.size + 1, 6, none⟩ = false := Lib.frozen_of_heap hY 6
        have hlx := hX.lt
        have hly := hY.lt
        have hkr : k ≠ w.heap.size + 1 := fun e => by
          have h2 := HK2.out
          subst e
          unfold BoxAt at hY h2
          rw [hY] at h2
          cases h2
        have HYh := Lib.hid hY
        clear hX hY HSq HXq HKq
        go_wp2
        refine endO7 rfl (box_o7 HYh.out _ _ _ _ _ _ _) rfl rfl ⟨⟨k, rfl, ?_⟩, ?_⟩
        · exact ((((((HK2.out.setOther _ _ hkr).setOther _ _ hkr).setOther _ _ hkr).setOther _ _ hkr).setOther _ _ hkr).setOther _ _ hkr).setOther _ _ hkr
        · exact ((((((HBe.out.setCell (by simp) _).setCell (by simp) _).setCell (by simp) _).setCell (by simp) _).setCell (by simp) _).setCell (by simp) _).setCell (by simp) _
  · go_simp
    have hS1 := HKp.out _ _ hS0 ((Below.refl _ _).alloc (Nat.le_refl _) (.cells #[.string ⟨#[]⟩, .slice none 0 0, .string ⟨#[]⟩] 38))
    have hz1 : w3.heap.size ≤ (w3.drew).heap.size := (hS0).2.2.2.1
    have hx1 : BoxAt (w3.drew.alloc (.cells #[.string ⟨#[]⟩, .slice none 0 0, .string ⟨#[]⟩] 38)) w3.heap.size #[.string ⟨#[]⟩, .slice none 0 0, .string ⟨#[]⟩] 38 := (BoxAt.new (w3.drew) #[.string ⟨#[]⟩, .slice none 0 0, .string ⟨#[]⟩] 38)
    refine hK.out _ _ hS1 (fun _ => ?_)
    clear hK K
    try simp only [Act.put, List.setIfInBounds_toArray, List.set_cons_zero, List.set_cons_succ]
    refine wpAnyH_ready (rs := [7]) (by kernel_rfl) (by simp) ?_
    refine AllReadyH.cons rfl (fun K hK => ?_) AllReadyH.nil
    · go_simp
      go_at_call 27
      refine (rvals_none _ _ _).mono ?_
      rintro e wa ⟨⟨M, rfl⟩, hba⟩
      have hS2 := HKp.out _ _ hS1 hba
      have hx2 := BoxAt.later hx1 hba
      refine hK.out _ _ hS2 (fun _ => ?_)
      clear hK K
      try simp only [Act.put, List.setIfInBounds_toArray, List.set_cons_zero, List.set_cons_succ]
      refine wpAnyH_ready (rs := [8]) (by kernel_rfl) (by simp) ?_
      refine AllReadyH.cons rfl (fun K hK => ?_) AllReadyH.nil
      · go_simp
        go_at_call 26
        refine (HF.out _ _ hS2).mono ?_
        rintro e wb ⟨⟨k, rfl, hk⟩, hbb⟩
        have hS3 := HKp.out _ _ hS2 hbb
        have hk3 := hk
        have hx3 := BoxAt.later hx2 hbb
        refine hK.out _ _ hS3 (fun _ => ?_)
        clear hK K
        try simp only [Act.put, List.setIfInBounds_toArray, List.set_cons_zero, List.set_cons_succ]
        refine wpAnyH_take (i := 9) (v := ?_) rfl (by kernel_rfl) (by kernel_rfl) (by kernel_rfl) (fun _ _ _ h => h) (Or.inl ⟨by kernel_rfl, ?_⟩) hS3 ?_
        rotate_left
        · intro w0 hSw; obtain ⟨q5, q6, q7, q8, q9⟩ := hSw; (go_simp <;> with_reducible rfl)
        try simp only [Act.put, List.setIfInBounds_toArray, List.set_cons_zero, List.set_cons_succ]
        refine wpAnyH_take (i := 10) (v := ?_) rfl (by kernel_rfl) (by kernel_rfl) (by kernel_rfl) (fun _ _ _ h => h) (Or.inl ⟨by kernel_rfl, ?_⟩) hS3 ?_
        rotate_left
        · intro w0 hSw; obtain ⟨q5, q6, q7, q8, q9⟩ := hSw; (go_simp <;> with_reducible rfl)
        try simp only [Act.put, List.setIfInBounds_toArray, List.set_cons_zero, List.set_cons_succ]
        refine wpAnyH_take (i := 11) (v := ?_) rfl (by kernel_rfl) (by kernel_rfl) (by kernel_rfl) (fun _ _ _ h => h) (Or.inl ⟨by kernel_rfl, ?_⟩) hS3 ?_
        rotate_left
        · intro w0 hSw; obtain ⟨q5, q6, q7, q8, q9⟩ := hSw; (go_simp <;> with_reducible rfl)
        try simp only [Act.put, List.setIfInBounds_toArray, List.set_cons_zero, List.set_cons_succ]
        have HSq := Lib.hid (hS3)
        have HXq := Lib.hid (hx3)
        have HKq := Lib.hid (hk3)
        have hAl := Lib.hid (hz1)
        generalize wb = wq at *
        have e0 : wq.cell? ⟨w3.heap.size, 0, none⟩ = some (.string ⟨#[]⟩) := HXq.out.cell 0
        have e1 : wq.cell? ⟨w3.heap.size, 1, none⟩ = some (.slice none 0 0) := HXq.out.cell 1
        have e2 : wq.cell? ⟨w3.heap.size, 2, none⟩ = some (.string ⟨#[]⟩) := HXq.out.cell 2
        have z0 : wq.frozen? ⟨w3.heap.size, 0, none⟩ = false := Lib.frozen_of_heap HXq.out 0
        have z1 : wq.frozen? ⟨w3.heap.size, 1, none⟩ = false := Lib.frozen_of_heap HXq.out 1
        have z2 : wq.frozen? ⟨w3.heap.size, 2, none⟩ = false := Lib.frozen_of_heap HXq.out 2
        have hlA := HXq.out.lt
        refine wpAnyH_ready (rs := [13]) (by kernel_rfl) (by simp) ?_
        refine AllReadyH.cons rfl (fun K hK => ?_) AllReadyH.nil
        go_simp
        have hT := HKst.out _ w3.heap.size 2 (.string ⟨#[]⟩) hAl.out (HKst.out _ w3.heap.size 1 (.slice (some ⟨k, 0, none⟩) 1 1) hAl.out (HKst.out _ w3.heap.size 0 (.string name) hAl.out HSq.out))
        refine hK.out _ _ hT (fun _ => ?_)
        clear hK K
        try simp only [Act.put, List.setIfInBounds_toArray, List.set_cons_zero, List.set_cons_succ]
        refine wpAnyH_take (i := 14) (v := ?_) rfl (by kernel_rfl) (by kernel_rfl) (by kernel_rfl) (fun _ _ _ h => h) (Or.inl ⟨by kernel_rfl, ?_⟩) hT ?_
        rotate_left
        · intro w0 hSw; obtain ⟨q5, q6, q7, q8, q9⟩ := hSw; (go_simp <;> with_reducible rfl)
        try simp only [Act.put, List.setIfInBounds_toArray, List.set_cons_zero, List.set_cons_succ]
        refine wpAnyH_done (by kernel_rfl) ?_ _
        clear hHeld
        have hkn : k ≠ w3.heap.size := fun e => by
          have h1 := HXq.out
          have h2 := HKq.out
          subst e
          unfold BoxAt at h1 h2
          rw [h1] at h2
          cases h2
        have hoA : w.heap.size + 1 ≠ w3.heap.size := by have := HY3.out.lt; have := hAl.out; omega
        have hX := box_a012 HXq.out (.string name) (.slice (some ⟨k, 0, none⟩) 1 1) (.string ⟨#[]⟩)
        have HK2 := Lib.hid (((HKq.out.setOther ⟨w3.heap.size, 0, none⟩ (.string name) hkn).setOther ⟨w3.heap.size, 1, none⟩ (.slice (some ⟨k, 0, none⟩) 1 1) hkn).setOther ⟨w3.heap.size, 2, none⟩ (.string ⟨#[]⟩) hkn)
        have hY := (((HY3.out.later HSq.out.2.2.2.2).setOther ⟨w3.heap.size, 0, none⟩ (.string name) hoA).setOther ⟨w3.heap.size, 1, none⟩ (.slice (some ⟨k, 0, none⟩) 1 1) hoA).setOther ⟨w3.heap.size, 2, none⟩ (.string ⟨#[]⟩) hoA
        have HBe := Lib.hid (HB3.out.trans (hT.2.2.2.2.mono HB3.out.size))
        clear hT e0 e1 e2 z0 z1 z2 hlA
        generalize World.setCell _ _ _ = wz at *
        have e0 : wz.cell? ⟨w3.heap.size, 0, none⟩ = some (.string name) := hX.cell 0
        have e1 : wz.cell? ⟨w3.heap.size, 1, none⟩ = some (.slice (some ⟨k, 0, none⟩) 1 1) := hX.cell 1
        have e2 : wz.cell? ⟨w3.heap.size, 2, none⟩ = some (.string ⟨#[]⟩) := hX.cell 2
        have g0 : wz.cell? ⟨w.heap.size + 1, 0, none⟩ = some (.int .i64 0) := hY.cell 0
        have g1 : wz.cell? ⟨w.heap.size + 1, 1, none⟩ = some (.slice none 0 0) := hY.cell 1
        have g2 : wz.cell? ⟨w.heap.size + 1, 2, none⟩ = some (.int .i64 0) := hY.cell 2
        have g3 : wz.cell? ⟨w.heap.size + 1, 3, none⟩ = some (.string ⟨#[]⟩) := hY.cell 3
        have g4 : wz.cell? ⟨w.heap.size + 1, 4, none⟩ = some (.slice none 0 0) := hY.cell 4
        have g5 : wz.cell? ⟨w.heap.size + 1, 5, none⟩ = some (.string ⟨#[]⟩) := hY.cell 5
        have g6 : wz.cell? ⟨w.heap.size + 1, 6, none⟩ = some (.bool false) := hY.cell 6
        have z0 : wz.frozen? ⟨w.heap.size + 1, 0, none⟩ = false := Lib.frozen_of_heap hY 0
        have z1 : wz.frozen? ⟨w.heap.size + 1, 1, none⟩ = false := Lib.frozen_of_heap hY 1
        have z2 : wz.frozen? ⟨w.heap.size + 1, 2, none⟩ = false := Lib.frozen_of_heap hY 2
        have z3 : wz.frozen? ⟨w.heap.size + 1, 3, none⟩ = false := Lib.frozen_of_heap hY 3
        have z4 : wz.frozen? ⟨w.heap.size + 1, 4, none⟩ = false := Lib.frozen_of_heap hY 4
        have z5 : wz.frozen? ⟨w.heap.size + 1, 5, none⟩ = false := Lib.frozen_of_heap hY 5
        have z6 : wz.frozen? ⟨w.heap.size + 1, 6, none⟩ = false := Lib.frozen_of_heap hY 6
        have hlx := hX.lt
        have hly := hY.lt
        have hkr : k ≠ w.heap.size + 1 := fun e => by
          have h2 := HK2.out
          subst e
          unfold BoxAt at hY h2
          rw [hY] at h2
          cases h2
        have HYh := Lib.hid hY
        clear hX hY HSq HXq HKq
        go_wp2
        refine endO7 rfl (box_o7 HYh.out _ _ _ _ _ _ _) rfl rfl ⟨⟨k, rfl, ?_⟩, ?_⟩
        · exact ((((((HK2.out.setOther _ _ hkr).setOther _ _ hkr).setOther _ _ hkr).setOther _ _ hkr).setOther _ _ hkr).setOther _ _ hkr).setOther _ _ hkr
        · exact ((((((HBe.out.setCell (by simp) _).setCell (by simp) _).setCell (by simp) _).setCell (by simp) _).setCell (by simp) _).setCell (by simp) _).setCell (by simp) _
end Go.Proofs.YtgdkpamlkpncgabGreatDoor
