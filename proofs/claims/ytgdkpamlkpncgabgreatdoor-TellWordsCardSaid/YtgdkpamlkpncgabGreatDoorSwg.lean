/-
  Package script: the reader: a step.
-/
import Derived.Test.YtgdkpamlkpncgabGreatDoorSwf
import Derived.Deep.RegionLaw
import Derived.Deep.Cut
namespace Go.Proofs.YtgdkpamlkpncgabGreatDoor
open Go.RowKit
set_option linter.unusedVariables false
set_option linter.unusedSimpArgs false

theorem cellsB8 {w : World} {k : Nat} {x0 x1 x2 x3 x4 x5 x6 x7 : Value} {t : TypeId} (h : BoxAt w k #[x0, x1, x2, x3, x4, x5, x6, x7] t) :
    w.cell? ⟨k, 0, none⟩ = some x0 ∧ w.cell? ⟨k, 1, none⟩ = some x1 ∧ w.cell? ⟨k, 2, none⟩ = some x2 ∧ w.cell? ⟨k, 3, none⟩ = some x3 ∧ w.cell? ⟨k, 4, none⟩ = some x4 ∧ w.cell? ⟨k, 5, none⟩ = some x5 ∧ w.cell? ⟨k, 6, none⟩ = some x6 ∧ w.cell? ⟨k, 7, none⟩ = some x7 ∧
    w.frozen? ⟨k, 0, none⟩ = false ∧ w.frozen? ⟨k, 1, none⟩ = false ∧ w.frozen? ⟨k, 2, none⟩ = false ∧ w.frozen? ⟨k, 3, none⟩ = false ∧ w.frozen? ⟨k, 4, none⟩ = false ∧ w.frozen? ⟨k, 5, none⟩ = false ∧ w.frozen? ⟨k, 6, none⟩ = false ∧ w.frozen? ⟨k, 7, none⟩ = false :=
  ⟨h.cell 0, h.cell 1, h.cell 2, h.cell 3, h.cell 4, h.cell 5, h.cell 6, h.cell 7, h.fz 0, h.fz 1, h.fz 2, h.fz 3, h.fz 4, h.fz 5, h.fz 6, h.fz 7⟩
theorem resS {fn : Func} {A : Nat} {tmps : Array Value} {w : World} {b : Nat} {x0 x1 x2 x3 x4 x5 x6 x7 : Value} {t : TypeId} (hres : fn.results = #[.cell A 45]) (ha : tmps.getD A undef = .pointer (some ⟨b, 0, none⟩))
    (hb : BoxAt w b #[x0, x1, x2, x3, x4, x5, x6, x7] t) : (results fn tmps).run Tryz.prog w = .ok (.agg #[x0, x1, x2, x3, x4, x5, x6, x7]) w := by
  obtain ⟨q0, q1, q2, q3, q4, q5, q6, q7, _⟩ := cellsB8 hb
  have ha' : tmps[A]?.getD undef = .pointer (some ⟨b, 0, none⟩) := by rw [← ha]; simp
  simp [results, hres, ha', go_sem, q0, q1, q2, q3, q4, q5, q6, q7]
theorem endS {fn : Func} {R : Ending → World → Prop} {a : Act} {w2 : World} {A b : Nat} {x0 x1 x2 x3 x4 x5 x6 x7 : Value} {t : TypeId} (hres : fn.results = #[.cell A 45]) (hbox : BoxAt w2 b #[x0, x1, x2, x3, x4, x5, x6, x7] t)
    (ha : a.tmps.getD A undef = .pointer (some ⟨b, 0, none⟩)) (hd : a.defers = []) (hR : R (.returned (.agg #[x0, x1, x2, x3, x4, x5, x6, x7])) w2) : bodyPost Tryz.prog fn R .ret a w2 :=
  bodyPost_ret (resS hres ha hbox) hd hR
def setB (w : World) (b : Nat) (x0 x1 x2 x3 x4 x5 x6 x7 : Value) : World := (((((((w.setCell ⟨b, 0, none⟩ x0).setCell ⟨b, 1, none⟩ x1).setCell ⟨b, 2, none⟩ x2).setCell ⟨b, 3, none⟩ x3).setCell ⟨b, 4, none⟩ x4).setCell ⟨b, 5, none⟩ x5).setCell ⟨b, 6, none⟩ x6).setCell ⟨b, 7, none⟩ x7
theorem setB_heap (w : World) (b : Nat) (x0 x1 x2 x3 x4 x5 x6 x7 : Value) (k : Nat) (hk : k ≠ b) : (setB w b x0 x1 x2 x3 x4 x5 x6 x7).heap[k]? = w.heap[k]? := by
  unfold setB
  rw [Below.heap_setCell _ _ _ k hk, Below.heap_setCell _ _ _ k hk, Below.heap_setCell _ _ _ k hk, Below.heap_setCell _ _ _ k hk, Below.heap_setCell _ _ _ k hk, Below.heap_setCell _ _ _ k hk, Below.heap_setCell _ _ _ k hk, Below.heap_setCell _ _ _ k hk]
theorem setB_size (w : World) (b : Nat) (x0 x1 x2 x3 x4 x5 x6 x7 : Value) : (setB w b x0 x1 x2 x3 x4 x5 x6 x7).heap.size = w.heap.size := by
  unfold setB; simp
theorem box_setB {w : World} {E : Nat} {x0 x1 x2 x3 x4 x5 x6 x7 : Value} {t : TypeId} (h : BoxAt w E #[x0, x1, x2, x3, x4, x5, x6, x7] t) (y0 y1 y2 y3 y4 y5 y6 y7 : Value) :
    BoxAt (setB w E y0 y1 y2 y3 y4 y5 y6 y7) E #[y0, y1, y2, y3, y4, y5, y6, y7] t := by
  unfold setB
  unfold BoxAt at h ⊢
  simp [World.setCell, Array.getElem?_modify, h]
theorem Kp.setB {rb : Nat} {a w : World} (h : Kp rb a w) {b : Nat} (hb : a.heap.size ≤ b) (hr : rb < a.heap.size) (x0 x1 x2 x3 x4 x5 x6 x7 : Value) : Kp rb a (setB w b x0 x1 x2 x3 x4 x5 x6 x7) :=
  (((((((h.setN hb hr 0 x0).setN hb hr 1 x1).setN hb hr 2 x2).setN hb hr 3 x3).setN hb hr 4 x4).setN hb hr 5 x5).setN hb hr 6 x6).setN hb hr 7 x7
theorem Rs.setB {rb : Nat} {st : RSt} {w : World} (h : Rs rb st w) {b : Nat} (hb : rb ≠ b) (x0 x1 x2 x3 x4 x5 x6 x7 : Value) : Rs rb st (setB w b x0 x1 x2 x3 x4 x5 x6 x7) :=
  (((((((h.other hb 0 x0).other hb 1 x1).other hb 2 x2).other hb 3 x3).other hb 4 x4).other hb 5 x5).other hb 6 x6).other hb 7 x7
abbrev zS : Array Value := #[.int .i64 0, .string ⟨#[]⟩, .string ⟨#[]⟩, .bool false, .slice none 0 0, .string ⟨#[]⟩, .string ⟨#[]⟩, .slice none 0 0]
/-- What the reader's step gives. -/
def GotS (B rb : Nat) (w : World) (x : ST) (st : RSt) (e : Ending) (w' : World) : Prop :=
  Rs rb st w' ∧ Kp rb w w' ∧ EnvB B w' ∧ ∃ A1 c1 A2 c2, e = .returned (.agg (stA x A1 c1 A2 c2)) ∧ StF w' (Snc w.heap.size w') x A1 A2
/-- While a step is read: the result's block, the step's block, and what it holds. -/
structure Mid (B rb : Nat) (w : World) (b3 : Nat) (cs : Array Value) (st : RSt) (W : World) : Prop where
  box : BoxAt W b3 cs 45
  res : BoxAt W w.heap.size zS 45
  rs : Rs rb st W
  kp : Kp rb w W
  env : EnvB B W
theorem Mid.call {B rb : Nat} {w W W' : World} {b3 : Nat} {cs : Array Value} {st st' : RSt} (h : Mid B rb w b3 cs st W) (hr : Rs rb st' W') (hk : Kp rb W W') (hE : EnvB B W') (hlt : rb < w.heap.size) (h3 : w.heap.size < b3) : Mid B rb w b3 cs st' W' :=
  ⟨h.box.kp hk (by omega), h.res.kp hk (by omega), hr, h.kp.trans hk, hE⟩
theorem Mid.put {B rb : Nat} {w W : World} {b3 : Nat} {cs : Array Value} {st : RSt} (h : Mid B rb w b3 cs st W) (hlt : rb < w.heap.size) (h3 : w.heap.size < b3) (hB : B ≤ rb) (o : Nat) (v : Value) : Mid B rb w b3 (cs.setIfInBounds o v) st (W.setCell ⟨b3, o, none⟩ v) :=
  ⟨h.box.put o v, h.res.setOther ⟨b3, o, none⟩ v (by show w.heap.size ≠ b3; omega), h.rs.other (by omega) o v, h.kp.setN (by omega) hlt o v, h.env.step ((Below.refl _ _).setCell (p := ⟨b3, o, none⟩) (by show B ≤ b3; omega) v)⟩
theorem Mid.end_ {B rb : Nat} {w W : World} {b3 : Nat} {x : ST} {A1 A2 : Option Addr} {c1 c2 : Nat} {st : RSt} (h : Mid B rb w b3 (stA x A1 c1 A2 c2) st W) (hlt : rb < w.heap.size) (hB : B ≤ rb) (hS : StF W (fun b => Snc w.heap.size W b ∧ b ≠ w.heap.size) x A1 A2) :
    BoxAt (setB W w.heap.size (.int .i64 x.kind) (.string x.tag) (.string x.bytes) (.bool x.over) (.slice A1 x.wishes.length c1) (.string x.name) (.string x.attr) (.slice A2 x.args.length c2)) w.heap.size (stA x A1 c1 A2 c2) 45 ∧
    GotS B rb w x st (.returned (.agg (stA x A1 c1 A2 c2))) (setB W w.heap.size (.int .i64 x.kind) (.string x.tag) (.string x.bytes) (.bool x.over) (.slice A1 x.wishes.length c1) (.string x.name) (.string x.attr) (.slice A2 x.args.length c2)) := by
  have hk := h.kp.setB (b := w.heap.size) (Nat.le_refl _) hlt (.int .i64 x.kind) (.string x.tag) (.string x.bytes) (.bool x.over) (.slice A1 x.wishes.length c1) (.string x.name) (.string x.attr) (.slice A2 x.args.length c2)
  refine ⟨box_setB h.res _ _ _ _ _ _ _ _, h.rs.setB (by omega) _ _ _ _ _ _ _ _, hk, ?_, A1, c1, A2, c2, rfl, ?_⟩
  · obtain ⟨w0, e, hw0, hb0⟩ := h.env
    have hs := h.res.lt
    refine h.env.step ?_
    exact ((((((((Below.refl B W).setCell (p := ⟨w.heap.size, 0, none⟩) (by show B ≤ w.heap.size; omega) _).setCell (p := ⟨w.heap.size, 1, none⟩) (by show B ≤ w.heap.size; omega) _).setCell (p := ⟨w.heap.size, 2, none⟩) (by show B ≤ w.heap.size; omega) _).setCell (p := ⟨w.heap.size, 3, none⟩) (by show B ≤ w.heap.size; omega) _).setCell (p := ⟨w.heap.size, 4, none⟩) (by show B ≤ w.heap.size; omega) _).setCell (p := ⟨w.heap.size, 5, none⟩) (by show B ≤ w.heap.size; omega) _).setCell (p := ⟨w.heap.size, 6, none⟩) (by show B ≤ w.heap.size; omega) _).setCell (p := ⟨w.heap.size, 7, none⟩) (by show B ≤ w.heap.size; omega) _
  · exact hS.carry fun b hb => ⟨⟨hb.1.1, by rw [setB_size]; exact hb.1.2⟩, setB_heap _ _ _ _ _ _ _ _ _ _ b hb.2⟩
def OneTo (B rb : Nat) (signs : ByteArray) (st : RSt) (k : Int) (st' : RSt) : Prop := RdTo B rb 19 #[pt rb, .string signs] st (.int .i64 k) st'
set_option maxHeartbeats 4000000 in
set_option maxRecDepth 100000 in
theorem step_add {B rb : Nat} (hB : B ≤ rb) {st s1 s2 s3 s4 : RSt} {x y : ByteArray} {k : Int} (q : Bool) (hq : (k == 1) = q) (h1 : OneTo B rb ⟨#[97, 99, 113]⟩ st 0 s1) (h2 : TextTo B rb s1 x s2) (h3 : OneTo B rb ⟨#[48, 49]⟩ s2 k s3) (h4 : TextTo B rb s3 y s4) (w : World) (hr : Rs rb st w) (hE : EnvB B w) :
    Calls Tryz.prog 12 #[pt rb] w (GotS B rb w ⟨0, x, y, q, [], eS, eS, []⟩ s4) := by
  have H4 := Lib.hid h4
  clear h4
  have H1 := Lib.hid h1
  have H2 := Lib.hid h2
  have H3 := Lib.hid h3
  have hlt := hr.lt
  have HE := Lib.hid hE
  have HR0 := Lib.hid (hr.alloc (.cells zS 45))
  have HE0 := Lib.hid (hE.alloc (.cells zS 45))
  have HK0 := Lib.hid ((Kp.refl rb w).alloc (by omega) (.cells zS 45))
  have B0 := Lib.hid (BoxAt.new w zS 45)
  clear h1 h2 h3 hr hE
  unfold OneTo RdTo TextTo pt at *
  go_enter Tryz.func12, Tryz.ntmps12
  go_wp2_with fail
  go_at_call 19
  refine (H1.out _ HR0.out HE0.out).mono ?_
  rintro e w1 ⟨rfl, hr1, hk1, hE1⟩
  have hsz := hk1.size
  rw [World.size_alloc] at hsz
  have HM := Lib.hid (show Mid B rb w w1.heap.size #[.int .i64 0, .string ⟨#[]⟩, .string ⟨#[]⟩, .bool false, .slice none 0 0, .string ⟨#[]⟩, .string ⟨#[]⟩, .slice none 0 0] s1 (w1.alloc (.cells #[.int .i64 0, .string ⟨#[]⟩, .string ⟨#[]⟩, .bool false, .slice none 0 0, .string ⟨#[]⟩, .string ⟨#[]⟩, .slice none 0 0] 45)) from
    ⟨BoxAt.new _ _ _, (B0.out.kp hk1 (by omega)).alloc _, hr1.alloc _, (HK0.out.trans hk1).alloc (by omega) _, hE1.alloc _⟩)
  have h3 : w.heap.size < w1.heap.size := by omega
  clear hr1 hk1 hE1
  go_wp2_with fail
  generalize hb3 : w1.heap.size = b3 at *
  generalize hW : w1.alloc (.cells #[.int .i64 0, .string ⟨#[]⟩, .string ⟨#[]⟩, .bool false, .slice none 0 0, .string ⟨#[]⟩, .string ⟨#[]⟩, .slice none 0 0] 45) = W1 at *
  clear hb3 hW hsz
  obtain ⟨c0, c1, c2, c3, c4, c5, c6, c7, f0, f1, f2, f3, f4, f5, f6, f7⟩ := cellsB8 HM.out.box
  go_wp2_with fail
  go_at_call 20
  refine (H2.out _ HM.out.rs HM.out.env).mono ?_
  rintro e w2 ⟨rfl, hr2, hk2, hE2⟩
  have M2 := Lib.hid ((HM.out.call hr2 hk2 hE2 hlt h3))
  clear hr2 hk2 hE2 c0 c1 c2 c3 c4 c5 c6 c7 f0 f1 f2 f3 f4 f5 f6 f7
  obtain ⟨c0, c1, c2, c3, c4, c5, c6, c7, f0, f1, f2, f3, f4, f5, f6, f7⟩ := cellsB8 M2.out.box
  have N2 := Lib.hid (M2.out.put hlt h3 hB 1 (.string x))
  go_wp2_with fail
  go_at_call 19
  refine (H3.out _ N2.out.rs N2.out.env).mono ?_
  rintro e w3 ⟨rfl, hr3, hk3, hE3⟩
  have M3 := Lib.hid (show Mid B rb w b3 #[.int .i64 0, .string x, .string ⟨#[]⟩, .bool false, .slice none 0 0, .string ⟨#[]⟩, .string ⟨#[]⟩, .slice none 0 0] s3 w3 from N2.out.call hr3 hk3 hE3 hlt h3)
  clear hr3 hk3 hE3 c0 c1 c2 c3 c4 c5 c6 c7 f0 f1 f2 f3 f4 f5 f6 f7
  obtain ⟨c0, c1, c2, c3, c4, c5, c6, c7, f0, f1, f2, f3, f4, f5, f6, f7⟩ := cellsB8 M3.out.box
  have N3 := Lib.hid (M3.out.put hlt h3 hB 3 (.bool q))
  go_wp2_with fail
  go_at_call 20
  refine (H4.out _ N3.out.rs N3.out.env).mono ?_
  rintro e w4 ⟨rfl, hr4, hk4, hE4⟩
  have M4 := Lib.hid (show Mid B rb w b3 #[.int .i64 0, .string x, .string ⟨#[]⟩, .bool q, .slice none 0 0, .string ⟨#[]⟩, .string ⟨#[]⟩, .slice none 0 0] s4 w4 from N3.out.call hr4 hk4 hE4 hlt h3)
  clear hr4 hk4 hE4 c0 c1 c2 c3 c4 c5 c6 c7 f0 f1 f2 f3 f4 f5 f6 f7
  obtain ⟨c0, c1, c2, c3, c4, c5, c6, c7, f0, f1, f2, f3, f4, f5, f6, f7⟩ := cellsB8 M4.out.box
  have N4 := Lib.hid (show Mid B rb w b3 (stA ⟨0, x, y, q, [], eS, eS, []⟩ none 0 none 0) s4 (w4.setCell ⟨b3, 2, none⟩ (.string y)) from M4.out.put hlt h3 hB 2 (.string y))
  go_upto_region 18 with fail
  generalize hW4 : w4.setCell ⟨b3, 2, none⟩ (.string y) = W4 at *
  clear hW4 c0 c1 c2 c3 c4 c5 c6 c7 f0 f1 f2 f3 f4 f5 f6 f7
  obtain ⟨c0, c1, c2, c3, c4, c5, c6, c7, f0, f1, f2, f3, f4, f5, f6, f7⟩ := cellsB8 N4.out.box
  obtain ⟨d0, d1, d2, d3, d4, d5, d6, d7, g0, g1, g2, g3, g4, g5, g6, g7⟩ := cellsB8 N4.out.res
  go_wp2
  obtain ⟨hx, hg⟩ := N4.out.end_ hlt hB ⟨WsIn.nil _ _ _, AsIn.nil _ _ _⟩
  exact endS (b := w.heap.size) rfl hx rfl rfl hg

theorem Mid.drew {B rb : Nat} {w W : World} {b3 : Nat} {cs : Array Value} {st : RSt} (h : Mid B rb w b3 cs st W) : Mid B rb w b3 cs st W.drew := ⟨h.box.drew, h.res.drew, h.rs.drew, h.kp.drew, h.env.drew⟩
theorem Mid.alloc {B rb : Nat} {w W : World} {b3 : Nat} {cs : Array Value} {st : RSt} (h : Mid B rb w b3 cs st W) (hlt : rb < w.heap.size) (o : Obj) : Mid B rb w b3 cs st (W.alloc o) := ⟨h.box.alloc o, h.res.alloc o, h.rs.alloc o, h.kp.alloc (by have := h.kp.size; omega) o, h.env.alloc o⟩
theorem Mid.grown {B rb : Nat} {w W W' : World} {b3 : Nat} {cs : Array Value} {st : RSt} {row : Option Nat} (h : Mid B rb w b3 cs st W) (hlt : rb < w.heap.size) (h3 : w.heap.size < b3) (hB : B ≤ rb) (g : W.grownBy W' row) (hr : ∀ k, row = some k → b3 < k) : Mid B rb w b3 cs st W' := by
  have ne : ∀ k, k ≤ b3 → some k ≠ row := fun k hk e => by have := hr k e.symm; omega
  have hbl : Below (b3 + 1) W W' := ⟨g.os, g.tape, g.output, g.size, fun k hk => g.block k (by have := h.box.lt; omega) (ne k (by omega))⟩
  have hl3 := h.box.lt
  refine ⟨(g.block b3 hl3 (ne b3 (Nat.le_refl _))).trans h.box, (g.block _ h.res.lt (ne _ (by omega))).trans h.res, (g.block _ h.rs.lt (ne _ (by omega))).trans h.rs, ⟨h.kp.below.trans (hbl.mono (by omega)), fun k hk hn => ?_⟩, h.env.step (hbl.mono (by omega))⟩
  exact (hbl.block k (by omega)).trans (h.kp.others k hk hn)
theorem stepCall {P : Program} {ops : Array Oper} {o : Oper} {a : Act} {w : World} {K : Act → World → Prop} {Q : Exit → Act → World → Prop} {E : Prop} (hg : o.guard = none) (h : Oper.wp P o a w K Q) :
    if Region.wanted o (yielded ops a.tmps) = true then Oper.wp P o a w K Q else E := by
  have hw : Region.wanted o (yielded ops a.tmps) = true := by simp [Region.wanted, hg]
  rw [if_pos hw]
  exact h
def lenAt (w : World) (b o : Nat) : Nat := match w.cell? ⟨b, o, none⟩ with | some (.slice _ n _) => n | _ => 0
theorem lenAt_of {w : World} {b o n c : Nat} {A : Option Addr} (h : w.cell? ⟨b, o, none⟩ = some (.slice A n c)) : lenAt w b o = n := by
  unfold lenAt
  rw [h]
theorem manyG_end {α : Type} {f : RSt → α × RSt} {k : Nat} {acc : List α} {st : RSt} (h : k = 0 ∨ st.2 = true) : manyG f k acc st = (acc, st) := by
  cases k with
  | zero => rfl
  | succ k =>
    rcases h with h | h
    · omega
    · rw [manyG, if_pos h]
theorem manyG_go {α : Type} {f : RSt → α × RSt} {k : Nat} {acc : List α} {r : ByteArray} : manyG f (k + 1) acc (r, false) = manyG f k (acc ++ [(f (r, false)).1]) (f (r, false)).2 := by
  rw [manyG, if_neg (by simp)]
set_option maxHeartbeats 8000000 in
set_option maxRecDepth 100000 in
theorem step_choose {B rb : Nat} (hB : B ≤ rb) {st s1 s2 s3 : RSt} {x : ByteArray} {n : Nat} (h1 : OneTo B rb ⟨#[97, 99, 113]⟩ st 1 s1) (h2 : TextTo B rb s1 x s2) (h3 : RdTo B rb 21 #[pt rb] s2 (.int .i64 n) s3) (hT : ∀ s : RSt, s.1.size ≤ 4000000 → TextTo B rb s (textG s).1 (textG s).2) (hsz : ∀ s : RSt, (textG s).2.1.size ≤ s.1.size)
    (hs3 : s3.1.size ≤ 4000000) (hn : n ≤ 262144) (w : World) (hr : Rs rb st w) (hE : EnvB B w) :
    Calls Tryz.prog 12 #[pt rb] w (GotS B rb w ⟨1, x, eS, false, (manyG textG n [] s3).1, eS, eS, []⟩ (manyG textG n [] s3).2) := by
  obtain ⟨i0, hinf, hz0, hz1, hz2⟩ := info_split infoTx
  obtain ⟨RES, hRES⟩ : ∃ R, manyG textG n [] s3 = R := ⟨_, rfl⟩
  rw [hRES]
  have HRES := Lib.hid hRES
  have HT := Lib.hid hT
  have HSZ := Lib.hid hsz
  have hn0 : (n : Int) ≤ 262144 := by omega
  clear hRES hT hsz
  have H1 := Lib.hid h1
  have H2 := Lib.hid h2
  have H3 := Lib.hid h3
  have hlt := hr.lt
  have HE := Lib.hid hE
  have HR0 := Lib.hid (hr.alloc (.cells zS 45))
  have HE0 := Lib.hid (hE.alloc (.cells zS 45))
  have HK0 := Lib.hid ((Kp.refl rb w).alloc (by omega) (.cells zS 45))
  have B0 := Lib.hid (BoxAt.new w zS 45)
  clear h1 h2 h3 hr hE
  unfold OneTo RdTo TextTo pt at *
  go_enter Tryz.func12, Tryz.ntmps12
  go_wp2_with fail
  go_at_call 19
  refine (H1.out _ HR0.out HE0.out).mono ?_
  rintro e w1 ⟨rfl, hr1, hk1, hE1⟩
  have hsz := hk1.size
  rw [World.size_alloc] at hsz
  have HM := Lib.hid (show Mid B rb w w1.heap.size #[.int .i64 1, .string ⟨#[]⟩, .string ⟨#[]⟩, .bool false, .slice none 0 0, .string ⟨#[]⟩, .string ⟨#[]⟩, .slice none 0 0] s1 (w1.alloc (.cells #[.int .i64 1, .string ⟨#[]⟩, .string ⟨#[]⟩, .bool false, .slice none 0 0, .string ⟨#[]⟩, .string ⟨#[]⟩, .slice none 0 0] 45)) from
    ⟨BoxAt.new _ _ _, (B0.out.kp hk1 (by omega)).alloc _, hr1.alloc _, (HK0.out.trans hk1).alloc (by omega) _, hE1.alloc _⟩)
  have h3 : w.heap.size < w1.heap.size := by omega
  clear hr1 hk1 hE1
  go_wp2_with fail
  generalize hb3 : w1.heap.size = b3 at *
  generalize hW : w1.alloc (.cells #[.int .i64 1, .string ⟨#[]⟩, .string ⟨#[]⟩, .bool false, .slice none 0 0, .string ⟨#[]⟩, .string ⟨#[]⟩, .slice none 0 0] 45) = W1 at *
  clear hb3 hW hsz
  obtain ⟨c0, c1, c2, c3, c4, c5, c6, c7, f0, f1, f2, f3, f4, f5, f6, f7⟩ := cellsB8 HM.out.box
  go_wp2_with fail
  go_at_call 20
  refine (H2.out _ HM.out.rs HM.out.env).mono ?_
  rintro e w2 ⟨rfl, hr2, hk2, hE2⟩
  have M2 := Lib.hid (show Mid B rb w b3 #[.int .i64 1, .string ⟨#[]⟩, .string ⟨#[]⟩, .bool false, .slice none 0 0, .string ⟨#[]⟩, .string ⟨#[]⟩, .slice none 0 0] s2 w2 from HM.out.call hr2 hk2 hE2 hlt h3)
  clear hr2 hk2 hE2 c0 c1 c2 c3 c4 c5 c6 c7 f0 f1 f2 f3 f4 f5 f6 f7
  obtain ⟨c0, c1, c2, c3, c4, c5, c6, c7, f0, f1, f2, f3, f4, f5, f6, f7⟩ := cellsB8 M2.out.box
  have N2 := Lib.hid (M2.out.put hlt h3 hB 1 (.string x))
  go_wp2_with fail
  go_at_call 21
  refine (H3.out _ N2.out.rs N2.out.env).mono ?_
  rintro e w3 ⟨rfl, hr3, hk3, hE3⟩
  have M3 := Lib.hid (show Mid B rb w b3 #[.int .i64 1, .string x, .string ⟨#[]⟩, .bool false, .slice none 0 0, .string ⟨#[]⟩, .string ⟨#[]⟩, .slice none 0 0] s3 w3 from N2.out.call hr3 hk3 hE3 hlt h3)
  clear hr3 hk3 hE3 c0 c1 c2 c3 c4 c5 c6 c7 f0 f1 f2 f3 f4 f5 f6 f7
  go_wp2_with fail
  go_loopw [] (fun wr => ∃ (acc : List ByteArray) (A : Option Addr) (c : Nat) (s : RSt), acc.length ≤ n ∧ s.1.size ≤ 4000000 ∧ Hid (manyG textG (n - acc.length) acc s = RES) ∧ Hid (OwnTx (b3 + 1) wr (.slice A acc.length c) acc) ∧ Hid (Mid B rb w b3 #[.int .i64 1, .string x, .string ⟨#[]⟩, .bool false, .slice A acc.length c, .string ⟨#[]⟩, .string ⟨#[]⟩, .slice none 0 0] s wr)) (fun wr => n - lenAt wr b3 4)
  case atStart => exact ⟨[], none, 0, s3, Nat.zero_le _, hs3, HRES, Lib.hid (OwnG.nil _ _), M3⟩
  case round =>
    obtain ⟨acc, A, c, ⟨r, fl⟩, hal, hs, HG, HO, HW⟩ := hrel
    have hal0 : (acc.length : Int) ≤ 262144 := by omega
    dsimp only at hs
    obtain ⟨c0, c1, c2, c3, c4, c5, c6, c7, f0, f1, f2, f3, f4, f5, f6, f7⟩ := cellsB8 HW.out.box
    have k1 := HW.out.rs.c1
    dsimp only at k1
    by_cases hlt2 : acc.length < n ∧ fl = false
    · obtain ⟨hl, rfl⟩ := hlt2
      have d1 : decide ((acc.length : Int) < (n : Int)) = true := decide_eq_true (by omega)
      have d2 : (acc.length : Int) < (n : Int) := by omega
      have HTx := Lib.hid (HT.out (r, false) hs)
      have hsz5 := HSZ.out (r, false)
      obtain ⟨k, hk⟩ : ∃ k, n - acc.length = k + 1 := ⟨n - acc.length - 1, by omega⟩
      have hG := HG.out
      rw [hk, manyG_go] at hG
      dsimp only at hsz5
      generalize textG (r, false) = Q at *
      obtain ⟨Y, s5⟩ := Q
      dsimp only at HTx hG hsz5
      have HG5 := Lib.hid hG
      clear hG

      have HK := Lib.hid hk
      clear hk
      go_wp2_with fail
      go_region_law (first
        | (refine stepCall rfl ?_; go_simp; go_at_call 20; refine (HTx.out _ HW.out.rs.drew HW.out.env.drew).mono ?_; rintro e w5 ⟨rfl, hr5, hk5, hE5⟩; have M5 := Lib.hid (HW.out.drew.call hr5 hk5 hE5 hlt h3); have O5 := Lib.hid (OwnG.kp (W := wr.drew) HO.out hk5 (by omega)); obtain ⟨e0, e1, e2, e3, e4, e5, e6, e7, g0, g1, g2, g3, g4, g5, g6, g7⟩ := cellsB8 M5.out.box; have l5 := M5.out.box.lt; clear hr5 hk5 hE5)
        | (refine stepApp rfl (.tmp 43) (.tmp 46) 26 rfl (b3 + 1) 9 i0 (.string ⟨#[]⟩) 1 16 Tryz.underlying26 hinf hz0 hz1 hz2 rfl (by decide) (.slice A acc.length c) acc.length (acc.flatMap txC) (by simp [Act.eval, Act.put]) (OwnG.alloc O5.out (.cells #[.string Y] 9)) ⟨w5.heap.size, 0, none⟩ 1 1 [.string Y] (by simp [Act.eval, Act.put]) rfl (fun j u hj => by
            have hb := BoxAt.new w5 #[.string Y] 9
            rw [addMid, Nat.zero_add, hb.cell j]
            simpa using hj) (by intro u hu; simp at hu; subst hu; rfl) (by unfold maxLen; omega) (by omega) (by show b3 + 1 ≤ (w5.alloc _).heap.size; rw [World.size_alloc]; omega) (by decide) ?_; intro v' w6 hown hgrow hwh; obtain ⟨gA, cA, rfl⟩ := own_some hown; have M6 := Lib.hid ((M5.out.alloc hlt (.cells #[.string Y] 9)).grown hlt h3 hB hgrow (fun k e => by have := OwnG.lt (OwnG.alloc O5.out (.cells #[.string Y] 9)) k e; omega)); have O6 := Lib.hid (OwnG.snoc (f := txC) (x := Y) rfl hown); obtain ⟨p0, p1, p2, p3, p4, p5, p6, p7, q0, q1, q2, q3, q4, q5, q6, q7⟩ := cellsB8 M6.out.box; clear hown hgrow hwh))
      all_goals
        go_wp2_with fail
        have M7 := M6.out.put hlt h3 hB 4 (.slice (some ⟨gA, 0, none⟩) (acc.length + 1) cA)
        have O7 := O6.out.set (b := b3) (by omega) 4 (.slice (some ⟨gA, 0, none⟩) (acc.length + 1) cA)
        have hl7 := lenAt_of (M7.box.cell 4)
        go_roundw
        case rel =>
          refine ⟨acc ++ [Y], some ⟨gA, 0, none⟩, cA, s5, ?_, ?_, Lib.hid ?_, Lib.hid ?_, Lib.hid ?_⟩
          · rw [List.length_append, List.length_singleton]; omega
          · exact Nat.le_trans hsz5 hs
          · rw [List.length_append, List.length_singleton, show n - (acc.length + 1) = k by have := HK.out; omega]
            exact HG5.out
          · rw [List.length_append, List.length_singleton]
            exact O7
          · rw [List.length_append, List.length_singleton]
            exact M7
        case measure =>
          rw [hl7, lenAt_of c4]
          omega
    · have hend : n - acc.length = 0 ∨ ((r, fl) : RSt).2 = true := by
        cases fl
        · exact .inl (by
            have : ¬ acc.length < n := fun h => hlt2 ⟨h, rfl⟩
            omega)
        · exact .inr rfl
      have hG := HG.out
      rw [manyG_end hend] at hG
      subst hG
      have HX := Lib.hid (show StF wr (fun b => Snc w.heap.size wr b ∧ b ≠ w.heap.size) ⟨1, x, eS, false, acc, eS, eS, []⟩ A none from ⟨HO.out.ws.carry (fun b hb => ⟨⟨⟨by have := hb.1; omega, hb.2⟩, by have := hb.1; omega⟩, rfl⟩), AsIn.nil _ _ _⟩)
      obtain ⟨d0, d1, d2, d3, d4, d5, d6, d7, g0, g1, g2, g3, g4, g5, g6, g7⟩ := cellsB8 HW.out.res
      have hfin := Mid.end_ (x := ⟨1, x, eS, false, acc, eS, eS, []⟩) (A1 := A) (c1 := c) (A2 := none) (c2 := 0) HW.out hlt hB HX.out
      have HFin := Lib.hid hfin
      clear hfin
      have hcs : decide ((acc.length : Int) < (n : Int)) = true ∧ fl = true ∨ decide ((acc.length : Int) < (n : Int)) = false := by
        by_cases h : acc.length < n
        · refine .inl ⟨decide_eq_true (by omega), ?_⟩
          cases fl
          · exact absurd ⟨h, rfl⟩ hlt2
          · rfl
        · exact .inr (decide_eq_false (by omega))
      clear hlt2 hend
      rcases hcs with ⟨q1, rfl⟩ | q1
      · have q2 : (acc.length : Int) < (n : Int) := of_decide_eq_true q1
        go_wp2
        exact endS (b := w.heap.size) rfl HFin.out.1 rfl rfl HFin.out.2
      · have q2 : ¬ (acc.length : Int) < (n : Int) := of_decide_eq_false q1
        go_wp2
        exact endS (b := w.heap.size) rfl HFin.out.1 rfl rfl HFin.out.2
set_option maxHeartbeats 8000000 in
set_option maxRecDepth 100000 in
theorem step_ask {B rb : Nat} (hB : B ≤ rb) {st s1 s2 s3 s5 : RSt} {x y : ByteArray} {n : Nat} (h1 : OneTo B rb ⟨#[97, 99, 113]⟩ st 2 s1) (h2 : TextTo B rb s1 x s2) (h4 : TextTo B rb s2 y s5) (h3 : RdTo B rb 21 #[pt rb] s5 (.int .i64 n) s3) (hT : ∀ s : RSt, s.1.size ≤ 4000000 → RdTo B rb 22 #[pt rb] s (arV (argG s).1) (argG s).2) (hsz : ∀ s : RSt, (argG s).2.1.size ≤ s.1.size)
    (hs3 : s3.1.size ≤ 4000000) (hn : n ≤ 262144) (w : World) (hr : Rs rb st w) (hE : EnvB B w) :
    Calls Tryz.prog 12 #[pt rb] w (GotS B rb w ⟨2, eS, eS, false, [], x, y, (manyG argG n [] s3).1⟩ (manyG argG n [] s3).2) := by
  obtain ⟨i0, hinf, hz0, hz1, hz2⟩ := info_split infoAr
  obtain ⟨RES, hRES⟩ : ∃ R, manyG argG n [] s3 = R := ⟨_, rfl⟩
  rw [hRES]
  have HRES := Lib.hid hRES
  have HT := Lib.hid hT
  have HSZ := Lib.hid hsz
  have hn0 : (n : Int) ≤ 262144 := by omega
  clear hRES hT hsz
  have H4 := Lib.hid h4
  clear h4
  have H1 := Lib.hid h1
  have H2 := Lib.hid h2
  have H3 := Lib.hid h3
  have hlt := hr.lt
  have HE := Lib.hid hE
  have HR0 := Lib.hid (hr.alloc (.cells zS 45))
  have HE0 := Lib.hid (hE.alloc (.cells zS 45))
  have HK0 := Lib.hid ((Kp.refl rb w).alloc (by omega) (.cells zS 45))
  have B0 := Lib.hid (BoxAt.new w zS 45)
  clear h1 h2 h3 hr hE
  unfold OneTo RdTo TextTo pt at *
  go_enter Tryz.func12, Tryz.ntmps12
  go_wp2_with fail
  go_at_call 19
  refine (H1.out _ HR0.out HE0.out).mono ?_
  rintro e w1 ⟨rfl, hr1, hk1, hE1⟩
  have hsz := hk1.size
  rw [World.size_alloc] at hsz
  have HM := Lib.hid (show Mid B rb w w1.heap.size #[.int .i64 2, .string ⟨#[]⟩, .string ⟨#[]⟩, .bool false, .slice none 0 0, .string ⟨#[]⟩, .string ⟨#[]⟩, .slice none 0 0] s1 (w1.alloc (.cells #[.int .i64 2, .string ⟨#[]⟩, .string ⟨#[]⟩, .bool false, .slice none 0 0, .string ⟨#[]⟩, .string ⟨#[]⟩, .slice none 0 0] 45)) from
    ⟨BoxAt.new _ _ _, (B0.out.kp hk1 (by omega)).alloc _, hr1.alloc _, (HK0.out.trans hk1).alloc (by omega) _, hE1.alloc _⟩)
  have h3 : w.heap.size < w1.heap.size := by omega
  clear hr1 hk1 hE1
  go_wp2_with fail
  generalize hb3 : w1.heap.size = b3 at *
  generalize hW : w1.alloc (.cells #[.int .i64 2, .string ⟨#[]⟩, .string ⟨#[]⟩, .bool false, .slice none 0 0, .string ⟨#[]⟩, .string ⟨#[]⟩, .slice none 0 0] 45) = W1 at *
  clear hb3 hW hsz
  obtain ⟨c0, c1, c2, c3, c4, c5, c6, c7, f0, f1, f2, f3, f4, f5, f6, f7⟩ := cellsB8 HM.out.box
  go_wp2_with fail
  go_at_call 20
  refine (H2.out _ HM.out.rs HM.out.env).mono ?_
  rintro e w2 ⟨rfl, hr2, hk2, hE2⟩
  have M2 := Lib.hid (show Mid B rb w b3 #[.int .i64 2, .string ⟨#[]⟩, .string ⟨#[]⟩, .bool false, .slice none 0 0, .string ⟨#[]⟩, .string ⟨#[]⟩, .slice none 0 0] s2 w2 from HM.out.call hr2 hk2 hE2 hlt h3)
  clear hr2 hk2 hE2 c0 c1 c2 c3 c4 c5 c6 c7 f0 f1 f2 f3 f4 f5 f6 f7
  obtain ⟨c0, c1, c2, c3, c4, c5, c6, c7, f0, f1, f2, f3, f4, f5, f6, f7⟩ := cellsB8 M2.out.box
  have N2 := Lib.hid (M2.out.put hlt h3 hB 5 (.string x))
  go_wp2_with fail
  go_at_call 20
  refine (H4.out _ N2.out.rs N2.out.env).mono ?_
  rintro e w4 ⟨rfl, hr4, hk4, hE4⟩
  have M4 := Lib.hid (show Mid B rb w b3 #[.int .i64 2, .string ⟨#[]⟩, .string ⟨#[]⟩, .bool false, .slice none 0 0, .string x, .string ⟨#[]⟩, .slice none 0 0] s5 w4 from N2.out.call hr4 hk4 hE4 hlt h3)
  clear hr4 hk4 hE4 c0 c1 c2 c3 c4 c5 c6 c7 f0 f1 f2 f3 f4 f5 f6 f7
  obtain ⟨c0, c1, c2, c3, c4, c5, c6, c7, f0, f1, f2, f3, f4, f5, f6, f7⟩ := cellsB8 M4.out.box
  have N4 := Lib.hid (M4.out.put hlt h3 hB 6 (.string y))
  go_wp2_with fail
  go_at_call 21
  refine (H3.out _ N4.out.rs N4.out.env).mono ?_
  rintro e w3 ⟨rfl, hr3, hk3, hE3⟩
  have M3 := Lib.hid (show Mid B rb w b3 #[.int .i64 2, .string ⟨#[]⟩, .string ⟨#[]⟩, .bool false, .slice none 0 0, .string x, .string y, .slice none 0 0] s3 w3 from N4.out.call hr3 hk3 hE3 hlt h3)
  clear hr3 hk3 hE3 c0 c1 c2 c3 c4 c5 c6 c7 f0 f1 f2 f3 f4 f5 f6 f7
  go_wp2_with fail
  go_loopw [] (fun wr => ∃ (acc : List SA) (A : Option Addr) (c : Nat) (s : RSt), acc.length ≤ n ∧ s.1.size ≤ 4000000 ∧ Hid (manyG argG (n - acc.length) acc s = RES) ∧ Hid (OwnAr (b3 + 1) wr (.slice A acc.length c) acc) ∧ Hid (Mid B rb w b3 #[.int .i64 2, .string ⟨#[]⟩, .string ⟨#[]⟩, .bool false, .slice none 0 0, .string x, .string y, .slice A acc.length c] s wr)) (fun wr => n - lenAt wr b3 7)
  case atStart => exact ⟨[], none, 0, s3, Nat.zero_le _, hs3, HRES, Lib.hid (OwnG.nil _ _), M3⟩
  case round =>
    obtain ⟨acc, A, c, ⟨r, fl⟩, hal, hs, HG, HO, HW⟩ := hrel
    have hal0 : (acc.length : Int) ≤ 262144 := by omega
    dsimp only at hs
    obtain ⟨c0, c1, c2, c3, c4, c5, c6, c7, f0, f1, f2, f3, f4, f5, f6, f7⟩ := cellsB8 HW.out.box
    have k1 := HW.out.rs.c1
    dsimp only at k1
    by_cases hlt2 : acc.length < n ∧ fl = false
    · obtain ⟨hl, rfl⟩ := hlt2
      have d1 : decide ((acc.length : Int) < (n : Int)) = true := decide_eq_true (by omega)
      have d2 : (acc.length : Int) < (n : Int) := by omega
      have HTx := Lib.hid (HT.out (r, false) hs)
      have hsz5 := HSZ.out (r, false)
      obtain ⟨k, hk⟩ : ∃ k, n - acc.length = k + 1 := ⟨n - acc.length - 1, by omega⟩
      have hG := HG.out
      rw [hk, manyG_go] at hG
      dsimp only at hsz5
      generalize argG (r, false) = Q at *
      obtain ⟨Y, s5⟩ := Q
      dsimp only at HTx hG hsz5
      have HG5 := Lib.hid hG
      clear hG
      unfold arV at HTx
      have HK := Lib.hid hk
      clear hk
      go_wp2_with fail
      go_region_law (first
        | (refine stepCall rfl ?_; go_simp; go_at_call 22; refine (HTx.out _ HW.out.rs.drew HW.out.env.drew).mono ?_; rintro e w5 ⟨rfl, hr5, hk5, hE5⟩; have M5 := Lib.hid (HW.out.drew.call hr5 hk5 hE5 hlt h3); have O5 := Lib.hid (OwnG.kp (W := wr.drew) HO.out hk5 (by omega)); obtain ⟨e0, e1, e2, e3, e4, e5, e6, e7, g0, g1, g2, g3, g4, g5, g6, g7⟩ := cellsB8 M5.out.box; have l5 := M5.out.box.lt; clear hr5 hk5 hE5)
        | (refine stepApp rfl (.tmp 72) (.tmp 75) 43 rfl (b3 + 1) 65 i0 (.agg #[.string ⟨#[]⟩, .int .i64 0, .string ⟨#[]⟩]) 3 40 Tryz.underlying43 hinf hz0 hz1 hz2 rfl (by decide) (.slice A acc.length c) acc.length (acc.flatMap arC) (by simp [Act.eval, Act.put]) (OwnG.alloc O5.out (.cells #[.string Y.name, .int .i64 Y.kind, .string Y.text] 65)) ⟨w5.heap.size, 0, none⟩ 1 1 [.string Y.name, .int .i64 Y.kind, .string Y.text] (by simp [Act.eval, Act.put]) rfl (fun j u hj => by
            have hb := BoxAt.new w5 #[.string Y.name, .int .i64 Y.kind, .string Y.text] 65
            rw [addMid, Nat.zero_add, hb.cell j]
            simpa using hj) (by intro u hu; simp at hu; rcases hu with rfl | rfl | rfl <;> rfl) (by unfold maxLen; omega) (by omega) (by show b3 + 1 ≤ (w5.alloc _).heap.size; rw [World.size_alloc]; omega) (by decide) ?_; intro v' w6 hown hgrow hwh; obtain ⟨gA, cA, rfl⟩ := own_some hown; have M6 := Lib.hid ((M5.out.alloc hlt (.cells #[.string Y.name, .int .i64 Y.kind, .string Y.text] 65)).grown hlt h3 hB hgrow (fun k e => by have := OwnG.lt (OwnG.alloc O5.out (.cells #[.string Y.name, .int .i64 Y.kind, .string Y.text] 65)) k e; omega)); have O6 := Lib.hid (OwnG.snoc (f := arC) (x := Y) rfl hown); obtain ⟨p0, p1, p2, p3, p4, p5, p6, p7, q0, q1, q2, q3, q4, q5, q6, q7⟩ := cellsB8 M6.out.box; clear hown hgrow hwh))
      all_goals
        go_wp2_with fail
        have M7 := M6.out.put hlt h3 hB 7 (.slice (some ⟨gA, 0, none⟩) (acc.length + 1) cA)
        have O7 := O6.out.set (b := b3) (by omega) 7 (.slice (some ⟨gA, 0, none⟩) (acc.length + 1) cA)
        have hl7 := lenAt_of (M7.box.cell 7)
        go_roundw
        case rel =>
          refine ⟨acc ++ [Y], some ⟨gA, 0, none⟩, cA, s5, ?_, ?_, Lib.hid ?_, Lib.hid ?_, Lib.hid ?_⟩
          · rw [List.length_append, List.length_singleton]; omega
          · exact Nat.le_trans hsz5 hs
          · rw [List.length_append, List.length_singleton, show n - (acc.length + 1) = k by have := HK.out; omega]
            exact HG5.out
          · rw [List.length_append, List.length_singleton]
            exact O7
          · rw [List.length_append, List.length_singleton]
            exact M7
        case measure =>
          rw [hl7, lenAt_of c7]
          omega
    · have hend : n - acc.length = 0 ∨ ((r, fl) : RSt).2 = true := by
        cases fl
        · exact .inl (by
            have : ¬ acc.length < n := fun h => hlt2 ⟨h, rfl⟩
            omega)
        · exact .inr rfl
      have hG := HG.out
      rw [manyG_end hend] at hG
      subst hG
      have HX := Lib.hid (show StF wr (fun b => Snc w.heap.size wr b ∧ b ≠ w.heap.size) ⟨2, eS, eS, false, [], x, y, acc⟩ none A from ⟨WsIn.nil _ _ _, HO.out.as.carry (fun b hb => ⟨⟨⟨by have := hb.1; omega, hb.2⟩, by have := hb.1; omega⟩, rfl⟩)⟩)
      obtain ⟨d0, d1, d2, d3, d4, d5, d6, d7, g0, g1, g2, g3, g4, g5, g6, g7⟩ := cellsB8 HW.out.res
      have hfin := Mid.end_ (x := ⟨2, eS, eS, false, [], x, y, acc⟩) (A1 := none) (c1 := 0) (A2 := A) (c2 := c) HW.out hlt hB HX.out
      have HFin := Lib.hid hfin
      clear hfin
      have hcs : decide ((acc.length : Int) < (n : Int)) = true ∧ fl = true ∨ decide ((acc.length : Int) < (n : Int)) = false := by
        by_cases h : acc.length < n
        · refine .inl ⟨decide_eq_true (by omega), ?_⟩
          cases fl
          · exact absurd ⟨h, rfl⟩ hlt2
          · rfl
        · exact .inr (decide_eq_false (by omega))
      clear hlt2 hend
      rcases hcs with ⟨q1, rfl⟩ | q1
      · have q2 : (acc.length : Int) < (n : Int) := of_decide_eq_true q1
        go_wp2
        exact endS (b := w.heap.size) rfl HFin.out.1 rfl rfl HFin.out.2
      · have q2 : ¬ (acc.length : Int) < (n : Int) := of_decide_eq_false q1
        go_wp2
        exact endS (b := w.heap.size) rfl HFin.out.1 rfl rfl HFin.out.2

theorem oneS_cases (st : RSt) : (oneG [97, 99, 113] st).1 = 0 ∨ (oneG [97, 99, 113] st).1 = 1 ∨ (oneG [97, 99, 113] st).1 = 2 := by
  unfold oneG
  split
  · next h =>
    unfold oneOk at h
    rw [Bool.and_eq_true, decide_eq_true_iff, decide_eq_true_iff] at h
    have h1 := (ixb_lt _ _ h.2).1
    have h2 := h.2
    simp only [List.length_cons, List.length_nil] at h1
    dsimp only
    omega
  · exact .inl rfl
theorem oneK_range (l : List UInt8) (st : RSt) : 0 ≤ (oneG l st).1 ∧ (oneG l st).1 ≤ l.length := by
  unfold oneG
  split
  · next h =>
    unfold oneOk at h
    rw [Bool.and_eq_true, decide_eq_true_iff, decide_eq_true_iff] at h
    have h1 := (ixb_lt _ _ h.2).1
    have h2 := h.2
    dsimp only
    omega
  · dsimp only; omega
theorem manyG_size {α : Type} {f : RSt → α × RSt} (h : ∀ s : RSt, (f s).2.1.size ≤ s.1.size) : ∀ (n : Nat) (acc : List α) (st : RSt), (manyG f n acc st).2.1.size ≤ st.1.size
  | 0, acc, st => Nat.le_refl _
  | n + 1, acc, st => by
    rw [manyG]
    split
    · exact Nat.le_refl _
    · exact Nat.le_trans (manyG_size h n _ _) (h st)
theorem stepG_size (st : RSt) : (stepG st).2.1.size ≤ st.1.size := by
  have h0 := oneG_size [97, 99, 113] st
  unfold stepG
  split
  · unfold addG
    have := (textG_size (oneG [97, 99, 113] st).2).2
    have := oneG_size [48, 49] (textG (oneG [97, 99, 113] st).2).2
    have := (textG_size (oneG [48, 49] (textG (oneG [97, 99, 113] st).2).2).2).2
    dsimp only
    omega
  · split
    · unfold chooseG
      have := (textG_size (oneG [97, 99, 113] st).2).2
      have := (countG_size (textG (oneG [97, 99, 113] st).2).2).2
      have := manyG_size (fun s => (textG_size s).2) (countG (textG (oneG [97, 99, 113] st).2).2).1 [] (countG (textG (oneG [97, 99, 113] st).2).2).2
      dsimp only
      omega
    · unfold askG
      have := (textG_size (oneG [97, 99, 113] st).2).2
      have := (textG_size (textG (oneG [97, 99, 113] st).2).2).2
      have := (countG_size (textG (textG (oneG [97, 99, 113] st).2).2).2).2
      have := manyG_size argG_size (countG (textG (textG (oneG [97, 99, 113] st).2).2).2).1 [] (countG (textG (textG (oneG [97, 99, 113] st).2).2).2).2
      dsimp only
      omega
theorem step_any {B rb : Nat} (hB : B ≤ rb) (st : RSt) (hs : st.1.size ≤ 4000000) (w : World) (hr : Rs rb st w) (hE : EnvB B w) :
    Calls Tryz.prog 12 #[pt rb] w (GotS B rb w (stepG st).1 (stepG st).2) := by
  have h1 : OneTo B rb ⟨#[97, 99, 113]⟩ st (oneG [97, 99, 113] st).1 (oneG [97, 99, 113] st).2 := one_any hB [97, 99, 113] st hs
  have z1 := oneG_size [97, 99, 113] st
  have hc := oneS_cases st
  unfold stepG
  generalize oneG [97, 99, 113] st = x at *
  obtain ⟨k, s1⟩ := x
  dsimp only at h1 z1 hc ⊢
  have h2 := text_any hB s1 (by omega)
  have z2 := (textG_size s1).2
  rcases hc with rfl | rfl | rfl
  · rw [if_pos rfl]
    unfold addG
    have h3 : OneTo B rb ⟨#[48, 49]⟩ (textG s1).2 (oneG [48, 49] (textG s1).2).1 (oneG [48, 49] (textG s1).2).2 := one_any hB [48, 49] (textG s1).2 (by omega)
    have z3 := oneG_size [48, 49] (textG s1).2
    exact step_add hB _ (by rw [Bool.eq_iff_iff, beq_iff_eq, decide_eq_true_iff]) h1 h2 h3 (text_any hB _ (by omega)) w hr hE
  · rw [if_neg (by decide), if_pos rfl]
    unfold chooseG
    have z3 := countG_size (textG s1).2
    exact step_choose hB h1 h2 (count_any hB (textG s1).2 (by omega)) (fun s hs => text_any hB s hs) (fun s => (textG_size s).2) (by omega) z3.1 w hr hE
  · rw [if_neg (by decide), if_neg (by decide)]
    unfold askG
    have z4 := (textG_size (textG s1).2).2
    have z3 := countG_size (textG (textG s1).2).2
    exact step_ask hB h1 h2 (text_any hB _ (by omega)) (count_any hB (textG (textG s1).2).2 (by omega)) (fun s hs => arg_any hB s hs) argG_size (by omega) z3.1 w hr hE
end Go.Proofs.YtgdkpamlkpncgabGreatDoor
