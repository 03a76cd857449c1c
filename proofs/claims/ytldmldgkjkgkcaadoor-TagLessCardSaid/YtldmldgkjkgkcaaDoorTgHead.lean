/-
  The head of package tag's laws: the document's example.
-/
import Derived.Test.YtldmldgkjkgkcaaDoorTgTag
namespace Go.Proofs.YtldmldgkjkgkcaaDoor
open Go.RowKit Go.Shelf
set_option linter.unusedVariables false
set_option linter.unusedSimpArgs false

abbrev tagCells (t : TagT) (A : Option Addr) (c : Nat) : Obj := .cells #[.string (mk t.L), .string (mk t.S), .string (mk t.R), .slice A t.vs.length c] 25
/-- A variable that holds a tag. -/
def TagIn (W : World) (b : Nat) (t : TagT) (A : Option Addr) (c : Nat) : Prop := Box4 W b (.string (mk t.L)) (.string (mk t.S)) (.string (mk t.R)) (.slice A t.vs.length c) ∧ VarsAt W t A c
theorem TagIn.new {W : World} {t : TagT} {A : Option Addr} {c : Nat} (h : VarsAt W t A c) : TagIn (W.alloc (tagCells t A c)) W.heap.size t A c :=
  ⟨Box4.new W _ _ _ _ _, h.later ((Below.refl _ W).alloc (Nat.le_refl _) _)⟩
theorem TagIn.later {W W1 : World} {b : Nat} {t : TagT} {A : Option Addr} {c : Nat} (h : TagIn W b t A c) (hb : Below W.heap.size W W1) : TagIn W1 b t A c := ⟨h.1.later hb h.1.2.2.2.2.2.2.2.2, h.2.later hb⟩
theorem TagIn.alloc {W : World} {b : Nat} {t : TagT} {A : Option Addr} {c : Nat} (h : TagIn W b t A c) (o : Obj) : TagIn (W.alloc o) b t A c := h.later ((Below.refl _ W).alloc (Nat.le_refl _) _)
theorem MaxAt.on {w W : World} (h : MaxAt w) (hb : Below w.heap.size w W) : MaxAt W := h.below hb (Nat.le_refl _)
theorem below_step {w W W1 : World} (h : Below w.heap.size w W) (h1 : Below W.heap.size W W1) : Below w.heap.size w W1 := below_then h (Nat.le_refl _) h1
theorem below_box1 {w W : World} (h : Below w.heap.size w W) (o : Obj) : Below w.heap.size w (W.alloc o) := h.alloc h.size o

def tg1 : TagT := ⟨[122, 104], [72, 97, 110, 116], [84, 87], []⟩
def tg2 : TagT := ⟨[122, 104], [72, 97, 110, 116], [], []⟩
def tg3 : TagT := ⟨[122, 104], [], [84, 87], []⟩
theorem tg1_of : tagOf (splitH (⟨#[122, 104, 45, 104, 97, 110, 116, 45, 116, 119]⟩ : ByteArray).data.toList) = some tg1 := by rfl
theorem tg2_of : tagOf (splitH (⟨#[122, 104, 45, 72, 97, 110, 116]⟩ : ByteArray).data.toList) = some tg2 := by rfl
theorem tg3_of : tagOf (splitH (⟨#[122, 104, 45, 84, 87]⟩ : ByteArray).data.toList) = some tg3 := by rfl
theorem tg1_ok : tg1.Ok := TagT.Ok.of tg1_of (by decide)
theorem tg2_ok : tg2.Ok := TagT.Ok.of tg2_of (by decide)
theorem tg3_ok : tg3.Ok := TagT.Ok.of tg3_of (by decide)
theorem tg1_text : mk tg1.text = ⟨#[122, 104, 45, 72, 97, 110, 116, 45, 84, 87]⟩ := by rfl
theorem tg12 : fitsT tg1 tg2 = true := by rfl
theorem tg13 : fitsT tg1 tg3 = false := by rfl

theorem maxAt_of {W : World} (h : W.ShapedOpen Tryd.prog) : MaxAt W := by
  obtain ⟨m, hm⟩ := Tryd.laysM146.s1_3 W h
  exact ⟨World.block_lt_of_cell? W _ hm, m, hm⟩

set_option maxRecDepth 100000 in
set_option maxHeartbeats 4000000 in
theorem head_any (w : World) (hM : MaxAt w) : Calls Tryd.prog 7 #[] w fun e w' => e = .returned (.bool true) ∧ Below w.heap.size w w' := by
  have HM := Lib.hid hM
  clear hM
  go_enter Tryd.func7, Tryd.ntmps7
  go_wp2_with fail
  go_at_call 8
  refine (ParseY.of (by decide) HM.out tg1_of).at_.mono ?_
  rintro e w1 ⟨A1, c1, rfl, v1, b1⟩
  have T1 := Lib.hid (TagIn.new v1)
  have B1 := Lib.hid (below_box1 b1 (tagCells tg1 A1 c1))
  clear v1 b1
  go_wp2_with fail
  generalize w1.heap.size = k1 at *
  generalize w1.alloc (tagCells tg1 A1 c1) = W1 at *
  obtain ⟨⟨x0, x1, x2, x3, _⟩, _⟩ := T1.out
  go_wp2_with fail
  go_at_call 10
  refine (stringT tg1_ok T1.out.2).mono ?_
  rw [tg1_text]
  rintro e w2 ⟨rfl, b2⟩
  have T2 := Lib.hid (T1.out.later b2)
  have B2 := Lib.hid (below_step B1.out b2)
  clear T1 B1 b2 x0 x1 x2 x3
  go_wp2_with fail
  go_at_call 8
  refine (ParseY.of (by decide) (HM.out.on B2.out) tg2_of).at_.mono ?_
  rintro e w3 ⟨A2, c2, rfl, v2, b3⟩
  have T3 := Lib.hid ((T2.out.later b3).alloc (tagCells tg2 A2 c2))
  have U3 := Lib.hid (TagIn.new v2)
  have B3 := Lib.hid (below_box1 (below_step B2.out b3) (tagCells tg2 A2 c2))
  clear v2 b3 T2 B2
  go_wp2_with fail
  generalize w3.heap.size = k3 at *
  generalize w3.alloc (tagCells tg2 A2 c2) = W3 at *
  go_wp2_with fail
  go_at_call 8
  refine (ParseY.of (by decide) (HM.out.on B3.out) tg3_of).at_.mono ?_
  rintro e w4 ⟨A3, c3, rfl, v3, b4⟩
  have T4 := Lib.hid ((T3.out.later b4).alloc (tagCells tg3 A3 c3))
  have U4 := Lib.hid ((U3.out.later b4).alloc (tagCells tg3 A3 c3))
  have V4 := Lib.hid (TagIn.new v3)
  have B4 := Lib.hid (below_box1 (below_step B3.out b4) (tagCells tg3 A3 c3))
  clear v3 b4 T3 U3 B3
  go_upto_region 6 with fail
  generalize w4.heap.size = k4 at *
  generalize w4.alloc (tagCells tg3 A3 c3) = W4 at *
  obtain ⟨⟨x0, x1, x2, x3, _⟩, _⟩ := T4.out
  obtain ⟨⟨y0, y1, y2, y3, _⟩, _⟩ := U4.out
  go_wp2_with fail
  go_at_call 12
  refine (fitsTo tg1_ok tg2_ok T4.out.2 U4.out.2).mono ?_
  rw [tg12]
  rintro e w5 ⟨rfl, b5⟩
  have T5 := Lib.hid (T4.out.later b5)
  have V5 := Lib.hid (V4.out.later b5)
  have B5 := Lib.hid (below_step B4.out b5)
  clear T4 U4 V4 B4 b5 x0 x1 x2 x3 y0 y1 y2 y3
  obtain ⟨⟨x0, x1, x2, x3, _⟩, _⟩ := T5.out
  obtain ⟨⟨y0, y1, y2, y3, _⟩, _⟩ := V5.out
  go_wp2_with fail
  go_at_call 12
  refine (fitsTo tg1_ok tg3_ok T5.out.2 V5.out.2).mono ?_
  rw [tg13]
  rintro e w6 ⟨rfl, b6⟩
  go_wp2_with fail
  go_ret
  exact ⟨rfl, below_step B5.out b6⟩
end Go.Proofs.YtldmldgkjkgkcaaDoor
