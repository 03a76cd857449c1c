import Derived.Test.YtgdkpamlkpncgabGreatDoorTDec0
import Derived.Test.YtgdkpamlkpncgabGreatDoorBldb
import Derived.LoopN
import Derived.Laws.BitsLemmas
namespace Go.Proofs.YtgdkpamlkpncgabGreatDoor
open Go.RowKit
set_option linter.unusedVariables false
set_option linter.unusedSimpArgs false

/-- A hexadecimal digit, by its value. -/
def hexC (n : Nat) : UInt8 := if n < 10 then UInt8.ofNat (48 + n) else UInt8.ofNat (55 + n)
/-- A sign between quotes. -/
def quoteR (r : Nat) : List UInt8 :=
  if r = 34 ∨ r = 92 then 92 :: Lib.encodeRune r
  else if r < 32 ∨ r = 127 then [92, 117, 48, 48, hexC (r / 16), hexC (r % 16)]
  else Lib.encodeRune r
def quoteFrom (s : ByteArray) : Nat → Nat → List UInt8
  | 0, _ => []
  | fuel + 1, pos => if pos < s.size then quoteR (Utf8.decode s pos).1 ++ quoteFrom s fuel (pos + (Utf8.decode s pos).2) else []
def quoteAll (s : ByteArray) : List UInt8 := 34 :: (quoteFrom s s.size 0 ++ [34])
theorem quoteFrom_end (s : ByteArray) (fuel pos : Nat) (h : ¬ pos < s.size) : quoteFrom s fuel pos = [] := by
  cases fuel with
  | zero => rfl
  | succ f => simp [quoteFrom, h]

theorem hexTab_at : ∀ i : Fin 16, (#[48, 49, 50, 51, 52, 53, 54, 55, 56, 57, 65, 66, 67, 68, 69, 70] : Array UInt8)[i.val]'i.isLt = hexC i.val := by decide
theorem hexIdx (x : Nat) (hx : x < 16) (h : x < (⟨#[48, 49, 50, 51, 52, 53, 54, 55, 56, 57, 65, 66, 67, 68, 69, 70]⟩ : ByteArray).size) : (⟨#[48, 49, 50, 51, 52, 53, 54, 55, 56, 57, 65, 66, 67, 68, 69, 70]⟩ : ByteArray)[x]'h = hexC x := hexTab_at ⟨x, hx⟩
theorem and_fifteen (x : Nat) (h : x < 2147483648) : bits BinOp.and IntKind.i32 (x : Int) 15 = ((x % 16 : Nat) : Int) := by
  have := bits_mask .i32 31 (by decide) wraps_i32 4 (by decide) (x : Int) (by omega) (by omega)
  rw [show ((15 : Int)) = 2 ^ 4 - 1 from by decide, this]
  omega

set_option maxHeartbeats 2000000 in
set_option maxRecDepth 100000 in
theorem writeNumber_any (B b : Nat) (bs : List Value) (r : Nat) (hr : r < 128) (w : World) (h : Lib.IsBuilderF 192 5 B b bs w) (hlen : bs.length + 6 ≤ 140737488355328) (hBw : B ≤ w.heap.size) :
    Calls Tryz.prog 395 #[.pointer (some ⟨b, 0, none⟩), .int .i32 r] w fun e w' => e = .returned (.tuple #[]) ∧ (Lib.BuilderAtF 192 5 B b (.pointer (some ⟨b, 0, none⟩)) (bs ++ Lib.byteCells [92, 117, 48, 48, hexC (r / 16), hexC (r % 16)]) w' ∧ Below B w w' ∧ Lib.OthersKept 5 (some b) w w') := by
  have e12 : bits BinOp.and IntKind.i32 ((r : Int) / 4096) 15 = 0 := by
    have h0 : (r : Int) / 4096 = ((0 : Nat) : Int) := by omega
    rw [h0]; exact and_fifteen 0 (by decide)
  have e8 : bits BinOp.and IntKind.i32 ((r : Int) / 256) 15 = 0 := by
    have h0 : (r : Int) / 256 = ((0 : Nat) : Int) := by omega
    rw [h0]; exact and_fifteen 0 (by decide)
  have e4 : bits BinOp.and IntKind.i32 ((r : Int) / 16) 15 = ((r / 16 : Nat) : Int) := by
    have h0 : (r : Int) / 16 = ((r / 16 : Nat) : Int) := by omega
    rw [h0, and_fifteen (r / 16) (by omega)]
    omega
  have e0 : bits BinOp.and IntKind.i32 (r : Int) 15 = ((r % 16 : Nat) : Int) := and_fifteen r (by omega)
  have y4 : r / 16 < 16 := by omega
  have y0 : r % 16 < 16 := by omega
  generalize hq4 : r / 16 = x4 at *
  generalize hq0 : r % 16 = x0 at *
  have Hq4 := Lib.hid hq4
  have Hq0 := Lib.hid hq0
  clear hq4 hq0
  go_enter Tryz.func395, Tryz.ntmps395
  go_wp2_with fail
  go_at_call 87
  refine (bld_WriteString B b bs ⟨#[92, 117]⟩ _ h (by show bs.length + 2 ≤ _; omega) hBw).mono ?_
  rintro e w1 ⟨rfl, h1, b1, k1⟩
  have hl1 : (bs ++ Lib.strCells ⟨#[92, 117]⟩).length = bs.length + 2 := by rw [List.length_append, Lib.strCells_length]; rfl
  have Hl1 := Lib.hid hl1
  have H1 := Lib.hid h1
  clear hl1 h1 h
  go_wp2
  refine wp_loop_rounds 5 ?_
  rw [rounds_succ]
  go_wp2_with fail
  simp only [hexIdx 0 (by decide)]
  go_at_call 88
  refine (bld_WriteByte B b _ _ _ (Or.inr H1.out) (by rw [Hl1.out]; omega) (by have := b1.size; omega)).mono ?_
  rintro e w2 ⟨rfl, h2, b2, k2⟩
  have H2 := Lib.hid h2
  clear h2
  go_wp2
  rw [rounds_succ]
  go_wp2_with fail
  simp only [hexIdx 0 (by decide)]
  go_at_call 88
  refine (bld_WriteByte B b _ _ _ (Or.inr H2.out) (by simp only [List.length_append, Hl1.out, List.length_singleton]; omega) (by have := b1.size; have := b2.size; omega)).mono ?_
  rintro e w3 ⟨rfl, h3, b3, k3⟩
  have H3 := Lib.hid h3
  clear h3
  go_wp2
  rw [rounds_succ]
  go_wp2_with fail
  simp only [hexIdx x4 y4]
  go_at_call 88
  refine (bld_WriteByte B b _ _ _ (Or.inr H3.out) (by simp only [List.length_append, Hl1.out, List.length_singleton]; omega) (by have := b1.size; have := b2.size; have := b3.size; omega)).mono ?_
  rintro e w4 ⟨rfl, h4, b4, k4⟩
  have H4 := Lib.hid h4
  clear h4
  go_wp2
  rw [rounds_succ]
  go_wp2_with fail
  simp only [hexIdx x0 y0]
  go_at_call 88
  refine (bld_WriteByte B b _ _ _ (Or.inr H4.out) (by simp only [List.length_append, Hl1.out, List.length_singleton]; omega) (by have := b1.size; have := b2.size; have := b3.size; have := b4.size; omega)).mono ?_
  rintro e w5 ⟨rfl, h5, b5, k5⟩
  have H5 := Lib.hid h5
  clear h5
  go_wp2
  rw [rounds_succ]
  go_wp2
  go_end0
  have hh := H5.out
  rw [List.append_assoc, List.append_assoc, List.append_assoc, List.append_assoc] at hh
  exact ⟨rfl, hh, (((b1.trans b2).trans b3).trans b4).trans b5, (((k1.trans k2).trans k3).trans k4).trans k5⟩
end Go.Proofs.YtgdkpamlkpncgabGreatDoor
