import Derived.Test.YtgjbgfnchlogdaaDoorRune
import Derived.BigCall
namespace Go.Proofs.YtgjbgfnchlogdaaDoor
open Go.RowKit
set_option linter.unusedVariables false
set_option linter.unusedSimpArgs false

/-- What Decode tells from place pos on. -/
def decFrom (s : ByteArray) : Nat → Nat → List UInt8
  | 0, _ => []
  | fuel + 1, pos => if pos < s.size then (if (Utf8.decode s pos).1 = 13 then [] else Lib.encodeRune (Utf8.decode s pos).1) ++ decFrom s fuel (pos + (Utf8.decode s pos).2) else []
def decAll (s : ByteArray) : List UInt8 := decFrom s s.size 0
theorem width_pos (s : ByteArray) (pos : Nat) (h : pos < s.size) : 1 ≤ (Utf8.decode s pos).2 := by
  by_cases ha : (s[pos]'h).toNat < 128
  · rw [decode_ascii s pos h ha]
    exact Nat.le_refl _
  · exact (decode_high s pos h (by omega)).2
theorem decFrom_end (s : ByteArray) (fuel pos : Nat) (h : ¬ pos < s.size) : decFrom s fuel pos = [] := by
  cases fuel with
  | zero => rfl
  | succ f => simp [decFrom, h]

theorem decFrom_length (s : ByteArray) : ∀ fuel pos, (decFrom s fuel pos).length ≤ 4 * (s.size - pos)
  | 0, _ => by simp [decFrom]
  | f + 1, pos => by
    unfold decFrom
    by_cases hp : pos < s.size
    · rw [if_pos hp, List.length_append]
      have ih := decFrom_length s f (pos + (Utf8.decode s pos).2)
      have hw := width_pos s pos hp
      have h4 : (if (Utf8.decode s pos).1 = 13 then [] else Lib.encodeRune (Utf8.decode s pos).1).length ≤ 4 := by
        split
        · simp
        · have := Lib.runeCells_le ((Utf8.decode s pos).1 : Int)
          rw [Lib.runeCells_length] at this
          exact this.2
      omega
    · rw [if_neg hp]; simp

set_option maxHeartbeats 4000000 in
set_option maxRecDepth 1000000 in
theorem decode_any (A : Option Addr) (cap : Nat) (s : ByteArray) (w : World) (hs : s.size ≤ 35184372088832)
    (hcv : ∀ W, Below w.heap.size w W → (convert 22 9 (.slice A s.size cap)).run Tryd.prog W = .ok (.string s) W) :
    Calls Tryd.prog 10 #[.slice A s.size cap] w fun e w' => e = .returned (.string ⟨(decAll s).toArray⟩) ∧ Below w.heap.size w w' := by
  have Hcv := Lib.hid hcv
  clear hcv
  have hbk := heap_alloc_new w (.cells #[.pointer none, .slice none 0 0] 39)
  have Hbk := Lib.hid hbk
  clear hbk
  go_enter Tryd.func10, Tryd.ntmps10
  go_wp2_with fail
  go_at_call 18
  refine (Tryd.Builder_Grow_fresh w.heap.size w.heap.size s.size _ (Nat.le_refl _) Hbk.out (by simp) (by omega)).mono ?_
  rintro e w2 ⟨rfl, hI0, hb0⟩
  have hB0 : Below w.heap.size w w2 := ((Below.refl _ _).alloc (Nat.le_refl _) _).trans hb0
  have hc2 := Hcv.out w2 hB0
  have hK : w.heap.size < w2.heap.size := by have := hb0.size; simp at this; omega
  have HI0 := Lib.hid hI0
  have HB0 := Lib.hid hB0
  clear hI0 hb0 hB0
  go_wp2
  go_loopw [] (fun wr => ∃ (pos fuel : Nat) (acc : List UInt8), Lib.IsBuilderF 39 5 w.heap.size w.heap.size (Lib.byteCells acc) wr ∧ wr.heap[w2.heap.size]? = some (.stringIter s pos) ∧ Below w.heap.size w wr ∧ acc ++ decFrom s fuel pos = decAll s ∧ s.size ≤ pos + fuel ∧ acc.length ≤ 4 * pos) (fun wr => s.size - wr.iterPos w2.heap.size)
  case atStart =>
    refine ⟨0, s.size, [], (Lib.IsBuilderF.of (Or.inr HI0.out)).alloc _, ?_, HB0.out.alloc (by omega) _, rfl, by omega, by simp⟩
    exact World.iter_heap w2 s 0
  case round =>
    obtain ⟨pos, fuel, acc, hI, hit, hbw, hacc, hfu, hal⟩ := hrel
    have hsz : w2.heap.size < wr.heap.size := (Array.getElem?_eq_some_iff.1 hit).1
    clear HI0 HB0 hc2
    by_cases hp : pos < s.size
    · have hnx : ∀ ty, (Instr.next (.pointer (some ⟨w2.heap.size, 0, none⟩)) true ty).run Tryd.prog wr = _ := fun ty => Lib.run_next_any_at wr w2.heap.size s pos ty hit hp
      have hwd := width_pos s pos hp
      have hd1 := decode_le s pos
      have hI2 := hI.iterAt hit (pos + (Utf8.decode s pos).2)
      have hit2 := Lib.iterAt_heap wr w2.heap.size s pos (pos + (Utf8.decode s pos).2) hit
      have hbw2 := Lib.below_iterAt hbw (k := w2.heap.size) (by omega) s (pos + (Utf8.decode s pos).2)
      have hsz2 : w.heap.size ≤ (wr.iterAt w2.heap.size s (pos + (Utf8.decode s pos).2)).heap.size := by rw [Lib.iterAt_size]; omega
      obtain ⟨f, rfl⟩ : ∃ f, fuel = f + 1 := ⟨fuel - 1, by omega⟩
      have Hacc := Lib.hid hacc
      have Hfu := Lib.hid hfu
      have Hal := Lib.hid hal
      have Hhit := Lib.hid hit
      clear hacc hfu hal
      by_cases h13 : (Utf8.decode s pos).1 = 13
      · go_wp2
        go_roundw
        case rel =>
          refine ⟨pos + (Utf8.decode s pos).2, f, acc, hI2, hit2, hbw2, ?_, by have := Hfu.out; omega, by have := Hal.out; omega⟩
          rw [← Hacc.out]; simp [decFrom, hp, h13]
        case measure =>
          simp only [World.iterPos, hit2, Hhit.out]
          omega
      · go_wp2_with fail
        go_at_call 19
        refine (bld_WriteRune w.heap.size w.heap.size _ _ (by omega) (by omega) _ hI2 (by rw [Lib.byteCells_length]; have := Hal.out; omega) hsz2).mono ?_
        rintro e W1 ⟨rfl, h1, b1, k1⟩
        go_wp2
        go_roundw
        case rel =>
          have hl4 := (Lib.runeCells_le ((Utf8.decode s pos).1 : Int)).2
          rw [Lib.runeCells_length] at hl4
          refine ⟨pos + (Utf8.decode s pos).2, f, acc ++ Lib.encodeRune (Utf8.decode s pos).1, ?_, k1.iter hit2 (by omega), hbw2.trans b1, ?_, by have := Hfu.out; omega, by have := Hal.out; simp; omega⟩
          · rw [Lib.byteCells_append, Lib.byteCells_encodeRune]; exact Or.inr h1
          · rw [← Hacc.out]; simp [decFrom, hp, h13]
        case measure =>
          simp only [World.iterPos, k1.iter hit2 (by omega), Hhit.out]
          omega
    · have hnx : ∀ ty, (Instr.next (.pointer (some ⟨w2.heap.size, 0, none⟩)) true ty).run Tryd.prog wr = _ := fun ty => Lib.run_next_end_at wr w2.heap.size s pos ty hit hp
      go_wp2_with fail
      go_at_call 20
      refine (Tryd.Builder_String_any_k w.heap.size w.heap.size acc _ hI (by omega)).mono ?_
      rintro e W1 ⟨rfl, _, b1, _⟩
      go_wp2
      go_ret
      rw [decFrom_end s fuel pos hp, List.append_nil] at hacc
      subst hacc
      exact ⟨rfl, hbw.trans b1⟩
end Go.Proofs.YtgjbgfnchlogdaaDoor
