/-
  Law 20: its head; TellWords' walk.
-/
import Derived.Test.YtgdkpamlkpncgabGreatDoorTej
import Derived.Lib.ConvBytes
import Derived.Lib.SlBytesRow
import Derived.Lib.SlBytesConst
namespace Go.Proofs.YtgdkpamlkpncgabGreatDoor
open Go.RowKit
set_option linter.unusedVariables false
set_option linter.unusedSimpArgs false

def exV : Array Value := #[.int .u8 49, .int .u8 58, .int .u8 113, .int .u8 44, .int .u8 49, .int .u8 58, .int .u8 97, .int .u8 44, .int .u8 48, .int .u8 58, .int .u8 44, .int .u8 49, .int .u8 58, .int .u8 48, .int .u8 44]
theorem ex_conv (w : World) (fz : Nat × Nat) : CvT (.slice (some ⟨w.heap.size, 0, none⟩) 15 15) exB (w.alloc (.cells exV 5 fz)) := by
  have h : Lib.Bytes (w.alloc (.cells exV 5 fz)) w.heap.size 0 exB := fun i hi => by
    have hi2 : i < 15 := hi
    rw [Nat.zero_add, Lib.cell_of_heap (heap_alloc_new w _)]
    have h15 : i = 0 ∨ i = 1 ∨ i = 2 ∨ i = 3 ∨ i = 4 ∨ i = 5 ∨ i = 6 ∨ i = 7 ∨ i = 8 ∨ i = 9 ∨ i = 10 ∨ i = 11 ∨ i = 12 ∨ i = 13 ∨ i = 14 := by omega
    rcases h15 with rfl | rfl | rfl | rfl | rfl | rfl | rfl | rfl | rfl | rfl | rfl | rfl | rfl | rfl | rfl <;> rfl
  exact Lib.run_convert_whole (P := Tryz.prog) _ 28 5 9 Tryz.underlying28 Tryz.underlying5 Tryz.underlying9 w.heap.size 0 exB h 15
set_option maxHeartbeats 4000000 in
set_option maxRecDepth 100000 in
theorem head20_any (w : World) (hE : Env w) : Calls Tryz.prog 4 #[] w fun e w' => e = .returned (.bool true) ∧ Below w.heap.size w w' := by
  have hB := (Below.refl w.heap.size w).alloc (Nat.le_refl _) (.cells exV 5 (15, 16))
  have HR := Lib.hid (trun_a w.heap.size (w.alloc (.cells exV 5 (15, 16))) (hE.below hB) (ex_conv w (15, 16)))
  have HB := Lib.hid hB
  have hcv := Lib.run_convert_bytes_const (P := Tryz.prog) w 28 5 exV 15 15 Tryz.underlying28 Tryz.underlying5
  unfold exV at *
  clear hB hE
  go_enter Tryz.func4, Tryz.ntmps4
  go_wp2_with fail
  go_at_call 7
  refine HR.out.mono ?_
  rintro e w2 ⟨⟨G, cap, rfl, hG, h0, h1⟩, h2⟩
  have HB2 := Lib.hid (HB.out.trans (h2.mono HB.out.size))
  unfold t0 at h0
  unfold t1 at h1
  clear h2 HR HB
  go_wp2
  go_ret
  exact ⟨rfl, HB2.out⟩
set_option maxHeartbeats 4000000 in
set_option maxRecDepth 100000 in
theorem words_any (c : Int) (w : World) (hE : Env w) : Calls Tryz.prog 3 #[.int .i64 c] w fun e w' => e = .returned (.bool true) ∧ Below w.heap.size w w' := by
  have HH := Lib.hid (head20_any w hE)
  have ht := fun W => tword_any c W
  have hl := fun W => lword_any c W
  generalize wordB c = WD at *
  have HT := Lib.hid ht
  have HL := Lib.hid hl
  clear hE ht hl
  go_enter Tryz.func3, Tryz.ntmps3
  go_wp2_with fail
  go_at_call 4
  refine HH.out.mono ?_
  rintro e w1 ⟨rfl, h1⟩
  have HB1 := Lib.hid h1
  clear h1 HH
  go_wp2_with fail
  go_at_call 5
  refine (HT.out _).mono ?_
  rintro e w2 ⟨rfl, h2⟩
  have HB2 := Lib.hid (HB1.out.trans (h2.mono HB1.out.size))
  clear h2
  go_wp2_with fail
  go_at_call 6
  refine (HL.out _).mono ?_
  rintro e w3 ⟨rfl, h3⟩
  have HB3 := Lib.hid (HB2.out.trans (h3.mono HB2.out.size))
  clear h3
  go_wp2
  go_ret
  exact ⟨rfl, HB3.out⟩
end Go.Proofs.YtgdkpamlkpncgabGreatDoor
