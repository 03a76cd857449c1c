import Derived.Test.YtgjbgfnchlogdaaDoorTQuote2
import Derived.Test.YtgjbgfnchlogdaaDoorTUnq2
import Derived.Lib.ConvBytes
import Derived.Lib.SlBytesRow
import Derived.Lib.SlBytesConst
namespace Go.Proofs.YtgjbgfnchlogdaaDoor
open Go.RowKit
set_option linter.unusedVariables false
set_option linter.unusedSimpArgs false

theorem unq_ex : unqAll ⟨#[34, 97, 92, 117, 48, 48, 101, 57, 34, 98]⟩ = some ([97, 195, 169], 9) := by kernel_rfl
theorem quote_ex : quoteAll ⟨#[10]⟩ = [34, 92, 117, 48, 48, 48, 65, 34] := by kernel_rfl
theorem dec_ex : decAll ⟨#[97, 13, 10, 255]⟩ = [97, 10, 239, 191, 189] := by kernel_rfl

theorem conv_bytes (s : ByteArray) (b cap : Nat) (W : World) (h : Lib.Bytes W b 0 s) : (convert 22 9 (.slice (some ⟨b, 0, none⟩) s.size cap)).run Tryd.prog W = .ok (.string s) W :=
  Lib.run_convert_whole (P := Tryd.prog) W 22 5 9 Tryd.underlying22 Tryd.underlying5 Tryd.underlying9 b 0 s h cap
theorem bytes_below {W W' : World} {b : Nat} {s : ByteArray} (h : Lib.Bytes W b 0 s) (hl : b < W.heap.size) (hb : Below W.heap.size W W') : Lib.Bytes W' b 0 s := fun i hi => by
  rw [(bcell hb).1 b _ hl]
  exact h i hi
theorem four_bytes (w : World) : Lib.Bytes (w.alloc (.cells #[.int .u8 97, .int .u8 13, .int .u8 10, .int .u8 255] 5 (4, 5))) w.heap.size 0 ⟨#[97, 13, 10, 255]⟩ := fun i hi => by
  have hc : ∀ k, (w.alloc (.cells #[.int .u8 97, .int .u8 13, .int .u8 10, .int .u8 255] 5 (4, 5))).cell? ⟨w.heap.size, k, none⟩ = (#[.int .u8 97, .int .u8 13, .int .u8 10, .int .u8 255] : Array Value)[k]? := by
    intro k
    rw [Lib.cell_of_heap (heap_alloc_new w _)]
  rw [hc]
  have h4 : i < 4 := hi
  match i, h4 with
  | 0, _ => rfl
  | 1, _ => rfl
  | 2, _ => rfl
  | 3, _ => rfl

set_option maxHeartbeats 2000000 in
set_option maxRecDepth 100000 in
theorem head_any (w : World) : Calls Tryd.prog 8 #[] w fun e w' => e = .returned (.bool true) ∧ Below w.heap.size w w' := by
  go_enter Tryd.func8, Tryd.ntmps8
  go_wp2_with fail
  go_at_call 14
  refine (unquote_any _ _ (by decide)).mono ?_
  rw [unq_ex]
  rintro e w1 ⟨rfl, b1⟩
  unfold unqVal
  go_wp2_with fail
  go_at_call 16
  refine (quote_any _ _ (by decide)).mono ?_
  rw [quote_ex]
  rintro e w2 ⟨rfl, b2⟩
  have hcc := Lib.run_convert_bytes_const (P := Tryd.prog) w2 22 5 #[.int .u8 97, .int .u8 13, .int .u8 10, .int .u8 255] 4 4 Tryd.underlying22 Tryd.underlying5
  have hb4 := four_bytes w2
  have hl4 : w2.heap.size < (w2.alloc (.cells #[.int .u8 97, .int .u8 13, .int .u8 10, .int .u8 255] 5 (4, 5))).heap.size := by simp
  have Hb4 := Lib.hid hb4
  have Hl4 := Lib.hid hl4
  clear hb4 hl4
  go_wp2_with fail
  go_at_call 10
  refine (decode_any (some ⟨w2.heap.size, 0, none⟩) 4 ⟨#[97, 13, 10, 255]⟩ _ (by decide) (fun W hW => conv_bytes ⟨#[97, 13, 10, 255]⟩ _ 4 W (bytes_below Hb4.out Hl4.out hW))).mono ?_
  rw [dec_ex]
  rintro e w3 ⟨rfl, b3⟩
  go_wp2
  go_ret
  exact ⟨rfl, (b1.trans (b2.mono b1.size)).trans (below_box b3 |>.mono (Nat.le_trans b1.size b2.size))⟩
end Go.Proofs.YtgjbgfnchlogdaaDoor
