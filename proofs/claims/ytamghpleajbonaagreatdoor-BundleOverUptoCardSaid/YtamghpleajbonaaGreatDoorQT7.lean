/-
  Several texts put together (part T7): what the law and the program call, walked; their contracts.
-/
import Derived.Test.YtamghpleajbonaaGreatDoorQT5
import Derived.Test.YtamghpleajbonaaGreatDoorQ1
import Derived.ProofKit
namespace Go.Proofs.YtamghpleajbonaaGreatDoor
open Go.RowKit Go.ChangeShapes Go.WideShapes Go.ChangeAt
set_option linter.unusedVariables false
set_option linter.unusedSimpArgs false
theorem cellsByte9 : Tryz.prog.cellsOf 5 = 1 := by kernel_rfl
theorem conv_arg9 (W : World) (a : Addr) (len cap : Nat) (xs : List Int) (hlen : xs.length = len) (hcell : ∀ i, i < len → W.cell? (a.add i) = some (.int .u8 (xs.getD i 0))) :
    (convert 35 9 (.slice (some a) len cap)).run Tryz.prog W = .ok (.string (strOfNums xs)) W := by
  have hl : (loadCells a len).run Tryz.prog W = .ok (xs.map (Value.int .u8)).toArray W := by
    have := run_loadCells_list (P := Tryz.prog) W a (xs.map (Value.int .u8)) (fun j v hj => by
      have hjl : j < xs.length := by
        rcases Nat.lt_or_ge j xs.length with h | h
        · exact h
        · simp [List.getElem?_eq_none (show (xs.map (Value.int .u8)).length ≤ j by simpa using h)] at hj
      rw [hcell j (by omega)]
      simp [List.getElem?_eq_getElem hjl] at hj
      subst hj
      simp [List.getD, List.getElem?_eq_getElem hjl])
    simpa [hlen] using this
  rw [run_convert_bytes_string W 35 9 5 _ len cap Tryz.underlying35 Tryz.underlying5 Tryz.underlying9, run_bytesToString W _ len cap xs hl, foldl_push_bytes]
  simp [strOfNums, ByteArray.empty, ByteArray.emptyWithCapacity]
  rfl
theorem bulk_lits9 {H : Type} (k : IntKind) : ∀ zs : List Int, Rows.uptoBulkAll (H := H) (lits k zs) = zs.length
  | [] => rfl
  | z :: r => by
    have h := bulk_lits9 (H := H) k r
    unfold lits at h ⊢
    have h1 : Rows.uptoBulk (H := H) (.lit (.int k z)) = 1 := rfl
    rw [List.map_cons, Rows.uptoBulkAll, h, h1, List.length_cons]
    omega
theorem open_bytes9 {H : Type} {enc : TypeId × Value → H} {W : World} {a0 : Option Addr} {len cap : Nat} {d0 : DataW H} {p : List MemPlace}
    (h0 : DataW.Trod enc Tryz.prog W 0 (fun _ => true) true 35 (.slice a0 len cap) d0 p) :
    ∃ s : ByteArray, s.size = len ∧ s.size ≤ 9223372036854775807 ∧ len ≤ Rows.uptoBulk d0 ∧ ∀ W', Below W.heap.size W W' → (convert 35 9 (.slice a0 len cap)).run Tryz.prog W' = .ok (.string s) W' := by
  obtain ⟨fuel, hf⟩ := h0
  rcases open_ints Tryz.underlying35 Tryz.underlying5 cellsByte9 hf with ⟨hcs, hx⟩ | ⟨a, len', cap', zs, hcs, _, hl, hm, hz, hx, hcell, hwz⟩
  · simp [Value.cells] at hcs
    obtain ⟨rfl, rfl, rfl⟩ := hcs
    exact ⟨ByteArray.empty, rfl, by decide, Nat.zero_le _, fun W' _ => run_convert_bytes_nil (P := Tryz.prog) W' 35 5 Tryz.underlying35 Tryz.underlying5 0 0 9 Tryz.underlying9⟩
  · simp [Value.cells] at hcs
    obtain ⟨rfl, rfl, rfl⟩ := hcs
    simp only [if_true] at hz
    have hzl : (zs.take len).length = len := by rw [List.length_take]; omega
    obtain ⟨rfl, _⟩ := Prod.mk.inj hx
    refine ⟨strOfNums (zs.take len), by rw [strOfNums_size, hzl], by rw [strOfNums_size, hzl]; unfold maxLen at hm; omega, ?_, fun W' hb => conv_arg9 W' a len cap (zs.take len) hzl (fun i hi => ?_)⟩
    · rw [Rows.uptoBulk, bulk_lits9, hzl]
      omega
    · have h1 := hcell i (by omega)
      have hlt := World.block_lt_of_cell? _ _ h1
      rw [hb.cell (p := a.add i) hlt, h1]
      simp [List.getD, hi]
end Go.Proofs.YtamghpleajbonaaGreatDoor
