import Derived.Test.YtgjbgfnchlogdaaDoorTMath
import Derived.ProofKit
namespace Go.Proofs.YtgjbgfnchlogdaaDoor
open Go.RowKit Go.ChangeShapes Go.WideShapes Go.ChangeAt
set_option linter.unusedVariables false
set_option linter.unusedSimpArgs false

theorem conv_arg (W : World) (a : Addr) (len cap : Nat) (xs : List Int) (hlen : xs.length = len) (hcell : ∀ i, i < len → W.cell? (a.add i) = some (.int .u8 (xs.getD i 0))) :
    (convert 22 9 (.slice (some a) len cap)).run Tryd.prog W = .ok (.string (strOfNums xs)) W := by
  have hl : (loadCells a len).run Tryd.prog W = .ok (xs.map (Value.int .u8)).toArray W := by
    have := run_loadCells_list (P := Tryd.prog) W a (xs.map (Value.int .u8)) (fun j v hj => by
      have hjl : j < xs.length := by
        rcases Nat.lt_or_ge j xs.length with h | h
        · exact h
        · simp [List.getElem?_eq_none (show (xs.map (Value.int .u8)).length ≤ j by simpa using h)] at hj
      rw [hcell j (by omega)]
      simp [List.getElem?_eq_getElem hjl] at hj
      subst hj
      simp [List.getD, List.getElem?_eq_getElem hjl])
    simpa [hlen] using this
  rw [run_convert_bytes_string W 22 9 5 _ len cap Tryd.underlying22 Tryd.underlying5 Tryd.underlying9, run_bytesToString W _ len cap xs hl, foldl_push_bytes]
  simp [strOfNums, ByteArray.empty, ByteArray.emptyWithCapacity]
  rfl

/-- An argument of bytes, nil or not, as the text that it holds. -/
theorem open_bytes_arg {H : Type} {enc : TypeId × Value → H} {W : World} {a0 : Option Addr} {len cap : Nat} {d0 : DataW H} {p : List MemPlace} (hc : Tryd.prog.cellsOf 5 = 1)
    (h0 : DataW.Trod enc Tryd.prog W 0 (fun _ => true) true 22 (.slice a0 len cap) d0 p) :
    ∃ s : ByteArray, s.size = len ∧ s.size ≤ 9223372036854775807 ∧ ∀ W', Below W.heap.size W W' → (convert 22 9 (.slice a0 len cap)).run Tryd.prog W' = .ok (.string s) W' := by
  obtain ⟨fuel, hf⟩ := h0
  rcases open_ints Tryd.underlying22 Tryd.underlying5 hc hf with ⟨hcs, hx⟩ | ⟨a, len', cap', zs, hcs, _, hl, hm, hz, hx, hcell, hwz⟩
  · simp [Value.cells] at hcs
    obtain ⟨rfl, rfl, rfl⟩ := hcs
    exact ⟨ByteArray.empty, rfl, by decide, fun W' _ => run_convert_bytes_nil (P := Tryd.prog) W' 22 5 Tryd.underlying22 Tryd.underlying5 0 0 9 Tryd.underlying9⟩
  · simp [Value.cells] at hcs
    obtain ⟨rfl, rfl, rfl⟩ := hcs
    simp only [if_true] at hz
    have hzl : (zs.take len).length = len := by rw [List.length_take]; omega
    refine ⟨strOfNums (zs.take len), by rw [strOfNums_size, hzl], by rw [strOfNums_size, hzl]; unfold maxLen at hm; omega, fun W' hb => conv_arg W' a len cap (zs.take len) hzl (fun i hi => ?_)⟩
    have h1 := hcell i (by omega)
    have hlt := World.block_lt_of_cell? _ _ h1
    rw [hb.cell (p := a.add i) hlt, h1]
    simp [List.getD, hi]
end Go.Proofs.YtgjbgfnchlogdaaDoor
