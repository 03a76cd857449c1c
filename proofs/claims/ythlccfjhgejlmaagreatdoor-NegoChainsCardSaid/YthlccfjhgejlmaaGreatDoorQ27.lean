/-
  Several texts put together (part 27): what the law and the program call, walked; their contracts.
-/
import Derived.Test.YthlccfjhgejlmaaGreatDoorQ16
import Derived.Test.YthlccfjhgejlmaaGreatDoorQ2
import Derived.ProofKit
import Derived.ChangeArms
import Derived.ChangeOld
import Derived.DataReads
namespace Go.Proofs.YthlccfjhgejlmaaGreatDoor
open Go.RowKit Go.ChangeShapes Go.WideShapes Go.ChangeAt
set_option linter.unusedVariables false
set_option linter.unusedSimpArgs false
theorem cells_atS {W : World} {base n : Nat} {a : Addr} {cs : List Value} (hn : 0 < n) (h : W.cells? base a n = some cs) : ∃ b o, a = ⟨b, o, none⟩ ∧ b < W.heap.size ∧ cs.length = n ∧ ∀ i, i < n → W.cell? ⟨b, o + i, none⟩ = cs[i]? := by
  obtain ⟨_, hl, hc⟩ := World.cells?_some h
  have hb := World.cells?_block h hn
  obtain ⟨b, o, s⟩ := a
  have h0 := hc 0 hn
  rw [show (Addr.add ⟨b, o, s⟩ 0) = ⟨b, o, s⟩ from by simp [Addr.add], List.getElem?_eq_getElem (by omega)] at h0
  have hs : s = none := by
    cases s with
    | none => rfl
    | some k =>
      exfalso
      unfold World.cell? at h0
      split at h0 <;> simp at h0
  subst hs
  refine ⟨b, o, rfl, hb, hl, fun i hi => ?_⟩
  rw [← hc i hi]
  congr 1
  unfold Addr.add
  split
  · next h => subst h; rfl
  · rfl
theorem open_strs {H : Type} {enc : TypeId × Value → H} {W : World} {a0 : Option Addr} {len cap : Nat} {d0 : DataW H} {p : List MemPlace}
    (h0 : DataW.Trod enc Tryz.prog W 0 (fun _ => true) true 22 (.slice a0 len cap) d0 p) :
    ∃ ss : List ByteArray, ss.length = len ∧ len ≤ maxLen ∧ SAt W (.slice a0 len cap) ss := by
  obtain ⟨fuel, hf⟩ := h0
  rcases DataW.trod_slice Tryz.underlying22 hf with ⟨hcs, hx⟩ | ⟨a, len', cap', elems, rest, n', hn, hcs, hx, hle, h1, h2, h3, h4, _, _⟩
  · simp [Value.cells] at hcs
    obtain ⟨rfl, rfl, rfl⟩ := hcs
    exact ⟨[], rfl, Nat.zero_le _, none, 0, rfl, fun h => by simp at h⟩
  · simp [Value.cells] at hcs
    obtain ⟨rfl, rfl, rfl⟩ := hcs
    have hel : ∀ i, i < len → ∃ s, W.cells? 0 (a.add (i * 1)) 1 = some [Value.string s] := by
      intro i hi
      have h5 := h4 i hi
      rw [show Tryz.prog.cellsOf 9 = 1 by kernel_rfl, List.getElem?_eq_getElem (by omega), Option.bind_eq_some_iff] at h5
      obtain ⟨cs, g1, g2⟩ := h5
      obtain ⟨s, e1, _, _⟩ := DataW.trod_string Tryz.underlying9 g2
      exact ⟨s, by rw [g1, e1]⟩
    obtain ⟨f, hf⟩ : ∃ f : Nat → ByteArray, ∀ i, i < len → W.cells? 0 (a.add (i * 1)) 1 = some [Value.string (f i)] :=
      ⟨fun i => if h : i < len then (hel i h).choose else ByteArray.empty, fun i hi => by simp only [dif_pos hi]; exact (hel i hi).choose_spec⟩
    refine ⟨(List.range len).map f, by simp, Nat.le_trans h1 h2, some a, cap, by simp, fun hp => ?_⟩
    simp only [List.length_map, List.length_range] at hp ⊢
    obtain ⟨b, o, e0, hb, _, hc0⟩ := cells_atS (by decide) (hf 0 hp)
    have ea : a = ⟨b, o, none⟩ := by
      have := e0
      simp [Addr.add] at this
      exact this
    refine ⟨b, o, by rw [ea], hb, fun j hj => ?_⟩
    obtain ⟨b', o', e1, _, _, hc1⟩ := cells_atS (by decide) (hf j hj)
    have e2 : (Addr.add ⟨b, o, none⟩ (j * 1)) = ⟨b, o + j, none⟩ := by
      rw [Nat.mul_one]
      unfold Addr.add
      split
      · next h => rw [h]; rfl
      · rfl
    rw [ea, e2] at e1
    injection e1 with q1 q2 _
    subst q1 q2
    have := hc1 0 (by decide)
    rw [Nat.add_zero] at this
    rw [this, List.getElem?_map, List.getElem?_range hj]
    rfl
end Go.Proofs.YthlccfjhgejlmaaGreatDoor
