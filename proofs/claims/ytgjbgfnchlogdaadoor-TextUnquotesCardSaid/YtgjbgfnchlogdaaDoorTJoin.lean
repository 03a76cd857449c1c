import Derived.Test.YtgjbgfnchlogdaaDoorTLawRights
import Derived.Test.YtgjbgfnchlogdaaDoorTArg
import Derived.ProofKit
import Derived.ArgAppend
import Derived.Deep.AppendSrc
import Derived.Lib.JoinLaws
namespace Go.Proofs.YtgjbgfnchlogdaaDoor
open Go.RowKit Go.ChangeShapes Go.WideShapes Go.ChangeAt
set_option linter.unusedVariables false
set_option linter.unusedSimpArgs false

def byteVals (s : ByteArray) : List Value := s.data.toList.map fun c => Value.int .u8 (c.toNat : Int)
/-- An argument of bytes lies in the world: nil, or cell by cell. -/
def ArgB (A : Option Addr) (s : ByteArray) (cap : Nat) (W : World) : Prop := (A = none ∧ s.size = 0 ∧ cap = 0) ∨ ∃ a, A = some a ∧ ∀ (j : Nat) u, (byteVals s)[j]? = some u → W.cell? (a.add j) = some u
theorem ArgB.below {A : Option Addr} {s : ByteArray} {cap : Nat} {W W' : World} (h : ArgB A s cap W) (hb : Below W.heap.size W W') : ArgB A s cap W' := by
  rcases h with h | ⟨a, hA, hc⟩
  · exact Or.inl h
  · refine Or.inr ⟨a, hA, fun j u hu => ?_⟩
    have h1 := hc j u hu
    rw [hb.cell (p := a.add j) (World.block_lt_of_cell? _ _ h1)]
    exact h1
theorem byteVals_length (s : ByteArray) : (byteVals s).length = s.size := by unfold byteVals; rw [List.length_map, size_data]
theorem byteVals_one (s : ByteArray) : ∀ u ∈ byteVals s, u.oneCell' = true := by
  intro u hu
  obtain ⟨c, _, rfl⟩ := List.mem_map.1 hu
  rfl
theorem bytes_of_vals {w : World} {b : Nat} {s : ByteArray} (h : ∀ (j : Nat) u, (byteVals s)[j]? = some u → w.cell? ⟨b, j, none⟩ = some u) : Lib.Bytes w b 0 s := fun i hi => by
  rw [Nat.zero_add]
  refine h i _ ?_
  unfold byteVals
  rw [List.getElem?_map, List.getElem?_eq_getElem (by rw [size_data]; exact hi)]
  rfl
theorem byteVals_append (a s : ByteArray) : byteVals (a ++ s) = byteVals a ++ byteVals s := by
  unfold byteVals
  rw [app_data, List.map_append]

theorem setBelow (W w : World) (h : Below W.heap.size W w) : ∀ (vs : List Value) (o : Nat), (w.setCells W.heap.size o vs).heap.size = w.heap.size ∧ Below W.heap.size W (w.setCells W.heap.size o vs) := by
  intro vs
  induction vs generalizing w with
  | nil => intro o; exact ⟨rfl, h⟩
  | cons v r ih =>
    intro o
    rw [World.setCells]
    obtain ⟨i1, i2⟩ := ih _ (h.setCell (p := ⟨W.heap.size, o, none⟩) (Nat.le_refl _) v) (o + 1)
    exact ⟨by rw [i1]; simp, i2⟩
theorem byte_of_wf8 {x : Int} (h : (Lit.int .u8 x).wf = true) : 0 ≤ x ∧ x < 256 := by
  have h1 : IntKind.u8.min = 0 := rfl
  have h2 : IntKind.u8.max = 255 := rfl
  simp only [Lit.wf, Bool.and_eq_true, decide_eq_true_eq] at h
  omega
theorem wp_append_b {ops : Array Oper} {rest : List Oper} {o : Oper} {act : Act} {Q : Exit → Act → World → Prop} (hg : o.guard = none) (x1 x2 : Operand)
    (hop : o.op = Op.call { callee := Callee.builtin Builtin.append, args := #[x1, x2], argTypes := #[22, 22] }) (W : World) (a s : ByteArray) (A : Option Addr) (cap : Nat)
    (h1 : act.eval x1 = .slice (some ⟨W.heap.size, 0, none⟩) a.size (grownCap W a.size 0 5)) (h2 : act.eval x2 = .slice A s.size cap) (hA : ArgB A s cap W) (ha : a.size ≤ 1000) (hs : s.size ≤ 1000)
    (hK : ∀ g' cap' w', Lib.Bytes w' g' 0 (a ++ s) → g' < w'.heap.size → Below W.heap.size W w' → wpList Tryd.prog ops Q rest (act.put o.dst (.slice (some ⟨g', 0, none⟩) (a.size + s.size) cap')) w') :
    wpList Tryd.prog ops Q (o :: rest) act (Lib.bytesWorld W 5 a) := by
  obtain ⟨i0, hi, hz0, hz1, hz2⟩ := info_parts infoByte
  have hbb := below_bytes (w := W) (Nat.le_refl _) a
  have hbs := Lib.bytesWorld_size W 5 a
  have hnew := Lib.bytesWorld_at_new W 5 a
  have hge : a.size ≤ grownCap W a.size 0 5 := grownCap_ge W a.size 0 5
  have hcs : (Lib.bytesCells W 5 a).size = grownCap W a.size 0 5 := by
    unfold Lib.bytesCells
    simp
    omega
  have holds : ∀ (j : Nat) u, (byteVals a)[j]? = some u → (Lib.bytesWorld W 5 a).cell? ⟨W.heap.size, j, none⟩ = some u := by
    intro j u hu
    have hj : j < a.size := by
      have := (List.getElem?_eq_some_iff.1 hu).1
      rw [byteVals_length] at this
      exact this
    have := bytes_new W a j hj
    rw [Nat.zero_add] at this
    rw [this, ← hu]
    unfold byteVals
    rw [List.getElem?_map, List.getElem?_eq_getElem (by rw [size_data]; exact hj)]
    rfl
  have hspare : ∀ k, k < grownCap W a.size 0 5 → ((Lib.bytesWorld W 5 a).cell? ⟨W.heap.size, k, none⟩).isSome = true ∧ (Lib.bytesWorld W 5 a).frozen? ⟨W.heap.size, k, none⟩ = false := by
    intro k hk
    constructor
    · rw [cell_of_row _ _ k _ _ _ hnew, Array.getElem?_eq_getElem (by rw [hcs]; exact hk)]
      rfl
    · simp [World.frozen?, hnew]
      omega
  have hroomK : ∀ w', w' = (Lib.bytesWorld W 5 a).setCells W.heap.size (0 + a.size * 1) (byteVals s) → a.size + s.size ≤ grownCap W a.size 0 5 →
      Lib.Bytes w' W.heap.size 0 (a ++ s) ∧ W.heap.size < w'.heap.size ∧ Below W.heap.size W w' := by
    rintro w' rfl hroom
    have hB := setBelow W (Lib.bytesWorld W 5 a) hbb (byteVals s) (0 + a.size * 1)
    refine ⟨bytes_of_vals fun j u hu => ?_, by have := hB.1; omega, hB.2⟩
    rw [byteVals_append] at hu
    have hin := World.cell?_setCells_in W.heap.size (byteVals s) (0 + a.size * 1) (Lib.bytesWorld W 5 a) (fun j hj => by
      rw [byteVals_length] at hj
      exact (hspare (0 + a.size * 1 + j) (by omega)).1)
    by_cases hj : j < a.size
    · rw [List.getElem?_append_left (by rw [byteVals_length]; exact hj)] at hu
      rw [World.cell?_setCells_out _ _ _ _ _ (fun _ _ => Or.inl (by show j < _; omega))]
      exact holds j u hu
    · rw [List.getElem?_append_right (by rw [byteVals_length]; omega), byteVals_length] at hu
      obtain ⟨hl, hu'⟩ := List.getElem?_eq_some_iff.1 hu
      have := hin (j - a.size) hl
      rw [show 0 + a.size * 1 + (j - a.size) = j from by omega] at this
      rw [this, hu']
  rcases hA with ⟨rfl, hs0, rfl⟩ | ⟨ad, rfl, hc⟩
  · have hs0' : byteVals s = [] := List.eq_nil_of_length_eq_zero (by rw [byteVals_length]; exact hs0)
    rw [hs0] at h2
    refine Go.wpList_append_room_src (P := Tryd.prog) _ hg x1 x2 22 22 hop 5 i0 Tryd.underlying22 hi W.heap.size 0 a.size _ h1 _ h2 0 [] (Src.ofNil _ Tryd.underlying22 0) (by omega) (fun j hj => absurd hj (Nat.not_lt_zero _)) (fun j hj => absurd hj (Nat.not_lt_zero _)) ?_
    obtain ⟨q1, q2, q3⟩ := hroomK _ rfl (by omega)
    rw [hs0'] at q1 q2 q3
    have := hK W.heap.size (grownCap W a.size 0 5) _ q1 q2 q3
    rw [hs0] at this
    rw [hz1]
    exact this
  · have hc' : ∀ (j : Nat) u, (byteVals s)[j]? = some u → (Lib.bytesWorld W 5 a).cell? (ad.add j) = some u := by
      intro j u hu
      have h := hc j u hu
      rw [Lib.bytesWorld_old W 5 a _ (World.block_lt_of_cell? _ _ h)]
      exact h
    refine Go.wpList_append_arg (P := Tryd.prog) _ hg x1 x2 22 hop 5 i0 (.int .u8 0) 1 1 Tryd.underlying22 hi hz0 hz1 hz2 rfl (by decide) W.heap.size 0 a.size _ (byteVals a) h1 (by rw [byteVals_length]; omega) (fun j u hu => by rw [Nat.zero_add]; exact holds j u hu)
      ad s.size cap (byteVals s) h2 (by rw [byteVals_length]; omega) hc' (byteVals_one s) (fun hr j hj => by rw [byteVals_length] at hj; exact hspare (0 + a.size * 1 + j) (by omega)) (by unfold maxLen; omega) (by omega) ?_ ?_
    · intro hr
      obtain ⟨q1, q2, q3⟩ := hroomK _ rfl hr
      exact hK W.heap.size _ _ q1 q2 q3
    · intro hr v' w' hown hgrow
      rcases hown.2 with ⟨rfl, h0⟩ | ⟨g, cap', cur, rfl, hbg, hgg, -⟩
      · omega
      · have hlt : g < w'.heap.size := (Array.getElem?_eq_some_iff.1 hgg).1
        refine hK g cap' w' (bytes_of_vals fun j u hu => ?_) hlt ?_
        · rw [byteVals_append] at hu
          have := hown.cells (g := g) rfl j u hu
          rw [Addr.add_mid, Nat.zero_add] at this
          exact this
        · exact hbb.grown hgrow (by omega) (fun k hk => by cases hk)

theorem open_bytes_argA {H : Type} {enc : TypeId × Value → H} {W : World} {a0 : Option Addr} {len cap : Nat} {d0 : DataW H} {p : List MemPlace} (hc : Tryd.prog.cellsOf 5 = 1)
    (h0 : DataW.Trod enc Tryd.prog W 0 (fun _ => true) true 22 (.slice a0 len cap) d0 p) :
    ∃ s : ByteArray, s.size = len ∧ s.size ≤ 9223372036854775807 ∧ ArgB a0 s cap W ∧ ∀ W', Below W.heap.size W W' → (convert 22 9 (.slice a0 len cap)).run Tryd.prog W' = .ok (.string s) W' := by
  obtain ⟨fuel, hf⟩ := h0
  rcases open_ints Tryd.underlying22 Tryd.underlying5 hc hf with ⟨hcs, hx⟩ | ⟨a, len', cap', zs, hcs, _, hl, hm, hz, hx, hcell, hwz⟩
  · simp [Value.cells] at hcs
    obtain ⟨rfl, rfl, rfl⟩ := hcs
    exact ⟨ByteArray.empty, rfl, by decide, Or.inl ⟨rfl, rfl, rfl⟩, fun W' _ => run_convert_bytes_nil (P := Tryd.prog) W' 22 5 Tryd.underlying22 Tryd.underlying5 0 0 9 Tryd.underlying9⟩
  · simp [Value.cells] at hcs
    obtain ⟨rfl, rfl, rfl⟩ := hcs
    simp only [if_true] at hz
    have hzl : (zs.take len).length = len := by rw [List.length_take]; omega
    refine ⟨strOfNums (zs.take len), by rw [strOfNums_size, hzl], by rw [strOfNums_size, hzl]; unfold maxLen at hm; omega, Or.inr ⟨a, rfl, fun j u hu => ?_⟩, fun W' hb => conv_arg W' a len cap (zs.take len) hzl (fun i hi => ?_)⟩
    · have hj : j < len := by
        have := (List.getElem?_eq_some_iff.1 hu).1
        rw [byteVals_length, strOfNums_size, hzl] at this
        exact this
      rw [hcell j (by omega), ← hu]
      have hjz : j < zs.length := by omega
      have hw := hwz zs[j] (List.getElem_mem hjz)
      have hb := byte_of_wf8 hw
      unfold byteVals
      rw [strOfNums_data, List.getElem?_map, List.getElem?_map, List.getElem?_take_of_lt hj, List.getElem?_eq_getElem hjz, List.getD_eq_getElem?_getD, List.getElem?_eq_getElem hjz]
      simp only [Option.map_some, Option.getD_some, Option.some.injEq, Value.int.injEq, true_and]
      have h1 : (UInt8.ofNat zs[j].toNat).toNat = zs[j].toNat % 256 := UInt8.toNat_ofNat'
      omega
    · have h1 := hcell i (by omega)
      have hlt := World.block_lt_of_cell? _ _ h1
      rw [hb.cell (p := a.add i) hlt, h1]
      simp [List.getD, hi]
end Go.Proofs.YtgjbgfnchlogdaaDoor
