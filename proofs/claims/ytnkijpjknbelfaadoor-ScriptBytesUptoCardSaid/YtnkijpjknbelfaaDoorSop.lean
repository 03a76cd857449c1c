/-
  What comes in, read as steps.
-/
import Derived.Test.YtnkijpjknbelfaaDoorRows
import Derived.Test.YtnkijpjknbelfaaDoorSwn
import Derived.ChangeArms
import Derived.ChangeOld
import Derived.DataReads
import Derived.KernelRfl
import Derived.OpenShut
namespace Go.Proofs.YtnkijpjknbelfaaDoor
open Go.RowKit Go.ChangeShapes Go.WideShapes Go.ChangeAt
set_option linter.unusedVariables false
set_option linter.unusedSimpArgs false

section
variable {H : Type} {enc : TypeId × Value → H} {W : World} {sp : Nat → Bool} {held : Bool}

theorem cells_at {base n : Nat} {a : Addr} {cs : List Value} (hn : 0 < n) (h : W.cells? base a n = some cs) : ∃ b o, a = ⟨b, o, none⟩ ∧ b < W.heap.size ∧ cs.length = n ∧ ∀ i, i < n → W.cell? ⟨b, o + i, none⟩ = cs[i]? := by
  obtain ⟨_, hl, hc⟩ := World.cells?_some h
  have hb := World.cells?_block h hn
  obtain ⟨b, o, s⟩ := a
  have h0 := hc 0 hn
  rw [show (Addr.add ⟨b, o, s⟩ 0) = ⟨b, o, s⟩ from by simp [Addr.add], List.getElem?_eq_getElem (by omega)] at h0
  have hs : s = none := by
    cases s with
    | none => rfl
    | some k =>
      exfalso
      unfold World.cell? at h0
      split at h0 <;> simp at h0
  subst hs
  refine ⟨b, o, rfl, hb, hl, fun i hi => ?_⟩
  rw [← hc i hi]
  congr 1
  unfold Addr.add
  split
  · next h => subst h; rfl
  · rfl
theorem add_at {a : Addr} {b o n m : Nat} {k : Nat} (h : a.add n = ⟨b, o, none⟩) (h0 : a = ⟨b, k, none⟩) : o = k + n := by
  subst h0
  unfold Addr.add at h
  split at h
  · next e => cases h; omega
  · cases h; rfl
theorem bulk_pos {d : DataW H} : 1 ≤ Rows.uptoBulk d := by
  cases d with
  | lit l => cases l <;> simp [Rows.uptoBulk]
  | nil => simp [Rows.uptoBulk]
  | ptr d => simp [Rows.uptoBulk]
  | slice elems spare => simp [Rows.uptoBulk]
  | agg parts => simp [Rows.uptoBulk]
  | iface t d => simp [Rows.uptoBulk]
  | map entries => simp [Rows.uptoBulk]
  | held h => simp [Rows.uptoBulk]
theorem list2 {α : Type} {l : List α} (h : l.length = 2) : ∃ a b, l = [a, b] := by
  match l, h with
  | [a, b], _ => exact ⟨_, _, rfl⟩
theorem list3 {α : Type} {l : List α} (h : l.length = 3) : ∃ a b c, l = [a, b, c] := by
  match l, h with
  | [a, b, c], _ => exact ⟨_, _, _, rfl⟩
theorem list7 {α : Type} {l : List α} (h : l.length = 7) : ∃ a b c d e f g, l = [a, b, c, d, e, f, g] := by
  match l, h with
  | [a, b, c, d, e, f, g], _ => exact ⟨_, _, _, _, _, _, _, rfl⟩
theorem list8 {α : Type} {l : List α} (h : l.length = 8) : ∃ a b c d e f g k, l = [a, b, c, d, e, f, g, k] := by
  match l, h with
  | [a, b, c, d, e, f, g, k], _ => exact ⟨_, _, _, _, _, _, _, _, rfl⟩
def sumOf {α : Type} (sz : α → Nat) : List α → Nat
  | [] => 0
  | x :: r => sz x + sumOf sz r
theorem row_open {α : Type} (k : Nat) (Q : α → Nat → Prop) (sz : α → Nat) : ∀ (elems : List (DataW H × List MemPlace)) (o : Nat), (∀ i y, elems[i]? = some y → ∃ e, Q e (o + i * k) ∧ sz e ≤ Rows.uptoBulk y.1) →
    ∃ l : List α, l.length = elems.length ∧ (∀ i e, l[i]? = some e → Q e (o + i * k)) ∧ sumOf sz l ≤ Rows.uptoBulkAll (elems.map (·.1))
  | [], o, h => ⟨[], rfl, fun i e he => by simp at he, by simp [sumOf]⟩
  | y :: r, o, h => by
    obtain ⟨e, he, hs⟩ := h 0 y rfl
    obtain ⟨l, h1, h2, h3⟩ := row_open k Q sz r (o + k) (fun i y hy => by
      obtain ⟨e, he, hs⟩ := h (i + 1) y (by simpa using hy)
      rw [Nat.add_mul, Nat.one_mul, Nat.add_comm (i * k) k, ← Nat.add_assoc] at he
      exact ⟨e, he, hs⟩)
    refine ⟨e :: l, by simp [h1], fun i x hx => ?_, ?_⟩
    · cases i with
      | zero => simp at hx; subst hx; exact he
      | succ i =>
        have := h2 i x (by simpa using hx)
        rw [Nat.add_mul, Nat.one_mul, Nat.add_comm (i * k) k, ← Nat.add_assoc]
        exact this
    · rw [sumOf, List.map_cons, Rows.uptoBulkAll]; omega
/-- A slice, its elements read one by one. -/
theorem slice_open {α : Type} {t e : TypeId} {n k : Nat} (hk : 0 < k) (hu : Tryd.prog.underlying t = some (.slice e)) (hc : Tryd.prog.cellsOf e = k) (Q : Nat → α → Nat → Prop) (sz : α → Nat)
    (hE : ∀ m, m < n → ∀ cs y, DataW.trod enc Tryd.prog W 0 sp held m e cs = some y → ∀ b o, b < W.heap.size → (∀ i, i < k → W.cell? ⟨b, o + i, none⟩ = cs[i]?) → ∃ x, Q b x o ∧ sz x ≤ Rows.uptoBulk y.1)
    {cs : List Value} {x : DataW H × List MemPlace} (h : DataW.trod enc Tryd.prog W 0 sp held n t cs = some x) :
    ∃ (A : Option Addr) (c : Nat) (l : List α), cs = [.slice A l.length c] ∧ l.length ≤ maxLen ∧ (0 < l.length → ∃ b o, A = some ⟨b, o, none⟩ ∧ b < W.heap.size ∧ ∀ i e, l[i]? = some e → Q b e (o + i * k)) ∧ sumOf sz l + 1 ≤ Rows.uptoBulk x.1 := by
  rcases DataW.trod_slice hu h with ⟨rfl, rfl⟩ | ⟨a, len, cap, elems, rest, n', hn, rfl, rfl, _, h1, h2, h3, h4, _, _⟩
  · exact ⟨none, 0, [], rfl, Nat.zero_le _, fun h => absurd h (by simp), by simp [sumOf, Rows.uptoBulk]⟩
  · have hel : ∀ i y, elems[i]? = some y → ∃ cs', W.cells? 0 (a.add (i * k)) k = some cs' ∧ DataW.trod enc Tryd.prog W 0 sp held n' e cs' = some y := by
      intro i y hy
      have hi : i < len := by rw [← h3]; exact (List.getElem?_eq_some_iff.1 hy).1
      have h5 := h4 i hi
      rw [hy, hc, Option.bind_eq_some_iff] at h5
      exact h5
    by_cases h0 : 0 < len
    · obtain ⟨cs0, hc0, _⟩ := hel 0 _ (List.getElem?_eq_getElem (by omega))
      rw [Nat.zero_mul] at hc0
      rw [show a.add 0 = a by simp [Addr.add]] at hc0
      obtain ⟨b, o, rfl, hb, _, _⟩ := cells_at hk hc0
      obtain ⟨l, l1, l2, l3⟩ := row_open k (Q b) sz elems o (fun i y hy => by
        obtain ⟨cs', g1, g2⟩ := hel i y hy
        obtain ⟨b', o', e1, hb', _, g3⟩ := cells_at hk g1
        have e2 : (Addr.add ⟨b, o, none⟩ (i * k)) = ⟨b, o + i * k, none⟩ := by
          unfold Addr.add
          split
          · next h => rw [h]; rfl
          · rfl
        rw [e2] at e1
        cases e1
        exact hE n' (by omega) cs' y g2 b _ hb' g3)
      refine ⟨some ⟨b, o, none⟩, cap, l, by rw [l1, h3], by rw [l1, h3]; exact Nat.le_trans h1 h2, fun _ => ⟨b, o, rfl, hb, l2⟩, ?_⟩
      simp only [Rows.uptoBulk]; omega
    · have e0 : len = 0 := by omega
      subst e0
      refine ⟨some a, cap, [], rfl, Nat.zero_le _, fun h => absurd h (by simp), ?_⟩
      simp only [Rows.uptoBulk, sumOf]; omega


def szW (w : ByteArray) : Nat := w.size + 1
def szA (a : SA) : Nat := a.name.size + a.text.size + 4
def szS (x : ST) : Nat := x.tag.size + x.bytes.size + x.name.size + x.attr.size + sumOf szW x.wishes + sumOf szA x.args + 8
theorem open_tx {n : Nat} {cs : List Value} {x : DataW H × List MemPlace} (h : DataW.trod enc Tryd.prog W 0 sp held n 9 cs = some x) :
    ∀ b o, b < W.heap.size → (∀ i, i < 1 → W.cell? ⟨b, o + i, none⟩ = cs[i]?) → ∃ s : ByteArray, W.cell? ⟨b, o, none⟩ = some (.string s) ∧ szW s ≤ Rows.uptoBulk x.1 := by
  intro b o hb hcell
  obtain ⟨s, e0, rfl, _⟩ := DataW.trod_string Tryd.underlying9 h
  cases e0
  exact ⟨s, hcell 0 (by decide), by simp only [szW, Rows.uptoBulk]; rw [size_data]; omega⟩
set_option maxRecDepth 100000 in
theorem open_sa {n : Nat} {cs : List Value} {x : DataW H × List MemPlace} (h : DataW.trod enc Tryd.prog W 0 sp held n 44 cs = some x) :
    ∀ b o, b < W.heap.size → (∀ i, i < 3 → W.cell? ⟨b, o + i, none⟩ = cs[i]?) → ∃ a : SA, (W.cell? ⟨b, o, none⟩ = some (.string a.name) ∧ W.cell? ⟨b, o + 1, none⟩ = some (.int .i64 a.kind) ∧ W.cell? ⟨b, o + 2, none⟩ = some (.string a.text)) ∧ szA a ≤ Rows.uptoBulk x.1 := by
  intro b o hb hcell
  obtain ⟨xs, n', rfl, rfl, hl, hx, hf⟩ := DataW.trod_struct Tryd.underlying44 h
  rw [show Tryd.prog.cellsOf 44 = 3 by kernel_rfl] at hl
  obtain ⟨c0, c1, c2, rfl⟩ := list3 hl
  obtain ⟨x0, x1, x2, rfl⟩ := list3 hx
  have f0 : DataW.trod enc Tryd.prog W 0 sp held n' 9 [c0] = some x0 := by
    have := hf 0 _ rfl
    change DataW.trod enc Tryd.prog W 0 sp held n' 9 ((List.drop 0 [c0, c1, c2]).take (Tryd.prog.cellsOf 9)) = some x0 at this
    rw [show Tryd.prog.cellsOf 9 = 1 by kernel_rfl] at this
    exact this
  have f1 : DataW.trod enc Tryd.prog W 0 sp held n' 42 [c1] = some x1 := by
    have := hf 1 _ rfl
    change DataW.trod enc Tryd.prog W 0 sp held n' 42 ((List.drop 1 [c0, c1, c2]).take (Tryd.prog.cellsOf 42)) = some x1 at this
    rw [show Tryd.prog.cellsOf 42 = 1 by kernel_rfl] at this
    exact this
  have f2 : DataW.trod enc Tryd.prog W 0 sp held n' 9 [c2] = some x2 := by
    have := hf 2 _ rfl
    change DataW.trod enc Tryd.prog W 0 sp held n' 9 ((List.drop 2 [c0, c1, c2]).take (Tryd.prog.cellsOf 9)) = some x2 at this
    rw [show Tryd.prog.cellsOf 9 = 1 by kernel_rfl] at this
    exact this
  obtain ⟨nm, e0, rfl, _⟩ := DataW.trod_string Tryd.underlying9 f0
  obtain ⟨k, e1, rfl, _⟩ := DataW.trod_int Tryd.underlying42 f1
  obtain ⟨tx, e2, rfl, _⟩ := DataW.trod_string Tryd.underlying9 f2
  cases e0
  cases e1
  cases e2
  exact ⟨⟨nm, k, tx⟩, ⟨hcell 0 (by decide), hcell 1 (by decide), hcell 2 (by decide)⟩, by
    have := size_data nm
    have := size_data tx
    simp only [szA, List.map_cons, List.map_nil, Rows.uptoBulk, Rows.uptoBulkAll]
    omega⟩
theorem open_txs {n : Nat} {cs : List Value} {x : DataW H × List MemPlace} (h : DataW.trod enc Tryd.prog W 0 sp held n 26 cs = some x) :
    ∃ (l : List ByteArray) (A : Option Addr) (c : Nat), cs = [.slice A l.length c] ∧ WsIn W (Old W) l A ∧ sumOf szW l + 1 ≤ Rows.uptoBulk x.1 := by
  obtain ⟨A, c, l, e, _, hl, hs⟩ := slice_open (k := 1) (by decide) Tryd.underlying26 (show Tryd.prog.cellsOf 9 = 1 by kernel_rfl) (fun b s o => W.cell? ⟨b, o, none⟩ = some (.string s)) szW (fun m hm cs y hy b o hb hc => open_tx hy b o hb hc) h
  refine ⟨l, A, c, e, fun h0 => ?_, hs⟩
  obtain ⟨b, o, e1, hb, hq⟩ := hl h0
  exact ⟨b, o, e1, hb, fun j x hx => by have := hq j x hx; rwa [Nat.mul_one] at this⟩
theorem open_sas {n : Nat} {cs : List Value} {x : DataW H × List MemPlace} (h : DataW.trod enc Tryd.prog W 0 sp held n 27 cs = some x) :
    ∃ (l : List SA) (A : Option Addr) (c : Nat), cs = [.slice A l.length c] ∧ AsIn W (Old W) l A ∧ sumOf szA l + 1 ≤ Rows.uptoBulk x.1 := by
  obtain ⟨A, c, l, e, _, hl, hs⟩ := slice_open (k := 3) (by decide) Tryd.underlying27 (show Tryd.prog.cellsOf 44 = 3 by kernel_rfl) (fun b a o => W.cell? ⟨b, o, none⟩ = some (.string a.name) ∧ W.cell? ⟨b, o + 1, none⟩ = some (.int .i64 a.kind) ∧ W.cell? ⟨b, o + 2, none⟩ = some (.string a.text)) szA (fun m hm cs y hy b o hb hc => open_sa hy b o hb hc) h
  refine ⟨l, A, c, e, fun h0 => ?_, hs⟩
  obtain ⟨b, o, e1, hb, hq⟩ := hl h0
  exact ⟨b, o, e1, hb, fun j x hx => hq j x hx⟩
set_option maxRecDepth 100000 in
theorem open_stv {n : Nat} {cs : List Value} {x : DataW H × List MemPlace} (h : DataW.trod enc Tryd.prog W 0 sp held n 29 cs = some x) :
    ∃ (s : ST) (A1 : Option Addr) (m1 : Nat) (A2 : Option Addr) (m2 : Nat), cs = stL s A1 m1 A2 m2 ∧ StF W (Old W) s A1 A2 ∧ szS s ≤ Rows.uptoBulk x.1 := by
  obtain ⟨xs, n', rfl, rfl, hl, hx, hf⟩ := DataW.trod_struct Tryd.underlying29 h
  rw [show Tryd.prog.cellsOf 29 = 8 by kernel_rfl] at hl
  obtain ⟨c0, c1, c2, c3, c4, c5, c6, c7, rfl⟩ := list8 hl
  obtain ⟨x0, x1, x2, x3, x4, x5, x6, x7, rfl⟩ := list8 hx
  have f0 : DataW.trod enc Tryd.prog W 0 sp held n' 25 [c0] = some x0 := by
    have := hf 0 _ rfl
    change DataW.trod enc Tryd.prog W 0 sp held n' 25 ((List.drop 0 [c0, c1, c2, c3, c4, c5, c6, c7]).take (Tryd.prog.cellsOf 25)) = some x0 at this
    rw [show Tryd.prog.cellsOf 25 = 1 by kernel_rfl] at this
    exact this
  have f1 : DataW.trod enc Tryd.prog W 0 sp held n' 9 [c1] = some x1 := by
    have := hf 1 _ rfl
    change DataW.trod enc Tryd.prog W 0 sp held n' 9 ((List.drop 1 [c0, c1, c2, c3, c4, c5, c6, c7]).take (Tryd.prog.cellsOf 9)) = some x1 at this
    rw [show Tryd.prog.cellsOf 9 = 1 by kernel_rfl] at this
    exact this
  have f2 : DataW.trod enc Tryd.prog W 0 sp held n' 9 [c2] = some x2 := by
    have := hf 2 _ rfl
    change DataW.trod enc Tryd.prog W 0 sp held n' 9 ((List.drop 2 [c0, c1, c2, c3, c4, c5, c6, c7]).take (Tryd.prog.cellsOf 9)) = some x2 at this
    rw [show Tryd.prog.cellsOf 9 = 1 by kernel_rfl] at this
    exact this
  have f3 : DataW.trod enc Tryd.prog W 0 sp held n' 4 [c3] = some x3 := by
    have := hf 3 _ rfl
    change DataW.trod enc Tryd.prog W 0 sp held n' 4 ((List.drop 3 [c0, c1, c2, c3, c4, c5, c6, c7]).take (Tryd.prog.cellsOf 4)) = some x3 at this
    rw [show Tryd.prog.cellsOf 4 = 1 by kernel_rfl] at this
    exact this
  have f4 : DataW.trod enc Tryd.prog W 0 sp held n' 26 [c4] = some x4 := by
    have := hf 4 _ rfl
    change DataW.trod enc Tryd.prog W 0 sp held n' 26 ((List.drop 4 [c0, c1, c2, c3, c4, c5, c6, c7]).take (Tryd.prog.cellsOf 26)) = some x4 at this
    rw [show Tryd.prog.cellsOf 26 = 1 by kernel_rfl] at this
    exact this
  have f5 : DataW.trod enc Tryd.prog W 0 sp held n' 9 [c5] = some x5 := by
    have := hf 5 _ rfl
    change DataW.trod enc Tryd.prog W 0 sp held n' 9 ((List.drop 5 [c0, c1, c2, c3, c4, c5, c6, c7]).take (Tryd.prog.cellsOf 9)) = some x5 at this
    rw [show Tryd.prog.cellsOf 9 = 1 by kernel_rfl] at this
    exact this
  have f6 : DataW.trod enc Tryd.prog W 0 sp held n' 9 [c6] = some x6 := by
    have := hf 6 _ rfl
    change DataW.trod enc Tryd.prog W 0 sp held n' 9 ((List.drop 6 [c0, c1, c2, c3, c4, c5, c6, c7]).take (Tryd.prog.cellsOf 9)) = some x6 at this
    rw [show Tryd.prog.cellsOf 9 = 1 by kernel_rfl] at this
    exact this
  have f7 : DataW.trod enc Tryd.prog W 0 sp held n' 27 [c7] = some x7 := by
    have := hf 7 _ rfl
    change DataW.trod enc Tryd.prog W 0 sp held n' 27 ((List.drop 7 [c0, c1, c2, c3, c4, c5, c6, c7]).take (Tryd.prog.cellsOf 27)) = some x7 at this
    rw [show Tryd.prog.cellsOf 27 = 1 by kernel_rfl] at this
    exact this
  obtain ⟨k, e0, rfl, _⟩ := DataW.trod_int Tryd.underlying25 f0
  obtain ⟨tag, e1, rfl, _⟩ := DataW.trod_string Tryd.underlying9 f1
  obtain ⟨by_, e2, rfl, _⟩ := DataW.trod_string Tryd.underlying9 f2
  obtain ⟨ov, e3, rfl⟩ := DataW.trod_bool Tryd.underlying4 f3
  obtain ⟨wi, A1, m1, e4, hw, hws⟩ := open_txs f4
  obtain ⟨nm, e5, rfl, _⟩ := DataW.trod_string Tryd.underlying9 f5
  obtain ⟨at_, e6, rfl, _⟩ := DataW.trod_string Tryd.underlying9 f6
  obtain ⟨ar, A2, m2, e7, ha, has⟩ := open_sas f7
  cases e0
  cases e1
  cases e2
  cases e3
  cases e4
  cases e5
  cases e6
  cases e7
  refine ⟨⟨k, tag, by_, ov, wi, nm, at_, ar⟩, A1, m1, A2, m2, rfl, ⟨hw, ha⟩, ?_⟩
  have := size_data tag
  have := size_data by_
  have := size_data nm
  have := size_data at_
  simp only [szS, List.map_cons, List.map_nil, Rows.uptoBulk, Rows.uptoBulkAll]
  omega
theorem open_steps {n : Nat} {cs : List Value} {x : DataW H × List MemPlace} (h : DataW.trod enc Tryd.prog W 0 sp held n 22 cs = some x) :
    ∃ (l : List ST) (A : Option Addr) (c : Nat), cs = [.slice A l.length c] ∧ StsIn W (Old W) l A ∧ l.length ≤ maxLen ∧ sumOf szS l + 1 ≤ Rows.uptoBulk x.1 := by
  obtain ⟨A, c, l, e, hm, hl, hs⟩ := slice_open (k := 8) (by decide) Tryd.underlying22 (show Tryd.prog.cellsOf 29 = 8 by kernel_rfl)
    (fun b x o => ∃ A1 c1 A2 c2, (∀ i u, (stL x A1 c1 A2 c2)[i]? = some u → W.cell? ⟨b, o + i, none⟩ = some u) ∧ StF W (Old W) x A1 A2) szS (fun m hm cs y hy b o hb hc => by
      obtain ⟨s, A1, m1, A2, m2, e, hf, hz⟩ := open_stv hy
      subst e
      exact ⟨s, ⟨A1, m1, A2, m2, fun i u hu => (hc i (by obtain ⟨q, _⟩ := List.getElem?_eq_some_iff.1 hu; exact q)).trans hu, hf⟩, hz⟩) h
  refine ⟨l, A, c, e, fun h0 => ?_, hm, hs⟩
  obtain ⟨b, o, e1, hb, hq⟩ := hl h0
  exact ⟨b, o, e1, hb, fun j x hx => hq j x hx⟩
theorem sum_mem {α : Type} (sz : α → Nat) : ∀ {l : List α} {x : α}, x ∈ l → sz x ≤ sumOf sz l
  | y :: l, x, h => by
    rcases List.mem_cons.1 h with rfl | h
    · simp only [sumOf]; omega
    · have := sum_mem sz h
      simp only [sumOf]; omega
end
end Go.Proofs.YtnkijpjknbelfaaDoor
