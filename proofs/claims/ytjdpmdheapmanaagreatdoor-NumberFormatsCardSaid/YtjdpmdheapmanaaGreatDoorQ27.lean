/-
  Several texts put together (part 27): what the law and the program call, walked; their contracts.
-/
import Derived.Test.YtjdpmdheapmanaaGreatDoorRows
import Derived.Test.YtjdpmdheapmanaaGreatDoorQ20
import Derived.ChangeArms
import Derived.ChangeOld
import Derived.DataReads
import Derived.KernelRfl
import Derived.OpenShut
namespace Go.Proofs.YtjdpmdheapmanaaGreatDoor
open Go.RowKit Go.ChangeShapes Go.WideShapes Go.ChangeAt
set_option linter.unusedVariables false
set_option linter.unusedSimpArgs false
theorem LieAt.imp' {P Q : Nat → Nat → Prop} {v : Value} {n : Nat} (h : LieAt P v n) (hi : ∀ b o, P b o → Q b o) : LieAt Q v n := by
  obtain ⟨A, c, h1, h2, h3, h4⟩ := h
  exact ⟨A, c, h1, h2, h3, fun h0 => by obtain ⟨b, o, e, hp⟩ := h4 h0; exact ⟨b, o, e, hi b o hp⟩⟩
section
variable {H : Type} {enc : TypeId × Value → H} {W : World} {sp : Nat → Bool} {held : Bool}
theorem cells_at {base n : Nat} {a : Addr} {cs : List Value} (hn : 0 < n) (h : W.cells? base a n = some cs) : ∃ b o, a = ⟨b, o, none⟩ ∧ b < W.heap.size ∧ cs.length = n ∧ ∀ i, i < n → W.cell? ⟨b, o + i, none⟩ = cs[i]? := by
  obtain ⟨_, hl, hc⟩ := World.cells?_some h
  have hb := World.cells?_block h hn
  obtain ⟨b, o, s⟩ := a
  have h0 := hc 0 hn
  rw [show (Addr.add ⟨b, o, s⟩ 0) = ⟨b, o, s⟩ from by simp [Addr.add], List.getElem?_eq_getElem (by omega)] at h0
  have hs : s = none := by
    cases s with
    | none => rfl
    | some k =>
      exfalso
      unfold World.cell? at h0
      split at h0 <;> simp at h0
  subst hs
  refine ⟨b, o, rfl, hb, hl, fun i hi => ?_⟩
  rw [← hc i hi]
  congr 1
  unfold Addr.add
  split
  · next h => subst h; rfl
  · rfl
theorem add_at {a : Addr} {b o n m : Nat} {k : Nat} (h : a.add n = ⟨b, o, none⟩) (h0 : a = ⟨b, k, none⟩) : o = k + n := by
  subst h0
  unfold Addr.add at h
  split at h
  · next e => cases h; omega
  · cases h; rfl
theorem bulk_pos {d : DataW H} : 1 ≤ Rows.uptoBulk d := by
  cases d with
  | lit l => cases l <;> simp [Rows.uptoBulk]
  | nil => simp [Rows.uptoBulk]
  | ptr d => simp [Rows.uptoBulk]
  | slice elems spare => simp [Rows.uptoBulk]
  | agg parts => simp [Rows.uptoBulk]
  | iface t d => simp [Rows.uptoBulk]
  | map entries => simp [Rows.uptoBulk]
  | held h => simp [Rows.uptoBulk]
theorem list2 {α : Type} {l : List α} (h : l.length = 2) : ∃ a b, l = [a, b] := by
  match l, h with
  | [a, b], _ => exact ⟨_, _, rfl⟩
theorem list3 {α : Type} {l : List α} (h : l.length = 3) : ∃ a b c, l = [a, b, c] := by
  match l, h with
  | [a, b, c], _ => exact ⟨_, _, _, rfl⟩
theorem list7 {α : Type} {l : List α} (h : l.length = 7) : ∃ a b c d e f g, l = [a, b, c, d, e, f, g] := by
  match l, h with
  | [a, b, c, d, e, f, g], _ => exact ⟨_, _, _, _, _, _, _, rfl⟩
theorem list8 {α : Type} {l : List α} (h : l.length = 8) : ∃ a b c d e f g k, l = [a, b, c, d, e, f, g, k] := by
  match l, h with
  | [a, b, c, d, e, f, g, k], _ => exact ⟨_, _, _, _, _, _, _, _, rfl⟩
def sumOf {α : Type} (sz : α → Nat) : List α → Nat
  | [] => 0
  | x :: r => sz x + sumOf sz r
theorem row_open {α : Type} (k : Nat) (Q : α → Nat → Prop) (sz : α → Nat) : ∀ (elems : List (DataW H × List MemPlace)) (o : Nat), (∀ i y, elems[i]? = some y → ∃ e, Q e (o + i * k) ∧ sz e ≤ Rows.uptoBulk y.1) →
    ∃ l : List α, l.length = elems.length ∧ (∀ i e, l[i]? = some e → Q e (o + i * k)) ∧ sumOf sz l ≤ Rows.uptoBulkAll (elems.map (·.1))
  | [], o, h => ⟨[], rfl, fun i e he => by simp at he, by simp [sumOf]⟩
  | y :: r, o, h => by
    obtain ⟨e, he, hs⟩ := h 0 y rfl
    obtain ⟨l, h1, h2, h3⟩ := row_open k Q sz r (o + k) (fun i y hy => by
      obtain ⟨e, he, hs⟩ := h (i + 1) y (by simpa using hy)
      rw [Nat.add_mul, Nat.one_mul, Nat.add_comm (i * k) k, ← Nat.add_assoc] at he
      exact ⟨e, he, hs⟩)
    refine ⟨e :: l, by simp [h1], fun i x hx => ?_, ?_⟩
    · cases i with
      | zero => simp at hx; subst hx; exact he
      | succ i =>
        have := h2 i x (by simpa using hx)
        rw [Nat.add_mul, Nat.one_mul, Nat.add_comm (i * k) k, ← Nat.add_assoc]
        exact this
    · rw [sumOf, List.map_cons, Rows.uptoBulkAll]; omega
theorem slice_open {α : Type} {t e : TypeId} {n k : Nat} (hk : 0 < k) (hu : Tryz.prog.underlying t = some (.slice e)) (hc : Tryz.prog.cellsOf e = k) (Q : Nat → α → Nat → Prop) (sz : α → Nat)
    (hE : ∀ m, m < n → ∀ cs y, DataW.trod enc Tryz.prog W 0 sp held m e cs = some y → ∀ b o, b < W.heap.size → (∀ i, i < k → W.cell? ⟨b, o + i, none⟩ = cs[i]?) → ∃ x, Q b x o ∧ sz x ≤ Rows.uptoBulk y.1)
    {cs : List Value} {x : DataW H × List MemPlace} (h : DataW.trod enc Tryz.prog W 0 sp held n t cs = some x) :
    ∃ v l, cs = [v] ∧ LieAt (fun b o => ∀ i e, l[i]? = some e → Q b e (o + i * k)) v l.length ∧ sumOf sz l + 1 ≤ Rows.uptoBulk x.1 := by
  rcases DataW.trod_slice hu h with ⟨rfl, rfl⟩ | ⟨a, len, cap, elems, rest, n', hn, rfl, rfl, _, h1, h2, h3, h4, _, _⟩
  · exact ⟨_, [], rfl, ⟨none, 0, rfl, Nat.le_refl _, Nat.zero_le _, fun h => absurd h (by simp)⟩, by simp [sumOf, Rows.uptoBulk]⟩
  · have hel : ∀ i y, elems[i]? = some y → ∃ cs', W.cells? 0 (a.add (i * k)) k = some cs' ∧ DataW.trod enc Tryz.prog W 0 sp held n' e cs' = some y := by
      intro i y hy
      have hi : i < len := by rw [← h3]; exact (List.getElem?_eq_some_iff.1 hy).1
      have h5 := h4 i hi
      rw [hy, hc, Option.bind_eq_some_iff] at h5
      exact h5
    by_cases h0 : 0 < len
    · obtain ⟨cs0, hc0, _⟩ := hel 0 _ (List.getElem?_eq_getElem (by omega))
      rw [Nat.zero_mul] at hc0
      rw [show a.add 0 = a by simp [Addr.add]] at hc0
      obtain ⟨b, o, rfl, hb, _, _⟩ := cells_at hk hc0
      obtain ⟨l, l1, l2, l3⟩ := row_open k (Q b) sz elems o (fun i y hy => by
        obtain ⟨cs', g1, g2⟩ := hel i y hy
        obtain ⟨b', o', e1, hb', _, g3⟩ := cells_at hk g1
        have e2 : (Addr.add ⟨b, o, none⟩ (i * k)) = ⟨b, o + i * k, none⟩ := by
          unfold Addr.add
          split
          · next h => rw [h]; rfl
          · rfl
        rw [e2] at e1
        cases e1
        exact hE n' (by omega) cs' y g2 b _ hb' g3)
      refine ⟨_, l, rfl, ⟨some ⟨b, o, none⟩, cap, by rw [l1, h3], by omega, h2, fun _ => ⟨b, o, rfl, l2⟩⟩, ?_⟩
      simp only [Rows.uptoBulk]; omega
    · have e0 : len = 0 := by omega
      subst e0
      refine ⟨_, [], rfl, ⟨some a, cap, rfl, Nat.zero_le _, h2, fun h => absurd h (by simp)⟩, ?_⟩
      simp only [Rows.uptoBulk, sumOf]; omega
theorem listN4 {α : Type} {l : List α} (h : l.length = 4) : ∃ a0 a1 a2 a3, l = [a0, a1, a2, a3] := by
  match l, h with
  | [a0, a1, a2, a3], _ => exact ⟨_, _, _, _, rfl⟩
theorem listN6 {α : Type} {l : List α} (h : l.length = 6) : ∃ a0 a1 a2 a3 a4 a5, l = [a0, a1, a2, a3, a4, a5] := by
  match l, h with
  | [a0, a1, a2, a3, a4, a5], _ => exact ⟨_, _, _, _, _, _, rfl⟩
def szO (p : OPT) : Nat := p.nm.size + p.tx.size
def QOP (W : World) (b : Nat) (p : OPT) (o : Nat) : Prop := b < W.heap.size ∧ OpAt W b o p ∧ BdO p
theorem open_dec {n : Nat} {cs : List Value} {x : DataW H × List MemPlace} (h : DataW.trod enc Tryz.prog W 0 sp held n 29 cs = some x) :
    ∃ (g : Bool) (s : ByteArray) (k : Int), cs = [.bool g, .string s, .int .i64 k] ∧ s.size ≤ 9223372036854775807 ∧ -9223372036854775808 ≤ k ∧ k ≤ 9223372036854775807 := by
  obtain ⟨xs, n', rfl, rfl, hl, hx, hf⟩ := DataW.trod_struct Tryz.underlying29 h
  rw [show Tryz.prog.cellsOf 29 = 3 by kernel_rfl] at hl
  obtain ⟨c0, c1, c2, rfl⟩ := list3 hl
  obtain ⟨x0, x1, x2, rfl⟩ := list3 hx
  have f0 : DataW.trod enc Tryz.prog W 0 sp held n' 4 [c0] = some x0 := by
    have := hf 0 _ rfl
    change DataW.trod enc Tryz.prog W 0 sp held n' 4 ((List.drop 0 [c0, c1, c2]).take (Tryz.prog.cellsOf 4)) = some x0 at this
    rw [show Tryz.prog.cellsOf 4 = 1 by kernel_rfl] at this
    exact this
  have f1 : DataW.trod enc Tryz.prog W 0 sp held n' 9 [c1] = some x1 := by
    have := hf 1 _ rfl
    change DataW.trod enc Tryz.prog W 0 sp held n' 9 ((List.drop 1 [c0, c1, c2]).take (Tryz.prog.cellsOf 9)) = some x1 at this
    rw [show Tryz.prog.cellsOf 9 = 1 by kernel_rfl] at this
    exact this
  have f2 : DataW.trod enc Tryz.prog W 0 sp held n' 3 [c2] = some x2 := by
    have := hf 2 _ rfl
    change DataW.trod enc Tryz.prog W 0 sp held n' 3 ((List.drop 2 [c0, c1, c2]).take (Tryz.prog.cellsOf 3)) = some x2 at this
    rw [show Tryz.prog.cellsOf 3 = 1 by kernel_rfl] at this
    exact this
  obtain ⟨g, e0, rfl⟩ := DataW.trod_bool Tryz.underlying4 f0
  obtain ⟨s, e1, rfl, ws⟩ := DataW.trod_string Tryz.underlying9 f1
  obtain ⟨k, e2, rfl, wk⟩ := DataW.trod_int Tryz.underlying3 f2
  cases e0
  cases e1
  cases e2
  have hb := bounds_i64 wk
  unfold maxLen at ws
  exact ⟨g, s, k, rfl, by omega, hb.1, hb.2⟩
set_option maxRecDepth 100000 in
theorem open_opt {n : Nat} {cs : List Value} {x : DataW H × List MemPlace} (h : DataW.trod enc Tryz.prog W 0 sp held n 31 cs = some x) :
    ∀ b o, b < W.heap.size → (∀ i, i < 6 → W.cell? ⟨b, o + i, none⟩ = cs[i]?) → ∃ p, QOP W b p o ∧ szO p ≤ Rows.uptoBulk x.1 := by
  intro b o hb hcell
  obtain ⟨xs, n', rfl, rfl, hl, hx, hf⟩ := DataW.trod_struct Tryz.underlying31 h
  rw [show Tryz.prog.cellsOf 31 = 6 by kernel_rfl] at hl
  obtain ⟨c0, c1, c2, c3, c4, c5, rfl⟩ := listN6 hl
  obtain ⟨x0, x1, x2, x3, rfl⟩ := listN4 hx
  have f0 : DataW.trod enc Tryz.prog W 0 sp held n' 9 [c0] = some x0 := by
    have := hf 0 _ rfl
    change DataW.trod enc Tryz.prog W 0 sp held n' 9 ((List.drop 0 [c0, c1, c2, c3, c4, c5]).take (Tryz.prog.cellsOf 9)) = some x0 at this
    rw [show Tryz.prog.cellsOf 9 = 1 by kernel_rfl] at this
    exact this
  have f1 : DataW.trod enc Tryz.prog W 0 sp held n' 9 [c1] = some x1 := by
    have := hf 1 _ rfl
    change DataW.trod enc Tryz.prog W 0 sp held n' 9 ((List.drop 1 [c0, c1, c2, c3, c4, c5]).take (Tryz.prog.cellsOf 9)) = some x1 at this
    rw [show Tryz.prog.cellsOf 9 = 1 by kernel_rfl] at this
    exact this
  have f2 : DataW.trod enc Tryz.prog W 0 sp held n' 29 [c2, c3, c4] = some x2 := by
    have := hf 2 _ rfl
    change DataW.trod enc Tryz.prog W 0 sp held n' 29 ((List.drop 2 [c0, c1, c2, c3, c4, c5]).take (Tryz.prog.cellsOf 29)) = some x2 at this
    rw [show Tryz.prog.cellsOf 29 = 3 by kernel_rfl] at this
    exact this
  have f3 : DataW.trod enc Tryz.prog W 0 sp held n' 4 [c5] = some x3 := by
    have := hf 3 _ rfl
    change DataW.trod enc Tryz.prog W 0 sp held n' 4 ((List.drop 5 [c0, c1, c2, c3, c4, c5]).take (Tryz.prog.cellsOf 4)) = some x3 at this
    rw [show Tryz.prog.cellsOf 4 = 1 by kernel_rfl] at this
    exact this
  obtain ⟨nm, e0, rfl, _⟩ := DataW.trod_string Tryz.underlying9 f0
  obtain ⟨tx, e1, rfl, _⟩ := DataW.trod_string Tryz.underlying9 f1
  obtain ⟨g, s, k, e2, ws, k0, k1⟩ := open_dec f2
  obtain ⟨it, e3, rfl⟩ := DataW.trod_bool Tryz.underlying4 f3
  cases e0
  cases e1
  cases e2
  cases e3
  exact ⟨⟨nm, tx, g, s, k, it⟩, ⟨hb, ⟨by simpa using hcell 0 (by decide), hcell 1 (by decide), hcell 2 (by decide), hcell 3 (by decide), hcell 4 (by decide), hcell 5 (by decide)⟩, ws, k0, k1⟩, by
    have := size_data nm
    have := size_data tx
    simp only [szO, List.map_cons, List.map_nil, Rows.uptoBulk, Rows.uptoBulkAll]
    omega⟩
theorem open_optsU {n : Nat} {cs : List Value} {x : DataW H × List MemPlace} (h : DataW.trod enc Tryz.prog W 0 sp held n 22 cs = some x) :
    ∃ (l : List OPT) (A : Option Addr) (c : Nat), cs = [.slice A l.length c] ∧ ListO W l A c ∧ sumOf szO l + 1 ≤ Rows.uptoBulk x.1 := by
  obtain ⟨v, l, e, hl, hs⟩ := slice_open (k := 6) (by decide) Tryz.underlying22 (show Tryz.prog.cellsOf 31 = 6 by kernel_rfl) (QOP W) szO (fun m hm cs y hy b o hb hc => open_opt hy b o hb hc) h
  obtain ⟨A, c, rfl, h1, h2, h3⟩ := hl
  unfold maxLen at h2
  refine ⟨l, A, c, e, ⟨h1, by omega, fun h0 => ?_⟩, hs⟩
  obtain ⟨b, o, e1, hq⟩ := h3 h0
  exact ⟨b, o, e1, (hq 0 l[0] (List.getElem?_eq_getElem h0)).1, fun i p hi => (hq i p hi).2⟩
theorem open_opts {n : Nat} {cs : List Value} {x : DataW H × List MemPlace} (h : DataW.trod enc Tryz.prog W 0 sp held n 22 cs = some x) :
    ∃ (l : List OPT) (A : Option Addr) (c : Nat), cs = [.slice A l.length c] ∧ ListO W l A c := by
  obtain ⟨l, A, c, e, hl, _⟩ := open_optsU h
  exact ⟨l, A, c, e, hl⟩
theorem sum_mem {α : Type} (sz : α → Nat) : ∀ {l : List α} {x : α}, x ∈ l → sz x ≤ sumOf sz l
  | y :: l, x, h => by
    rcases List.mem_cons.1 h with rfl | h
    · simp only [sumOf]; omega
    · have := sum_mem sz h
      simp only [sumOf]; omega
end
end Go.Proofs.YtjdpmdheapmanaaGreatDoor
