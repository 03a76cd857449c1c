/-
  Package serial: calls that are open, in memory.
-/
import Derived.Test.YtminidoiaplhjaaDoorZl
namespace Go.Proofs.YtminidoiaplhjaaDoor
open Go.RowKit
set_option linter.unusedVariables false
set_option linter.unusedSimpArgs false

/-- A call that is open: its arguments, where they lie, how many are written. -/
structure FR where
  al : List AR
  A : Option Addr
  c : Nat
  k : Nat
def FR.cells (x : FR) : List Value := [.slice x.A x.al.length x.c, .int .i64 x.k]
def stkC (st : List FR) : List Value := st.flatMap FR.cells
def stP (st : List FR) : List (List AR × Nat) := (st.map fun x => (x.al, x.k)).reverse
theorem stP_snoc (st : List FR) (x : FR) : stP (st ++ [x]) = (x.al, x.k) :: stP st := by simp [stP]
theorem stkC_snoc (st : List FR) (x : FR) : stkC (st ++ [x]) = stkC st ++ x.cells := by simp [stkC]
theorem stkC_len (st : List FR) : (stkC st).length = st.length * 2 := by
  induction st with
  | nil => rfl
  | cons x r ih =>
    have : stkC (x :: r) = x.cells ++ stkC r := rfl
    rw [this, List.length_append, ih, List.length_cons]
    show 2 + _ = _
    omega
def StkR (n₀ : Nat) (W : World) (v : Value) (st : List FR) : Prop := W.ownsRow n₀ 127 2 v st.length (stkC st)
theorem StkR.nil (n₀ : Nat) (W : World) : StkR n₀ W (.slice none 0 0) [] := World.ownsRow_nil _ _ _ _
theorem StkR.shape {n₀ : Nat} {W : World} {v : Value} {st : List FR} (h : StkR n₀ W v st) : ∃ A cap, v = .slice A st.length cap := by
  rcases h.2 with ⟨rfl, h0⟩ | ⟨g, cap, cur, rfl, _⟩
  · exact ⟨none, 0, by rw [h0]⟩
  · exact ⟨_, _, rfl⟩
theorem StkR.top {n₀ : Nat} {W : World} {v : Value} {st : List FR} {x : FR} (h : StkR n₀ W v (st ++ [x])) :
    ∃ g cap cur, v = .slice (some ⟨g, 0, none⟩) (st.length + 1) cap ∧ n₀ ≤ g ∧ BoxAt W g cur 127 ∧ st.length + 1 ≤ cap ∧ cap ≤ maxLen ∧ cur[st.length * 2]? = some (.slice x.A x.al.length x.c) ∧ cur[st.length * 2 + 1]? = some (.int .i64 x.k) := by
  have hl : (st ++ [x]).length = st.length + 1 := by simp
  rcases h.2 with ⟨_, h0⟩ | ⟨g, cap, cur, rfl, hb, hg, hn, hm, hs, ht⟩
  · rw [hl] at h0; omega
  · rw [hl] at hn ht
    have hget : ∀ j u, j < (st.length + 1) * 2 → (stkC (st ++ [x]))[j]? = some u → cur[j]? = some u := fun j u hj hu => by
      rw [← ht, List.getElem?_take_of_lt hj, Array.getElem?_toList] at hu
      exact hu
    refine ⟨g, cap, cur, by rw [hl], hb, hg, hn, hm, hget _ _ (by omega) ?_, hget _ _ (by omega) ?_⟩
    · rw [stkC_snoc, List.getElem?_append_right (by rw [stkC_len]; omega), stkC_len, Nat.sub_self]; rfl
    · rw [stkC_snoc, List.getElem?_append_right (by rw [stkC_len]; omega), stkC_len, show st.length * 2 + 1 - st.length * 2 = 1 by omega]; rfl
theorem StkR.pop {n₀ g cap : Nat} {W : World} {st : List FR} {x : FR} (h : StkR n₀ W (.slice (some ⟨g, 0, none⟩) (st.length + 1) cap) (st ++ [x])) : StkR n₀ W (.slice (some ⟨g, 0, none⟩) st.length cap) st := by
  have hl : (st ++ [x]).length = st.length + 1 := by simp
  refine ⟨stkC_len st, ?_⟩
  rcases h.2 with ⟨e, _⟩ | ⟨g', cap', cur, e, hb, hg, hn, hm, hs, ht⟩
  · cases e
  · obtain ⟨rfl, rfl⟩ : g = g' ∧ cap = cap' := by simpa using e
    refine .inr ⟨g, cap, cur, rfl, hb, hg, by omega, hm, hs, ?_⟩
    have := congrArg (List.take (st.length * 2)) ht
    rw [List.take_take, hl, Nat.min_eq_left (by omega), stkC_snoc, List.take_append_of_le_length (by rw [stkC_len]; omega)] at this
    exact this.trans (List.take_of_length_le (by rw [stkC_len]; omega))
theorem stkC_set (st : List FR) (x : FR) (k : Nat) : (stkC (st ++ [x])).set (st.length * 2 + 1) (.int .i64 k) = stkC (st ++ [⟨x.al, x.A, x.c, k⟩]) := by
  rw [stkC_snoc, stkC_snoc, List.set_append_right _ _ (by rw [stkC_len]; omega), stkC_len, show st.length * 2 + 1 - st.length * 2 = 1 by omega]
  rfl
theorem StkR.bump {n₀ g cap : Nat} {W : World} {st : List FR} {x : FR} (h : StkR n₀ W (.slice (some ⟨g, 0, none⟩) (st.length + 1) cap) (st ++ [x])) (k : Nat) : StkR n₀ (W.setCell ⟨g, st.length * 2 + 1, none⟩ (.int .i64 k)) (.slice (some ⟨g, 0, none⟩) (st.length + 1) cap) (st ++ [⟨x.al, x.A, x.c, k⟩]) := by
  have hl : (st ++ [x]).length = st.length + 1 := by simp
  refine ⟨stkC_len _, ?_⟩
  rcases h.2 with ⟨e, _⟩ | ⟨g', cap', cur, e, hb, hg, hn, hm, hs, ht⟩
  · cases e
  · obtain ⟨rfl, rfl⟩ : g = g' ∧ cap = cap' := by simpa using e
    refine .inr ⟨g, cap, cur.setIfInBounds (st.length * 2 + 1) (.int .i64 k), by simp, hb, ?_, by simpa using hn, hm, by simpa using hs, ?_⟩
    · simp [World.setCell, Array.getElem?_modify, hg]
    · rw [Array.toList_setIfInBounds, List.take_set, show (st ++ [(⟨x.al, x.A, x.c, k⟩ : FR)]).length = (st ++ [x]).length by simp, ht, stkC_set]
theorem StkR.wk {n₀ B b : Nat} {W W' : World} {v : Value} {st : List FR} {bs : List UInt8} (h : StkR n₀ W v st) (hw : WrAt B b bs W) (g : Wk B b W W') : StkR n₀ W' v st := by
  refine ⟨h.1, ?_⟩
  rcases h.2 with h0 | ⟨q, cap, cur, e, hb, hg, r⟩
  · exact .inl h0
  · exact .inr ⟨q, cap, cur, e, hb, BoxAt.wk (t := 127) hg g (hw.box_ne hg (by decide)) (by decide), r⟩
theorem StkR.wkn {n₀ B b : Nat} {W W' : World} {v : Value} {st : List FR} (h : StkR n₀ W v st) (hne : ∀ k, v.ownBlock = some k → k ≠ b) (g : Wk B b W W') : StkR n₀ W' v st := by
  refine ⟨h.1, ?_⟩
  rcases h.2 with h0 | ⟨q, cap, cur, e, hb, hg, r⟩
  · exact .inl h0
  · exact .inr ⟨q, cap, cur, e, hb, BoxAt.wk (t := 127) hg g (hne q (by rw [e]; rfl)) (by decide), r⟩
theorem StkR.below {n₀ : Nat} {W W' : World} {v : Value} {st : List FR} (h : StkR n₀ W v st) (g : Below W.heap.size W W') : StkR n₀ W' v st := by
  refine ⟨h.1, ?_⟩
  rcases h.2 with h0 | ⟨q, cap, cur, e, hb, hg, r⟩
  · exact .inl h0
  · exact .inr ⟨q, cap, cur, e, hb, BoxAt.later (t := 127) hg g, r⟩
theorem StkR.block {n₀ : Nat} {W : World} {v : Value} {st : List FR} (h : StkR n₀ W v st) {k : Nat} (hk : v.ownBlock = some k) : n₀ ≤ k ∧ ∃ cs, BoxAt W k cs 127 := by
  rcases h.2 with ⟨rfl, _⟩ | ⟨q, cap, cur, rfl, hb, hg, r⟩
  · cases hk
  · cases hk; exact ⟨hb, cur, hg⟩
theorem Wk.setNew {B b : Nat} {w W : World} (h : Wk B b w W) {g : Nat} (hB : B ≤ w.heap.size) (hg : w.heap.size ≤ g) (o : Nat) (x : Value) : Wk B b w (W.setCell ⟨g, o, none⟩ x) :=
  ⟨h.below.setCell (p := ⟨g, o, none⟩) (Nat.le_trans hB hg) x, fun k ob hk hb hc => by
    have hlt := (Array.getElem?_eq_some_iff.1 hk).1
    exact (Below.heap_setCell _ _ _ k (by show k ≠ g; omega)).trans (h.kept k ob hk hb hc)⟩
theorem Wk.grown {B b : Nat} {w W W' : World} {row : Option Nat} (h : Wk B b w W) (hB : B ≤ w.heap.size) (g : W.grownBy W' row) (hr : ∀ k, row = some k → w.heap.size ≤ k) : Wk B b w W' :=
  ⟨h.below.grown g (Nat.le_trans hB h.size) (fun k hk => Nat.le_trans hB (hr k hk)), fun k ob hk hb hc => by
    have hlt := (Array.getElem?_eq_some_iff.1 hk).1
    refine (g.block k (Nat.lt_of_lt_of_le hlt h.size) (fun e => ?_)).trans (h.kept k ob hk hb hc)
    have := hr k e.symm
    omega⟩
theorem WrAt.kept {B b : Nat} {bs : List UInt8} {W W' : World} {row : Option Nat} (h : WrAt B b bs W) (g : W.grownBy W' row) (hr : ∀ k, row = some k → ∃ cs, BoxAt W k cs 127) : WrAt B b bs W' := by
  have hne : ∀ q o t, W.heap[q]? = some (.cells o t (0, 0)) → t ≠ 127 → some q ≠ row := fun q o t hq ht e => by
    obtain ⟨cs, hb⟩ := hr q e.symm
    unfold BoxAt at hb
    rw [hq] at hb
    simp at hb
    exact ht hb.2
  have hne2 : ∀ q o fz, W.heap[q]? = some (.cells o 5 fz) → some q ≠ row := fun q o fz hq e => by
    obtain ⟨cs, hb⟩ := hr q e.symm
    unfold BoxAt at hb
    rw [hq] at hb
    simp at hb
  have go : ∀ {p : Value}, Lib.BuilderAtF 46 5 B b p (Lib.byteCells bs) W → Lib.BuilderAtF 46 5 B b p (Lib.byteCells bs) W' := by
    rintro p ⟨h1, v, h2, h3, h4⟩
    refine ⟨h1, v, (g.block b (Array.getElem?_eq_some_iff.1 h2).1 (fun e => hne b _ _ h2 (by decide) e)).trans h2, ?_, h4⟩
    obtain ⟨g1, g2⟩ := h3
    refine ⟨g1, ?_⟩
    rcases g2 with g2 | ⟨q, cap, cur, fz, e, hq, hh, r⟩
    · exact .inl g2
    · exact .inr ⟨q, cap, cur, fz, e, hq, (g.block q (Array.getElem?_eq_some_iff.1 hh).1 (fun e => hne2 q _ _ hh e)).trans hh, r⟩
  refine ⟨?_, Nat.le_trans h.le g.size⟩
  rcases h.bld with h | h
  · exact .inl (go h)
  · exact .inr (go h)
theorem Sw.wk {W0 : World} {B b : Nat} {w W : World} (h : Sw W0 B b w) (g : Wk B b w W) : Sw W0 B b W := h.step g
theorem infoC : (Tryd.prog.info? 127).map (fun i => (i.zero, i.size, i.bytes)) = some (some (.agg #[.slice none 0 0, .int .i64 0]), 2, 32) := by kernel_rfl
/-- What stands in the list of open calls. -/
def StOk (W0 : World) (st : List FR) : Prop := ∀ x ∈ st, LieAt (AsAt W0 x.al) (.slice x.A x.al.length x.c) x.al.length ∧ gdAs x.al = true ∧ x.k ≤ x.al.length ∧ sizeAs x.al ≤ 4000000
end Go.Proofs.YtminidoiaplhjaaDoor
