/-
  The statement's own rows of two hundred digits: Of, Less.
-/
import Derived.Test.YtmkcebngobanjabDoorRow
import Derived.Deep.MidRow
namespace Go.Proofs.YtmkcebngobanjabDoor
open Go.RowKit

/-- Block b is a row of two hundred integers, that may be written. -/
def RowF (w : World) (b : Nat) (A : Nat → Int) : Prop := ∀ p, p < 200 → w.cell? ⟨b, p, none⟩ = some (.int .i64 (A p)) ∧ w.frozen? ⟨b, p, none⟩ = false
theorem RowF.set {w : World} {b : Nat} {A : Nat → Int} (h : RowF w b A) (i : Nat) (x : Int) : RowF (w.setCell ⟨b, i, none⟩ (.int .i64 x)) b (fun q => if q = i then x else A q) := by
  intro p hp
  obtain ⟨h1, h2⟩ := h p hp
  refine ⟨?_, by rw [World.frozen?_setCell]; exact h2⟩
  by_cases e : i = p
  · subst e
    rw [World.cell?_setCell_same _ _ _ h1]
    simp
  · rw [World.cell?_setCell_other _ _ _ _ (by intro e'; injection e' with _ e'; exact e e'), h1]
    have e2 : ¬ p = i := fun h => e h.symm
    simp [e2]
theorem RowF.other {w : World} {b b' : Nat} {A : Nat → Int} (h : RowF w b A) (hne : b' ≠ b) (i : Nat) (v : Value) : RowF (w.setCell ⟨b', i, none⟩ v) b A := fun p hp => by
  rw [World.cell?_setCell_other _ _ _ _ (by intro e; injection e with e _; exact hne e), World.frozen?_setCell]
  exact h p hp
theorem RowF.congr {w : World} {b : Nat} {A B : Nat → Int} (h : RowF w b A) (e : ∀ p, p < 200 → A p = B p) : RowF w b B := fun p hp => by rw [← e p hp]; exact h p hp
theorem RowF.drew {w : World} {b : Nat} {A : Nat → Int} (h : RowF w b A) : RowF w.drew b A := fun p hp => by simpa using h p hp
theorem RowF.call {W w1 : World} {b : Nat} {A : Nat → Int} (h : RowF W b A) (hb : Below W.heap.size W w1) (hl : b < W.heap.size) : RowF w1 b A := fun p hp => by
  rw [(bcell hb).1 b p hl, (bcell hb).2 b p hl]
  exact h p hp
theorem RowF.alloc {w : World} {b : Nat} {A : Nat → Int} (h : RowF w b A) (hl : b < w.heap.size) (o : Obj) : RowF (w.alloc o) b A := fun p hp => by
  rw [World.cell?_alloc_lt _ _ _ (show b < w.heap.size from hl), World.frozen?_alloc_past _ _ _ hl]
  exact h p hp
theorem RowF.new (w : World) (A : Nat → Int) (t : TypeId) : RowF (w.alloc (.cells (row 200 A) t)) w.heap.size A := fun p hp => by
  rw [World.cell?_alloc_at _ _ _ _ rfl, World.frozen?_alloc_at _ _ _ _ rfl, row_get 200 A p hp]
  exact ⟨rfl, rfl⟩
theorem RowF.range {w : World} {b : Nat} {A : Nat → Int} (h : RowF w b A) : w.rangeAt b 0 (row 200 A).toList := fun j v hv => by
  rw [Array.getElem?_toList] at hv
  have hj : j < 200 := by
    have := (Array.getElem?_eq_some_iff.1 hv).1
    rw [row_size] at this
    exact this
  rw [row_get 200 A j hj] at hv
  rw [Nat.zero_add, (h j hj).1, hv]

theorem fixInfo : (Tryd.prog.info? 55).map (fun i => (i.zero, i.size)) = some (some (.agg (row 200 (fun _ => 0))), 200) := by kernel_rfl
theorem fixZero (w : World) : (zeroValue 55).run Tryd.prog w = .ok (.agg (row 200 (fun _ => 0))) w := (zero_of_info fixInfo).1 w
theorem fixSize : (Tryd.prog.info? 55).map (·.size) = some 200 := (zero_of_info fixInfo).2
theorem fixUnder : Tryd.prog.underlying 55 = some (.array 200 3) := by kernel_rfl
theorem fix_load {w : World} {b : Nat} {A : Nat → Int} (h : RowF w b A) : (Instr.loadAt 55 (.pointer (some ⟨b, 0, none⟩))).run Tryd.prog w = .ok (.agg (row 200 A)) w := by
  have := run_loadAt_mid (P := Tryd.prog) w b 0 55 (row 200 A).toList _ h.range fixUnder rfl (by rw [fixSize, Array.length_toList, row_size])
  simpa using this
theorem fix_loadVar {w : World} {b : Nat} {A : Nat → Int} (h : RowF w b A) : (loadVar 55 ⟨b, 0, none⟩).run Tryd.prog w = .ok (.agg (row 200 A)) w := by
  have := run_loadVar_mid (P := Tryd.prog) w b 0 55 (row 200 A).toList _ h.range fixUnder rfl (by rw [fixSize, Array.length_toList, row_size])
  simpa using this

set_option maxRecDepth 100000 in
theorem fix_loadCells {w : World} {b : Nat} {A : Nat → Int} (h : RowF w b A) : (loadCellsFrom ⟨b, 0, none⟩ 0 200 #[]).run Tryd.prog w = .ok (row 200 A) w := by
  have := run_loadCells_list (P := Tryd.prog) w ⟨b, 0, none⟩ (row 200 A).toList (fun j v hv => by rw [Addr.add_mid]; exact h.range j v hv)
  rw [Array.length_toList, row_size, loadCells, Array.toArray_toList] at this
  exact this
set_option maxRecDepth 100000 in
theorem wp_fix_load {op : Oper} {a : Act} {w : World} {K : Act → World → Prop} {Q : Exit → Act → World → Prop} (x : Operand) (ho : op.op = .load 55 x) (b : Nat) (hx : a.eval x = .pointer (some ⟨b, 0, none⟩)) (A : Nat → Int) (h : RowF w b A)
    (hK : K (a.put op.dst (.agg (row 200 A))) w) : op.wp Tryd.prog a w K Q := by
  refine wp_load_mid (P := Tryd.prog) 55 x ho b 0 hx (row 200 A).toList _ h.range fixUnder rfl (by rw [fixSize, Array.length_toList, row_size]) ?_
  rw [Array.toArray_toList]
  exact hK
theorem RowF.there {w : World} {b : Nat} {A : Nat → Int} (h : RowF w b A) : w.there b 0 200 := fun j hj => by
  rw [Nat.zero_add, (h j hj).1]
  exact ⟨rfl, (h j hj).2⟩
set_option maxRecDepth 100000 in
theorem RowF.put {w : World} {b : Nat} {A : Nat → Int} (h : RowF w b A) (B : Nat → Int) : RowF (w.setCells b 0 (row 200 B).toList) b B := fun p hp => by
  have hr := World.rangeAt_setCells_same w b 0 (row 200 B).toList (by rw [Array.length_toList, row_size]; exact h.there)
  have := hr p (.int .i64 (B p)) (by rw [Array.getElem?_toList, row_get 200 B p hp])
  rw [Nat.zero_add] at this
  exact ⟨this, by rw [World.frozen?_setCells]; exact (h p hp).2⟩
set_option maxRecDepth 100000 in
theorem fix_storeCells {w : World} {b : Nat} {A : Nat → Int} (h : RowF w b A) (B : Nat → Int) : (storeCells ⟨b, 0, none⟩ (row 200 B).toList 0).run Tryd.prog w = .ok () (w.setCells b 0 (row 200 B).toList) := by
  have ht := h.there
  exact run_storeCells_cells (P := Tryd.prog) b 0 (row 200 B).toList 0 w (fun j hj => by rw [Array.length_toList, row_size] at hj; exact (ht j hj).1) (fun j hj => by rw [Array.length_toList, row_size] at hj; exact (ht j hj).2)
    (fun v hv => (Array.all_eq_true_iff_forall_mem.1 (row_one 200 B)) v (by simpa using hv))
set_option maxRecDepth 100000 in
theorem fix_storeNew (W : World) (b : Nat) (t : TypeId) (A B : Nat → Int) (hb : b = W.heap.size) : (storeCells ⟨b, 0, none⟩ (row 200 B).toList 0).run Tryd.prog (W.alloc (.cells (row 200 A) t)) = .ok () (W.alloc (.cells (row 200 B) t)) := by
  subst hb
  have h1 := fix_storeCells (RowF.new W A t) B
  rw [h1]
  congr 1
  have e := World.setRow_alloc_new W (row 200 A) (row 200 B) t
  have h2 : ∀ (vs : List Value) (o : Nat) (c : Array Value), (W.alloc (.cells c t)).setCells W.heap.size o vs = W.alloc (.cells ((vs.zipIdx o).foldl (fun (c : Array Value) (x : Value × Nat) => c.setIfInBounds x.2 x.1) c) t) := by
    intro vs
    induction vs with
    | nil => intro o c; rfl
    | cons v r ih =>
      intro o c
      rw [World.setCells, World.setCell_alloc_at _ _ _ _ _ rfl, ih]
      rfl
  rw [h2]
  congr 2
  apply Array.ext_getElem?
  intro i
  have hf : ∀ (vs : List Value) (o : Nat) (c : Array Value), ((vs.zipIdx o).foldl (fun (c : Array Value) (x : Value × Nat) => c.setIfInBounds x.2 x.1) c)[i]? = if o ≤ i ∧ i < o + vs.length ∧ i < c.size then vs[i - o]? else c[i]? := by
    intro vs
    induction vs with
    | nil => intro o c; simp; intro h1 h2; omega
    | cons v r ih =>
      intro o c
      rw [List.zipIdx_cons, List.foldl_cons, ih]
      simp only [Array.size_setIfInBounds, List.length_cons, Array.getElem?_setIfInBounds]
      by_cases h1 : o + 1 ≤ i ∧ i < o + 1 + r.length ∧ i < c.size
      · rw [if_pos h1, if_pos (by omega), show i - o = (i - (o + 1)) + 1 from by omega, List.getElem?_cons_succ]
      · rw [if_neg h1]
        by_cases h3 : o = i
        · subst h3
          by_cases h4 : o < c.size
          · rw [if_pos rfl, if_pos h4, if_pos (by omega)]; simp
          · rw [if_pos rfl, if_neg h4, if_neg (by omega)]; simp; omega
        · rw [if_neg h3, if_neg (by omega)]
  rw [hf]
  by_cases hi : i < 200
  · rw [if_pos ⟨Nat.zero_le _, by rw [Array.length_toList, row_size]; omega, by rw [row_size]; exact hi⟩]
    rw [Nat.sub_zero, Array.getElem?_toList]
  · rw [if_neg (by rw [row_size]; omega)]
    rw [Array.getElem?_eq_none (by rw [row_size]; omega), Array.getElem?_eq_none (by rw [row_size]; omega)]
set_option maxRecDepth 100000 in
theorem wp_fix_store {op : Oper} {a : Act} {w : World} {K : Act → World → Prop} {Q : Exit → Act → World → Prop} (x y : Operand) (ho : op.op = .store 55 x y) (b : Nat) (hx : a.eval x = .pointer (some ⟨b, 0, none⟩)) (A B : Nat → Int) (hy : a.eval y = .agg (row 200 B)) (h : RowF w b A)
    (hK : K (a.put op.dst undef) (w.setCells b 0 (row 200 B).toList)) : op.wp Tryd.prog a w K Q :=
  wp_store_mid (P := Tryd.prog) 55 x y ho b 0 (row 200 B) hx hy (by rw [row_size]; exact h.there) (by rw [fixSize, row_size]) (row_one 200 B) hK
set_option maxRecDepth 100000 in
theorem wp_fix_storeNew {op : Oper} {a : Act} {W : World} {K : Act → World → Prop} {Q : Exit → Act → World → Prop} (x y : Operand) (ho : op.op = .store 55 x y) (A B : Nat → Int) (t : TypeId) (hx : a.eval x = .pointer (some ⟨W.heap.size, 0, none⟩)) (hy : a.eval y = .agg (row 200 B))
    (hK : K (a.put op.dst undef) (W.alloc (.cells (row 200 B) t))) : op.wp Tryd.prog a (W.alloc (.cells (row 200 A) t)) K Q := by
  refine wp_fix_store x y ho W.heap.size hx A B hy (RowF.new W A t) ?_
  have h1 := fix_storeNew W W.heap.size t A B rfl
  rw [fix_storeCells (RowF.new W A t) B] at h1
  injection h1 with _ h2
  rw [h2]
  exact hK
theorem below_setCells {B : Nat} {a : World} (b : Nat) (hb : B ≤ b) : ∀ (vs : List Value) (o : Nat) (w : World), Below B a w → Below B a (w.setCells b o vs)
  | [], _, _, h => h
  | v :: r, o, w, h => by
    rw [World.setCells]
    exact below_setCells b hb r (o + 1) _ (h.setCell (p := ⟨b, o, none⟩) hb v)

theorem results_fix {fn : Func} {p : Tmp} (h : fn.results = #[.cell p 55]) (tmps : Array Value) (b : Nat) (w : World) (A : Nat → Int) (hp : tmps.getD p undef = .pointer (some ⟨b, 0, none⟩)) (hr : RowF w b A) :
    (results fn tmps).run Tryd.prog w = .ok (.agg (row 200 A)) w := by
  have e : tmps[p]?.getD undef = .pointer (some ⟨b, 0, none⟩) := by simpa using hp
  simp only [results, h]
  simp [e, asAddr, fix_loadVar hr]
end Go.Proofs.YtmkcebngobanjabDoor
