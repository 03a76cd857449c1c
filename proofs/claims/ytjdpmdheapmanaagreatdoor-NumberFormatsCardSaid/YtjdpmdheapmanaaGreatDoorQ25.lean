/-
  Several texts put together (part 25): what the law and the program call, walked; their contracts.
-/
import Derived.Test.YtjdpmdheapmanaaGreatDoorQ24
import Derived.Deep.MidRow
namespace Go.Proofs.YtjdpmdheapmanaaGreatDoor
open Go.RowKit
def RowF (w : World) (b : Nat) (A : Nat → Int) : Prop := ∀ p, p < 200 → w.cell? ⟨b, p, none⟩ = some (.int .i64 (A p)) ∧ w.frozen? ⟨b, p, none⟩ = false
theorem RowF.set {w : World} {b : Nat} {A : Nat → Int} (h : RowF w b A) (i : Nat) (x : Int) : RowF (w.setCell ⟨b, i, none⟩ (.int .i64 x)) b (fun q => if q = i then x else A q) := by
  intro p hp
  obtain ⟨h1, h2⟩ := h p hp
  refine ⟨?_, by rw [World.frozen?_setCell]; exact h2⟩
  by_cases e : i = p
  · subst e
    rw [World.cell?_setCell_same _ _ _ h1]
    simp
  · rw [World.cell?_setCell_other _ _ _ _ (by intro e'; injection e' with _ e'; exact e e'), h1]
    have e2 : ¬ p = i := fun h => e h.symm
    simp [e2]
theorem RowF.other {w : World} {b b' : Nat} {A : Nat → Int} (h : RowF w b A) (hne : b' ≠ b) (i : Nat) (v : Value) : RowF (w.setCell ⟨b', i, none⟩ v) b A := fun p hp => by
  rw [World.cell?_setCell_other _ _ _ _ (by intro e; injection e with e _; exact hne e), World.frozen?_setCell]
  exact h p hp
theorem RowF.congr {w : World} {b : Nat} {A B : Nat → Int} (h : RowF w b A) (e : ∀ p, p < 200 → A p = B p) : RowF w b B := fun p hp => by rw [← e p hp]; exact h p hp
theorem RowF.drew {w : World} {b : Nat} {A : Nat → Int} (h : RowF w b A) : RowF w.drew b A := fun p hp => by simpa using h p hp
theorem RowF.call {W w1 : World} {b : Nat} {A : Nat → Int} (h : RowF W b A) (hb : Below W.heap.size W w1) (hl : b < W.heap.size) : RowF w1 b A := fun p hp => by
  rw [(bcell hb).1 b p hl, (bcell hb).2 b p hl]
  exact h p hp
theorem RowF.alloc {w : World} {b : Nat} {A : Nat → Int} (h : RowF w b A) (hl : b < w.heap.size) (o : Obj) : RowF (w.alloc o) b A := fun p hp => by
  rw [World.cell?_alloc_lt _ _ _ (show b < w.heap.size from hl), World.frozen?_alloc_past _ _ _ hl]
  exact h p hp
theorem RowF.new (w : World) (A : Nat → Int) (t : TypeId) : RowF (w.alloc (.cells (row 200 A) t)) w.heap.size A := fun p hp => by
  rw [World.cell?_alloc_at _ _ _ _ rfl, World.frozen?_alloc_at _ _ _ _ rfl, row_get 200 A p hp]
  exact ⟨rfl, rfl⟩
theorem RowF.range {w : World} {b : Nat} {A : Nat → Int} (h : RowF w b A) : w.rangeAt b 0 (row 200 A).toList := fun j v hv => by
  rw [Array.getElem?_toList] at hv
  have hj : j < 200 := by
    have := (Array.getElem?_eq_some_iff.1 hv).1
    rw [row_size] at this
    exact this
  rw [row_get 200 A j hj] at hv
  rw [Nat.zero_add, (h j hj).1, hv]
theorem fixInfo : (Tryz.prog.info? 42).map (fun i => (i.zero, i.size)) = some (some (.agg (row 200 (fun _ => 0))), 200) := by kernel_rfl
theorem fixZero (w : World) : (zeroValue 42).run Tryz.prog w = .ok (.agg (row 200 (fun _ => 0))) w := (zero_of_info fixInfo).1 w
theorem fixSize : (Tryz.prog.info? 42).map (·.size) = some 200 := (zero_of_info fixInfo).2
theorem fixUnder : Tryz.prog.underlying 42 = some (.array 200 3) := by kernel_rfl
theorem fix_load {w : World} {b : Nat} {A : Nat → Int} (h : RowF w b A) : (Instr.loadAt 42 (.pointer (some ⟨b, 0, none⟩))).run Tryz.prog w = .ok (.agg (row 200 A)) w := by
  have := run_loadAt_mid (P := Tryz.prog) w b 0 42 (row 200 A).toList _ h.range fixUnder rfl (by rw [fixSize, Array.length_toList, row_size])
  simpa using this
theorem fix_loadVar {w : World} {b : Nat} {A : Nat → Int} (h : RowF w b A) : (loadVar 42 ⟨b, 0, none⟩).run Tryz.prog w = .ok (.agg (row 200 A)) w := by
  have := run_loadVar_mid (P := Tryz.prog) w b 0 42 (row 200 A).toList _ h.range fixUnder rfl (by rw [fixSize, Array.length_toList, row_size])
  simpa using this
set_option maxRecDepth 100000 in
theorem fix_loadCells {w : World} {b : Nat} {A : Nat → Int} (h : RowF w b A) : (loadCellsFrom ⟨b, 0, none⟩ 0 200 #[]).run Tryz.prog w = .ok (row 200 A) w := by
  have := run_loadCells_list (P := Tryz.prog) w ⟨b, 0, none⟩ (row 200 A).toList (fun j v hv => by rw [Addr.add_mid]; exact h.range j v hv)
  rw [Array.length_toList, row_size, loadCells, Array.toArray_toList] at this
  exact this
set_option maxRecDepth 100000 in
theorem wp_fix_load {op : Oper} {a : Act} {w : World} {K : Act → World → Prop} {Q : Exit → Act → World → Prop} (x : Operand) (ho : op.op = .load 42 x) (b : Nat) (hx : a.eval x = .pointer (some ⟨b, 0, none⟩)) (A : Nat → Int) (h : RowF w b A)
    (hK : K (a.put op.dst (.agg (row 200 A))) w) : op.wp Tryz.prog a w K Q := by
  refine wp_load_mid (P := Tryz.prog) 42 x ho b 0 hx (row 200 A).toList _ h.range fixUnder rfl (by rw [fixSize, Array.length_toList, row_size]) ?_
  rw [Array.toArray_toList]
  exact hK
theorem RowF.there {w : World} {b : Nat} {A : Nat → Int} (h : RowF w b A) : w.there b 0 200 := fun j hj => by
  rw [Nat.zero_add, (h j hj).1]
  exact ⟨rfl, (h j hj).2⟩
set_option maxRecDepth 100000 in
theorem RowF.put {w : World} {b : Nat} {A : Nat → Int} (h : RowF w b A) (B : Nat → Int) : RowF (w.setCells b 0 (row 200 B).toList) b B := fun p hp => by
  have hr := World.rangeAt_setCells_same w b 0 (row 200 B).toList (by rw [Array.length_toList, row_size]; exact h.there)
  have := hr p (.int .i64 (B p)) (by rw [Array.getElem?_toList, row_get 200 B p hp])
  rw [Nat.zero_add] at this
  exact ⟨this, by rw [World.frozen?_setCells]; exact (h p hp).2⟩
set_option maxRecDepth 100000 in
theorem fix_storeCells {w : World} {b : Nat} {A : Nat → Int} (h : RowF w b A) (B : Nat → Int) : (storeCells ⟨b, 0, none⟩ (row 200 B).toList 0).run Tryz.prog w = .ok () (w.setCells b 0 (row 200 B).toList) := by
  have ht := h.there
  exact run_storeCells_cells (P := Tryz.prog) b 0 (row 200 B).toList 0 w (fun j hj => by rw [Array.length_toList, row_size] at hj; exact (ht j hj).1) (fun j hj => by rw [Array.length_toList, row_size] at hj; exact (ht j hj).2)
    (fun v hv => (Array.all_eq_true_iff_forall_mem.1 (row_one 200 B)) v (by simpa using hv))
set_option maxRecDepth 100000 in
theorem fix_storeNew (W : World) (b : Nat) (t : TypeId) (A B : Nat → Int) (hb : b = W.heap.size) : (storeCells ⟨b, 0, none⟩ (row 200 B).toList 0).run Tryz.prog (W.alloc (.cells (row 200 A) t)) = .ok () (W.alloc (.cells (row 200 B) t)) := by
  subst hb
  have h1 := fix_storeCells (RowF.new W A t) B
  rw [h1]
  congr 1
  have e := World.setRow_alloc_new W (row 200 A) (row 200 B) t
  have h2 : ∀ (vs : List Value) (o : Nat) (c : Array Value), (W.alloc (.cells c t)).setCells W.heap.size o vs = W.alloc (.cells ((vs.zipIdx o).foldl (fun (c : Array Value) (x : Value × Nat) => c.setIfInBounds x.2 x.1) c) t) := by
    intro vs
    induction vs with
    | nil => intro o c; rfl
    | cons v r ih =>
      intro o c
      rw [World.setCells, World.setCell_alloc_at _ _ _ _ _ rfl, ih]
      rfl
  rw [h2]
  congr 2
  apply Array.ext_getElem?
  intro i
  have hf : ∀ (vs : List Value) (o : Nat) (c : Array Value), ((vs.zipIdx o).foldl (fun (c : Array Value) (x : Value × Nat) => c.setIfInBounds x.2 x.1) c)[i]? = if o ≤ i ∧ i < o + vs.length ∧ i < c.size then vs[i - o]? else c[i]? := by
    intro vs
    induction vs with
    | nil => intro o c; simp; intro h1 h2; omega
    | cons v r ih =>
      intro o c
      rw [List.zipIdx_cons, List.foldl_cons, ih]
      simp only [Array.size_setIfInBounds, List.length_cons, Array.getElem?_setIfInBounds]
      by_cases h1 : o + 1 ≤ i ∧ i < o + 1 + r.length ∧ i < c.size
      · rw [if_pos h1, if_pos (by omega), show i - o = (i - (o + 1)) + 1 from by omega, List.getElem?_cons_succ]
      · rw [if_neg h1]
        by_cases h3 : o = i
        · subst h3
          by_cases h4 : o < c.size
          · rw [if_pos rfl, if_pos h4, if_pos (by omega)]; simp
          · rw [if_pos rfl, if_neg h4, if_neg (by omega)]; simp; omega
        · rw [if_neg h3, if_neg (by omega)]
  rw [hf]
  by_cases hi : i < 200
  · rw [if_pos ⟨Nat.zero_le _, by rw [Array.length_toList, row_size]; omega, by rw [row_size]; exact hi⟩]
    rw [Nat.sub_zero, Array.getElem?_toList]
  · rw [if_neg (by rw [row_size]; omega)]
    rw [Array.getElem?_eq_none (by rw [row_size]; omega), Array.getElem?_eq_none (by rw [row_size]; omega)]
set_option maxRecDepth 100000 in
theorem wp_fix_store {op : Oper} {a : Act} {w : World} {K : Act → World → Prop} {Q : Exit → Act → World → Prop} (x y : Operand) (ho : op.op = .store 42 x y) (b : Nat) (hx : a.eval x = .pointer (some ⟨b, 0, none⟩)) (A B : Nat → Int) (hy : a.eval y = .agg (row 200 B)) (h : RowF w b A)
    (hK : K (a.put op.dst undef) (w.setCells b 0 (row 200 B).toList)) : op.wp Tryz.prog a w K Q :=
  wp_store_mid (P := Tryz.prog) 42 x y ho b 0 (row 200 B) hx hy (by rw [row_size]; exact h.there) (by rw [fixSize, row_size]) (row_one 200 B) hK
set_option maxRecDepth 100000 in
theorem wp_fix_storeNew {op : Oper} {a : Act} {W : World} {K : Act → World → Prop} {Q : Exit → Act → World → Prop} (x y : Operand) (ho : op.op = .store 42 x y) (A B : Nat → Int) (t : TypeId) (hx : a.eval x = .pointer (some ⟨W.heap.size, 0, none⟩)) (hy : a.eval y = .agg (row 200 B))
    (hK : K (a.put op.dst undef) (W.alloc (.cells (row 200 B) t))) : op.wp Tryz.prog a (W.alloc (.cells (row 200 A) t)) K Q := by
  refine wp_fix_store x y ho W.heap.size hx A B hy (RowF.new W A t) ?_
  have h1 := fix_storeNew W W.heap.size t A B rfl
  rw [fix_storeCells (RowF.new W A t) B] at h1
  injection h1 with _ h2
  rw [h2]
  exact hK
theorem below_setCells {B : Nat} {a : World} (b : Nat) (hb : B ≤ b) : ∀ (vs : List Value) (o : Nat) (w : World), Below B a w → Below B a (w.setCells b o vs)
  | [], _, _, h => h
  | v :: r, o, w, h => by
    rw [World.setCells]
    exact below_setCells b hb r (o + 1) _ (h.setCell (p := ⟨b, o, none⟩) hb v)
theorem results_fix {fn : Func} {p : Tmp} (h : fn.results = #[.cell p 42]) (tmps : Array Value) (b : Nat) (w : World) (A : Nat → Int) (hp : tmps.getD p undef = .pointer (some ⟨b, 0, none⟩)) (hr : RowF w b A) :
    (results fn tmps).run Tryz.prog w = .ok (.agg (row 200 A)) w := by
  have e : tmps[p]?.getD undef = .pointer (some ⟨b, 0, none⟩) := by simpa using hp
  simp only [results, h]
  simp [e, asAddr, fix_loadVar hr]
end Go.Proofs.YtjdpmdheapmanaaGreatDoor

namespace Go.Proofs.YtjdpmdheapmanaaGreatDoor
open Go.RowKit
set_option maxHeartbeats 2000000 in
set_option maxRecDepth 100000 in
theorem fof_any (n : Bool) (s : ByteArray) (k : Nat) (w : World) (hk : k ≤ s.size) (h1 : s.size - k ≤ 100) (h2 : k ≤ 100) (hd : s.data.toList.all digB = true) :
    Calls Tryz.prog 14 #[.agg #[.bool n, .string s, .int .i64 k]] w fun e w' => e = .returned (.agg (row 200 (fixF s.data.toList k))) ∧ Below w.heap.size w w' := by
  have hz := fixZero
  have hrs := row_size 200
  have Hd := Lib.hid hd
  clear hd
  go_enter Tryz.func14, Tryz.ntmps14
  go_wp2
  rw [fix_storeNew _ _ _ _ _ (by simp)]
  simp only [Result.andThen]
  rw [Oper.upon_skip]
  go_wp2
  go_loopw [4] (fun i wr => ∃ j : Nat, j ≤ s.size ∧ i = .int .i64 j ∧ RowF wr (w.heap.size + 1 + 1) (fixJ s.data.toList k j) ∧ RowF wr (w.heap.size + 1) (fun _ => 0) ∧ wr.cell? ⟨w.heap.size, 1, none⟩ = some (.string s) ∧ wr.cell? ⟨w.heap.size, 2, none⟩ = some (.int .i64 k) ∧ Below w.heap.size w wr) (fun i _ => s.size - (intOf i).toNat)
  case atStart =>
    refine ⟨0, Nat.zero_le _, rfl, ?_, ?_, ?_, ?_, ?_⟩
    · refine RowF.congr (A := fun _ => 0) ?_ (fun p _ => (fixJ_zero _ _ _).symm)
      have := RowF.new ((w.alloc (.cells #[.bool n, .string s, .int .i64 k] 29)).alloc (.cells (row 200 fun _ => 0) 42)) (fun _ => 0) 42
      simpa using this
    · have := (RowF.new (w.alloc (.cells #[.bool n, .string s, .int .i64 k] 29)) (fun _ => 0) 42).alloc (by simp) (.cells (row 200 fun _ => 0) 42)
      simpa using this
    · go_simp
    · go_simp
    · exact (((Below.refl _ _).alloc (Nat.le_refl _) _).alloc (by simp) _).alloc (by simp; omega) _
  case round =>
    obtain ⟨j, hj, rfl, hr, h0, c1, c2, hb⟩ := hrel
    by_cases hlt : j < s.size
    · have hdj : digB s[j] = true := by
        have h3 := all_take_succ s j hlt
        rw [all_take Hd.out, all_take Hd.out, Bool.true_and] at h3
        exact h3.symm
      have hv : fixJ s.data.toList k (j + 1) (100 - (s.size - k) + j) = (s[j].toNat : Int) - 48 := by
        unfold fixJ
        rw [size_data, if_pos (by omega), Nat.add_sub_cancel_left, List.getD_eq_getElem?_getD, List.getElem?_eq_getElem (by rw [size_data]; exact hlt), Option.getD_some]
        rfl
      have hset := (hr.set (100 - (s.size - k) + j) ((s[j].toNat : Int) - 48)).congr (B := fixJ s.data.toList k (j + 1)) (by
        intro p hp
        by_cases e : p = 100 - (s.size - k) + j
        · rw [if_pos e, e, hv]
        · rw [if_neg e]
          unfold fixJ
          rw [size_data]
          by_cases h3 : 100 - (s.size - k) ≤ p ∧ p < 100 - (s.size - k) + j
          · rw [if_pos h3, if_pos (by omega)]
          · rw [if_neg h3, if_neg (by omega)])
      obtain ⟨hcell, hfz⟩ := hr (100 - (s.size - k) + j) (by omega)
      have hb1 := (dig_le hdj).1
      have hb2 := (dig_le hdj).2
      have hb3 : (48 : Int) ≤ (s[j].toNat : Int) := by omega
      have hb4 : (s[j].toNat : Int) ≤ 57 := by omega
      have hi0 : (0 : Int) ≤ 100 - ((s.size : Int) - (k : Int)) + (j : Int) := by omega
      have hi1 : 100 - ((s.size : Int) - (k : Int)) + (j : Int) < 200 := by omega
      have hi2 : (100 - ((s.size : Int) - (k : Int)) + (j : Int)).toNat = 100 - (s.size - k) + j := by omega
      have h0' := Lib.hid ((show RowF (wr.setCell ⟨w.heap.size + 1 + 1, 100 - (s.size - k) + j, none⟩ (.int .i64 ((s[j].toNat : Int) - 48))) (w.heap.size + 1) (fun _ => 0) from fun p hp => by
        rw [World.cell?_setCell_other _ _ _ _ (by intro e; injection e with e _; omega), World.frozen?_setCell]; exact h0 p hp))
      have Hset := Lib.hid hset
      clear hv hdj hset hb1 hb2 h0
      go_wp2_with fail
      go_region
      go_wp2
      go_roundw
      case rel => exact ⟨j + 1, by omega, by go_num, Hset.out.drew, h0'.out.drew, by go_simp, by go_simp, (hb.setCell (p := ⟨w.heap.size + 1 + 1, 100 - (s.size - k) + j, none⟩) (by show w.heap.size ≤ w.heap.size + 1 + 1; omega) _).drew⟩
      case measure => simp [intOf]; omega
    · obtain rfl : j = s.size := by omega
      go_wp2
      refine wp_fix_load _ rfl _ rfl _ hr ?_
      go_wp2
      rw [fix_storeCells h0 _]
      simp only [Result.andThen]
      rw [Oper.upon_skip]
      have hbb := below_setCells (w.heap.size + 1) (by omega) (row 200 (fixJ s.data.toList k s.size)).toList 0 wr hb
      have ef : fixJ s.data.toList k s.size = fixF s.data.toList k := by unfold fixF; rw [size_data]
      go_wp2
      (try simp only [Exit.inBlock, Exit.then])
      refine bodyPost_ret (v := .agg (row 200 (fixJ s.data.toList k s.size))) ?_ rfl ⟨by rw [ef], hbb⟩
      exact results_fix rfl _ (w.heap.size + 1) _ _ rfl (h0.put _)
end Go.Proofs.YtjdpmdheapmanaaGreatDoor
