/-
  Several texts put together (part 13): what the law and the program call, walked; their contracts.
-/
import Derived.Test.YthlccfjhgejlmaaGreatDoorQ9
import Derived.Deep.RegionLaw
import Derived.Deep.AppendLies
import Derived.IntWalk
import Derived.Test.YthlccfjhgejlmaaGreatDoorQ12
import Derived.Deep.DeepCutAuto
import Derived.Deep.RegionWith
import Derived.Deep.DrawnRows
namespace Go.Proofs.YthlccfjhgejlmaaGreatDoor
open Go.RowKit Go.Shelf
set_option linter.unusedVariables false
set_option linter.unusedSimpArgs false
theorem step_append_own {P : Program} {ops : Array Oper} {o : Oper} {a : Act} {w : World} {K : Act → World → Prop} {Q : Exit → Act → World → Prop} {E : Prop}
    (hg : o.guard = none) (s x : Operand) (t : TypeId) (hop : o.op = Op.call { callee := Callee.builtin Builtin.append, args := #[s, x], argTypes := #[t, t] })
    (base : Nat) (e : TypeId) (i : TypeInfo) (z : Value) (size bytes : Nat) (h1 : P.underlying t = some (.slice e)) (h2 : P.info? e = some i) (h3 : i.zero = some z) (h4 : i.size = size) (h5 : i.bytes = bytes) (h6 : z.cells.size = size) (h7 : 0 < size)
    (v : Value) (n : Nat) (olds : List Value) (hs : a.eval s = v) (hown : w.ownsRow base e size v n olds)
    (ad : Addr) (m c : Nat) (news : List Value) (hx : a.eval x = .slice (some ad) m c) (hn : news.length = m * size) (hc : ∀ j u, news[j]? = some u → w.cell? (ad.add j) = some u) (h1c : ∀ u ∈ news, u.oneCell' = true)
    (b1 : n + m ≤ maxLen) (b2 : (n + m) * bytes ≤ 140737488355328) (hB : base ≤ w.heap.size)
    (hK : ∀ v' w', w'.ownsRow base e size v' (n + m) (olds ++ news) → w.grownBy w' v.ownBlock → K (a.put o.dst v') w') :
    if Region.wanted o (yielded ops a.tmps) = true then Oper.wp P o a w K Q else E := by
  have hw : Region.wanted o (yielded ops a.tmps) = true := by simp [Region.wanted, hg]
  rw [if_pos hw]
  obtain ⟨v', w', hrun, r1, r2, _⟩ := run_append_own (P := P) w base t o.type e i z size bytes h1 h2 h3 h4 h5 h6 h7 v n olds hown ad m c news hn hc h1c b1 b2 hB
  unfold Oper.wp
  simp [execOp, hop, resolve, invoke, builtin, hs, hx, hrun, Result.andThen]
  exact hK v' w' r1 r2
def zeroTag : Value := tagV ⟨#[]⟩ ⟨#[]⟩ ⟨#[]⟩ (.slice none 0 0)
theorem below_a3 (w : World) (o p q : Obj) : Below w.heap.size w (((w.alloc o).alloc p).alloc q) := (((Below.refl _ w).alloc (Nat.le_refl _) o).alloc (by simp) p).alloc (by simp; omega) q
def CapOk (sv : Value) : Prop := ∃ a n c, sv = .slice a n c ∧ n ≤ c
theorem one_strs (l : List ByteArray) : ∀ u ∈ l.map Value.string, u.oneCell' = true := by
  intro u hu
  obtain ⟨x, _, rfl⟩ := List.mem_map.1 hu
  rfl
theorem row_out {W : World} {base : Nat} {e : TypeId} {size : Nat} {v : Value} {n : Nat} {xs : List Value} (h : W.ownsRow base e size v n xs) : ∃ A c, v = .slice A n c ∧ n ≤ c := by
  rcases h.2 with ⟨rfl, rfl⟩ | ⟨gb, c2, cur, rfl, hbase, hgb, r1, r2, r3, r4⟩
  · exact ⟨none, 0, rfl, Nat.le_refl _⟩
  · exact ⟨_, _, rfl, r1⟩
theorem strs_of_row {W : World} {base : Nat} {v : Value} {l : List ByteArray} (h : W.ownsRow base 9 1 v l.length (l.map Value.string)) : StrsAt W.heap.size W v l := by
  have h0 := h
  rcases h.2 with ⟨rfl, hz⟩ | ⟨gb, c2, cur, rfl, hbase, hgb, r1, r2, r3, r4⟩
  · exact .inl ⟨rfl, List.eq_nil_of_length_eq_zero hz⟩
  · refine .inr ⟨gb, 0, c2, rfl, (Array.getElem?_eq_some_iff.1 hgb).1, fun j hj => ?_⟩
    rw [← add_zero]
    refine h0.cells (g := gb) rfl j _ ?_
    rw [List.getElem?_map, List.getElem?_eq_getElem hj]
    simp [hj]
theorem add_off (b o j : Nat) : ((⟨b, o, none⟩ : Addr).add j) = ⟨b, o + j, none⟩ := by unfold Addr.add; split <;> simp_all
theorem less_below {w w' : World} {o p q : Obj} {x y0 y1 y2 y3 : Value} (hg : ((((w.alloc o).alloc p).alloc q).drew).grownBy w' none) :
    Below w.heap.size w (((((w'.setCell ⟨w.heap.size + 1 + 1, 3, none⟩ x).setCell ⟨w.heap.size + 1, 0, none⟩ y0).setCell ⟨w.heap.size + 1, 1, none⟩ y1).setCell ⟨w.heap.size + 1, 2, none⟩ y2).setCell ⟨w.heap.size + 1, 3, none⟩ y3) := by
  have h1 : Below w.heap.size w w' := (below_a3 w o p q).drew.grown hg (by simp; omega) (fun k e => by cases e)
  exact ((((h1.setCell (by simp; omega) _).setCell (by simp) _).setCell (by simp) _).setCell (by simp) _).setCell (by simp) _
theorem less_strs {w w' : World} {o p q : Obj} {x y0 y1 y2 y3 : Value} {A' : Option Addr} {c' n : Nat} {l : List ByteArray} (hg : ((((w.alloc o).alloc p).alloc q).drew).grownBy w' none)
    (hr : w'.ownsRow (w.heap.size + 1 + 1 + 1) 9 1 (.slice A' (0 + n) c') (0 + n) ([] ++ l.map Value.string)) (hl : l.length = n) :
    StrsAt (((((w'.setCell ⟨w.heap.size + 1 + 1, 3, none⟩ x).setCell ⟨w.heap.size + 1, 0, none⟩ y0).setCell ⟨w.heap.size + 1, 1, none⟩ y1).setCell ⟨w.heap.size + 1, 2, none⟩ y2).setCell ⟨w.heap.size + 1, 3, none⟩ y3).heap.size
      (((((w'.setCell ⟨w.heap.size + 1 + 1, 3, none⟩ x).setCell ⟨w.heap.size + 1, 0, none⟩ y0).setCell ⟨w.heap.size + 1, 1, none⟩ y1).setCell ⟨w.heap.size + 1, 2, none⟩ y2).setCell ⟨w.heap.size + 1, 3, none⟩ y3) (.slice A' (0 + n) c') l := by
  subst hl
  rw [Nat.zero_add, List.nil_append] at hr
  rw [Nat.zero_add]
  have hk : ∀ g j, w.heap.size + 1 + 1 + 1 ≤ g → (((((w'.setCell ⟨w.heap.size + 1 + 1, 3, none⟩ x).setCell ⟨w.heap.size + 1, 0, none⟩ y0).setCell ⟨w.heap.size + 1, 1, none⟩ y1).setCell ⟨w.heap.size + 1, 2, none⟩ y2).setCell ⟨w.heap.size + 1, 3, none⟩ y3).cell? ⟨g, j, none⟩ = w'.cell? ⟨g, j, none⟩ := by
    intro g j hg
    refine World.cell?_of_block ?_
    simp only
    rw [Below.heap_setCell _ _ _ _ (by simp; omega), Below.heap_setCell _ _ _ _ (by simp; omega), Below.heap_setCell _ _ _ _ (by simp; omega), Below.heap_setCell _ _ _ _ (by simp; omega), Below.heap_setCell _ _ _ _ (by simp; omega)]
  have h0 := hr
  rcases hr.2 with ⟨e, hz⟩ | ⟨gb, c2, cur, e, hbase, hgb, r1, r2, r3, r4⟩
  · exact .inl ⟨by rw [e], List.eq_nil_of_length_eq_zero hz⟩
  · cases e
    refine .inr ⟨gb, 0, _, rfl, ?_, fun j hj => ?_⟩
    · have := (Array.getElem?_eq_some_iff.1 hgb).1
      simpa using this
    · rw [hk gb (0 + j) hbase, ← add_zero]
      refine h0.cells (g := gb) rfl j _ ?_
      rw [List.getElem?_map, List.getElem?_eq_getElem hj]
      simp [hj]
end Go.Proofs.YthlccfjhgejlmaaGreatDoor

namespace Go.Proofs.YthlccfjhgejlmaaGreatDoor
open Go.RowKit Go.Shelf
set_option linter.unusedVariables false
set_option linter.unusedSimpArgs false
def mk (l : List UInt8) : ByteArray := ⟨l.toArray⟩
theorem mk_data (l : List UInt8) : (mk l).data.toList = l := rfl
theorem mk_size (l : List UInt8) : (mk l).size = l.length := by show l.toArray.size = _; simp
theorem mk_of (s : ByteArray) : mk s.data.toList = s := by cases s; rfl
theorem mk_inj {a b : List UInt8} (h : mk a = mk b) : a = b := by have := congrArg (fun x : ByteArray => x.data.toList) h; exact this
theorem mk_extract (l : List UInt8) (a b : Nat) : (mk l).extract a b = mk ((l.take b).drop a) := by
  apply bytes_eq
  rw [Lib.extract_data, mk_data, mk_data, List.drop_take]
theorem mk_append (a b : List UInt8) : mk a ++ mk b = mk (a ++ b) := by
  apply bytes_eq
  rw [mk_data]
  show (mk a ++ mk b).data.toList = _
  rw [ByteArray.data_append]
  simp [mk]
theorem mk_nil : mk [] = ⟨#[]⟩ := rfl
theorem splitK_len : ∀ (n : Nat) (l : List UInt8), l.length ≤ n → (splitH l).length = Lib.count l [45] + 1
  | n, l, hn => by
    rcases index_hy l with ⟨h1, h2⟩ | ⟨i, h1, h2, h3, h4⟩
    · rw [Lib.count_miss h1, splitH_one l h2]; rfl
    · obtain ⟨m, rfl⟩ : ∃ m, n = m + 1 := ⟨n - 1, by omega⟩
      have ih := splitK_len m (l.drop (i + 1)) (by simp; omega)
      rw [Lib.count_hit (by simp) h1]
      have e : splitH l = l.take i :: splitH (l.drop (i + 1)) := by
        have e2 := splitH_hy (l.take i) (l.drop (i + 1)) h3
        rwa [← h4] at e2
      rw [e, List.length_cons, ih]
      simp; omega
theorem splitB_mk (s : ByteArray) : Lib.splitB ⟨#[45]⟩ 0 (Lib.countB s ⟨#[45]⟩) s = (splitH s.data.toList).map mk := by
  have h := Lib.splitB_data ⟨#[45]⟩ 0 (Lib.countB s ⟨#[45]⟩) s
  have h2 : Lib.splitK [45] 0 (Lib.countB s ⟨#[45]⟩) s.data.toList = splitH s.data.toList := splitK_hy s.data.toList.length s.data.toList (Nat.le_refl _)
  have h3 : (Lib.splitB ⟨#[45]⟩ 0 (Lib.countB s ⟨#[45]⟩) s).map (·.data.toList) = splitH s.data.toList := h.trans h2
  rw [← h3, List.map_map]
  conv => lhs; rw [← List.map_id (Lib.splitB ⟨#[45]⟩ 0 (Lib.countB s ⟨#[45]⟩) s)]
  exact List.map_congr_left fun x _ => (mk_of x).symm
def MaxAt (W : World) : Prop := 1 < W.heap.size ∧ ∃ m : Int, W.cell? ⟨1, 0, none⟩ = some (.int .i64 m)
theorem MaxAt.below {A B : World} {n : Nat} (h : MaxAt A) (hb : Below n A B) (hn : A.heap.size ≤ n) : MaxAt B := by
  obtain ⟨h1, m, hm⟩ := h
  exact ⟨Nat.lt_of_lt_of_le h1 hb.size, m, (hb.cell (p := ⟨1, 0, none⟩) (Nat.lt_of_lt_of_le h1 hn)).trans hm⟩
theorem splitS_any (s : ByteArray) (w : World) (hs : s.size ≤ 100000) (hM : MaxAt w) :
    Calls Tryz.prog 14 #[.string s, .string ⟨#[45]⟩] w fun e w' => e = .returned (.slice (some ⟨w.heap.size, 0, none⟩) (splitH s.data.toList).length (splitH s.data.toList).length) ∧
      (∀ (j : Nat) p, (splitH s.data.toList)[j]? = some p → w'.cell? ⟨w.heap.size, 0 + j, none⟩ = some (.string (mk p))) ∧ w.heap.size < w'.heap.size ∧ Below w.heap.size w w' := by
  obtain ⟨_, m, hm⟩ := hM
  refine (Tryz.strings_Split s ⟨#[45]⟩ m w (by omega) hm (by decide)).mono ?_
  rintro e w' ⟨rfl, rfl⟩
  have hl : Lib.countB s ⟨#[45]⟩ + 1 = (splitH s.data.toList).length := (splitK_len s.data.toList.length s.data.toList (Nat.le_refl _)).symm
  refine ⟨by rw [hl], ?_, by simp, (Below.refl _ w).alloc (Nat.le_refl _) _⟩
  intro j p hp
  rw [splitB_mk]
  unfold World.cell?
  rw [World.alloc_heap_new]
  simp [hp]
theorem isLang_mk (p : List UInt8) (w : World) (h : p.length ≤ 100000) : Calls Tryz.prog 15 #[.string (mk p)] w fun e w' => e = .returned (.bool (langB p)) ∧ w' = w :=
  isLang_any (mk p) w (by rw [mk_size]; unfold maxLen; omega)
theorem isScript_mk (p : List UInt8) (w : World) (h : p.length ≤ 100000) : Calls Tryz.prog 17 #[.string (mk p)] w fun e w' => e = .returned (.bool (scriptB p)) ∧ w' = w :=
  isScript_any (mk p) w (by rw [mk_size]; unfold maxLen; omega)
theorem isRegion_mk (p : List UInt8) (w : World) (h : p.length ≤ 100000) : Calls Tryz.prog 19 #[.string (mk p)] w fun e w' => e = .returned (.bool (regionB p)) ∧ w' = w :=
  isRegion_any (mk p) w (by rw [mk_size]; unfold maxLen; omega)
theorem isVariant_mk (p : List UInt8) (w : World) (h : p.length ≤ 100000) : Calls Tryz.prog 20 #[.string (mk p)] w fun e w' => e = .returned (.bool (variantB p)) ∧ w' = w :=
  isVariant_any (mk p) w (by rw [mk_size]; unfold maxLen; omega)
theorem ascii_of {p : List UInt8} (h : p.all letDigB = true) : ∀ (j : Nat) (b : UInt8), p[j]? = some b → b.toNat < 128 := by
  intro j b hb
  exact ld_128 b (List.all_eq_true.1 h b (List.mem_of_getElem? hb))
theorem low_mk (p : List UInt8) (hp : p.all letDigB = true) (hl : p.length ≤ 100000) (w : World) :
    Calls Tryz.prog 16 #[.string (mk p)] w fun e w' => e = .returned (.string (mk (low p))) ∧ Below w.heap.size w w' :=
  Tryz.strings_ToLower_ascii (mk p) w (by rw [mk_size]; omega) (ascii_of hp)
theorem upp_mk (p : List UInt8) (hp : p.all letDigB = true) (hl : p.length ≤ 100000) (w : World) :
    Calls Tryz.prog 18 #[.string (mk p)] w fun e w' => e = .returned (.string (mk (upp p))) ∧ Below w.heap.size w w' :=
  Tryz.strings_ToUpper_ascii (mk p) w (by rw [mk_size]; omega) (ascii_of hp)
theorem all_imp {p q : UInt8 → Bool} (h : ∀ c, p c = true → q c = true) {l : List UInt8} (hl : l.all p = true) : l.all q = true :=
  List.all_eq_true.2 fun c hc => h c (List.all_eq_true.1 hl c hc)
theorem lang_ld {p : List UInt8} (h : langB p = true) : p.all letDigB = true := by
  unfold langB at h; simp only [Bool.and_eq_true] at h; exact all_imp let_ld h.2
theorem script_ld {p : List UInt8} (h : scriptB p = true) : p.all letDigB = true := by
  unfold scriptB at h; simp only [Bool.and_eq_true] at h; exact all_imp let_ld h.2
theorem region_ld {p : List UInt8} (h : regionB p = true) : p.all letDigB = true := by
  unfold regionB at h; simp only [Bool.or_eq_true, Bool.and_eq_true] at h
  rcases h with h | h
  · exact all_imp let_ld h.2
  · exact all_imp dig_ld h.2
theorem variant_ld {p : List UInt8} (h : variantB p = true) : p.all letDigB = true := by
  unfold variantB at h; simp only [Bool.and_eq_true] at h; exact h.2.2
theorem all_part {q : UInt8 → Bool} {p : List UInt8} (h : p.all q = true) (a b : Nat) : ((p.take b).drop a).all q = true :=
  List.all_eq_true.2 fun c hc => List.all_eq_true.1 h c (List.mem_of_mem_take (List.mem_of_mem_drop hc))
theorem lowE (p : List UInt8) (hp : p.all letDigB = true) (hl : p.length ≤ 100000) (a b : Nat) (w : World) :
    Calls Tryz.prog 16 #[.string ((mk p).extract a b)] w fun e w' => e = .returned (.string (mk (low ((p.take b).drop a)))) ∧ Below w.heap.size w w' := by
  rw [mk_extract]
  exact low_mk _ (all_part hp a b) (by simp; omega) w
theorem uppE (p : List UInt8) (hp : p.all letDigB = true) (hl : p.length ≤ 100000) (a b : Nat) (w : World) :
    Calls Tryz.prog 18 #[.string ((mk p).extract a b)] w fun e w' => e = .returned (.string (mk (upp ((p.take b).drop a)))) ∧ Below w.heap.size w w' := by
  rw [mk_extract]
  exact upp_mk _ (all_part hp a b) (by simp; omega) w
theorem script_len {p : List UInt8} (h : scriptB p = true) : p.length = 4 := by
  unfold scriptB at h; simp only [Bool.and_eq_true, beq_iff_eq] at h; exact h.1
def Box4 (W : World) (b : Nat) (v0 v1 v2 v3 : Value) : Prop :=
  W.cell? ⟨b, 0, none⟩ = some v0 ∧ W.cell? ⟨b, 1, none⟩ = some v1 ∧ W.cell? ⟨b, 2, none⟩ = some v2 ∧ W.cell? ⟨b, 3, none⟩ = some v3 ∧
  W.frozen? ⟨b, 0, none⟩ = false ∧ W.frozen? ⟨b, 1, none⟩ = false ∧ W.frozen? ⟨b, 2, none⟩ = false ∧ W.frozen? ⟨b, 3, none⟩ = false ∧ b < W.heap.size
theorem Box4.new (w : World) (v0 v1 v2 v3 : Value) (t : TypeId) : Box4 (w.alloc (.cells #[v0, v1, v2, v3] t)) w.heap.size v0 v1 v2 v3 := by
  have h := World.alloc_heap_new w (.cells #[v0, v1, v2, v3] t)
  refine ⟨?_, ?_, ?_, ?_, ?_, ?_, ?_, ?_, by simp⟩
  all_goals first | (unfold World.cell?; rw [h]; rfl) | (unfold World.frozen?; rw [h]; rfl)
theorem Box4.later {A B : World} {b : Nat} {v0 v1 v2 v3 : Value} (h : Box4 A b v0 v1 v2 v3) {n : Nat} (hb : Below n A B) (hn : b < n) : Box4 B b v0 v1 v2 v3 := by
  obtain ⟨c0, c1, c2, c3, f0, f1, f2, f3, z⟩ := h
  exact ⟨(hb.cell (p := ⟨b, 0, none⟩) hn).trans c0, (hb.cell (p := ⟨b, 1, none⟩) hn).trans c1, (hb.cell (p := ⟨b, 2, none⟩) hn).trans c2, (hb.cell (p := ⟨b, 3, none⟩) hn).trans c3,
    (hb.frozen (p := ⟨b, 0, none⟩) hn).trans f0, (hb.frozen (p := ⟨b, 1, none⟩) hn).trans f1, (hb.frozen (p := ⟨b, 2, none⟩) hn).trans f2, (hb.frozen (p := ⟨b, 3, none⟩) hn).trans f3, Nat.lt_of_lt_of_le z hb.size⟩
theorem Box4.other {W : World} {b b' o : Nat} {x v0 v1 v2 v3 : Value} (h : Box4 W b v0 v1 v2 v3) (hne : b' ≠ b) : Box4 (W.setCell ⟨b', o, none⟩ x) b v0 v1 v2 v3 := by
  obtain ⟨c0, c1, c2, c3, f0, f1, f2, f3, z⟩ := h
  refine ⟨?_, ?_, ?_, ?_, by simpa using f0, by simpa using f1, by simpa using f2, by simpa using f3, by simpa using z⟩
  all_goals rw [World.cell?_setCell_other _ _ _ _ (by simp [hne])]; assumption
theorem Box4.set1 {W : World} {b : Nat} {x v0 v1 v2 v3 : Value} (h : Box4 W b v0 v1 v2 v3) : Box4 (W.setCell ⟨b, 1, none⟩ x) b v0 x v2 v3 := by
  obtain ⟨c0, c1, c2, c3, f0, f1, f2, f3, z⟩ := h
  refine ⟨?_, World.cell?_setCell_same _ _ _ c1, ?_, ?_, by simpa using f0, by simpa using f1, by simpa using f2, by simpa using f3, by simpa using z⟩
  all_goals rw [World.cell?_setCell_other _ _ _ _ (by simp)]; assumption
theorem Box4.set2 {W : World} {b : Nat} {x v0 v1 v2 v3 : Value} (h : Box4 W b v0 v1 v2 v3) : Box4 (W.setCell ⟨b, 2, none⟩ x) b v0 v1 x v3 := by
  obtain ⟨c0, c1, c2, c3, f0, f1, f2, f3, z⟩ := h
  refine ⟨?_, ?_, World.cell?_setCell_same _ _ _ c2, ?_, by simpa using f0, by simpa using f1, by simpa using f2, by simpa using f3, by simpa using z⟩
  all_goals rw [World.cell?_setCell_other _ _ _ _ (by simp)]; assumption
theorem Box4.set3 {W : World} {b : Nat} {x v0 v1 v2 v3 : Value} (h : Box4 W b v0 v1 v2 v3) : Box4 (W.setCell ⟨b, 3, none⟩ x) b v0 v1 v2 x := by
  obtain ⟨c0, c1, c2, c3, f0, f1, f2, f3, z⟩ := h
  refine ⟨?_, ?_, ?_, World.cell?_setCell_same _ _ _ c3, by simpa using f0, by simpa using f1, by simpa using f2, by simpa using f3, by simpa using z⟩
  all_goals rw [World.cell?_setCell_other _ _ _ _ (by simp)]; assumption
structure TgS (w W : World) (r : List (List UInt8)) (bp o b2 b5 : Nat) (L S R : ByteArray) (vv : Value) : Prop where
  below : Below w.heap.size w W
  rest : ∀ (j : Nat) p, r[j]? = some p → W.cell? ⟨bp, o + j, none⟩ = some (.string (mk p))
  bpl : bp < W.heap.size
  x2 : Box4 W b2 (.string ⟨#[]⟩) (.string ⟨#[]⟩) (.string ⟨#[]⟩) (.slice none 0 0)
  x5 : Box4 W b5 (.string L) (.string S) (.string R) vv
  n2 : w.heap.size ≤ b2
  n5 : w.heap.size ≤ b5
  d25 : b2 ≠ b5
  dp5 : bp ≠ b5
theorem TgS.later {w W W1 : World} {r : List (List UInt8)} {bp o b2 b5 : Nat} {L S R : ByteArray} {vv : Value} (h : TgS w W r bp o b2 b5 L S R vv) (hb : Below W.heap.size W W1) : TgS w W1 r bp o b2 b5 L S R vv :=
  ⟨below_then h.below (Nat.le_refl _) hb, fun j p hp => (hb.cell (p := ⟨bp, o + j, none⟩) h.bpl).trans (h.rest j p hp), Nat.lt_of_lt_of_le h.bpl hb.size, h.x2.later hb h.x2.2.2.2.2.2.2.2.2, h.x5.later hb h.x5.2.2.2.2.2.2.2.2, h.n2, h.n5, h.d25, h.dp5⟩
theorem TgS.drew {w W : World} {r : List (List UInt8)} {bp o b2 b5 : Nat} {L S R : ByteArray} {vv : Value} (h : TgS w W r bp o b2 b5 L S R vv) : TgS w W.drew r bp o b2 b5 L S R vv := h.later (Below.refl _ _).drew
theorem TgS.set {w W : World} {r : List (List UInt8)} {bp o b2 b5 : Nat} {L S R : ByteArray} {vv : Value} (h : TgS w W r bp o b2 b5 L S R vv) {k : Nat} {x : Value} {L' S' R' : ByteArray} {vv' : Value} (h5 : Box4 (W.setCell ⟨b5, k, none⟩ x) b5 (.string L') (.string S') (.string R') vv') :
    TgS w (W.setCell ⟨b5, k, none⟩ x) r bp o b2 b5 L' S' R' vv' :=
  ⟨h.below.setCell h.n5 _, fun j p hp => by rw [World.cell?_setCell_other _ _ _ _ (by simp [h.dp5.symm])]; exact h.rest j p hp, by simpa using h.bpl, h.x2.other h.d25.symm, h5, h.n2, h.n5, h.d25, h.dp5⟩
theorem TgS.next {w W : World} {p : List UInt8} {r : List (List UInt8)} {bp o b2 b5 : Nat} {L S R : ByteArray} {vv : Value} (h : TgS w W (p :: r) bp o b2 b5 L S R vv) : TgS w W r bp (o + 1) b2 b5 L S R vv :=
  { h with rest := fun j q hq => by rw [show o + 1 + j = o + (j + 1) by omega]; exact h.rest (j + 1) q (by simpa using hq) }
theorem TgS.gone {w W : World} {p : List UInt8} {bp o b2 b5 : Nat} {L S R : ByteArray} {vv : Value} (h : TgS w W [p] bp o b2 b5 L S R vv) : TgS w W [] bp o b2 b5 L S R vv :=
  { h with rest := fun j q hq => by simp at hq }
theorem TgS.laterB {w W W1 : World} {r : List (List UInt8)} {bp o b2 b5 : Nat} {L S R : ByteArray} {vv : Value} (h : TgS w W r bp o b2 b5 L S R vv) {n : Nat} (hb : Below n W W1) (hp : bp < n) (h2 : b2 < n) (h5 : b5 < n) : TgS w W1 r bp o b2 b5 L S R vv :=
  ⟨h.below.trans (hb.mono (by have := h.n2; omega)), fun j p hq => (hb.cell (p := ⟨bp, o + j, none⟩) hp).trans (h.rest j p hq), Nat.lt_of_lt_of_le h.bpl hb.size, h.x2.later hb h2, h.x5.later hb h5, h.n2, h.n5, h.d25, h.dp5⟩
theorem ownsRow_later {W W1 : World} {base : Nat} {e : TypeId} {size : Nat} {v : Value} {k : Nat} {xs : List Value} (h : W.ownsRow base e size v k xs) (hb : Below W.heap.size W W1) : W1.ownsRow base e size v k xs := by
  refine ⟨h.1, ?_⟩
  rcases h.2 with hn | ⟨g, cap, cur, hv, hbg, hg, rest⟩
  · exact .inl hn
  · exact .inr ⟨g, cap, cur, hv, hbg, (hb.block g (Array.getElem?_eq_some_iff.1 hg).1).trans hg, rest⟩
theorem ownsRow_set {W : World} {base : Nat} {e : TypeId} {size : Nat} {v : Value} {k : Nat} {xs : List Value} (h : W.ownsRow base e size v k xs) {b o : Nat} (hb : b < base) (x : Value) : (W.setCell ⟨b, o, none⟩ x).ownsRow base e size v k xs := by
  refine ⟨h.1, ?_⟩
  rcases h.2 with hn | ⟨g, cap, cur, hv, hbg, hg, rest⟩
  · exact .inl hn
  · exact .inr ⟨g, cap, cur, hv, hbg, (Below.heap_setCell W ⟨b, o, none⟩ x g (by simp; omega)).trans hg, rest⟩
def VarAt (w : World) (q : List (List UInt8)) (bp o b2 b5 : Nat) (L S R : ByteArray) (B : Nat) (k : Nat) (W : World) : Prop :=
  ∃ A c, k ≤ c ∧ TgS w W q bp o b2 b5 L S R (.slice A k c) ∧ W.ownsRow B 9 1 (.slice A k c) k (((q.take k).map low).map fun l => Value.string (mk l)) ∧ B ≤ W.heap.size ∧ bp < B ∧ b2 < B ∧ b5 < B
theorem VarAt.start {w W : World} {q : List (List UInt8)} {bp o b2 b5 : Nat} {L S R : ByteArray} (h : TgS w W q bp o b2 b5 L S R (.slice none 0 0)) : VarAt w q bp o b2 b5 L S R W.heap.size 0 W :=
  ⟨none, 0, Nat.le_refl _, h, World.ownsRow_nil _ _ _ _, Nat.le_refl _, h.bpl, h.x2.2.2.2.2.2.2.2.2, h.x5.2.2.2.2.2.2.2.2⟩
theorem VarAt.more {w W W1 w' : World} {q : List (List UInt8)} {bp o b2 b5 : Nat} {L S R : ByteArray} {B k : Nat} {ob : Obj} {A A' : Option Addr} {c c' : Nat} {p : List UInt8} {xs : List Value}
    (hT : TgS w W q bp o b2 b5 L S R (.slice A k c)) (hB : B ≤ W.heap.size) (hp : bp < B) (h2 : b2 < B) (h5 : b5 < B) (hr : W.ownsRow B 9 1 (.slice A k c) k xs)
    (hb : Below W.drew.heap.size W.drew W1) (hg : (W1.alloc ob).grownBy w' (Value.slice A k c).ownBlock) (hown : w'.ownsRow B 9 1 (.slice A' (k + 1) c') (k + 1) (xs ++ [.string (mk (low p))])) (hk : k + 1 ≤ c') (hx : xs = ((q.take k).map low).map fun l => Value.string (mk l)) (hq : q[k]? = some p) :
    VarAt w q bp o b2 b5 L S R B (k + 1) (w'.setCell ⟨b5, 3, none⟩ (.slice A' (k + 1) c')) := by
  have z1 : W.heap.size ≤ W1.heap.size := hb.size
  have hBl : Below B W w' := by
    refine Below.grown (((Below.refl B W).drew.trans (hb.mono hB)).alloc (by omega) ob) hg (by simp; omega) (fun j e => (ownsRow_later hr (below_drew hb)).lt j e |>.1)
  have hT2 := hT.laterB hBl hp h2 h5
  refine ⟨A', c', hk, hT2.set hT2.x5.set3, ?_, by simpa using Nat.le_trans hB hBl.size, hp, h2, h5⟩
  have e : ((q.take (k + 1)).map low).map (fun l => Value.string (mk l)) = xs ++ [.string (mk (low p))] := by
    rw [hx]
    obtain ⟨hlt, hq'⟩ := List.getElem?_eq_some_iff.1 hq
    rw [List.take_succ_eq_append_getElem hlt, hq']
    simp
  rw [e]
  exact ownsRow_set hown h5 _
end Go.Proofs.YthlccfjhgejlmaaGreatDoor

namespace Go.Proofs.YthlccfjhgejlmaaGreatDoor
open Go.RowKit Go.Shelf
set_option linter.unusedVariables false
set_option linter.unusedSimpArgs false
abbrev zcells : Obj := .cells #[.string ⟨#[]⟩, .string ⟨#[]⟩, .string ⟨#[]⟩, .slice none 0 0] 26
def CutTo (s : ByteArray) (w : World) (P : List (List UInt8)) (n : Nat) : Prop :=
  Calls Tryz.prog 14 #[.string s, .string ⟨#[45]⟩] (w.alloc zcells) fun e w' => e = .returned (.slice (some ⟨w.heap.size + 1, 0, none⟩) n n) ∧
      (∀ (j : Nat) p, P[j]? = some p → w'.cell? ⟨w.heap.size + 1, 0 + j, none⟩ = some (.string (mk p))) ∧ w.heap.size + 1 < w'.heap.size ∧ Box4 w' w.heap.size (.string ⟨#[]⟩) (.string ⟨#[]⟩) (.string ⟨#[]⟩) (.slice none 0 0) ∧ Below w.heap.size w w'
theorem cutTo_of (s : ByteArray) (w : World) (hs : s.size ≤ 100000) (hM : MaxAt w) (P : List (List UInt8)) (hP : splitH s.data.toList = P) : CutTo s w P P.length := by
  have hb0 : Below w.heap.size w (w.alloc zcells) := (Below.refl _ w).alloc (Nat.le_refl _) _
  have h := splitS_any s (w.alloc zcells) hs (hM.below hb0 (Nat.le_refl _))
  rw [hP] at h
  refine h.mono ?_
  rintro e w' ⟨rfl, h1, h2, h3⟩
  simp only [World.size_alloc] at h1 h2 h3 ⊢
  exact ⟨trivial, h1, h2, (Box4.new w _ _ _ _ _).later h3 (by simp), hb0.trans (h3.mono (by simp))⟩
theorem CutTo.at_ {s : ByteArray} {w : World} {P : List (List UInt8)} {n : Nat} (h : CutTo s w P n) : Calls Tryz.prog 14 #[.string s, .string ⟨#[45]⟩] (w.alloc zcells) fun e w' => e = .returned (.slice (some ⟨w.heap.size + 1, 0, none⟩) n n) ∧
      (∀ (j : Nat) p, P[j]? = some p → w'.cell? ⟨w.heap.size + 1, 0 + j, none⟩ = some (.string (mk p))) ∧ w.heap.size + 1 < w'.heap.size ∧ Box4 w' w.heap.size (.string ⟨#[]⟩) (.string ⟨#[]⟩) (.string ⟨#[]⟩) (.slice none 0 0) ∧ Below w.heap.size w w' := h
set_option maxRecDepth 100000 in
set_option maxHeartbeats 4000000 in
theorem parse_nolang (s : ByteArray) (hs : s.size ≤ 100000) (w : World) (hM : MaxAt w) (p0 : List UInt8) (ps : List (List UInt8)) (hP : splitH s.data.toList = p0 :: ps) (hl : langB p0 = false) :
    Calls Tryz.prog 6 #[.string s] w fun e W' => e = .returned (.tuple #[zeroTag, .bool false]) ∧ Below w.heap.size w W' := by
  have cS := cutTo_of s w hs hM _ hP
  have hlen : p0.length ≤ 100000 := by
    have := splitH_mem_length s.data.toList p0 (by rw [hP]; simp)
    have h2 : s.data.toList.length = s.size := by simp
    omega
  obtain ⟨n, hn⟩ : ∃ n, (p0 :: ps).length = n + 1 := ⟨ps.length, rfl⟩
  rw [hn] at cS
  have HS := Lib.hid cS
  have HL := Lib.hid hl
  clear cS hn hl hP
  go_enter Tryz.func6, Tryz.ntmps6
  go_wp2_with (first
    | (go_at_call 14; (with_reducible refine HS.out.at_.mono ?_); rintro e w1 ⟨rfl, hp, hz, ⟨d0, d1, d2, d3, g0, g1, g2, g3, z2⟩, hb⟩; have q0 : w1.cell? ⟨w.heap.size + 1, 0, none⟩ = some (.string (mk p0)) := hp 0 p0 rfl; have hb2 := Lib.hid hb; clear hp hb)
    | (go_at_call 15; (with_reducible refine (isLang_mk p0 _ hlen).mono ?_); rw [HL.out]; rintro e w' ⟨rfl, rfl⟩))
  exact bodyPost_ret (v := .tuple #[zeroTag, .bool false]) (by simp [results, Tryz.results6, go_sem, zeroTag, tagV, d0, d1, d2, d3]) rfl ⟨rfl, (((hb2.out.setCell (by simp) _).setCell (by simp) _).setCell (by simp) _).setCell (by simp) _⟩
def LeftAt (w : World) (r : List (List UInt8)) (bp b2 b5 : Nat) (L S R : ByteArray) (vv v : Value) (W : World) : Prop :=
  ∃ o, v = .slice (some ⟨bp, o, none⟩) r.length r.length ∧ TgS w W r bp o b2 b5 L S R vv
theorem scr_lens {ps : List (List UInt8)} {n : Nat} (h : ∀ p ∈ ps, p.length ≤ n) : ∀ p ∈ (scrOf ps).2, p.length ≤ n := by
  rcases scrOf_cases ps with ⟨p, qs, rfl, h1, h2⟩ | ⟨h1, h2⟩
  · rw [h2]; exact fun q hq => h q (List.mem_cons_of_mem _ hq)
  · rw [h2]; exact h
theorem scr_len (ps : List (List UInt8)) : (scrOf ps).2.length ≤ ps.length := by
  rcases scrOf_cases ps with ⟨p, qs, rfl, h1, h2⟩ | ⟨h1, h2⟩
  · rw [h2]; simp
  · rw [h2]; exact Nat.le_refl _
theorem reg_lens {ps : List (List UInt8)} {n : Nat} (h : ∀ p ∈ ps, p.length ≤ n) : ∀ p ∈ (regOf ps).2, p.length ≤ n := by
  rcases regOf_cases ps with ⟨p, qs, rfl, h1, h2⟩ | ⟨h1, h2⟩
  · rw [h2]; exact fun q hq => h q (List.mem_cons_of_mem _ hq)
  · rw [h2]; exact h
theorem reg_len (ps : List (List UInt8)) : (regOf ps).2.length ≤ ps.length := by
  rcases regOf_cases ps with ⟨p, qs, rfl, h1, h2⟩ | ⟨h1, h2⟩
  · rw [h2]; simp
  · rw [h2]; exact Nat.le_refl _
def scrB : List (List UInt8) → Bool
  | [] => false
  | p :: _ => scriptB p
def regB : List (List UInt8) → Bool
  | [] => false
  | p :: _ => regionB p
def CapNew (n : Nat) (sv : Value) : Prop := ∃ a l c, sv = .slice a l c ∧ l ≤ c ∧ ∀ x, a = some x → n ≤ x.block
theorem CapNew.ok {n : Nat} {sv : Value} (h : CapNew n sv) : CapOk sv := by
  obtain ⟨a, l, c, e, h, _⟩ := h
  exact ⟨a, l, c, e, h⟩
def ParseR (w : World) (p0 SS RR : List UInt8) (q : List (List UInt8)) (e : Ending) (W' : World) : Prop :=
  Below w.heap.size w W' ∧ (varsOk q = true → ∃ sv, e = .returned (.tuple #[tagV (mk (low p0)) (mk SS) (mk RR) sv, .bool true]) ∧ CapNew w.heap.size sv ∧ StrsAt W'.heap.size W' sv ((q.map low).map mk)) ∧
    (varsOk q = false → e = .returned (.tuple #[zeroTag, .bool false]))
theorem ParseR.no {w : World} {p0 SS RR : List UInt8} {q : List (List UInt8)} {W' : World} (hb : Below w.heap.size w W') (h : varsOk q = false) : ParseR w p0 SS RR q (.returned (.tuple #[zeroTag, .bool false])) W' :=
  ⟨hb, (fun e => by rw [h] at e; cases e), fun _ => rfl⟩
theorem all_more {q : List (List UInt8)} {k : Nat} {p : List UInt8} (h : (q.take k).all variantB = true) (hq : q[k]? = some p) (hv : variantB p = true) : (q.take (k + 1)).all variantB = true := by
  obtain ⟨hlt, hq'⟩ := List.getElem?_eq_some_iff.1 hq
  rw [List.take_succ_eq_append_getElem hlt, hq', List.all_append, h]
  simp [hv]
theorem varsOk_not {q : List (List UInt8)} {k : Nat} {p : List UInt8} (hq : q[k]? = some p) (hv : variantB p = false) : varsOk q = false := by
  unfold varsOk
  have : q.all variantB = false := by
    cases e : q.all variantB
    · rfl
    · have := List.all_eq_true.1 e p (List.mem_of_getElem? hq)
      rw [hv] at this; cases this
  rw [this]; rfl
theorem nodup_mk (l : List (List UInt8)) : (l.map mk).Nodup ↔ l.Nodup := by
  rw [List.Nodup, List.Nodup, List.pairwise_map]
  exact ⟨fun h => h.imp fun hne e => hne (by rw [e]), fun h => h.imp fun hne e => hne (mk_inj e)⟩
theorem le_alloc {B : Nat} {W : World} (h : B ≤ W.heap.size) (o : Obj) : B ≤ (W.alloc o).heap.size := by simp; omega
theorem below_more {W W1 w' : World} {B k c : Nat} {A : Option Addr} {ob : Obj} {xs : List Value} (hB : B ≤ W.heap.size) (hr : W.ownsRow B 9 1 (.slice A k c) k xs)
    (hb : Below W.drew.heap.size W.drew W1) (hg : (W1.alloc ob).grownBy w' (Value.slice A k c).ownBlock) : Below B W w' := by
  have z1 : W.heap.size ≤ W1.heap.size := hb.size
  exact Below.grown (((Below.refl B W).drew.trans (hb.mono hB)).alloc (by omega) ob) hg (by simp; omega) (fun j e => (ownsRow_later hr (below_drew hb)).lt j e |>.1)
theorem below_set4 {n b : Nat} {A W : World} {y0 y1 y2 y3 : Value} (h : Below n A W) (hb : n ≤ b) : Below n A ((((W.setCell ⟨b, 0, none⟩ y0).setCell ⟨b, 1, none⟩ y1).setCell ⟨b, 2, none⟩ y2).setCell ⟨b, 3, none⟩ y3) :=
  (((h.setCell (by simpa using hb) _).setCell (by simpa using hb) _).setCell (by simpa using hb) _).setCell (by simpa using hb) _
theorem row_strs {W : World} {q : List (List UInt8)} {B t c : Nat} {A : Option Addr} (h : W.ownsRow B 9 1 (.slice A t c) t (((q.take t).map low).map fun l => Value.string (mk l))) (ht : q.length = t) : StrsAt W.heap.size W (.slice A t c) ((q.map low).map mk) := by
  have e : ((q.take t).map low).map (fun l => Value.string (mk l)) = ((q.map low).map mk).map Value.string := by
    rw [← ht, List.take_length]; simp
  rw [e] at h
  have hl : ((q.map low).map mk).length = t := by simp [ht]
  refine strs_of_row (base := B) ?_
  rw [hl]; exact h
theorem ParseR.yes {w W W1 : World} {p0 SS RR : List UInt8} {q : List (List UInt8)} {B t c b2 : Nat} {A : Option Addr} {y0 y1 y2 y3 : Value} (hb : Below w.heap.size w W) (hn : w.heap.size ≤ b2) (hb1 : Below W.heap.size W W1) (hrow : W.ownsRow B 9 1 (.slice A t c) t (((q.take t).map low).map fun l => Value.string (mk l))) (ht : q.length = t) (h2 : b2 < B) (hc : t ≤ c) (h : varsOk q = true) :
    ParseR w p0 SS RR q (.returned (.tuple #[tagV (mk (low p0)) (mk SS) (mk RR) (.slice A t c), .bool true])) ((((W1.setCell ⟨b2, 0, none⟩ y0).setCell ⟨b2, 1, none⟩ y1).setCell ⟨b2, 2, none⟩ y2).setCell ⟨b2, 3, none⟩ y3) :=
  ⟨below_set4 (below_then hb (Nat.le_refl _) hb1) hn, fun _ => ⟨_, rfl, ⟨_, _, _, rfl, hc, fun x hx => by have := (World.ownsRow.lt hrow x.block (by rw [hx]; rfl)).1; omega⟩, row_strs (ownsRow_set (ownsRow_set (ownsRow_set (ownsRow_set (ownsRow_later hrow hb1) h2 _) h2 _) h2 _) h2 _) ht⟩, (fun e => by rw [h] at e; cases e)⟩
def ParseTo (w : World) (p0 : List UInt8) (ps : List (List UInt8)) (e : Ending) (W' : World) : Prop :=
  Below w.heap.size w W' ∧ (varsOk (restOf ps) = true → ∃ sv, e = .returned (.tuple #[tagV (mk (low p0)) (mk (scrOf ps).1) (mk (regOf (scrOf ps).2).1) sv, .bool true]) ∧ CapNew w.heap.size sv ∧ StrsAt W'.heap.size W' sv (((restOf ps).map low).map mk)) ∧
    (varsOk (restOf ps) = false → e = .returned (.tuple #[zeroTag, .bool false]))
theorem lens_of {s : ByteArray} (hs : s.size ≤ 100000) {p0 : List UInt8} {ps : List (List UInt8)} (hP : splitH s.data.toList = p0 :: ps) : p0.length ≤ 100000 ∧ (∀ p ∈ ps, p.length ≤ 100000) ∧ ps.length ≤ 100000 := by
  have h2 : s.data.toList.length = s.size := by simp
  have h3 := splitH_length s.data.toList
  rw [hP] at h3
  simp only [List.length_cons] at h3
  refine ⟨?_, fun p hp => ?_, by omega⟩
  · have := splitH_mem_length s.data.toList p0 (by rw [hP]; simp)
    omega
  · have := splitH_mem_length s.data.toList p (by rw [hP]; simp [hp])
    omega
set_option maxRecDepth 100000 in
set_option maxHeartbeats 8000000 in
theorem parse_lang (s : ByteArray) (hs : s.size ≤ 100000) (w : World) (hM : MaxAt w) (p0 : List UInt8) (ps : List (List UInt8)) (hP : splitH s.data.toList = p0 :: ps) (hl : langB p0 = true) :
    Calls Tryz.prog 6 #[.string s] w (ParseTo w p0 ps) := by
  have cS := cutTo_of s w hs hM _ hP
  obtain ⟨hlen, hlens, hn1⟩ := lens_of hs hP
  show Calls Tryz.prog 6 #[.string s] w (ParseR w p0 (scrOf ps).1 (regOf (scrOf ps).2).1 (regOf (scrOf ps).2).2)
  have hl2 := scr_lens hlens
  have hm2 := scr_len ps
  obtain ⟨SS, r, hSR⟩ : ∃ SS r, scrOf ps = (SS, r) := ⟨_, _, rfl⟩
  rw [hSR] at hl2 hm2 ⊢
  simp only at hl2 hm2 ⊢
  have hl3 := reg_lens hl2
  have hm3 := reg_len r
  obtain ⟨RR, q, hRQ⟩ : ∃ RR q, regOf r = (RR, q) := ⟨_, _, rfl⟩
  rw [hRQ] at hl3 hm3 ⊢
  simp only at hl3 hm3 ⊢
  obtain ⟨k, hk⟩ : ∃ k, r.length = k := ⟨_, rfl⟩
  obtain ⟨t, ht⟩ : ∃ t, q.length = t := ⟨_, rfl⟩
  rw [hk] at hm2 hm3
  rw [ht] at hm3
  have hk1 : k ≤ 100000 := by omega
  have ht1 : t ≤ 100000 := by omega
  have HSR := Lib.hid hSR
  have HRQ := Lib.hid hRQ
  have HK := Lib.hid hk
  have HT3 := Lib.hid ht
  have HRL := Lib.hid hl2
  have HQL := Lib.hid hl3
  clear hSR hRQ hk ht hl2 hl3 hm2 hm3
  obtain ⟨n, hn, hn2⟩ : ∃ n, (p0 :: ps).length = n + 1 ∧ ps.length = n := ⟨ps.length, rfl, rfl⟩
  rw [hn] at cS
  rw [hn2] at hn1
  have HS := Lib.hid cS
  have HL := Lib.hid hl
  have HLL := Lib.hid hlens
  have HN := Lib.hid hn2
  have hld := lang_ld hl
  clear cS hn hl hP hlens hn2
  go_enter Tryz.func6, Tryz.ntmps6
  go_upto_region 5 with (first
    | (go_at_call 14; (with_reducible refine HS.out.at_.mono ?_); rintro e w1 ⟨rfl, hp, hz, hx2, hb⟩; have hx2' := Lib.hid hx2; obtain ⟨d0, d1, d2, d3, g0, g1, g2, g3, z2⟩ := hx2; have q0 : w1.cell? ⟨w.heap.size + 1, 0, none⟩ = some (.string (mk p0)) := hp 0 p0 rfl; have hb2 := Lib.hid hb; have hp2 := Lib.hid hp; clear hp hb)
    | (go_at_call 15; (with_reducible refine (isLang_mk p0 _ hlen).mono ?_); rw [HL.out]; rintro e w1 ⟨rfl, rfl⟩)
    | (go_at_call 16; (with_reducible refine (low_mk p0 hld hlen _).mono ?_); rintro e w2 ⟨rfl, hb3⟩))
  obtain ⟨b5, hb5⟩ : ∃ b5, w2.heap.size = b5 := ⟨_, rfl⟩
  have hz3 : w.heap.size + 1 < b5 := by have := hb3.size; omega
  have T0 : TgS w (w2.alloc (.cells #[.string (mk (low p0)), .string ⟨#[]⟩, .string ⟨#[]⟩, .slice none 0 0] 26)) (p0 :: ps) (w.heap.size + 1) 0 w.heap.size b5 (mk (low p0)) ⟨#[]⟩ ⟨#[]⟩ (.slice none 0 0) := by
    have a1 : Below w1.heap.size w1 (w2.alloc (.cells #[.string (mk (low p0)), .string ⟨#[]⟩, .string ⟨#[]⟩, .slice none 0 0] 26)) := hb3.alloc hb3.size _
    refine ⟨below_then hb2.out (Nat.le_refl _) a1, fun j p hp => (a1.cell (p := ⟨w.heap.size + 1, 0 + j, none⟩) hz).trans (hp2.out j p hp), ?_, hx2'.out.later a1 z2, ?_, Nat.le_refl _, by omega, by omega, by omega⟩
    · have := a1.size; omega
    · rw [← hb5]; exact Box4.new w2 _ _ _ _ _
  rw [hb5]
  generalize (w2.alloc (.cells #[.string (mk (low p0)), .string ⟨#[]⟩, .string ⟨#[]⟩, .slice none 0 0] 26)) = w3 at *
  have HT := Lib.hid T0
  clear hb2 hp2 hx2' d0 d1 d2 d3 g0 g1 g2 g3 z2 q0 hb3 hb5 T0 HS HL hld hz hz3
  go_cut [6] (fun v wx => LeftAt w ps (w.heap.size + 1) w.heap.size b5 (mk (low p0)) ⟨#[]⟩ ⟨#[]⟩ (.slice none 0 0) v wx)
  case first =>
    cases ps with
    | nil =>
      obtain rfl : n = 0 := HN.out.symm
      go_wp2_with fail
      go_meet
      exact ⟨0, rfl, HT.out.gone⟩
    | cons p1 qs =>
      obtain ⟨m, rfl⟩ : ∃ m, n = m + 1 := ⟨qs.length, HN.out.symm⟩
      go_wp2_with fail
      go_meet
      exact ⟨1, by rw [HN.out], HT.out.next⟩
  case rest =>
    obtain ⟨o1, rfl, T1⟩ := hcut
    clear HT w3
    rw [HN.out]
    have HT := Lib.hid T1
    clear T1
    go_upto_region 6 with fail
    go_cut [32] (fun c wx => c = .bool (scrB ps) ∧ TgS w wx ps (w.heap.size + 1) o1 w.heap.size b5 (mk (low p0)) ⟨#[]⟩ ⟨#[]⟩ (.slice none 0 0))
    case first =>
      cases ps with
      | nil =>
        obtain rfl : n = 0 := HN.out.symm
        go_wp2_with fail
        go_meet
        exact ⟨rfl, HT.out⟩
      | cons p1 qs =>
        obtain ⟨m, rfl⟩ : ∃ m, n = m + 1 := ⟨qs.length, HN.out.symm⟩
        have c1 : wc.cell? ⟨w.heap.size + 1, o1, none⟩ = some (.string (mk p1)) := HT.out.rest 0 p1 rfl
        have l1 := HLL.out p1 (by simp)
        go_wp2_with ((go_at_call 17; (with_reducible refine (isScript_mk p1 _ l1).mono ?_); rintro e w1 ⟨rfl, rfl⟩))
        go_meet
        exact ⟨rfl, HT.out⟩
    case rest =>
      obtain ⟨rfl, T1⟩ := hcut
      clear HT
      have HT := Lib.hid T1
      clear T1
      go_upto_if 32 with fail
      go_cut [6] (fun v wx => LeftAt w r (w.heap.size + 1) w.heap.size b5 (mk (low p0)) (mk SS) ⟨#[]⟩ (.slice none 0 0) v wx)
      case first =>
        cases hsc : scrB ps
        · have e : scrOf ps = ([], ps) := by cases ps with
            | nil => rfl
            | cons p qs => simp only [scrB] at hsc; simp [scrOf, hsc]
          obtain ⟨rfl, rfl⟩ : [] = SS ∧ ps = r := by have := HSR.out; rw [e] at this; cases this; exact ⟨rfl, rfl⟩
          clear e hsc
          go_wp2_with fail
          go_meet
          exact ⟨o1, by rw [HN.out], HT.out⟩
        · cases ps with
          | nil => simp [scrB] at hsc
          | cons p1 qs =>
            simp only [scrB] at hsc
            have e : scrOf (p1 :: qs) = (title p1, qs) := by simp [scrOf, hsc]
            obtain ⟨rfl, rfl⟩ : title p1 = SS ∧ qs = r := by have := HSR.out; rw [e] at this; cases this; exact ⟨rfl, rfl⟩
            obtain ⟨m, rfl⟩ : ∃ m, n = m + 1 := ⟨qs.length, HN.out.symm⟩
            have c1 : wc.cell? ⟨w.heap.size + 1, o1, none⟩ = some (.string (mk p1)) := HT.out.rest 0 p1 rfl
            have l1 := HLL.out p1 (by simp)
            have ld := script_ld hsc
            have s4 : (mk p1).size = 4 := by rw [mk_size, script_len hsc]
            have hl4 := script_len hsc
            obtain ⟨U, hU⟩ : ∃ U, mk (upp ((p1.take 1).drop 0)) = U := ⟨_, rfl⟩
            obtain ⟨V, hV⟩ : ∃ V, mk (low ((p1.take 4).drop 1)) = V := ⟨_, rfl⟩
            have cU := fun W => uppE p1 ld l1 0 1 W
            have cV := fun W => lowE p1 ld l1 1 4 W
            rw [hU] at cU
            rw [hV] at cV
            have hUV : U ++ V = mk (title p1) := by
              rw [← hU, ← hV, mk_append, title, List.take_of_length_le (show p1.length ≤ 4 by omega)]
              rfl
            have hU4 : U.size ≤ 4 := by rw [← hU, mk_size, upp_length]; simp; omega
            have hV4 : V.size ≤ 4 := by rw [← hV, mk_size, low_length]; simp; omega
            have hbig : ¬ 9223372036854775807 < U.size + V.size := by omega
            have HUV := Lib.hid hUV
            have CU := Lib.hid cU
            have CV := Lib.hid cV
            clear e hsc hU hV cU cV hUV hl4 ld
            go_wp2_with fail
            go_region_with (first
              | (go_at_call 18; (with_reducible refine (CU.out _).mono ?_); rintro e w3 ⟨rfl, hb3⟩; have T3 := HT.out.drew.later hb3; have c3 : w3.cell? ⟨w.heap.size + 1, o1, none⟩ = some (.string (mk p1)) := T3.rest 0 p1 rfl; have HT3 := Lib.hid T3; clear T3)
              | (go_at_call 16; (with_reducible refine (CV.out _).mono ?_); rintro e w4 ⟨rfl, hb4⟩; have T4 := HT3.out.later hb4; obtain ⟨_, k1, _, _, _, m1, _, _, _⟩ := T4.x5; have HT4 := Lib.hid T4; clear T4))
            all_goals
              have T5 := HT4.out.set (HT4.out.x5.set1 (x := .string (U ++ V)))
              rw [HUV.out] at T5
              have HT5 := Lib.hid T5
              clear T5 c3 k1 m1 c1
              cases m with
              | zero =>
                obtain rfl : qs = [] := List.eq_nil_of_length_eq_zero (by have := HN.out; simpa using this)
                go_wp2_with fail
                go_meet
                exact ⟨o1, rfl, by rw [HUV.out]; exact HT5.out.gone⟩
              | succ m =>
                go_wp2_with fail
                go_meet
                exact ⟨o1 + 1, by have := HN.out; simp at this; simp [this], by rw [HUV.out]; exact HT5.out.next⟩
      case rest =>
        obtain ⟨o2, rfl, T1⟩ := hcut
        clear HT HLL HN hn1
        have HT := Lib.hid T1
        clear T1
        rw [HK.out]
        go_upto_region 9 with fail
        go_cut [55] (fun c wx => c = .bool (regB r) ∧ TgS w wx r (w.heap.size + 1) o2 w.heap.size b5 (mk (low p0)) (mk SS) ⟨#[]⟩ (.slice none 0 0))
        case first =>
          cases r with
          | nil =>
            obtain rfl : k = 0 := HK.out.symm
            go_wp2_with fail
            go_meet
            exact ⟨rfl, HT.out⟩
          | cons p1 qs =>
            obtain ⟨m, rfl⟩ : ∃ m, k = m + 1 := ⟨qs.length, HK.out.symm⟩
            have c1 : wc.cell? ⟨w.heap.size + 1, o2, none⟩ = some (.string (mk p1)) := HT.out.rest 0 p1 rfl
            have l1 := HRL.out p1 (by simp)
            go_wp2_with ((go_at_call 19; (with_reducible refine (isRegion_mk p1 _ l1).mono ?_); rintro e w1 ⟨rfl, rfl⟩))
            go_meet
            exact ⟨rfl, HT.out⟩
        case rest =>
          obtain ⟨rfl, T1⟩ := hcut
          clear HT
          have HT := Lib.hid T1
          clear T1
          go_upto_if 55 with fail
          go_cut [6] (fun v wx => LeftAt w q (w.heap.size + 1) w.heap.size b5 (mk (low p0)) (mk SS) (mk RR) (.slice none 0 0) v wx)
          case first =>
            cases hsc : regB r
            · have e : regOf r = ([], r) := by cases r with
                | nil => rfl
                | cons p qs => simp only [regB] at hsc; simp [regOf, hsc]
              obtain ⟨rfl, rfl⟩ : [] = RR ∧ r = q := by have := HRQ.out; rw [e] at this; cases this; exact ⟨rfl, rfl⟩
              clear e hsc
              go_wp2_with fail
              go_meet
              exact ⟨o2, by rw [HK.out], HT.out⟩
            · cases r with
              | nil => simp [regB] at hsc
              | cons p1 qs =>
                simp only [regB] at hsc
                have e : regOf (p1 :: qs) = (upp p1, qs) := by simp [regOf, hsc]
                obtain ⟨rfl, rfl⟩ : upp p1 = RR ∧ qs = q := by have := HRQ.out; rw [e] at this; cases this; exact ⟨rfl, rfl⟩
                obtain ⟨m, rfl⟩ : ∃ m, k = m + 1 := ⟨qs.length, HK.out.symm⟩
                have c1 : wc.cell? ⟨w.heap.size + 1, o2, none⟩ = some (.string (mk p1)) := HT.out.rest 0 p1 rfl
                have l1 := HRL.out p1 (by simp)
                have ld := region_ld hsc
                clear e hsc
                cases m with
                | zero =>
                  obtain rfl : qs = [] := List.eq_nil_of_length_eq_zero (by have := HK.out; simpa using this)
                  go_wp2_with ((go_at_call 18; (with_reducible refine (upp_mk p1 ld l1 _).mono ?_); rintro e w4 ⟨rfl, hb4⟩; have T4 := HT.out.later hb4; obtain ⟨_, _, k1, _, _, _, m1, _, _⟩ := T4.x5; have HT4 := Lib.hid T4; clear T4))
                  go_meet
                  exact ⟨o2, rfl, (HT4.out.set (HT4.out.x5.set2 (x := .string (mk (upp p1))))).gone⟩
                | succ m =>
                  go_wp2_with ((go_at_call 18; (with_reducible refine (upp_mk p1 ld l1 _).mono ?_); rintro e w4 ⟨rfl, hb4⟩; have T4 := HT.out.later hb4; obtain ⟨_, _, k1, _, _, _, m1, _, _⟩ := T4.x5; have HT4 := Lib.hid T4; clear T4))
                  go_meet
                  exact ⟨o2 + 1, by have := HK.out; simp at this; simp [this], (HT4.out.set (HT4.out.x5.set2 (x := .string (mk (upp p1))))).next⟩
          case rest =>
            obtain ⟨o3, rfl, T1⟩ := hcut
            clear HT HSR HK HRL hk1
            rw [HT3.out]
            obtain ⟨B, hBz⟩ : ∃ B, wc.heap.size = B := ⟨_, rfl⟩
            have V0 := VarAt.start T1
            rw [hBz] at V0
            have HV := Lib.hid V0
            clear V0 T1 hBz
            go_wp2
            go_loopw [65] (fun i wr => ∃ k : Nat, k ≤ t ∧ i = .int .i64 k ∧ (q.take k).all variantB = true ∧ VarAt w q (w.heap.size + 1) o3 w.heap.size b5 (mk (low p0)) (mk SS) (mk RR) B k wr) (fun i _ => t - (intOf i).toNat)
            case atStart => exact ⟨0, Nat.zero_le _, rfl, rfl, HV.out⟩
            case round =>
              clear HV
              obtain ⟨k, hk, rfl, hall, A, c, hkc, hT, hrow, hB, hp, h2, h5⟩ := hrel
              have HT := Lib.hid hT
              have HW := Lib.hid hrow
              have HA := Lib.hid hall
              obtain ⟨z0, z1, z2, z3, y0, y1, y2, y3, hz2⟩ := hT.x2
              obtain ⟨x0, x1, x2, x3, f0, f1, f2, f3, hz5⟩ := hT.x5
              clear hT hrow hall
              by_cases hlt : k < t
              · obtain ⟨p, hq⟩ : ∃ p, q[k]? = some p := by
                  have : k < q.length := by rw [HT3.out]; exact hlt
                  exact ⟨q[k], List.getElem?_eq_getElem this⟩
                have c1 : wr.cell? ⟨w.heap.size + 1, o3 + k, none⟩ = some (.string (mk p)) := HT.out.rest k p hq
                have l1 := HQL.out p (List.mem_of_getElem? hq)
                have HQ := Lib.hid hq
                clear hq
                cases hv : variantB p
                · have HVv := Lib.hid hv
                  clear hv
                  go_wp2_with ((go_at_call 20; (with_reducible refine (isVariant_mk p _ l1).mono ?_); rw [HVv.out]; rintro e w1 ⟨rfl, rfl⟩))
                  refine bodyPost_ret (v := .tuple #[zeroTag, .bool false]) (by simp [results, Tryz.results6, go_sem, zeroTag, tagV, z0, z1, z2, z3]) rfl ?_
                  exact ParseR.no (below_set4 HT.out.below (Nat.le_refl _)) (varsOk_not HQ.out HVv.out)
                · have HVv := Lib.hid hv
                  have ld := variant_ld hv
                  clear hv
                  have b1 := Lib.hid (show k + 1 ≤ maxLen by unfold maxLen; omega)
                  have b2 := Lib.hid (show (k + 1) * 16 ≤ 140737488355328 by omega)
                  obtain ⟨i0, hi, hz0, hz1, hzz⟩ := info_parts infoStr
                  go_wp2_with ((go_at_call 20; (with_reducible refine (isVariant_mk p _ l1).mono ?_); rw [HVv.out]; rintro e w1 ⟨rfl, rfl⟩))
                  go_region_law (first
                    | (refine step_append_own rfl (.tmp 74) (.tmp 77) 22 rfl B 9 i0 (.string ByteArray.empty) 1 16 Tryz.underlying22 hi hz0 hz1 hzz rfl (by decide) (.slice A k c) k _ (by simp [Act.eval, Act.put]) ((ownsRow_later HW.out (below_drew hb4.out)).alloc _) ⟨w4.heap.size, 0, none⟩ 1 1 [.string (mk (low p))] (by simp [Act.eval, Act.put]) rfl (cell_one_new _ _ _) (by simp [Value.oneCell']) b1.out b2.out (le_alloc hB4 _) ?_; intro v' w' hown hgrow; obtain ⟨A', c', rfl, hle'⟩ := row_out hown; have hBl := below_more hB HW.out hb4.out hgrow; have q3 : w'.cell? ⟨b5, 3, none⟩ = some (.slice A k c) := (hBl.cell (p := ⟨b5, 3, none⟩) h5).trans x3; have g3 : w'.frozen? ⟨b5, 3, none⟩ = false := (hBl.frozen (p := ⟨b5, 3, none⟩) h5).trans f3; have N := Lib.hid (VarAt.more HT.out hB hp h2 h5 HW.out hb4.out hgrow hown hle' rfl HQ.out); clear hown hgrow hBl)
                    | (go_simp; go_at_call 16; (with_reducible refine (low_mk p ld l1 _).mono ?_); rintro e w4 ⟨rfl, hb5⟩; have T4 := HT.out.drew.later hb5; obtain ⟨_, _, _, k3, _, _, _, m3, _⟩ := T4.x5; have hB4 : B ≤ w4.heap.size := Nat.le_trans hB hb5.size; have hb4 := Lib.hid hb5; clear hb5 T4))
                  all_goals
                    go_wp2_with fail
                    go_roundw
                    case rel => exact ⟨k + 1, by omega, by go_num, all_more HA.out HQ.out HVv.out, N.out⟩
                    case measure => simp [intOf]; omega
              · obtain rfl : k = t := by omega
                have ht' := HT3.out
                have hI := row_strs HW.out ht'
                have cT := hasTwice_any _ _ (by simp [ht']; unfold maxLen; omega) (by simp [ht']; omega) _ hI
                have hvo : varsOk q = decide ((q.map low).map mk).Nodup := by
                  unfold varsOk
                  have := HA.out
                  rw [List.take_of_length_le (by omega)] at this
                  rw [this, Bool.true_and, decide_eq_decide, nodup_mk]
                have HVO := Lib.hid hvo
                have CT := Lib.hid cT
                clear hI cT hvo ht'
                cases hnd : decide ((q.map low).map mk).Nodup
                · have hnd2 : decide (¬ ((q.map low).map mk).Nodup) = true := by simpa using hnd
                  have H1 := Lib.hid hnd
                  have H2 := Lib.hid hnd2
                  clear hnd hnd2
                  go_wp2_with ((go_at_call 21; (with_reducible refine CT.out.mono ?_); rw [H2.out]; rintro e w4 ⟨rfl, hb4⟩; obtain ⟨z0, z1, z2, z3, y0, y1, y2, y3, hz2⟩ := HT.out.x2.later hb4 hz2))
                  refine bodyPost_ret (v := .tuple #[zeroTag, .bool false]) (by simp [results, Tryz.results6, go_sem, zeroTag, tagV, z0, z1, z2, z3]) rfl ?_
                  exact ParseR.no (below_set4 (below_then HT.out.below (Nat.le_refl _) hb4) (Nat.le_refl _)) (HVO.out.trans H1.out)
                · have hnd2 : decide (¬ ((q.map low).map mk).Nodup) = false := by simpa using hnd
                  have H1 := Lib.hid hnd
                  have H2 := Lib.hid hnd2
                  clear hnd hnd2
                  go_wp2_with ((go_at_call 21; (with_reducible refine CT.out.mono ?_); rw [H2.out]; rintro e w4 ⟨rfl, hb4⟩; obtain ⟨z0, z1, z2, z3, y0, y1, y2, y3, hz2⟩ := HT.out.x2.later hb4 hz2; obtain ⟨x0, x1, x2, x3, f0, f1, f2, f3, hz5⟩ := HT.out.x5.later hb4 hz5; have hb5' := Lib.hid hb4; clear hb4))
                  refine bodyPost_ret (v := .tuple #[tagV (mk (low p0)) (mk SS) (mk RR) (.slice A k c), .bool true]) (by simp [results, Tryz.results6, go_sem, tagV, z0, z1, z2, z3]) rfl ?_
                  exact ParseR.yes HT.out.below (Nat.le_refl _) hb5'.out HW.out HT3.out h2 hkc (HVO.out.trans H1.out)
def TagTo (w : World) (l : List UInt8) (e : Ending) (W' : World) : Prop :=
  Below w.heap.size w W' ∧ (∀ t, tagOf (splitH l) = some t → ∃ sv, e = .returned (.tuple #[tagV (mk t.L) (mk t.S) (mk t.R) sv, .bool true]) ∧ CapNew w.heap.size sv ∧ StrsAt W'.heap.size W' sv (t.vs.map mk)) ∧
    (tagOf (splitH l) = none → e = .returned (.tuple #[zeroTag, .bool false]))
theorem parse_any (s : ByteArray) (hs : s.size ≤ 100000) (w : World) (hM : MaxAt w) : Calls Tryz.prog 6 #[.string s] w (TagTo w s.data.toList) := by
  cases hP : splitH s.data.toList with
  | nil => exact absurd hP (splitH_ne _)
  | cons p0 ps =>
    cases hl : langB p0
    · refine (parse_nolang s hs w hM p0 ps hP hl).mono ?_
      rintro e W' ⟨rfl, hb⟩
      refine ⟨hb, fun t ht => ?_, fun _ => rfl⟩
      rw [hP, tagOf_cons, hl] at ht
      simp at ht
    · refine (parse_lang s hs w hM p0 ps hP hl).mono ?_
      rintro e W' ⟨hb, h1, h2⟩
      refine ⟨hb, fun t ht => ?_, fun ht => ?_⟩
      · rw [hP, tagOf_cons, hl] at ht
        cases hv : varsOk (restOf ps)
        · rw [hv] at ht; simp at ht
        · rw [hv] at ht
          simp only [if_true, Option.some.injEq] at ht
          subst ht
          exact h1 hv
      · rw [hP, tagOf_cons, hl] at ht
        cases hv : varsOk (restOf ps)
        · exact h2 hv
        · rw [hv] at ht; simp at ht
end Go.Proofs.YthlccfjhgejlmaaGreatDoor
