/-
  Package tag: a tag without its last part.
-/
import Derived.Test.YtldmldgkjkgkcaaDoorTgFits
import Derived.Deep.RegionLaw
import Derived.Deep.AppendLies
import Derived.IntWalk
namespace Go.Proofs.YtldmldgkjkgkcaaDoor
open Go.RowKit Go.Shelf
set_option linter.unusedVariables false
set_option linter.unusedSimpArgs false

/-- append onto a row of the call's own, as one step of a region that draws its order. -/
theorem step_append_own {P : Program} {ops : Array Oper} {o : Oper} {a : Act} {w : World} {K : Act → World → Prop} {Q : Exit → Act → World → Prop} {E : Prop}
    (hg : o.guard = none) (s x : Operand) (t : TypeId) (hop : o.op = Op.call { callee := Callee.builtin Builtin.append, args := #[s, x], argTypes := #[t, t] })
    (base : Nat) (e : TypeId) (i : TypeInfo) (z : Value) (size bytes : Nat) (h1 : P.underlying t = some (.slice e)) (h2 : P.info? e = some i) (h3 : i.zero = some z) (h4 : i.size = size) (h5 : i.bytes = bytes) (h6 : z.cells.size = size) (h7 : 0 < size)
    (v : Value) (n : Nat) (olds : List Value) (hs : a.eval s = v) (hown : w.ownsRow base e size v n olds)
    (ad : Addr) (m c : Nat) (news : List Value) (hx : a.eval x = .slice (some ad) m c) (hn : news.length = m * size) (hc : ∀ j u, news[j]? = some u → w.cell? (ad.add j) = some u) (h1c : ∀ u ∈ news, u.oneCell' = true)
    (b1 : n + m ≤ maxLen) (b2 : (n + m) * bytes ≤ 140737488355328) (hB : base ≤ w.heap.size)
    (hK : ∀ v' w', w'.ownsRow base e size v' (n + m) (olds ++ news) → w.grownBy w' v.ownBlock → K (a.put o.dst v') w') :
    if Region.wanted o (yielded ops a.tmps) = true then Oper.wp P o a w K Q else E := by
  have hw : Region.wanted o (yielded ops a.tmps) = true := by simp [Region.wanted, hg]
  rw [if_pos hw]
  obtain ⟨v', w', hrun, r1, r2, _⟩ := run_append_own (P := P) w base t o.type e i z size bytes h1 h2 h3 h4 h5 h6 h7 v n olds hown ad m c news hn hc h1c b1 b2 hB
  unfold Oper.wp
  simp [execOp, hop, resolve, invoke, builtin, hs, hx, hrun, Result.andThen]
  exact hK v' w' r1 r2

def zeroTag : Value := tagV ⟨#[]⟩ ⟨#[]⟩ ⟨#[]⟩ (.slice none 0 0)
theorem below_a3 (w : World) (o p q : Obj) : Below w.heap.size w (((w.alloc o).alloc p).alloc q) := (((Below.refl _ w).alloc (Nat.le_refl _) o).alloc (by simp) p).alloc (by simp; omega) q

set_option maxRecDepth 100000 in
set_option maxHeartbeats 4000000 in
theorem less_none (L : ByteArray) (c : Nat) (a : Option Addr) (w : World) :
    Calls Tryd.prog 13 #[tagV L ⟨#[]⟩ ⟨#[]⟩ (.slice a 0 c)] w fun e W' => e = .returned (.tuple #[zeroTag, .bool false]) ∧ Below w.heap.size w W' := by
  unfold tagV
  go_enter Tryd.func13, Tryd.ntmps13
  go_wp2_with fail
  exact bodyPost_ret (v := .tuple #[zeroTag, .bool false]) (by simp [results, Tryd.results13, go_sem, zeroTag, tagV]) rfl ⟨rfl, below_a3 _ _ _ _⟩
set_option maxRecDepth 100000 in
set_option maxHeartbeats 4000000 in
theorem less_script (L S : ByteArray) (hS : (!S.toList.isEmpty) = true) (c : Nat) (a : Option Addr) (w : World) :
    Calls Tryd.prog 13 #[tagV L S ⟨#[]⟩ (.slice a 0 c)] w fun e W' => e = .returned (.tuple #[tagV L ⟨#[]⟩ ⟨#[]⟩ (.slice none 0 0), .bool true]) ∧ Below w.heap.size w W' := by
  unfold tagV
  go_enter Tryd.func13, Tryd.ntmps13
  go_wp2_with fail
  exact bodyPost_ret (v := .tuple #[tagV L ⟨#[]⟩ ⟨#[]⟩ (.slice none 0 0), .bool true]) (by simp [results, Tryd.results13, go_sem, tagV]) rfl ⟨rfl, below_a3 _ _ _ _⟩
set_option maxRecDepth 100000 in
set_option maxHeartbeats 4000000 in
theorem less_region (L S R : ByteArray) (hR : (!R.toList.isEmpty) = true) (c : Nat) (a : Option Addr) (w : World) :
    Calls Tryd.prog 13 #[tagV L S R (.slice a 0 c)] w fun e W' => e = .returned (.tuple #[tagV L S ⟨#[]⟩ (.slice none 0 0), .bool true]) ∧ Below w.heap.size w W' := by
  unfold tagV
  go_enter Tryd.func13, Tryd.ntmps13
  go_wp2_with fail
  exact bodyPost_ret (v := .tuple #[tagV L S ⟨#[]⟩ (.slice none 0 0), .bool true]) (by simp [results, Tryd.results13, go_sem, tagV]) rfl ⟨rfl, below_a3 _ _ _ _⟩

/-- The slice value's length is within its capacity. -/
def CapOk (sv : Value) : Prop := ∃ a n c, sv = .slice a n c ∧ n ≤ c
theorem one_strs (l : List ByteArray) : ∀ u ∈ l.map Value.string, u.oneCell' = true := by
  intro u hu
  obtain ⟨x, _, rfl⟩ := List.mem_map.1 hu
  rfl
theorem row_out {W : World} {base : Nat} {e : TypeId} {size : Nat} {v : Value} {n : Nat} {xs : List Value} (h : W.ownsRow base e size v n xs) : ∃ A c, v = .slice A n c ∧ n ≤ c := by
  rcases h.2 with ⟨rfl, rfl⟩ | ⟨gb, c2, cur, rfl, hbase, hgb, r1, r2, r3, r4⟩
  · exact ⟨none, 0, rfl, Nat.le_refl _⟩
  · exact ⟨_, _, rfl, r1⟩
theorem strs_of_row {W : World} {base : Nat} {v : Value} {l : List ByteArray} (h : W.ownsRow base 9 1 v l.length (l.map Value.string)) : StrsAt W.heap.size W v l := by
  have h0 := h
  rcases h.2 with ⟨rfl, hz⟩ | ⟨gb, c2, cur, rfl, hbase, hgb, r1, r2, r3, r4⟩
  · exact .inl ⟨rfl, List.eq_nil_of_length_eq_zero hz⟩
  · refine .inr ⟨gb, 0, c2, rfl, (Array.getElem?_eq_some_iff.1 hgb).1, fun j hj => ?_⟩
    rw [← add_zero]
    refine h0.cells (g := gb) rfl j _ ?_
    rw [List.getElem?_map, List.getElem?_eq_getElem hj]
    simp [hj]
theorem add_off (b o j : Nat) : ((⟨b, o, none⟩ : Addr).add j) = ⟨b, o + j, none⟩ := by unfold Addr.add; split <;> simp_all
theorem less_below {w w' : World} {o p q : Obj} {x y0 y1 y2 y3 : Value} (hg : ((((w.alloc o).alloc p).alloc q).drew).grownBy w' none) :
    Below w.heap.size w (((((w'.setCell ⟨w.heap.size + 1 + 1, 3, none⟩ x).setCell ⟨w.heap.size + 1, 0, none⟩ y0).setCell ⟨w.heap.size + 1, 1, none⟩ y1).setCell ⟨w.heap.size + 1, 2, none⟩ y2).setCell ⟨w.heap.size + 1, 3, none⟩ y3) := by
  have h1 : Below w.heap.size w w' := (below_a3 w o p q).drew.grown hg (by simp; omega) (fun k e => by cases e)
  exact ((((h1.setCell (by simp; omega) _).setCell (by simp) _).setCell (by simp) _).setCell (by simp) _).setCell (by simp) _
theorem less_strs {w w' : World} {o p q : Obj} {x y0 y1 y2 y3 : Value} {A' : Option Addr} {c' n : Nat} {l : List ByteArray} (hg : ((((w.alloc o).alloc p).alloc q).drew).grownBy w' none)
    (hr : w'.ownsRow (w.heap.size + 1 + 1 + 1) 9 1 (.slice A' (0 + n) c') (0 + n) ([] ++ l.map Value.string)) (hl : l.length = n) :
    StrsAt (((((w'.setCell ⟨w.heap.size + 1 + 1, 3, none⟩ x).setCell ⟨w.heap.size + 1, 0, none⟩ y0).setCell ⟨w.heap.size + 1, 1, none⟩ y1).setCell ⟨w.heap.size + 1, 2, none⟩ y2).setCell ⟨w.heap.size + 1, 3, none⟩ y3).heap.size
      (((((w'.setCell ⟨w.heap.size + 1 + 1, 3, none⟩ x).setCell ⟨w.heap.size + 1, 0, none⟩ y0).setCell ⟨w.heap.size + 1, 1, none⟩ y1).setCell ⟨w.heap.size + 1, 2, none⟩ y2).setCell ⟨w.heap.size + 1, 3, none⟩ y3) (.slice A' (0 + n) c') l := by
  subst hl
  rw [Nat.zero_add, List.nil_append] at hr
  rw [Nat.zero_add]
  have hk : ∀ g j, w.heap.size + 1 + 1 + 1 ≤ g → (((((w'.setCell ⟨w.heap.size + 1 + 1, 3, none⟩ x).setCell ⟨w.heap.size + 1, 0, none⟩ y0).setCell ⟨w.heap.size + 1, 1, none⟩ y1).setCell ⟨w.heap.size + 1, 2, none⟩ y2).setCell ⟨w.heap.size + 1, 3, none⟩ y3).cell? ⟨g, j, none⟩ = w'.cell? ⟨g, j, none⟩ := by
    intro g j hg
    refine World.cell?_of_block ?_
    simp only
    rw [Below.heap_setCell _ _ _ _ (by simp; omega), Below.heap_setCell _ _ _ _ (by simp; omega), Below.heap_setCell _ _ _ _ (by simp; omega), Below.heap_setCell _ _ _ _ (by simp; omega), Below.heap_setCell _ _ _ _ (by simp; omega)]
  have h0 := hr
  rcases hr.2 with ⟨e, hz⟩ | ⟨gb, c2, cur, e, hbase, hgb, r1, r2, r3, r4⟩
  · exact .inl ⟨by rw [e], List.eq_nil_of_length_eq_zero hz⟩
  · cases e
    refine .inr ⟨gb, 0, _, rfl, ?_, fun j hj => ?_⟩
    · have := (Array.getElem?_eq_some_iff.1 hgb).1
      simpa using this
    · rw [hk gb (0 + j) hbase, ← add_zero]
      refine h0.cells (g := gb) rfl j _ ?_
      rw [List.getElem?_map, List.getElem?_eq_getElem hj]
      simp [hj]
set_option maxRecDepth 100000 in
set_option maxHeartbeats 8000000 in
theorem less_vars (L S R : ByteArray) (sv : Value) (vs : List ByteArray) (hne : vs ≠ []) (hvs : vs.length ≤ 1000) (w : World) (hI : StrsAt w.heap.size w sv vs) (hC : CapOk sv) :
    Calls Tryd.prog 13 #[tagV L S R sv] w fun e W' => ∃ sv', e = .returned (.tuple #[tagV L S R sv', .bool true]) ∧ CapOk sv' ∧ StrsAt W'.heap.size W' sv' vs.dropLast ∧ Below w.heap.size w W' := by
  obtain ⟨i0, hi, hz0, hz1, hz2⟩ := info_parts infoStr
  rcases hI with ⟨_, rfl⟩ | ⟨b, off, cap, rfl, hb, hcs⟩
  · exact absurd rfl hne
  have hcap : vs.length ≤ cap := by
    obtain ⟨a, n, c, e, h⟩ := hC
    cases e; exact h
  have hcap1 : vs.length - 1 ≤ cap := by omega
  have hcap2 : (vs.length : Int) - 1 ≤ (cap : Int) := by omega
  clear hC
  have hl0 : 0 < vs.length := List.length_pos_iff.2 hne
  have hdl : vs.dropLast.length = vs.length - 1 := List.length_dropLast
  have hnews : ∀ j u, (vs.dropLast.map Value.string)[j]? = some u → w.cell? ((⟨b, off, none⟩ : Addr).add j) = some u := by
    intro j u hu
    obtain ⟨hj, hu'⟩ := List.getElem?_eq_some_iff.1 hu
    have hj' : j < vs.length - 1 := by simpa using hj
    rw [add_off, hcs j (by omega), ← hu']
    simp [show j < vs.length by omega]
  have H := Lib.hid hnews
  have HD := Lib.hid hdl
  clear hnews hcs hdl
  have e1 : ((vs.length : Int) - 1).toNat = vs.length - 1 := by omega
  have e2 : (0 : Int) ≤ (vs.length : Int) - 1 := by omega
  have e4 : (1 : Int) ≤ (vs.length : Int) := by omega
  have e3 : IntKind.i64.wrap ((vs.length : Int) - 1) = (vs.length : Int) - 1 := IntWalk.i64_in _ (by omega)
  have b1 := Lib.hid (show 0 + (vs.length - 1) ≤ maxLen by unfold maxLen; omega)
  have b2 := Lib.hid (show (0 + (vs.length - 1)) * 16 ≤ 140737488355328 by omega)
  unfold tagV
  go_enter Tryd.func13, Tryd.ntmps13
  go_wp2_with fail
  go_region_law (refine step_append_own rfl (.tmp 19) (.tmp 26) 23 rfl (w.heap.size + 1 + 1 + 1) 9 i0 (.string ByteArray.empty) 1 16 Tryd.underlying23 hi hz0 hz1 hz2 rfl (by decide) (.slice none 0 0) 0 [] (by simp [Act.eval, Act.put]) (World.ownsRow_nil _ _ _ _) ⟨b, off, none⟩ (vs.length - 1) cap (vs.dropLast.map Value.string) (by simp [Act.eval, Act.put]) (by simp) (fun j u hu => ((below_a3 w _ _ _).drew.cell (p := (⟨b, off, none⟩ : Addr).add j) (by rw [add_off]; exact hb)).trans (H.out j u hu)) (one_strs _) b1.out b2.out (by simp) ?_; intro v' w' hown hgrow; obtain ⟨A', c', rfl, hle'⟩ := row_out hown; obtain ⟨hc, hf⟩ := bcell (((Below.refl _ _).grown hgrow (Nat.le_refl _) (fun k e => by cases e)) : Below _ _ w'); have hgr := Lib.hid hgrow; have hro := Lib.hid hown; clear hgrow hown)
  all_goals
    go_wp2_with fail
    refine bodyPost_ret (v := .tuple #[tagV L S R (.slice A' (0 + (vs.length - 1)) c'), .bool true]) (by simp [results, Tryd.results13, go_sem, tagV, hc]) rfl ⟨_, rfl, ⟨_, _, _, rfl, hle'⟩, ?_, ?_⟩
    · exact less_strs hgr.out hro.out HD.out
    · exact less_below hgr.out
end Go.Proofs.YtldmldgkjkgkcaaDoor
