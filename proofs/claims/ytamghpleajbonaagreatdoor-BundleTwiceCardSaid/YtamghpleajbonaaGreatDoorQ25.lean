/-
  Several texts put together (part 25): what the law and the program call, walked; their contracts.
-/
import Derived.Test.YtamghpleajbonaaGreatDoorQ24
import Derived.Test.YtamghpleajbonaaGreatDoorQ10
namespace Go.Proofs.YtamghpleajbonaaGreatDoor
open Go.RowKit
set_option linter.unusedVariables false
set_option linter.unusedSimpArgs false
def LsAt (W : World) (F : Nat → Prop) (g o : Nat) (ls : List LN) : Prop := ∀ (k : Nat) (x : LN), ls[k]? = some x → W.cell? ⟨g, o + k * 3, none⟩ = some (.int .i64 x.feeds) ∧ W.cell? ⟨g, o + k * 3 + 1, none⟩ = some (.int .i64 x.spaces) ∧
  ∃ A c, W.cell? ⟨g, o + k * 3 + 2, none⟩ = some (.slice A x.parts.length c) ∧ PatF W F x.parts (.slice A x.parts.length c)
theorem LsAt.carry {W W' : World} {F F' : Nat → Prop} {g o : Nat} {ls : List LN} (h : LsAt W F g o ls) (hg : W'.heap[g]? = W.heap[g]?) (hF : ∀ b, F b → F' b ∧ W'.heap[b]? = W.heap[b]?) : LsAt W' F' g o ls := by
  intro k x hx
  obtain ⟨h1, h2, A, c, h3, h4⟩ := h k x hx
  exact ⟨(cell_same hg _).trans h1, (cell_same hg _).trans h2, A, c, (cell_same hg _).trans h3, h4.carry hF⟩
theorem LsAt.tail {W : World} {F : Nat → Prop} {g o : Nat} {x : LN} {ls : List LN} (h : LsAt W F g o (x :: ls)) : LsAt W F g (o + 3) ls := by
  intro k y hy
  have := h (k + 1) y (by simpa using hy)
  rw [show o + (k + 1) * 3 = o + 3 + k * 3 by omega] at this
  exact this
theorem leastS_zero : leastS [] = 0 := rfl
theorem leastS_snoc (ls : List LN) (y : LN) : leastS (ls ++ [y]) = if ls = [] ∨ y.spaces < leastS ls then y.spaces else leastS ls := by
  cases ls with
  | nil => simp [leastS]
  | cons x r => simp [leastS, List.foldl_append]
theorem leastS_take (ls : List LN) (k : Nat) (hk : k < ls.length) : leastS (ls.take (k + 1)) = if k = 0 ∨ ls[k].spaces < leastS (ls.take k) then ls[k].spaces else leastS (ls.take k) := by
  rw [List.take_succ_eq_append_getElem hk, leastS_snoc]
  have : (ls.take k = []) = (k = 0) := by
    rw [List.take_eq_nil_iff]
    exact propext ⟨fun h => h.elim id (fun e => by rw [e] at hk; exact absurd hk (Nat.not_lt_zero _)), Or.inl⟩
  simp only [this]
theorem leastS_le {ls : List LN} {m : Nat} (h : ∀ x ∈ ls, x.spaces ≤ m) : leastS ls ≤ m := by
  induction hn : ls.length generalizing ls with
  | zero => have := List.eq_nil_of_length_eq_zero hn; subst this; exact Nat.zero_le _
  | succ n ih =>
    obtain ⟨ys, y, rfl⟩ : ∃ ys y, ls = ys ++ [y] := ⟨ls.dropLast, ls.getLast (by intro e; rw [e] at hn; cases hn), (List.dropLast_concat_getLast _).symm⟩
    rw [leastS_snoc]
    have h1 := h y (by simp)
    have h2 := ih (ls := ys) (fun x hx => h x (by simp [hx])) (by simpa using hn)
    split <;> omega
set_option maxHeartbeats 2000000 in
set_option maxRecDepth 100000 in
theorem leastSpaces_any (ls : List LN) (F : Nat → Prop) (A : Option Addr) (g o c : Nat) (w : World) (hn : ls.length ≤ 4000000) (hsp : ∀ x ∈ ls, x.spaces ≤ 4000000) (hA : 0 < ls.length → A = some ⟨g, o, none⟩) (hc : LsAt w F g o ls) (hg : ls.length = 0 ∨ g < w.heap.size) :
    Calls Tryz.prog 114 #[.slice A ls.length c] w fun e w' => e = .returned (.int .i64 (leastS ls)) ∧ Below w.heap.size w w' := by
  have hn0 : (ls.length : Int) ≤ 4000000 := by omega
  have HC := Lib.hid hc
  have HA := Lib.hid hA
  have Hsp := Lib.hid hsp
  clear hc hA hsp
  go_enter Tryz.func114, Tryz.ntmps114
  go_wp2
  go_loopw [3, 8] (fun t3 t8 wr => ∃ k : Nat, t8 = .int .i64 k ∧ t3 = .int .i64 (leastS (ls.take k)) ∧ k ≤ ls.length ∧ Hid (Below w.heap.size w wr)) (fun _ t8 _ => ls.length - (intOf t8).toNat)
  case atStart => exact ⟨0, rfl, rfl, Nat.zero_le _, Below.refl _ _⟩
  case round =>
    obtain ⟨k, rfl, rfl, hk, HB⟩ := hrel
    have hk0 : (k : Int) ≤ 4000000 := by omega
    have hsz := HB.out.size
    obtain ⟨m, hm⟩ : ∃ m, leastS (ls.take k) = m := ⟨_, rfl⟩
    have hm0 : m ≤ 4000000 := by rw [← hm]; exact leastS_le (fun x hx => Hsp.out x (List.mem_of_mem_take hx))
    rw [hm]
    have Hm := Lib.hid hm
    clear hm
    by_cases hlt : k < ls.length
    · have hAe := HA.out (by omega)
      subst hAe
      have hstep := leastS_take ls k hlt
      obtain ⟨x, hx⟩ : ∃ x, ls[k]? = some x := ⟨_, List.getElem?_eq_getElem hlt⟩
      have hxe : ls[k] = x := by rw [List.getElem?_eq_getElem hlt] at hx; exact Option.some.inj hx
      rw [hxe, Hm.out] at hstep
      have hgl : g < w.heap.size := hg.resolve_left (by omega)
      obtain ⟨h1, h2, A3, c3, h3, h4⟩ := HC.out k x hx
      have e0 := HB.out.block g hgl
      have d0 := (cell_same e0 (o + k * 3)).trans h1
      have d1 := (cell_same e0 (o + k * 3 + 1)).trans h2
      have d2 := (cell_same e0 (o + k * 3 + 2)).trans h3
      have hxs : x.spaces ≤ 4000000 := Hsp.out x (List.mem_of_getElem? hx)
      have hf0 : ∃ f : Nat, x.feeds = f := ⟨_, rfl⟩
      have hlt' : decide ((k : Int) < (ls.length : Int)) = true := decide_eq_true (by omega)
      have hlt3 : (k : Int) < (ls.length : Int) := by omega
      have Hstep0 := Lib.hid hstep
      clear hstep h1 h2 h3 h4 e0 hx hxe
      obtain ⟨sp1, hsp1⟩ : ∃ q, x.spaces = q := ⟨_, rfl⟩
      obtain ⟨fd1, hfd1⟩ : ∃ q, x.feeds = q := ⟨_, rfl⟩
      obtain ⟨pl1, hpl1⟩ : ∃ q, x.parts.length = q := ⟨_, rfl⟩
      rw [hfd1] at d0
      have hstep2 := Hstep0.out
      rw [hsp1] at d1 hxs hstep2
      have Hstep := Lib.hid hstep2
      rw [hpl1] at d2
      have hs0 : (sp1 : Int) ≤ 4000000 := by omega
      have hgw : g < wr.heap.size := by omega
      have hAl := Lib.hid (HB.out.alloc (by omega) (.cells #[.int .i64 fd1, .int .i64 sp1, .slice A3 pl1 c3] 162))
      clear hsp1 hfd1 hpl1 hf0 hstep2 Hstep0
      by_cases hk1 : k = 0
      · have b0 : ((k : Int) == 0) = true := beq_iff_eq.2 (by omega)
        have hst := Hstep.out
        rw [if_pos (Or.inl hk1)] at hst
        have Hst := Lib.hid hst
        clear hst Hstep hk1
        go_wp2
        go_roundw
        case rel =>
          refine ⟨k + 1, ?_, ?_, by omega, HB.out.alloc (by omega) _⟩
          · show Value.int .i64 _ = _
            rw [show ((k + 1 : Nat) : Int) = (k : Int) + 1 by omega]
          · show Value.int .i64 _ = _
            rw [Hst.out]
        case measure =>
          show ls.length - ((k : Int) + 1).toNat < ls.length - ((k : Int)).toNat
          omega
      · have b0 : ((k : Int) == 0) = false := beq_eq_false_iff_ne.2 (by omega)
        by_cases hs1 : sp1 < m
        · have b1 : decide ((sp1 : Int) < (m : Int)) = true := decide_eq_true (by omega)
          have b2 : (sp1 : Int) < (m : Int) := by omega
          have hst := Hstep.out
          rw [if_pos (Or.inr hs1)] at hst
          have Hst := Lib.hid hst
          clear hst Hstep hk1 hs1
          go_wp2
          go_roundw
          case rel =>
            refine ⟨k + 1, ?_, ?_, by omega, HB.out.alloc (by omega) _⟩
            · show Value.int .i64 _ = _
              rw [show ((k + 1 : Nat) : Int) = (k : Int) + 1 by omega]
            · show Value.int .i64 _ = _
              rw [Hst.out]
          case measure =>
            show ls.length - ((k : Int) + 1).toNat < ls.length - ((k : Int)).toNat
            omega
        · have b1 : decide ((sp1 : Int) < (m : Int)) = false := decide_eq_false (by omega)
          have b2 : ¬ (sp1 : Int) < (m : Int) := by omega
          have hst := Hstep.out
          rw [if_neg (by omega)] at hst
          have Hst := Lib.hid hst
          clear hst Hstep hk1 hs1
          go_wp2
          go_roundw
          case rel =>
            refine ⟨k + 1, ?_, ?_, by omega, HB.out.alloc (by omega) _⟩
            · show Value.int .i64 _ = _
              rw [show ((k + 1 : Nat) : Int) = (k : Int) + 1 by omega]
            · show Value.int .i64 _ = _
              rw [Hst.out]
          case measure =>
            show ls.length - ((k : Int) + 1).toNat < ls.length - ((k : Int)).toNat
            omega
    · have hlt' : decide ((k : Int) < (ls.length : Int)) = false := decide_eq_false (by omega)
      have hlt3 : ¬ (k : Int) < (ls.length : Int) := by omega
      have hke : k = ls.length := by omega
      have Hke := Lib.hid hke
      clear hke
      go_wp2
      go_ret
      refine ⟨?_, HB.out⟩
      rw [← Hm.out, Hke.out, List.take_length]
      rfl
end Go.Proofs.YtamghpleajbonaaGreatDoor

namespace Go.Proofs.YtamghpleajbonaaGreatDoor
open Go.RowKit
set_option linter.unusedVariables false
set_option linter.unusedSimpArgs false
def RowJ (w : World) (F : Nat → Prop) (B : Nat) (acc : List EL) (W : World) (v : Value) : Prop := ∃ xs, W.ownsRow B 60 2 v acc.length xs ∧ EZip w F acc xs
abbrev BldJ (B tb : Nat) (bs : List UInt8) (W : World) : Prop := Lib.IsBuilderF 76 5 B tb (Lib.byteCells bs) W
structure JAt (w : World) (F : Nat → Prop) (B lb tb : Nat) (bx : List (Nat × Obj)) (acc : List EL) (bs : List UInt8) (W : World) : Prop where
  below : Below B w W
  row : ∃ v, BoxAt W lb #[v] 23 ∧ RowJ w F B acc W v ∧ ∀ q ∈ bx, W.heap[q.1]? = some q.2 ∧ v.ownBlock ≠ some q.1
  bld : BldJ B tb bs W
  lbB : B ≤ lb
  tbB : B ≤ tb
  BW : B ≤ W.heap.size
  ex : ∀ q ∈ bx, q.1 ≠ lb ∧ q.1 ≠ tb ∧ ∀ c fz, q.2 ≠ .cells c 5 fz
theorem row_kind {W : World} {B : Nat} {v : Value} {n : Nat} {xs : List Value} (h : W.ownsRow B 60 2 v n xs) {b : Nat} {cs : Array Value} {t : TypeId} {fz : Nat × Nat} (hb : W.heap[b]? = some (.cells cs t fz)) (ht : t ≠ 60) : v.ownBlock ≠ some b := by
  rcases h.2 with ⟨rfl, _⟩ | ⟨g, cap, cur, rfl, _, hg, _⟩
  · simp [Value.ownBlock]
  · intro h
    simp only [Value.ownBlock, Option.some.injEq] at h
    subst h
    rw [hg] at hb
    simp only [Option.some.injEq, Obj.cells.injEq] at hb
    exact ht hb.2.1.symm
theorem bld_heap {B tb : Nat} {bs : List UInt8} {W : World} (h : BldJ B tb bs W) : ∃ p v, W.heap[tb]? = some (.cells #[p, v] 76 (0, 0)) := by
  rcases h with ⟨_, v, hb, _⟩ | ⟨_, v, hb, _⟩ <;> exact ⟨_, _, hb⟩
theorem bldAt_kept {B tb : Nat} {p : Value} {bs : List Value} {W W' : World} (h : Lib.BuilderAtF 76 5 B tb p bs W) {row : Option Nat} (hg : W.grownBy W' row) (hr : ∀ k, row = some k → ∃ c t fz, W.heap[k]? = some (.cells c t fz) ∧ t ≠ 76 ∧ t ≠ 5) :
    Lib.BuilderAtF 76 5 B tb p bs W' := by
  have hlt := h.lt
  obtain ⟨hB, v, hb, hown, hne⟩ := h
  refine ⟨hB, v, ?_, hown.kept hg ?_, hne⟩
  · refine (hg.block tb hlt (fun e => ?_)).trans hb
    obtain ⟨c, t, fz, h1, h2, h3⟩ := hr tb e.symm
    rw [hb] at h1
    simp only [Option.some.injEq, Obj.cells.injEq] at h1
    exact h2 h1.2.1.symm
  · by_cases hv : v.ownBlock = none
    · exact .inl hv
    · refine .inr (fun e => ?_)
      obtain ⟨k, hk⟩ : ∃ k, v.ownBlock = some k := Option.ne_none_iff_exists'.1 hv
      obtain ⟨c, t, fz, h1, h2, h3⟩ := hr k (e.symm.trans hk)
      obtain ⟨c', fz', h4⟩ := Lib.ownsRowF_kind hown k hk
      rw [h4] at h1
      simp only [Option.some.injEq, Obj.cells.injEq] at h1
      exact h3 h1.2.1.symm
theorem bld_kept {B tb : Nat} {bs : List UInt8} {W W' : World} (h : BldJ B tb bs W) {row : Option Nat} (hg : W.grownBy W' row) (hr : ∀ k, row = some k → ∃ c t fz, W.heap[k]? = some (.cells c t fz) ∧ t ≠ 76 ∧ t ≠ 5) : BldJ B tb bs W' :=
  h.elim (fun h => .inl (bldAt_kept h hg hr)) (fun h => .inr (bldAt_kept h hg hr))
theorem JAt.write {w : World} {F : Nat → Prop} {B lb tb : Nat} {bx : List (Nat × Obj)} {acc : List EL} {bs bs' : List UInt8} {W W' : World} (h : JAt w F B lb tb bx acc bs W) (hb : BldJ B tb bs' W') (hB : Below B W W') (hk : Lib.OthersKept 5 (some tb) W W') : JAt w F B lb tb bx acc bs' W' := by
  obtain ⟨h1, ⟨v, h2, ⟨xs, h3, h4⟩, hx⟩, h5, h6, h7, h8, h9⟩ := h
  obtain ⟨p0, v0, htb⟩ := bld_heap h5
  refine ⟨h1.trans hB, ⟨v, ?_, ⟨xs, ?_, h4⟩, fun q hq => ⟨hk q.1 q.2 (hx q hq).1 (fun e => (h9 q hq).2.1 (Option.some.inj e)) (h9 q hq).2.2, (hx q hq).2⟩⟩, hb, h6, h7, Nat.le_trans h8 hB.size, h9⟩
  · refine hk lb _ h2 (fun e => ?_) (fun c fz e => ?_)
    · have e := Option.some.inj e
      subst e
      unfold BoxAt at h2
      rw [htb] at h2
      simp at h2
    · simp at e
  · refine ⟨h3.1, ?_⟩
    rcases h3.2 with hn | ⟨g, cap, cur, rfl, hb', hg, rest⟩
    · exact .inl hn
    · refine .inr ⟨g, cap, cur, rfl, hb', hk g _ hg (fun e => ?_) (fun c fz e => ?_), rest⟩
      · have e := Option.some.inj e
        subst e
        rw [htb] at hg
        simp at hg
      · simp at e
theorem JAt.more {w : World} {F : Nat → Prop} {B lb tb : Nat} {bx : List (Nat × Obj)} {acc : List EL} {bs : List UInt8} {W W' : World} (h : JAt w F B lb tb bx acc bs W) (hB : Below W.heap.size W W') : JAt w F B lb tb bx acc bs W' := by
  obtain ⟨h1, ⟨v, h2, ⟨xs, h3, h4⟩, hx⟩, h5, h6, h7, h8, h9⟩ := h
  have hg : W.grownBy W' none := ⟨hB.os, hB.tape, hB.output, hB.size, fun k hk _ => hB.block k hk⟩
  exact ⟨h1.trans (hB.mono h8), ⟨v, h2.later hB, ⟨xs, h3.kept hg (by by_cases h : v.ownBlock = none; exact .inl h; exact .inr h), h4⟩, fun q hq => ⟨(hB.block q.1 (Array.getElem?_eq_some_iff.1 (hx q hq).1).1).trans (hx q hq).1, (hx q hq).2⟩⟩, bld_kept h5 hg (fun k e => by cases e), h6, h7, Nat.le_trans h8 hB.size, h9⟩
theorem JAt.put {w : World} {F : Nat → Prop} {B lb tb : Nat} {bx : List (Nat × Obj)} {acc : List EL} {bs : List UInt8} {W : World} (h : JAt w F B lb tb bx acc bs W) (o : Obj) (ho : ∀ c fz, o ≠ .cells c 5 fz) : JAt w F B lb tb ((W.heap.size, o) :: bx) acc bs (W.alloc o) := by
  have h' := h.more ((Below.refl _ W).alloc (Nat.le_refl _) o)
  obtain ⟨p0, v0, htb⟩ := bld_heap h.bld
  obtain ⟨v, h2, ⟨xs, h3, h4⟩, hx⟩ := h'.row
  obtain ⟨v1, g2, ⟨xs1, g3, g4⟩, _⟩ := h.row
  have hvv : v = v1 := by
    have e1 := g2.alloc o
    unfold BoxAt at e1 h2
    rw [e1] at h2
    simp at h2
    exact h2.symm
  refine ⟨h'.below, ⟨v, h2, ⟨xs, h3, h4⟩, fun q hq => ?_⟩, h'.bld, h'.lbB, h'.tbB, h'.BW, fun q hq => ?_⟩
  · rcases List.mem_cons.1 hq with rfl | hq
    · refine ⟨(by show (W.heap.push o)[W.heap.size]? = some o; simp : (W.alloc o).heap[W.heap.size]? = some o), fun e => ?_⟩
      rw [hvv] at e
      have := (g3.lt _ e).2
      omega
    · exact hx q hq
  · rcases List.mem_cons.1 hq with rfl | hq
    · have a1 := g2.lt
      have a2 := (Array.getElem?_eq_some_iff.1 htb).1
      exact ⟨by show W.heap.size ≠ lb; omega, by show W.heap.size ≠ tb; omega, ho⟩
    · exact h'.ex q hq
theorem JAt.drop {w : World} {F : Nat → Prop} {B lb tb : Nat} {bx bx' : List (Nat × Obj)} {acc : List EL} {bs : List UInt8} {W : World} (h : JAt w F B lb tb bx acc bs W) (hs : ∀ q ∈ bx', q ∈ bx) : JAt w F B lb tb bx' acc bs W := by
  obtain ⟨h1, ⟨v, h2, ⟨xs, h3, h4⟩, hx⟩, h5, h6, h7, h8, h9⟩ := h
  exact ⟨h1, ⟨v, h2, ⟨xs, h3, h4⟩, fun q hq => hx q (hs q hq)⟩, h5, h6, h7, h8, fun q hq => h9 q (hs q hq)⟩
theorem JAt.at_ {w : World} {F : Nat → Prop} {B lb tb : Nat} {bx : List (Nat × Obj)} {acc : List EL} {bs : List UInt8} {W : World} (h : JAt w F B lb tb bx acc bs W) {k : Nat} {o : Obj} (hk : (k, o) ∈ bx) : W.heap[k]? = some o := by
  obtain ⟨_, ⟨v, _, _, hx⟩, _⟩ := h
  exact (hx _ hk).1
theorem JAt.push {w : World} {F : Nat → Prop} {B lb tb : Nat} {bx : List (Nat × Obj)} {acc : List EL} {bs : List UInt8} {W W' : World} {v v' : Value} {xs : List Value} {t : ByteArray} {p : Option EX} {u : Value} (h : JAt w F B lb tb bx acc bs W) (hl : BoxAt W lb #[v] 23) (hr : W.ownsRow B 60 2 v acc.length xs) (hz : EZip w F acc xs)
    (hx : ∀ q ∈ bx, W.heap[q.1]? = some q.2 ∧ v.ownBlock ≠ some q.1) (hg : W.grownBy W' v.ownBlock) (hw : v'.ownBlock = v.ownBlock ∨ v'.ownBlock = some W.heap.size) (ho : W'.ownsRow B 60 2 v' (acc.length + 1) (xs ++ [.string t, u])) (hp : OF w F p u) : JAt w F B lb tb bx (acc ++ [.mk t p]) bs (W'.setCell ⟨lb, 0, none⟩ v') := by
  obtain ⟨h1, _, h5, h6, h7, h8, h9⟩ := h
  have hne := row_kind hr hl (by decide)
  have hl2 : BoxAt W' lb #[v] 23 := (hg.block lb hl.lt (fun e => hne e.symm)).trans hl
  have hs : W'.grownBy (W'.setCell ⟨lb, 0, none⟩ v') (some lb) := ⟨rfl, rfl, rfl, by simp, fun k _ hk => Below.heap_setCell _ _ _ _ (fun e => hk (by simp [e]))⟩
  have hne2 := row_kind ho hl2 (by decide)
  refine ⟨(h1.grown hg h8 (fun k hk => (hr.lt k hk).1)).setCell (p := ⟨lb, 0, none⟩) h6 _, ⟨v', ?_, ⟨xs ++ [.string t, u], ?_, EZip.snoc hp acc xs hz⟩, fun q hq => ?_⟩, ?_, h6, h7, ?_, h9⟩
  · unfold BoxAt at hl2 ⊢
    simp [World.setCell, Array.getElem?_modify, hl2]
  · rw [List.length_append]
    exact ho.kept hs (.inr hne2)
  · obtain ⟨e1, e2⟩ := hx q hq
    have hql := (Array.getElem?_eq_some_iff.1 e1).1
    refine ⟨(Below.heap_setCell _ _ _ q.1 (h9 q hq).1).trans ((hg.block q.1 hql (fun e => e2 e.symm)).trans e1), ?_⟩
    rcases hw with e | e
    · rw [e]; exact e2
    · rw [e]; intro e3; have := Option.some.inj e3; omega
  · refine bld_kept (bld_kept h5 hg (fun k hk => ?_)) hs (fun k hk => ?_)
    · rcases hr.2 with ⟨rfl, _⟩ | ⟨g, cap, cur, rfl, _, hgg, _⟩
      · simp [Value.ownBlock] at hk
      · simp only [Value.ownBlock, Option.some.injEq] at hk
        subst hk
        exact ⟨_, _, _, hgg, by decide, by decide⟩
    · have := Option.some.inj hk
      subst this
      exact ⟨_, _, _, hl2, by decide, by decide⟩
  · have := hg.size
    simp
    omega
set_option maxHeartbeats 2000000 in
set_option maxRecDepth 100000 in
theorem bld_Reset {B tb : Nat} {bs : List UInt8} (w : World) (h : BldJ B tb bs w) (hB : B ≤ tb) :
    Calls Tryz.prog 113 #[.pointer (some ⟨tb, 0, none⟩)] w fun e w' => e = .returned (.tuple #[]) ∧ BldJ B tb [] w' ∧ Below B w w' ∧ Lib.OthersKept 5 (some tb) w w' := by
  obtain ⟨p, v, hb⟩ := bld_heap h
  have c0 : w.cell? ⟨tb, 0, none⟩ = some p := by rw [Lib.cell_of_heap hb]; rfl
  have c1 : w.cell? ⟨tb, 1, none⟩ = some v := by rw [Lib.cell_of_heap hb]; rfl
  have f0 : w.frozen? ⟨tb, 0, none⟩ = false := Lib.frozen_of_heap hb 0
  have f1 : w.frozen? ⟨tb, 1, none⟩ = false := Lib.frozen_of_heap hb 1
  have Hb := Lib.hid hb
  clear h hb
  go_enter Tryz.func113, Tryz.ntmps113
  go_wp2
  go_end0
  have hb := Hb.out
  refine ⟨rfl, .inl ⟨hB, .slice none 0 0, ?_, World.ownsRowF_nil _ _ _ _, by simp [Value.ownBlock]⟩, ((Below.refl B w).setCell (p := ⟨tb, 0, none⟩) hB _).setCell (p := ⟨tb, 1, none⟩) hB _, ((Lib.OthersKept.refl _ _ w).setCell ⟨tb, 0, none⟩ rfl _).setCell ⟨tb, 1, none⟩ rfl _⟩
  simp [World.setCell, Array.getElem?_modify, hb]
def addX (acc : List EL) (X : ByteArray) : List EL := if X.toList.isEmpty = true then acc else acc ++ [.mk X none]
set_option maxHeartbeats 2000000 in
set_option maxRecDepth 100000 in
theorem joinEnd_any {w : World} {F : Nat → Prop} {B lb tb : Nat} {bx : List (Nat × Obj)} {acc : List EL} {bs : List UInt8} (X : ByteArray) (W : World) (h : JAt w F B lb tb bx acc bs W) (hn : acc.length ≤ 40000000) :
    Calls Tryz.prog 112 #[.string X, .pointer (some ⟨lb, 0, none⟩), .pointer (some ⟨tb, 0, none⟩)] W fun e W' => e = .returned (.tuple #[]) ∧ JAt w F B lb tb bx (addX acc X) [] W' := by
  obtain ⟨i0, hi0, hz0, hz1, hz2⟩ := info_parts infoL
  have HR := Lib.hid (fun (l : List EL) (cs : List UInt8) (U : World) (h : JAt w F B lb tb bx l cs U) => bld_Reset U h.bld h.tbB)
  have HJ := Lib.hid h
  have hn0 : (acc.length : Int) ≤ 40000000 := by omega
  obtain ⟨v, hv, ⟨xs, hr, hz⟩, hxx⟩ := h.row
  have c0 := hv.cell 0
  have f0 := Lib.frozen_of_heap hv 0
  have hlt := hv.lt
  have hBW := h.BW
  simp at c0
  unfold addX
  cases hx : X.toList.isEmpty
  case true =>
    rw [if_pos rfl]
    clear h hxx
    go_enter Tryz.func112, Tryz.ntmps112
    go_wp2_with fail
    go_at_call 113
    refine (HR.out _ _ _ HJ.out).mono ?_
    rintro e W' ⟨rfl, h1, h2, h3⟩
    have HJ2 := Lib.hid (HJ.out.write h1 h2 h3)
    clear h1 h2 h3
    go_wp2
    go_end0
    exact ⟨rfl, HJ2.out⟩
  case false =>
    rw [if_neg (by simp)]
    have hown1 := hr.alloc (.cells #[.string X, .pointer none] 60)
    have HV := Lib.hid hv
    have HRr := Lib.hid hr
    have HZ := Lib.hid hz
    have HX := Lib.hid hxx
    clear h hv hr hz hxx
    go_enter Tryz.func112, Tryz.ntmps112
    go_wp2_with (at_builtin; refine wpList_append_where _ rfl _ _ 23 rfl B 60 i0 (.agg #[.string ⟨#[]⟩, .pointer none]) 2 24 Tryz.underlying23 hi0 hz0 hz1 hz2 rfl (by decide) _ _ _ rfl hown1 ⟨W.heap.size, 0, none⟩ 1 1 [.string X, .pointer none] rfl rfl ?c1 ?c2 ?c3 ?c4 ?c5 ?c6 ?_)
    case c1 =>
      intro j u hj
      match j, hj with
      | 0, hj => simp at hj; subst hj; simp [Addr.add]
      | 1, hj => simp at hj; subst hj; simp [Addr.add]
    case c2 => intro u hu; simp at hu; rcases hu with rfl | rfl <;> rfl
    case c3 => unfold maxLen; omega
    case c4 => omega
    case c5 => simp; omega
    case c6 => decide
    intro v' W8 hown' hgrow hwh
    have hbel : Below W.heap.size W (W.alloc (.cells #[.string X, .pointer none] 60)) := (Below.refl _ W).alloc (Nat.le_refl _) _
    have HJ8 := Lib.hid ((HJ.out.more hbel).push (p := none) (HV.out.later hbel) hown1 HZ.out (fun q hq => ⟨(hbel.block q.1 (Array.getElem?_eq_some_iff.1 (HX.out q hq).1).1).trans (HX.out q hq).1, (HX.out q hq).2⟩) hgrow (by simpa using hwh) hown' (by simp only [OF]))
    have hne := row_kind hown1 (HV.out.later hbel) (by decide)
    have hl8 : BoxAt W8 lb #[v] 23 := (hgrow.block lb (HV.out.later hbel).lt (fun e => hne e.symm)).trans (HV.out.later hbel)
    have d0 := hl8.cell 0
    have g0 := Lib.frozen_of_heap hl8 0
    have hlt8 := hl8.lt
    simp at d0
    obtain ⟨A2, c2, rfl⟩ := own_slice hown' (by omega)
    clear hown' hgrow hwh hbel hne hl8 hown1 c0 f0 hlt
    go_wp2_with fail
    go_at_call 113
    refine (HR.out _ _ _ HJ8.out).mono ?_
    rintro e W' ⟨rfl, h1, h2, h3⟩
    have HJ2 := Lib.hid (HJ8.out.write h1 h2 h3)
    clear h1 h2 h3
    go_wp2
    go_end0
    exact ⟨rfl, HJ2.out⟩
end Go.Proofs.YtamghpleajbonaaGreatDoor

namespace Go.Proofs.YtamghpleajbonaaGreatDoor
open Go.RowKit
set_option linter.unusedVariables false
set_option linter.unusedSimpArgs false
theorem repeatL_one (c : UInt8) (n : Nat) : Lib.repeatL [c] n = List.replicate n c := by
  induction n with
  | zero => rfl
  | succ n ih => rw [Lib.repeatL, ih, List.replicate_succ]; rfl
theorem rep_any (c : UInt8) (n : Nat) (w : World) (hn : n ≤ 4000000) : Calls Tryz.prog 116 #[.string ⟨#[c]⟩, .int .i64 n] w fun e w' => e = .returned (.string (mkB (List.replicate n c))) ∧ Below w.heap.size w w' := by
  have h := Tryz.strings_Repeat ⟨#[c]⟩ n w (by omega) (by show 1 * n ≤ _; omega)
  rw [show (⟨#[c]⟩ : ByteArray).data.toList = [c] from rfl, repeatL_one] at h
  exact h
theorem mkB_data (l : List UInt8) : (mkB l).data.toList = l := rfl
theorem mkB_size (l : List UInt8) : (mkB l).size = l.length := rfl
theorem mkB_empty (l : List UInt8) : ((mkB l).toList.isEmpty = true) = (l = []) := by
  rw [Lib.toList_data, mkB_data]
  cases l <;> simp
theorem trim_any (l : List UInt8) (w : World) (hl : l.length ≤ 400000000) : Calls Tryz.prog 117 #[.string (mkB l), .string ⟨#[32]⟩] w fun e w' => e = .returned (.string (mkB (trimR l))) ∧ w' = w := by
  have h := Tryz.strings_TrimRight_one (mkB l) 32 (by decide) w (by rw [mkB_size]; omega)
  rw [mkB_data] at h
  exact h
section
variable {w : World} {F : Nat → Prop} {B lb tb : Nat} {bx : List (Nat × Obj)} {acc : List EL} {bs : List UInt8}
theorem JAt.writeStr (X : ByteArray) (W : World) (h : JAt w F B lb tb bx acc bs W) (hn : bs.length + X.size ≤ 140737488355328) :
    Calls Tryz.prog 80 #[.pointer (some ⟨tb, 0, none⟩), .string X] W fun e W' => e = .returned (.tuple #[.int .i64 X.size, .nilIface]) ∧ JAt w F B lb tb bx acc (bs ++ X.data.toList) W' := by
  refine (bld_WriteString B tb (Lib.byteCells bs) X W h.bld (by rw [Lib.byteCells, List.length_map]; omega) h.BW).mono ?_
  rintro e W' ⟨he, h1, h2, h3⟩
  refine ⟨he, h.write ?_ h2 h3⟩
  rw [Lib.strCells_eq, ← Lib.byteCells_append] at h1
  exact .inr h1
theorem JAt.str (W : World) (h : JAt w F B lb tb bx acc bs W) : Calls Tryz.prog 32 #[.pointer (some ⟨tb, 0, none⟩)] W fun e W' => e = .returned (.string (mkB bs)) ∧ JAt w F B lb tb bx acc bs W' := by
  refine (Tryz.Builder_String_any_k B tb bs W h.bld h.BW).mono ?_
  rintro e W' ⟨he, h1, h2, h3⟩
  exact ⟨he, h.write h1 h2 h3⟩
theorem JAt.len (W : World) (h : JAt w F B lb tb bx acc bs W) : Calls Tryz.prog 115 #[.pointer (some ⟨tb, 0, none⟩)] W fun e W' => e = .returned (.int .i64 bs.length) ∧ W' = W := by
  have := Tryz.Builder_Len_f B tb (Lib.byteCells bs) W h.bld
  rw [Lib.byteCells, List.length_map] at this
  exact this
end
theorem addX_endS (acc : List EL) (bs : List UInt8) : addX acc (mkB bs) = endS (acc, bs) := by
  unfold addX endS
  by_cases h : bs = []
  · rw [if_pos (by rw [mkB_empty]; exact h), if_pos h]
  · rw [if_neg (by rw [mkB_empty]; exact h), if_neg h]
theorem leastS_mem (ls : List LN) (x : LN) (hx : x ∈ ls) : leastS ls ≤ x.spaces := by
  induction hn : ls.length generalizing ls with
  | zero => have := List.eq_nil_of_length_eq_zero hn; subst this; cases hx
  | succ n ih =>
    obtain ⟨ys, y, rfl⟩ : ∃ ys y, ls = ys ++ [y] := ⟨ls.dropLast, ls.getLast (by intro e; rw [e] at hn; cases hn), (List.dropLast_concat_getLast _).symm⟩
    rw [leastS_snoc]
    rcases List.mem_append.1 hx with h | h
    · have h2 := ih ys h (by simpa using hn)
      have hne : ys ≠ [] := fun e => by rw [e] at h; cases h
      by_cases hlt : y.spaces < leastS ys
      · rw [if_pos (Or.inr hlt)]; omega
      · rw [if_neg (by rintro (h | h) <;> contradiction)]; exact h2
    · have e := List.mem_singleton.1 h
      subst e
      split
      · exact Nat.le_refl _
      · next h => have h : ¬ (ys = [] ∨ x.spaces < leastS ys) := h; omega
def elW : EL → Nat | .mk t _ => 1 + t.size
def wtP (l : List EL) : Nat := (l.map elW).sum
def wtL (x : LN) : Nat := 1 + x.feeds + x.spaces + wtP x.parts
def wtLs (ls : List LN) : Nat := (ls.map wtL).sum
theorem endS_len (b : JS) : (endS b).length ≤ b.1.length + b.2.length := by
  unfold endS
  split
  · omega
  · next h =>
    rw [List.length_append, List.length_singleton]
    have : 0 < b.2.length := List.length_pos_iff.2 h
    omega
theorem partJ_len (b : JS) (e : EL) : (partJ b e).1.length + (partJ b e).2.length ≤ b.1.length + b.2.length + elW e := by
  obtain ⟨t, p⟩ := e
  cases p with
  | none =>
    show b.1.length + (b.2 ++ t.data.toList).length ≤ _
    rw [List.length_append, size_data]
    show _ ≤ _ + (1 + t.size)
    omega
  | some x =>
    show (endS b ++ [EL.mk t (some x)]).length + 0 ≤ _
    rw [List.length_append, List.length_singleton]
    have := endS_len b
    show _ ≤ _ + (1 + t.size)
    omega
theorem partsJ_len (l : List EL) (b : JS) : (l.foldl partJ b).1.length + (l.foldl partJ b).2.length ≤ b.1.length + b.2.length + wtP l := by
  induction l generalizing b with
  | nil => simp [wtP]
  | cons e r ih =>
    rw [List.foldl_cons]
    have h1 := ih (partJ b e)
    have h2 := partJ_len b e
    unfold wtP at *
    rw [List.map_cons, List.sum_cons]
    omega
theorem headJ_len (m : Nat) (b : JS) (x : LN) : (headJ m b x).1.length + (headJ m b x).2.length ≤ b.1.length + b.2.length + x.feeds + x.spaces := by
  unfold headJ
  split
  · omega
  · simp only [List.length_append, List.length_replicate]
    omega
theorem lineJ_len (m : Nat) (b : JS) (x : LN) : (lineJ m b x).1.length + (lineJ m b x).2.length ≤ b.1.length + b.2.length + wtL x := by
  unfold lineJ wtL
  have h1 := partsJ_len x.parts (headJ m b x)
  have h2 := headJ_len m b x
  omega
theorem linesJ_len (m : Nat) (ls : List LN) (b : JS) : (ls.foldl (lineJ m) b).1.length + (ls.foldl (lineJ m) b).2.length ≤ b.1.length + b.2.length + wtLs ls := by
  induction ls generalizing b with
  | nil => simp [wtLs]
  | cons x r ih =>
    rw [List.foldl_cons]
    have h1 := ih (lineJ m b x)
    have h2 := lineJ_len m b x
    unfold wtLs at *
    rw [List.map_cons, List.sum_cons]
    omega
end Go.Proofs.YtamghpleajbonaaGreatDoor
