/-
  Several texts put together (part 20): what the law and the program call, walked; their contracts.
-/
import Derived.Test.YthlccfjhgejlmaaGreatDoorQ19
import Derived.Deep.Upon
import Derived.RangeFuncBox
import Derived.RangeFuncLeaves
import Derived.RangeFuncFrom
import Derived.RangeFuncKeeps
import Derived.RangeFuncNested
import Derived.Shelf.Abstract
import Derived.WalkKit
import Derived.OwnWalkIn
import Derived.TacticsInMore
import Derived.LoopNIn
import Derived.LoopIn
import Derived.Test.YthlccfjhgejlmaaGreatDoorQ16
namespace Go.Proofs.YthlccfjhgejlmaaGreatDoor
open Go.RowKit Go.Shelf Go.ChangeMaps
set_option linter.unusedVariables false
set_option linter.unusedSimpArgs false
attribute [local go_sem] Oper.semAt_some
theorem run_spread {B B' : Nat} {W : World} {v u : Value} {l m : List TG} (hv : OwnTg B W v l) (hu : OwnTg B' W u m) (hs : l.length + m.length ≤ 1000000000) (hB : B ≤ W.heap.size) :
    ∃ v' W', (Builtin.append_ #[29, 29] 29 #[v, u]).run Tryz.prog W = .ok v' W' ∧ OwnTg B W' v' (l ++ m) ∧ W.grownBy W' v.ownBlock := by
  obtain ⟨i0, hinf, hz0, hz1, hz2⟩ := info_parts infoTg
  obtain ⟨A, c, rfl, hc⟩ := hu.slice
  obtain ⟨Av, cv, hve, hcv⟩ := hv.slice
  cases m with
  | nil =>
    have hsrc : Src Tryz.prog i0.size 29 (.slice A 0 c) 0 [] W := by
      cases A with
      | none => exact Src.ofNil W Tryz.underlying29 c
      | some a => exact Src.ofSlice W Tryz.underlying29 a 0 c [] (by simp) (fun j u h => by simp at h) (fun u h => by cases h)
    have hr := run_append_nothing (P := Tryz.prog) W 29 29 29 26 i0 Tryz.underlying29 hinf Av l.length cv hcv _ hsrc
    exact ⟨v, W, by rw [hve]; exact hr, by rw [List.append_nil]; exact hv, ⟨rfl, rfl, rfl, Nat.le_refl _, fun _ _ _ => rfl⟩⟩
  | cons x r =>
    obtain ⟨g, cap, hg⟩ := own_someN (n := r.length) hu
    cases hg
    obtain ⟨v', w', h1, h2, h3, _⟩ := run_append_where (P := Tryz.prog) W B 29 29 26 i0 zTg 4 72 Tryz.underlying29 hinf hz0 hz1 hz2 rfl (by decide) v l.length (tgCells l) hv ⟨g, 0, none⟩ (x :: r).length c (tgCells (x :: r)) (tgCells_len _) (fun j u h => World.ownsRow.cells hu (g := g) rfl j u h) (tgCells_one _) (by unfold maxLen; omega) (by omega) hB (by simp)
    refine ⟨v', w', h1, ?_, h3⟩
    unfold OwnTg
    rw [tgCells_app, List.length_append]
    exact h2
def bwd (len k : Nat) : List Nat := (List.range k).map fun i => len - 1 - i
theorem bwd_succ (len k : Nat) : bwd len (k + 1) = bwd len k ++ [len - 1 - k] := by simp [bwd, List.range_succ]
theorem bwd_length (len k : Nat) : (bwd len k).length = k := by simp [bwd]
def Kn (W W' : World) : Prop := ∀ (k : Nat) (cs : Array Value) (t : TypeId), t = 78 ∨ t = 81 → W.heap[k]? = some (Obj.cells cs t (0, 0)) → W'.heap[k]? = some (Obj.cells cs t (0, 0))
theorem Kn.refl (W : World) : Kn W W := fun _ _ _ _ h => h
theorem Kn.trans {A B C : World} (h : Kn A B) (g : Kn B C) : Kn A C := fun k cs t ht e => g k cs t ht (h k cs t ht e)
theorem Kn.put {w : World} (W : World) (l : Nat) (o o' : Obj) (_ : w.heap.size ≤ l) (h : W.heap[l]? = some o) (ho : o.isCells = false) (_ : o.isWalk = false) : Kn W (W.putObj l o') := fun k cs t ht e => by
  refine ((grownBy_putObj' W l o').block k (Array.getElem?_eq_some_iff.1 e).1 (fun e' => ?_)).trans e
  cases e'
  rw [e] at h
  cases h
  cases ho
theorem Kn.of_below {n : Nat} {W W' : World} (h : Below n W W') (hn : W.heap.size ≤ n) : Kn W W' := fun k cs t _ e => (h.block k (by have := (Array.getElem?_eq_some_iff.1 e).1; omega)).trans e
set_option maxRecDepth 100000 in
set_option maxHeartbeats 4000000 in
theorem back1_in (F : Fence) (n : Nat) (h7 : F.fn 66) (hro : F.round = none) (hn : 1 ≤ n) (l Bs pb len cap : Nat) (cur : Array Value) (X : Nat → Nat) (hX : ∀ j, j < len → cur[j]? = some (.pointer (some ⟨X j, 0, none⟩))) (hreach : len ≤ 4000000) (J Jx : List Nat → World → Prop)
    (hY : ∀ pre x W, J pre W → pre.length < len → YieldAt F (n - 1) Tryz.prog l #[.int .i64 (x : Nat), .pointer (some ⟨X x, 0, none⟩)] W fun e W' =>
      (e = .returned (.bool true) ∧ J (pre ++ [x]) W' ∧ Kn W W') ∨ (e = .returned (.bool false) ∧ Jx (pre ++ [x]) W'))
    (W : World) (hBs : Boxed W Bs 81 (.slice (some ⟨pb, 0, none⟩) len cap)) (hpb : W.heap[pb]? = some (.cells cur 78 (0, 0))) (h0 : J [] W) :
    CallsIn F n Tryz.prog 66 #[.func (.yield l) #[] #[], .pointer (some ⟨Bs, 0, none⟩)] W fun e W' => (∃ v, e = .returned v) ∧
      ((∃ ys, ys = bwd len len ∧ J ys W') ∨ (∃ pre, (∃ k, k ≤ len ∧ pre = bwd len k) ∧ Jx pre W')) := by
  have w1 : wrap64 ((len : Int) - 1) = (len : Int) - 1 := by unfold wrap64; omega
  have hB0 := hBs.cell
  refine callsIn_of_wp Tryz.func66 rfl h7 ?_ hro
  simp only [Tryz.ntmps66, List.size_toArray, List.length_cons, List.length_nil, Nat.reduceAdd, Nat.reduceSub, Array.replicate_succ, Array.replicate_zero, List.push_toArray, List.append_toArray, List.nil_append, List.cons_append]
  gi_wp2
  have HX := Lib.hid hX
  have HBs := Lib.hid hBs
  have HPb := Lib.hid hpb
  clear hX hBs hpb hB0
  gi_loopw [3] (fun i wr => ∃ m : Nat, m ≤ len ∧ i = .int .i64 ((m : Int) - 1) ∧ J (bwd len (len - m)) wr ∧ Hid (Boxed wr Bs 81 (.slice (some ⟨pb, 0, none⟩) len cap)) ∧ Hid (wr.heap[pb]? = some (.cells cur 78 (0, 0))))
    (fun i _ => (intOf i + 1).toNat)
  case atStart => exact ⟨len, Nat.le_refl _, rfl, by rw [Nat.sub_self]; exact h0, HBs, HPb⟩
  case round =>
    obtain ⟨m, hm, rfl, hJs, HB, HP⟩ := hrel
    cases m with
    | zero =>
      gi_wp2
      go_end0
      rw [Nat.sub_zero] at hJs
      exact ⟨⟨_, rfl⟩, .inl ⟨_, rfl, hJs⟩⟩
    | succ q =>
      have e1 : ((q + 1 : Nat) : Int) - 1 = (q : Int) := by omega
      have e2 : bwd len (len - (q + 1)) ++ [q] = bwd len (len - q) := by
        have := bwd_succ len (len - (q + 1))
        rw [show len - (q + 1) + 1 = len - q by omega, show len - 1 - (len - (q + 1)) = q by omega] at this
        exact this.symm
      obtain ⟨fn, tmps, assign, body, hy, hR⟩ := hY _ q wr hJs (by rw [bwd_length]; omega)
      rw [e2] at hR
      have k0 : wr.cell? ⟨pb, q, none⟩ = some (.pointer (some ⟨X q, 0, none⟩)) := by
        simp [World.cell?, HP.out, HX.out q (by omega)]
      have k1 := HB.out.cell
      rw [e1]
      have f1 : decide ((0 : Int) ≤ (q : Int)) = true := decide_eq_true (by omega)
      have f2 : q < len := by omega
      gi_wp2
      refine hR.mono ?_
      rintro e W3 (⟨rfl, hJ3, hk3⟩ | ⟨rfl, hJx3⟩)
      · have HB3 := Lib.hid (show Boxed W3 Bs 81 (.slice (some ⟨pb, 0, none⟩) len cap) from hk3 _ _ _ (.inr rfl) HB.out)
        have HP3 := Lib.hid (hk3 _ _ _ (.inl rfl) HP.out)
        clear hk3
        gi_wp2
        go_roundw
        case rel => exact ⟨q, by omega, by simp, hJ3, HB3, HP3⟩
        case measure => simp [intOf]
      · gi_wp2
        refine bodyPost_ret (results_none rfl _ _ _) rfl ?_
        exact ⟨⟨_, rfl⟩, .inr ⟨_, ⟨len - q, by omega, rfl⟩, hJx3⟩⟩
set_option maxHeartbeats 1000000 in
theorem backward_in (F : Fence) (n : Nat) (h5 : F.fn 52) (hro : F.round = none) (a : Option Addr) (len cap : Nat) (w : World) :
    CallsIn F n Tryz.prog 52 #[.slice a len cap] w fun e w' => e = .returned (.func (.func 66) #[] #[.pointer (some ⟨w.heap.size, 0, none⟩)]) ∧ w' = w.alloc (.cells #[.slice a len cap] 81) := by
  refine callsIn_of_wp Tryz.func52 rfl h5 ?_ hro
  simp only [Tryz.ntmps52, List.size_toArray, List.length_cons, List.length_nil, Nat.reduceAdd, Nat.reduceSub, Array.replicate_succ, Array.replicate_zero, List.push_toArray, List.append_toArray, List.nil_append, List.cons_append]
  gi_wp2
  go_ret
  exact ⟨rfl, rfl⟩
set_option maxRecDepth 100000 in
set_option maxHeartbeats 2000000 in
theorem back0_in (F : Fence) (n : Nat) (h7 : F.fn 66) (hro : F.round = none) (l Bs : Nat) (A : Option Addr) (cap : Nat) (J : List Nat → World → Prop) (W : World) (hBs : W.cell? ⟨Bs, 0, none⟩ = some (.slice A 0 cap)) (h0 : J [] W) :
    CallsIn F n Tryz.prog 66 #[.func (.yield l) #[] #[], .pointer (some ⟨Bs, 0, none⟩)] W fun e W' => (∃ v, e = .returned v) ∧ J [] W' := by
  refine callsIn_of_wp Tryz.func66 rfl h7 ?_ hro
  simp only [Tryz.ntmps66, List.size_toArray, List.length_cons, List.length_nil, Nat.reduceAdd, Nat.reduceSub, Array.replicate_succ, Array.replicate_zero, List.push_toArray, List.append_toArray, List.nil_append, List.cons_append]
  gi_wp2
  gi_loopw [3] (fun i wr => i = .int .i64 (-1) ∧ J [] wr) (fun _ _ => 0)
  case atStart => exact ⟨rfl, h0⟩
  case round =>
    obtain ⟨rfl, hJs⟩ := hrel
    gi_wp2
    go_end0
    exact ⟨⟨_, rfl⟩, hJs⟩
theorem back_stops (F : Fence) (n : Nat) (h7 : F.fn 66) (hro : F.round = none) (hn : 1 ≤ n) (Bs : Nat) (A : Option Addr) (len cap : Nat) (X : Nat → Nat) (hreach : len ≤ 4000000) (w : World)
    (hBs : Boxed w Bs 81 (.slice A len cap)) (hc : 0 < len → ∃ pb cur, A = some ⟨pb, 0, none⟩ ∧ w.heap[pb]? = some (.cells cur 78 (0, 0)) ∧ ∀ j, j < len → cur[j]? = some (.pointer (some ⟨X j, 0, none⟩))) :
    SeqStopsK F n Tryz.prog 66 #[.pointer (some ⟨Bs, 0, none⟩)] (fun x : Nat => #[Value.int .i64 (x : Nat), .pointer (some ⟨X x, 0, none⟩)]) Kn (fun ys => ys = bwd len len) (fun pre => ∃ k, k ≤ len ∧ pre = bwd len k) len w := fun l J Jx W hW _ _ hY h0 => by
  have hB : Boxed W Bs 81 (.slice A len cap) := (hW.block Bs hBs.lt).trans hBs
  by_cases hl : 0 < len
  · obtain ⟨pb, cur, rfl, hb, hcs⟩ := hc hl
    exact back1_in F n h7 hro hn l Bs pb len cap cur X hcs hreach J Jx hY W hB ((hW.block pb (Array.getElem?_eq_some_iff.1 hb).1).trans hb) h0
  · have : len = 0 := by omega
    subst this
    exact (back0_in F n h7 hro l Bs A cap J W hB.cell h0).mono fun e W' ⟨he, hj⟩ => ⟨he, .inl ⟨_, rfl, hj⟩⟩
end Go.Proofs.YthlccfjhgejlmaaGreatDoor

namespace Go.Proofs.YthlccfjhgejlmaaGreatDoor
open Go.RowKit Go.Shelf Go.ChangeMaps
set_option linter.unusedVariables false
set_option linter.unusedSimpArgs false
attribute [local go_sem] Oper.semAt_some
attribute [-go_sem] Builtin.append_
def endN (N : Pth → Option ND) (P : Pth) : List TG := if (walkN N [] P).length = P.length then (match (walkN N [] P).getLast? with | some n => n.I ++ n.F | none => []) else []
def askN (N : Pth → Option ND) (P : Pth) : List TG := endN N P ++ (walkN N [] P).reverse.flatMap (fun n => n.I)
def lst (nd : Nat → ND) (acc : List TG) (pre : List Nat) : List TG := acc ++ pre.flatMap (fun j => (nd j).I)
theorem lst_nil (nd : Nat → ND) (acc : List TG) : lst nd acc [] = acc := List.append_nil _
theorem lst_snoc (nd : Nat → ND) (acc : List TG) (pre : List Nat) (j : Nat) : lst nd acc (pre ++ [j]) = lst nd acc pre ++ (nd j).I := by
  unfold lst
  rw [List.flatMap_append, List.append_assoc]
  simp
theorem lst_len (nd : Nat → ND) (acc : List TG) (pre : List Nat) (h : ∀ j, (nd j).I.length ≤ 10000) : (lst nd acc pre).length ≤ acc.length + pre.length * 10000 := by
  unfold lst
  rw [List.length_append]
  have : ∀ l : List Nat, (l.flatMap (fun j => (nd j).I)).length ≤ l.length * 10000 := by
    intro l
    induction l with
    | nil => simp
    | cons a r ih =>
      rw [List.flatMap_cons, List.length_append, List.length_cons]
      have := h a
      omega
  have := this pre
  omega
theorem bwd_rev (L : List ND) (r : ND) : (bwd L.length L.length).map (fun j => (L[j]?).getD r) = L.reverse := by
  apply List.ext_getElem
  · simp [bwd]
  · intro i h1 h2
    have h3 : i < L.length := by simpa [bwd] using h1
    have h4 : L.length - 1 - i < L.length := by omega
    simp only [bwd, List.map_map, List.getElem_map, List.getElem_range, Function.comp, List.getElem_reverse, List.getElem?_eq_getElem h4, Option.getD_some]
theorem bwd_flat (L : List ND) (r : ND) : (bwd L.length L.length).flatMap (fun j => ((L[j]?).getD r).I) = L.reverse.flatMap (fun n => n.I) := by
  rw [← bwd_rev L r, List.flatMap_map]
theorem kn_app {U W1 : World} {B K : Nat} {v v' : Value} {l : List TG} (hv : Boxed U K 29 v) (hgr : U.drew.grownBy W1 v.ownBlock) (hown : U.ownsRow B 26 4 v l.length (tgCells l)) (hK1 : Boxed W1 K 29 v) : Kn U (W1.setCell ⟨K, 0, none⟩ v') := by
  intro k cs t ht e
  have h1 : W1.heap[k]? = some (.cells cs t (0, 0)) := (hgr.block k (Array.getElem?_eq_some_iff.1 e).1 (fun e' => by
    rcases hown.2 with ⟨e1, _⟩ | ⟨g', cap', cur', e1, _, hg', _⟩
    · rw [e1] at e'; simp [Value.ownBlock] at e'
    · rw [e1] at e'
      simp only [Value.ownBlock, Option.some.injEq] at e'
      rw [e'] at e
      rw [e] at hg'
      simp at hg'
      rcases ht with ht | ht <;> rw [ht] at hg' <;> exact absurd hg'.2 (by decide))).trans e
  refine (Below.heap_setCell W1 ⟨K, 0, none⟩ _ k (fun e' => ?_)).trans h1
  have e' : k = K := e'
  rw [e'] at h1
  have h2 := (show W1.heap[K]? = _ from hK1).symm.trans h1
  simp at h2
  rcases ht with ht | ht <;> rw [ht] at h2 <;> exact absurd h2.2 (by decide)
theorem ko_app {U W1 : World} {B : Nat} {v : Value} {l : List TG} (hgr : U.drew.grownBy W1 v.ownBlock) (hown : U.ownsRow B 26 4 v l.length (tgCells l)) (K : Nat) (v' : Value) : KeepsOthers U (W1.setCell ⟨K, 0, none⟩ v') := by
  refine (KeepsOthers.trans (show KeepsOthers U U.drew from ⟨Nat.le_refl _, fun _ _ h _ => h⟩) (KeepsOthers.of_grownBy hgr fun j o ej hj => ?_)).trans (KeepsOthers.setCell _ _ _)
  rcases hown.2 with ⟨rfl, _⟩ | ⟨g, cap, cur, rfl, _, hgb, _⟩
  · simp [Value.ownBlock] at ej
  · obtain rfl : g = j := by simpa [Value.ownBlock] using ej
    have hj : U.heap[g]? = some o := hj
    rw [hgb] at hj; cases hj; rfl
set_option maxHeartbeats 16000000 in
set_option maxRecDepth 100000 in
theorem asked_in {B : Nat} {w : World} {rb : Nat} {N : Pth → Option ND} (n : Nat) (hn : 3 ≤ n) (h : St B w rb N) (hB : B ≤ w.heap.size) (x : TG) (hx : x.At w) (hM : MaxAt w) (hL : ∀ q m, N q = some m → m.I.length ≤ 10000 ∧ m.F.length ≤ 10000) :
    CallsIn Fence.wide n Tryz.prog 25 #[.pointer (some ⟨rb, 0, none⟩), .agg #[.string (mk x.t.L), .string (mk x.t.S), .string (mk x.t.R), .slice x.A x.t.vs.length x.c]] w fun e w' => ∃ u, e = .returned u ∧ OwnTg w.heap.size w' u (askN N x.t.pieces) ∧ Below w.heap.size w w' := by
  have h1 : 1 ≤ n := by omega
  have hb1 : Below w.heap.size w ((w.alloc (.cells #[.string (mk x.t.L), .string (mk x.t.S), .string (mk x.t.R), .slice x.A x.t.vs.length x.c] 26)).alloc (.cells #[.slice none 0 0] 29)) := ((Below.refl _ _).alloc (Nat.le_refl _) _).alloc (by simp) _
  have hP := partsN (hx.later hb1) (hM.on hb1)
  have hok := hx.ok
  have hpl : x.t.pieces.length ≤ 1000 := hok.pieces
  have HPne := Lib.hid (pieces_ne hok.good)
  have HSt := Lib.hid h
  have HL := Lib.hid hL
  have HB1 := Lib.hid hb1
  have HK1 := Lib.hid (show Boxed ((w.alloc (.cells #[.string (mk x.t.L), .string (mk x.t.S), .string (mk x.t.R), .slice x.A x.t.vs.length x.c] 26)).alloc (.cells #[.slice none 0 0] 29)) (w.heap.size + 1) 29 (.slice none 0 0) by have := Boxed.new (w.alloc (.cells #[.string (mk x.t.L), .string (mk x.t.S), .string (mk x.t.R), .slice x.A x.t.vs.length x.c] 26)) 29 (.slice none 0 0); rw [World.size_alloc] at this; exact this)
  have HP := Lib.hid hP
  clear h hx hM hb1 hP hok hL
  refine callsIn_of_wp_marks Tryz.func25 rfl trivial ?_ rfl
  simp only [Tryz.ntmps25, List.size_toArray, List.length_cons, List.length_nil, Nat.reduceAdd, Nat.reduceSub, Array.replicate_succ, Array.replicate_zero, List.push_toArray, List.append_toArray, List.nil_append, List.cons_append]
  gi_wp2_with fail
  refine ⟨trivial, (callsIn_wide.2 HP.out).mono ?_⟩
  rintro e w2 ⟨pb, rfl, hpb, hpl2, hpc, b2⟩
  have HB2 := Lib.hid (HB1.out.trans (b2.mono HB1.out.size))
  have HK2 := Lib.hid (show Boxed w2 (w.heap.size + 1) 29 (.slice none 0 0) from (b2.block _ HK1.out.lt).trans HK1.out)
  obtain ⟨P, hPP⟩ : ∃ P, x.t.pieces = P := ⟨_, rfl⟩
  rw [hPP] at hpl hpc ⊢
  rw [hPP] at HPne
  have HPth := Lib.hid (path_any (HSt.out.later HB2.out) P pb P.length hpl2 hpc hpl)
  have hp0 : 0 < P.length := by
    cases hq : P with
    | nil => exact absurd hq HPne.out
    | cons a r => simp
  clear hpb hpc b2 HP HK1
  gi_wp2_with fail
  refine ⟨trivial, (callsIn_wide.2 HPth.out).mono ?_⟩
  rintro e w3 ⟨u, rfl, hown, b3⟩
  obtain ⟨L, hLL⟩ : ∃ L, walkN N [] P = L := ⟨_, rfl⟩
  have hLen : L.length ≤ P.length := by rw [← hLL]; exact walk_len N P []
  have HLm := Lib.hid (show ∀ m ∈ L, ∃ q, N q = some m from fun m hm => walk_mem N P [] m (by rw [hLL]; exact hm))
  rw [hLL] at hown
  have HLL := Lib.hid hLL
  have hls : L.length ≤ 1000 := by omega
  obtain ⟨r, hr, hrb⟩ := HSt.out.root
  obtain ⟨nd, hnde0⟩ : ∃ nd : Nat → ND, nd = fun j => (L[j]?).getD r := ⟨_, rfl⟩
  have hnde : ∀ j (h : j < L.length), nd j = L[j] := fun j h => by rw [hnde0]; show (L[j]?).getD r = _; rw [List.getElem?_eq_getElem h]; rfl
  have hnd : ∀ j, ∃ q, N q = some (nd j) := fun j => by
    by_cases h : j < L.length
    · rw [hnde j h]; exact HLm.out _ (List.getElem_mem h)
    · rw [hnde0]; show ∃ q, N q = some ((L[j]?).getD r); rw [List.getElem?_eq_none (by omega)]; exact ⟨[], hr⟩
  have hnI : ∀ j, (nd j).I.length ≤ 10000 := fun j => by
    obtain ⟨q, hq⟩ := hnd j
    exact (HL.out _ _ hq).1
  have hsh : ∃ A c, u = .slice A L.length c ∧ (0 < L.length → ∃ pb cur, A = some ⟨pb, 0, none⟩ ∧ w3.heap[pb]? = some (.cells cur 78 (0, 0)) ∧ ∀ j, j < L.length → cur[j]? = some (.pointer (some ⟨(nd j).b, 0, none⟩))) := by
    rcases hown.2 with ⟨rfl, h0⟩ | ⟨g, cap, cur, rfl, hbg, hg, hnc, hcm, hcs, htake⟩
    · exact ⟨none, 0, by rw [h0], fun h => by omega⟩
    · refine ⟨_, _, rfl, fun _ => ⟨g, cur, rfl, hg, fun j hj => ?_⟩⟩
      have h2 : (cur.toList.take (L.length * 1))[j]? = (nbs L)[j]? := by rw [htake]
      rw [List.getElem?_take_of_lt (by omega), List.getElem?_map, List.getElem?_eq_getElem hj] at h2
      rw [hnde j hj]
      simpa [ptrV] using h2
  obtain ⟨A, c, rfl, hpc⟩ := hsh
  have HPc := Lib.hid hpc
  have HB3 := Lib.hid (HB2.out.trans (b3.mono HB2.out.size))
  have HK3 := Lib.hid (show Boxed w3 (w.heap.size + 1) 29 (.slice none 0 0) from (b3.block _ HK2.out.lt).trans HK2.out)
  have hnd0 := Lib.hid hnde0
  clear hLL hown b3 hpc HK2 HPth HB2 hnde0
  have hs3 := HB3.out.size
  by_cases hfull : L.length = P.length
  · have f1 : ((L.length : Int) == (P.length : Int)) = true := by rw [hfull]; exact beq_self_eq_true _
    obtain ⟨q, hq⟩ : ∃ q, P.length = q + 1 := ⟨P.length - 1, by omega⟩
    have hq0 : L.length = q + 1 := by omega
    have f2 : ((q : Int) + 1) - 1 = (q : Int) := by omega
    have hq1 : q < L.length := by omega
    obtain ⟨g, cur, rfl, hg, hcur⟩ := HPc.out (by omega)
    have hk := hcur q hq1
    rw [hnde q hq1] at hk
    obtain ⟨m, hm⟩ : ∃ m, L[q] = m := ⟨_, rfl⟩
    rw [hm] at hk
    obtain ⟨qm, hqm⟩ := HLm.out m (by rw [← hm]; exact List.getElem_mem hq1)
    have k0 : w3.cell? ⟨g, q, none⟩ = some (.pointer (some ⟨m.b, 0, none⟩)) := by
      simp [World.cell?, hg, hk]
    have hnd3 : NdAt B w3 m := by
      obtain ⟨o, ho⟩ := (HSt.out.later HB3.out).own
      exact (ho _ _ hqm).1
    have e0 : w3.drew.cell? ⟨m.b, 0, none⟩ = some m.iv := hnd3.box.cell 0
    have K0 : w3.drew.cell? ⟨w.heap.size + 1, 0, none⟩ = some (.slice none 0 0) := HK3.out.cell
    have hLmm := HL.out _ _ hqm
    obtain ⟨v1, W1, hap, hown1, hgr1⟩ := run_spread (B := w.heap.size) (W := w3.drew) (OwnTg.nil _ _) (show OwnTg B w3.drew m.iv m.I from hnd3.oi) (by simp; omega) hs3
    rw [List.nil_append] at hown1
    obtain ⟨A1, c1, rfl, _⟩ := hown1.slice
    have hK1 : Boxed W1 (w.heap.size + 1) 29 (.slice none 0 0) := Boxed.kept (W := w3.drew) HK3.out hgr1 (by simp [Value.ownBlock])
    have K1 := hK1.cell
    have K1f := hK1.frozen
    obtain ⟨acc, hacc⟩ : ∃ acc, m.I ++ m.F = acc := ⟨_, rfl⟩
    have hal : acc.length ≤ 20000 := by rw [← hacc, List.length_append]; omega
    have hEnd := Lib.hid (show endN N P = acc by
      unfold endN
      rw [HLL.out, if_pos hfull, List.getLast?_eq_getElem?, hq0, Nat.add_sub_cancel, List.getElem?_eq_getElem hq1, hm]
      exact hacc)
    clear hcur hk hm
    rw [hq0]
    simp only [hq0] at f1
    gi_wp2_with fail
    gi_region
    gi_wp2_with fail
    have hB4 : Below w.heap.size w (W1.setCell ⟨w.heap.size + 1, 0, none⟩ (.slice A1 m.I.length c1)) := ((HB3.out.drew).grown hgr1 hs3 (fun k e => by simp [Value.ownBlock] at e)).setCell (p := ⟨w.heap.size + 1, 0, none⟩) (by show w.heap.size ≤ w.heap.size + 1; omega) _
    have hK4 : Boxed (W1.setCell ⟨w.heap.size + 1, 0, none⟩ (.slice A1 m.I.length c1)) (w.heap.size + 1) 29 (.slice A1 m.I.length c1) := hK1.set _
    have hown4 : OwnTg w.heap.size (W1.setCell ⟨w.heap.size + 1, 0, none⟩ (.slice A1 m.I.length c1)) (.slice A1 m.I.length c1) m.I := World.ownsRow.kept hown1 (grownBy_setCell' W1 _ _) (.inr (hK1.not_row (by decide) hown1).symm)
    have hN4 : Kn w3 (W1.setCell ⟨w.heap.size + 1, 0, none⟩ (.slice A1 m.I.length c1)) := kn_app HK3.out hgr1 (OwnTg.nil w.heap.size w3) hK1
    generalize W1.setCell ⟨w.heap.size + 1, 0, none⟩ (.slice A1 m.I.length c1) = W2 at *
    clear hap hown1 hgr1 hK1 K1 K1f e0 K0 hnd3
    have hnd4 : NdAt B W2 m := by
      obtain ⟨o, ho⟩ := (HSt.out.later hB4).own
      exact (ho _ _ hqm).1
    have hs4 := hB4.size
    have e0 : W2.drew.cell? ⟨m.b, 1, none⟩ = some m.fv := hnd4.box.cell 1
    have K0 : W2.drew.cell? ⟨w.heap.size + 1, 0, none⟩ = some (.slice A1 m.I.length c1) := hK4.cell
    obtain ⟨v1, W1, hap, hown1, hgr1⟩ := run_spread (B := w.heap.size) (W := W2.drew) (show OwnTg w.heap.size W2.drew (.slice A1 m.I.length c1) m.I from hown4) (show OwnTg B W2.drew m.fv m.F from hnd4.ov) (by omega) hs4
    rw [hacc] at hown1
    obtain ⟨A2, c2, rfl, _⟩ := hown1.slice
    have hK1 : Boxed W1 (w.heap.size + 1) 29 (.slice A1 m.I.length c1) := Boxed.kept (W := W2.drew) hK4 hgr1 (hK4.not_row (by decide) hown4)
    have K1 := hK1.cell
    have K1f := hK1.frozen
    gi_region
    gi_wp2_with fail
    have hB5 : Below w.heap.size w (W1.setCell ⟨w.heap.size + 1, 0, none⟩ (.slice A2 acc.length c2)) := ((hB4.drew).grown hgr1 hs4 (fun k e => (World.ownsRow.lt hown4 k e).1)).setCell (p := ⟨w.heap.size + 1, 0, none⟩) (by show w.heap.size ≤ w.heap.size + 1; omega) _
    have hK5 : Boxed (W1.setCell ⟨w.heap.size + 1, 0, none⟩ (.slice A2 acc.length c2)) (w.heap.size + 1) 29 (.slice A2 acc.length c2) := hK1.set _
    have hown5 : OwnTg w.heap.size (W1.setCell ⟨w.heap.size + 1, 0, none⟩ (.slice A2 acc.length c2)) (.slice A2 acc.length c2) acc := World.ownsRow.kept hown1 (grownBy_setCell' W1 _ _) (.inr (hK1.not_row (by decide) hown1).symm)
    have hN5 : Kn W2 (W1.setCell ⟨w.heap.size + 1, 0, none⟩ (.slice A2 acc.length c2)) := kn_app hK4 hgr1 hown4 hK1
    generalize W1.setCell ⟨w.heap.size + 1, 0, none⟩ (.slice A2 acc.length c2) = V at *
    have HPV := Lib.hid (show 0 < L.length → ∃ pb cur, some (⟨g, 0, none⟩ : Addr) = some ⟨pb, 0, none⟩ ∧ V.heap[pb]? = some (.cells cur 78 (0, 0)) ∧ ∀ j, j < L.length → cur[j]? = some (.pointer (some ⟨(nd j).b, 0, none⟩)) from fun h0 => by
      obtain ⟨pb', cur', e1, e2, e3⟩ := HPc.out h0
      exact ⟨pb', cur', e1, hN5 _ _ _ (.inl rfl) (hN4 _ _ _ (.inl rfl) e2), e3⟩)
    clear hap hgr1 hK1 K1 K1f e0 K0 hnd4 hown1 hown4 hK4 hN4 hN5 hB4
    refine ⟨trivial, (backward_in Fence.wide (n - 1) trivial rfl _ _ _ _).mono ?_⟩
    rintro e W0' ⟨rfl, rfl⟩
    gi_wp2_with fail
    have hVs := hB5.size
    have HB5 := Lib.hid hB5
    have HK5 := Lib.hid hK5
    have HO5 := Lib.hid hown5
    clear hB5 hK5 hown5
    refine wpIn_rangeFunc_ownH rfl h1 (gf := 66) (lb := #[.pointer (some ⟨V.heap.size, 0, none⟩)]) rfl trivial (enters_of Tryz.func66 (by kernel_rfl) rfl)
      (back_stops Fence.wide (n - 1) trivial rfl (by omega) V.heap.size (some ⟨g, 0, none⟩) (q + 1) c (fun j => (nd j).b) (by omega) (V.alloc (.cells #[.slice (some ⟨g, 0, none⟩) (q + 1) c] 81)) (Boxed.new V _ _) (fun h0 => by
        obtain ⟨pb', cur', e1, e2, e3⟩ := HPV.out (by omega)
        exact ⟨pb', cur', e1, ((Below.refl V.heap.size V).alloc (Nat.le_refl _) _).block pb' (Array.getElem?_eq_some_iff.1 e2).1 |>.trans e2, fun j hj => e3 j (by omega)⟩)) Kn.trans Kn.put (Below.refl _ _) (fun _ => rfl)
      (fun pre U => (∃ v, Boxed U (w.heap.size + 1) 29 v ∧ U.ownsRow w.heap.size 26 4 v (lst nd acc pre).length (tgCells (lst nd acc pre)) ∧ True) ∧ Below w.heap.size w U)
      (fun _ _ _ => False)
      (OwnFrom.and (Own.from (holdsRow_own w.heap.size (w.heap.size + 1) 29 26 4 (fun pre => (lst nd acc pre).length) (fun pre => tgCells (lst nd acc pre)) (fun _ _ => True)) _) (ownFrom_below (Nat.le_refl _) (by simp; omega)))
      (fun _ _ _ _ _ hs _ _ => hs)
      ⟨⟨_, HK5.out.alloc _, by rw [lst_nil]; exact World.ownsRow.alloc HO5.out _, trivial⟩, HB5.out.alloc hVs _⟩
      (fun j a' U => a' = { tmps := #[Value.pointer (some ⟨rb, 0, none⟩), Value.agg #[.string (mk x.t.L), .string (mk x.t.S), .string (mk x.t.R), .slice x.A x.t.vs.length x.c], undef, Value.pointer (some ⟨w.heap.size, 0, none⟩), Value.slice none 0 0, Value.pointer (some ⟨w.heap.size + 1, 0, none⟩), Value.slice (some ⟨pb, 0, none⟩) (q + 1) (q + 1), Value.slice (some ⟨g, 0, none⟩) (q + 1) c, Value.pointer (some ⟨m.b, 0, none⟩), undef, Value.pointer (some ⟨(nd j).b, 0, none⟩), Value.agg #[.string (mk x.t.L), .string (mk x.t.S), .string (mk x.t.R), .slice x.A x.t.vs.length x.c], Value.slice (some ⟨pb, 0, none⟩) (q + 1) (q + 1), Value.pointer (some ⟨rb, 0, none⟩), Value.slice (some ⟨pb, 0, none⟩) (q + 1) (q + 1), Value.slice (some ⟨g, 0, none⟩) (q + 1) c, Value.slice (some ⟨g, 0, none⟩) (q + 1) c, Value.int .i64 ((q : Int) + 1), Value.slice (some ⟨pb, 0, none⟩) (q + 1) (q + 1), Value.int .i64 ((q : Int) + 1), Value.bool true, Value.slice (some ⟨g, 0, none⟩) (q + 1) c, Value.slice (some ⟨g, 0, none⟩) (q + 1) c, Value.int .i64 ((q : Int) + 1), Value.int .i64 (q : Int), Value.pointer (some ⟨g, q, none⟩), Value.pointer (some ⟨m.b, 0, none⟩), Value.slice none 0 0, Value.pointer (some ⟨m.b, 0, none⟩), Value.pointer (some ⟨m.b, 0, none⟩), Value.pointer (some ⟨m.b, 0, none⟩), m.iv, Value.slice A1 m.I.length c1, Value.slice A1 m.I.length c1, Value.pointer (some ⟨m.b, 0, none⟩), Value.pointer (some ⟨m.b, 0, none⟩), Value.pointer (some ⟨m.b, 1, none⟩), m.fv, Value.slice A2 acc.length c2, Value.slice (some ⟨g, 0, none⟩) (q + 1) c, Value.func (.func 66) #[] #[.pointer (some ⟨V.heap.size, 0, none⟩)], Value.int .i64 (j : Nat), Value.pointer (some ⟨(nd j).b, 0, none⟩), undef, undef, undef, undef, undef, undef, undef], defers := [] }) (fun _ _ _ _ _ _ h _ _ => h) ?assign ?body ?done ?stop
    case assign =>
      intro l pre j U K hI hK
      gi_wp2_with fail
      exact hK _ _ (KeepsFrom.refl _ _) (Kn.refl _) hI rfl
    case body =>
      rintro l pre j a' U hl hr ⟨⟨v, hv, hrow, _⟩, hBU⟩ rfl hlt
      have hs6 := hBU.size
      obtain ⟨qj, hqj⟩ := hnd j
      have hnj : NdAt B U (nd j) := by
        obtain ⟨o, ho⟩ := (HSt.out.later hBU).own
        exact (ho _ _ hqj).1
      have hLj := HL.out _ _ hqj
      have hpre := lst_len nd acc pre hnI
      obtain ⟨Av, cv, rfl, _⟩ := OwnTg.slice hrow
      have e0 : U.drew.cell? ⟨(nd j).b, 0, none⟩ = some (nd j).iv := hnj.box.cell 0
      have K0 : U.drew.cell? ⟨w.heap.size + 1, 0, none⟩ = some (.slice Av (lst nd acc pre).length cv) := hv.cell
      obtain ⟨v1, W1, hap, hown1, hgr1⟩ := run_spread (B := w.heap.size) (W := U.drew) (show OwnTg w.heap.size U.drew (.slice Av (lst nd acc pre).length cv) (lst nd acc pre) from hrow) (show OwnTg B U.drew (nd j).iv (nd j).I from hnj.oi) (by omega) hs6
      rw [← lst_snoc] at hown1
      obtain ⟨A3, c3, rfl, _⟩ := hown1.slice
      have hK1 : Boxed W1 (w.heap.size + 1) 29 (.slice Av (lst nd acc pre).length cv) := Boxed.kept (W := U.drew) hv hgr1 (hv.not_row (by decide) hrow)
      have K1 := hK1.cell
      have K1f := hK1.frozen
      have HR := Lib.hid hrow
      have HV := Lib.hid hv
      have HG := Lib.hid hgr1
      have HBU := Lib.hid hBU
      have HKb := Lib.hid hK1
      have HOw := Lib.hid hown1
      clear hrow hv hgr1 hBU hK1 hown1 hnj hr
      gi_wp2_with fail
      gi_region
      all_goals gi_wp2_with fail
      all_goals refine ⟨?_, kn_app HV.out HG.out HR.out HKb.out, ⟨_, HKb.out.set _, World.ownsRow.kept HOw.out (grownBy_setCell' W1 _ _) (.inr (HKb.out.not_row (by decide) HOw.out).symm), trivial⟩, ((HBU.out.drew).grown HG.out hs6 (fun k e => (World.ownsRow.lt HR.out k e).1)).setCell (p := ⟨w.heap.size + 1, 0, none⟩) (by show w.heap.size ≤ w.heap.size + 1; omega) _⟩
      all_goals exact (ko_app HG.out HR.out (w.heap.size + 1) _).from _
    case done =>
      rintro D xs U hD rfl ⟨⟨v, hv, hrow, _⟩, hBU⟩ hK
      have hc := hv.cell
      gi_wp2_with fail
      refine ⟨by simp, .inl ⟨_, _, rfl, run_takeDeferred hK, ?_⟩⟩
      refine ⟨_, results_tmp rfl _ _ _, v, rfl, ?_, hBU.trans (belowK_b (w := w) (Nat.le_refl _) U D _ _ (by simp at hD; omega) hK rfl rfl)⟩
      have hfin : lst nd acc (bwd (q + 1) (q + 1)) = askN N P := by
        rw [← hq0]
        unfold lst askN
        rw [hEnd.out, HLL.out, hnd0.out, bwd_flat]
      have h9 := ownsRow_putObj hrow (.deferred none) hK rfl
      rw [hfin] at h9
      rw [hPP]
      exact h9
    case stop =>
      rintro D c pre U _ _ h _
      exact h.elim
  · have f1 : ((L.length : Int) == (P.length : Int)) = false := by rw [beq_eq_false_iff_ne]; omega
    gi_wp2_with fail
    obtain ⟨acc, hacc⟩ : ∃ acc : List TG, acc = [] := ⟨_, rfl⟩
    have hal : acc.length ≤ 20000 := by rw [hacc]; simp
    have hEnd := Lib.hid (show endN N P = acc by
      unfold endN
      rw [HLL.out, if_neg hfull]
      exact hacc.symm)
    have hB5 := HB3.out
    have hK5 := HK3.out
    have hown5 : OwnTg w.heap.size w3 (.slice none 0 0) acc := by rw [hacc]; exact OwnTg.nil _ _
    have HPV := HPc
    clear hacc
    generalize w3 = V at *
    refine ⟨trivial, (backward_in Fence.wide (n - 1) trivial rfl _ _ _ _).mono ?_⟩
    rintro e W0' ⟨rfl, rfl⟩
    gi_wp2_with fail
    have hVs := hB5.size
    have HB5 := Lib.hid hB5
    have HK5 := Lib.hid hK5
    have HO5 := Lib.hid hown5
    clear hB5 hK5 hown5
    refine wpIn_rangeFunc_ownH rfl h1 (gf := 66) (lb := #[.pointer (some ⟨V.heap.size, 0, none⟩)]) rfl trivial (enters_of Tryz.func66 (by kernel_rfl) rfl)
      (back_stops Fence.wide (n - 1) trivial rfl (by omega) V.heap.size A L.length c (fun j => (nd j).b) (by omega) (V.alloc (.cells #[.slice A L.length c] 81)) (Boxed.new V _ _) (fun h0 => by
        obtain ⟨pb', cur', e1, e2, e3⟩ := HPV.out (by omega)
        exact ⟨pb', cur', e1, ((Below.refl V.heap.size V).alloc (Nat.le_refl _) _).block pb' (Array.getElem?_eq_some_iff.1 e2).1 |>.trans e2, fun j hj => e3 j (by omega)⟩)) Kn.trans Kn.put (Below.refl _ _) (fun _ => rfl)
      (fun pre U => (∃ v, Boxed U (w.heap.size + 1) 29 v ∧ U.ownsRow w.heap.size 26 4 v (lst nd acc pre).length (tgCells (lst nd acc pre)) ∧ True) ∧ Below w.heap.size w U)
      (fun _ _ _ => False)
      (OwnFrom.and (Own.from (holdsRow_own w.heap.size (w.heap.size + 1) 29 26 4 (fun pre => (lst nd acc pre).length) (fun pre => tgCells (lst nd acc pre)) (fun _ _ => True)) _) (ownFrom_below (Nat.le_refl _) (by simp; omega)))
      (fun _ _ _ _ _ hs _ _ => hs)
      ⟨⟨_, HK5.out.alloc _, by rw [lst_nil]; exact World.ownsRow.alloc HO5.out _, trivial⟩, HB5.out.alloc hVs _⟩
      (fun j a' U => a' = { tmps := #[Value.pointer (some ⟨rb, 0, none⟩), Value.agg #[.string (mk x.t.L), .string (mk x.t.S), .string (mk x.t.R), .slice x.A x.t.vs.length x.c], undef, Value.pointer (some ⟨w.heap.size, 0, none⟩), Value.slice none 0 0, Value.pointer (some ⟨w.heap.size + 1, 0, none⟩), Value.slice (some ⟨pb, 0, none⟩) P.length P.length, Value.slice A L.length c, undef, undef, Value.pointer (some ⟨(nd j).b, 0, none⟩), Value.agg #[.string (mk x.t.L), .string (mk x.t.S), .string (mk x.t.R), .slice x.A x.t.vs.length x.c], Value.slice (some ⟨pb, 0, none⟩) P.length P.length, Value.pointer (some ⟨rb, 0, none⟩), Value.slice (some ⟨pb, 0, none⟩) P.length P.length, Value.slice A L.length c, Value.slice A L.length c, Value.int .i64 (L.length : Int), Value.slice (some ⟨pb, 0, none⟩) P.length P.length, Value.int .i64 (P.length : Int), Value.bool false, undef, undef, undef, undef, undef, undef, undef, undef, undef, undef, undef, undef, undef, undef, undef, undef, undef, undef, Value.slice A L.length c, Value.func (.func 66) #[] #[.pointer (some ⟨V.heap.size, 0, none⟩)], Value.int .i64 (j : Nat), Value.pointer (some ⟨(nd j).b, 0, none⟩), undef, undef, undef, undef, undef, undef, undef], defers := [] }) (fun _ _ _ _ _ _ h _ _ => h) ?assign ?body ?done ?stop
    case assign =>
      intro l pre j U K hI hK
      gi_wp2_with fail
      exact hK _ _ (KeepsFrom.refl _ _) (Kn.refl _) hI rfl
    case body =>
      rintro l pre j a' U hl hr ⟨⟨v, hv, hrow, _⟩, hBU⟩ rfl hlt
      have hs6 := hBU.size
      obtain ⟨qj, hqj⟩ := hnd j
      have hnj : NdAt B U (nd j) := by
        obtain ⟨o, ho⟩ := (HSt.out.later hBU).own
        exact (ho _ _ hqj).1
      have hLj := HL.out _ _ hqj
      have hpre := lst_len nd acc pre hnI
      obtain ⟨Av, cv, rfl, _⟩ := OwnTg.slice hrow
      have e0 : U.drew.cell? ⟨(nd j).b, 0, none⟩ = some (nd j).iv := hnj.box.cell 0
      have K0 : U.drew.cell? ⟨w.heap.size + 1, 0, none⟩ = some (.slice Av (lst nd acc pre).length cv) := hv.cell
      obtain ⟨v1, W1, hap, hown1, hgr1⟩ := run_spread (B := w.heap.size) (W := U.drew) (show OwnTg w.heap.size U.drew (.slice Av (lst nd acc pre).length cv) (lst nd acc pre) from hrow) (show OwnTg B U.drew (nd j).iv (nd j).I from hnj.oi) (by omega) hs6
      rw [← lst_snoc] at hown1
      obtain ⟨A3, c3, rfl, _⟩ := hown1.slice
      have hK1 : Boxed W1 (w.heap.size + 1) 29 (.slice Av (lst nd acc pre).length cv) := Boxed.kept (W := U.drew) hv hgr1 (hv.not_row (by decide) hrow)
      have K1 := hK1.cell
      have K1f := hK1.frozen
      have HR := Lib.hid hrow
      have HV := Lib.hid hv
      have HG := Lib.hid hgr1
      have HBU := Lib.hid hBU
      have HKb := Lib.hid hK1
      have HOw := Lib.hid hown1
      clear hrow hv hgr1 hBU hK1 hown1 hnj hr
      gi_wp2_with fail
      gi_region
      all_goals gi_wp2_with fail
      all_goals refine ⟨?_, kn_app HV.out HG.out HR.out HKb.out, ⟨_, HKb.out.set _, World.ownsRow.kept HOw.out (grownBy_setCell' W1 _ _) (.inr (HKb.out.not_row (by decide) HOw.out).symm), trivial⟩, ((HBU.out.drew).grown HG.out hs6 (fun k e => (World.ownsRow.lt HR.out k e).1)).setCell (p := ⟨w.heap.size + 1, 0, none⟩) (by show w.heap.size ≤ w.heap.size + 1; omega) _⟩
      all_goals exact (ko_app HG.out HR.out (w.heap.size + 1) _).from _
    case done =>
      rintro D xs U hD rfl ⟨⟨v, hv, hrow, _⟩, hBU⟩ hK
      have hc := hv.cell
      gi_wp2_with fail
      refine ⟨by simp, .inl ⟨_, _, rfl, run_takeDeferred hK, ?_⟩⟩
      refine ⟨_, results_tmp rfl _ _ _, v, rfl, ?_, hBU.trans (belowK_b (w := w) (Nat.le_refl _) U D _ _ (by simp at hD; omega) hK rfl rfl)⟩
      have hfin : lst nd acc (bwd L.length L.length) = askN N P := by
        skip
        unfold lst askN
        rw [hEnd.out, HLL.out, hnd0.out, bwd_flat]
      have h9 := ownsRow_putObj hrow (.deferred none) hK rfl
      rw [hfin] at h9
      rw [hPP]
      exact h9
    case stop =>
      rintro D c pre U _ _ h _
      exact h.elim
end Go.Proofs.YthlccfjhgejlmaaGreatDoor

namespace Go.Proofs.YthlccfjhgejlmaaGreatDoor
open Go.RowKit Go.Shelf Go.ChangeMaps
set_option linter.unusedVariables false
set_option linter.unusedSimpArgs false
def presR (pre : Pth) : Pth → List Pth
  | [] => []
  | k :: r => presR (pre ++ [k]) r ++ [pre ++ [k]]
def askT (ts : List TG) (P : Pth) : List TG := Isp ts P ++ Fsp ts P ++ (presR [] P).flatMap (Isp ts)
theorem exB_app {ts : List TG} {q : Pth} {k : List UInt8} (hq : q ≠ []) (h : exB ts q = false) : exB ts (q ++ [k]) = false := by
  unfold exB at h ⊢
  simp only [Bool.or_eq_false_iff] at h ⊢
  refine ⟨by cases q <;> simp, ?_⟩
  rw [List.any_eq_false] at h ⊢
  intro t ht hp
  refine h.2 t ht ?_
  rw [List.isPrefixOf_iff_prefix] at hp ⊢
  exact (List.prefix_append q [k]).trans hp
theorem pres_none {ts : List TG} : ∀ (r q : Pth), q ≠ [] → exB ts q = false → (presR q r).flatMap (Isp ts) = []
  | [], q, _, _ => rfl
  | k :: r, q, hq, h => by
    have h1 := exB_app (k := k) hq h
    rw [presR, List.flatMap_append, pres_none r (q ++ [k]) (by simp) h1]
    simp [(none_sp h1).1]
theorem cont_some {ts : List TG} {N : Pth → Option ND} (hC : ∀ q, cont N q = Csp ts q) {q : Pth} {n : ND} (h : N q = some n) : n.I = Isp ts q ∧ n.F = Fsp ts q := by
  have := hC q
  unfold cont Csp at this
  rw [h] at this
  split at this
  · simp at this; exact this
  · simp at this
theorem cont_none {ts : List TG} {N : Pth → Option ND} (hC : ∀ q, cont N q = Csp ts q) {q : Pth} (h : N q = none) : exB ts q = false := by
  have := hC q
  unfold cont Csp at this
  rw [h] at this
  split at this
  · simp at this
  · next hh => simpa using hh
theorem walk_back {ts : List TG} {N : Pth → Option ND} (hC : ∀ q, cont N q = Csp ts q) : ∀ (r pre : Pth), (walkN N pre r).reverse.flatMap (fun n => n.I) = (presR pre r).flatMap (Isp ts)
  | [], pre => rfl
  | k :: r, pre => by
    rw [walkN, presR, List.flatMap_append]
    cases h : N (pre ++ [k]) with
    | none =>
      have h1 := cont_none hC h
      rw [pres_none r (pre ++ [k]) (by simp) h1]
      simp [(none_sp h1).1]
    | some n =>
      have h1 := (cont_some hC h).1
      simp only [List.reverse_cons, List.flatMap_append, List.flatMap_cons, List.flatMap_nil, List.append_nil]
      rw [walk_back hC r (pre ++ [k]), h1]
theorem none_app {N : Pth → Option ND} (hp : ∀ p k, N p = none → N (p ++ [k]) = none) : ∀ (r p : Pth), N p = none → N (p ++ r) = none
  | [], p, h => by rw [List.append_nil]; exact h
  | k :: r, p, h => by
    have := none_app hp r (p ++ [k]) (hp p k h)
    rwa [List.append_assoc] at this
theorem walk_last {N : Pth → Option ND} (hp : ∀ p k, N p = none → N (p ++ [k]) = none) : ∀ (r pre : Pth), r ≠ [] → if (walkN N pre r).length = r.length then (walkN N pre r).getLast? = N (pre ++ r) ∧ (N (pre ++ r)).isSome = true else N (pre ++ r) = none
  | [], pre, h => absurd rfl h
  | [k], pre, _ => by
    rw [walkN]
    cases h : N (pre ++ [k]) with
    | none => simp
    | some n => simp [walkN]
  | k :: k2 :: r, pre, _ => by
    rw [walkN]
    have e0 : pre ++ k :: k2 :: r = (pre ++ [k]) ++ (k2 :: r) := by simp
    cases h : N (pre ++ [k]) with
    | none =>
      have := none_app hp (k2 :: r) (pre ++ [k]) h
      rw [e0, this]
      simp
    | some n =>
      have ih := walk_last hp (k2 :: r) (pre ++ [k]) (by simp)
      rw [e0]
      simp only [List.length_cons, Nat.add_right_cancel_iff] at ih ⊢
      split
      · next hl =>
        rw [if_pos hl] at ih
        refine ⟨?_, ih.2⟩
        rw [← ih.1]
        cases hw : walkN N (pre ++ [k]) (k2 :: r) with
        | nil => rw [hw] at hl; simp at hl
        | cons a b => simp
      · next hl =>
        rw [if_neg hl] at ih
        exact ih
theorem ask_eq {ts : List TG} {N : Pth → Option ND} (hC : ∀ q, cont N q = Csp ts q) (hp : ∀ p k, N p = none → N (p ++ [k]) = none) {P : Pth} (hP : P ≠ []) : askN N P = askT ts P := by
  have h := walk_last hp P [] hP
  rw [List.nil_append] at h
  unfold askN askT
  rw [walk_back hC]
  congr 1
  unfold endN
  split at h
  · next hl =>
    rw [if_pos hl, h.1]
    obtain ⟨n, hn⟩ := Option.isSome_iff_exists.1 h.2
    rw [hn]
    obtain ⟨h1, h2⟩ := cont_some hC hn
    show n.I ++ n.F = _
    rw [h1, h2]
  · next hl =>
    rw [if_neg hl]
    have h1 := cont_none hC h
    obtain ⟨h2, h3⟩ := none_sp h1
    rw [h2, h3]
    rfl
theorem presR_len : ∀ (r pre : Pth), (presR pre r).length = r.length
  | [], pre => rfl
  | k :: r, pre => by rw [presR, List.length_append, presR_len r]; rfl
theorem askT_len {ts : List TG} {P : Pth} {n : Nat} (h : ts.length ≤ n) : (askT ts P).length ≤ 2 * n + P.length * n := by
  unfold askT
  rw [List.length_append, List.length_append]
  obtain ⟨h1, h2⟩ := sp_len ts P
  have key : ∀ l : List Pth, (l.flatMap (Isp ts)).length ≤ l.length * n := by
    intro l
    induction l with
    | nil => simp
    | cons a r ih =>
      rw [List.flatMap_cons, List.length_append, List.length_cons]
      have := (sp_len ts a).1
      rw [Nat.add_mul]
      omega
  have := key (presR [] P)
  rw [presR_len] at this
  omega
theorem askT_mem {ts : List TG} {P : Pth} {x : TG} (h : x ∈ askT ts P) : x ∈ ts := by
  have hI : ∀ q, x ∈ Isp ts q → x ∈ ts := fun q h => (List.mem_filter.1 h).1
  unfold askT at h
  rcases List.mem_append.1 h with h | h
  · rcases List.mem_append.1 h with h | h
    · exact hI _ h
    · unfold Fsp at h
      split at h
      · cases h
      · exact (List.mem_filter.1 h).1
  · obtain ⟨q, _, h⟩ := List.mem_flatMap.1 h
    exact hI _ h
def rootN (rb : Nat) : Pth → Option ND := fun q => if q = [] then some (freshN rb) else none
theorem St.start {B : Nat} {W : World} {rb : Nat} (hb : BoxAt W rb brCells 45) (hB : B ≤ rb) : St B W rb (rootN rb) := by
  refine ⟨⟨fun _ => ([], 0), fun p n h => ?_⟩, ⟨freshN rb, rfl, rfl⟩, fun p n h k => ?_, fun p k _ => ?_⟩
  · unfold rootN at h
    split at h
    · next hp =>
      cases h
      exact ⟨⟨hb, OwnTg.nil _ _, OwnTg.nil _ _, fun m h => (by cases h), fun _ => rfl, hB⟩, ⟨by rw [hp], fun k h => (by cases h), fun k h => (by cases h), fun k h => (by cases h)⟩⟩
    · cases h
  · unfold rootN at h ⊢
    split at h
    · cases h
      rw [if_neg (by simp)]
      rfl
    · cases h
  · unfold rootN
    rw [if_neg (by simp)]
theorem cont_start (rb : Nat) (q : Pth) : cont (rootN rb) q = Csp [] q := by
  unfold cont rootN Csp exB
  cases q with
  | nil => rfl
  | cons a r => simp
theorem tb_start {rb k : Nat} (h : TB (rootN rb) k) : k = rb := by
  obtain ⟨p, n, hn, e⟩ := h
  unfold rootN at hn
  split at hn
  · cases hn
    rcases e with e | e | e | e
    · exact e
    · cases e
    · cases e
    · cases e
  · cases hn
theorem ownsRow_cellSet {W : World} {B : Nat} {e : TypeId} {size g n cap : Nat} {xs : List Value} (h : W.ownsRow B e size (.slice (some ⟨g, 0, none⟩) n cap) n xs) (k : Nat) (u : Value) : (W.setCell ⟨g, k, none⟩ u).ownsRow B e size (.slice (some ⟨g, 0, none⟩) n cap) n (xs.set k u) := by
  refine ⟨by rw [List.length_set]; exact h.1, ?_⟩
  rcases h.2 with ⟨e1, _⟩ | ⟨g', cap', cur, e1, hb, hg, hnc, hcm, hcs, htake⟩
  · cases e1
  · cases e1
    refine .inr ⟨g, cap, cur.setIfInBounds k u, rfl, hb, ?_, hnc, hcm, by simpa using hcs, ?_⟩
    · simp [World.setCell, Array.getElem?_modify, hg]
    · rw [Array.toList_setIfInBounds, List.take_set, htake]
theorem grown_cell (W : World) (b k : Nat) (v : Value) : W.grownBy (W.setCell ⟨b, k, none⟩ v) (some b) :=
  ⟨rfl, rfl, rfl, by simp, fun j _ hj => Below.heap_setCell _ _ _ j (fun e => hj (by rw [e]))⟩
theorem tgCells_set : ∀ (l : List TG) (j : Nat) (x : TG) (A : Option Addr) (c : Nat), l[j]? = some x → (tgCells l).set (j * 4 + 3) (.slice A x.t.vs.length c) = tgCells (l.set j ⟨x.t, A, c⟩)
  | [], j, x, A, c, h => by simp at h
  | y :: r, 0, x, A, c, h => by
    simp at h
    subst h
    rfl
  | y :: r, j + 1, x, A, c, h => by
    have ih := tgCells_set r j x A c (by simpa using h)
    rw [List.set_cons_succ, tgCells, tgCells, ← ih, List.set_append_right _ _ (by show 4 ≤ _; omega)]
    congr 2
    show (j + 1) * 4 + 3 - 4 = _
    omega
theorem cloneV {x : TG} {W : World} (h : x.At W) : Calls Tryz.prog 26 #[.slice x.A x.t.vs.length x.c] W fun e w' => ∃ A c, e = .returned (.slice A x.t.vs.length c) ∧ VarsAt w' x.t A c ∧ Below W.heap.size W w' ∧ ∀ a, A = some a → W.heap.size ≤ a.block := by
  have hvl := h.ok.vs
  have key : ∀ (v' : Value) (w' : World), w'.ownsRow W.heap.size 9 1 v' x.t.vs.length ((x.t.vs.map mk).map Value.string) → Below W.heap.size W w' → ∃ A c, v' = .slice A x.t.vs.length c ∧ VarsAt w' x.t A c ∧ Below W.heap.size W w' ∧ ∀ a, A = some a → W.heap.size ≤ a.block := fun v' w' hr hb => by
    obtain ⟨A, c, rfl, hc⟩ := row_out hr
    have hs : StrsAt w'.heap.size w' (.slice A x.t.vs.length c) (x.t.vs.map mk) := strs_of_row (base := W.heap.size) (by rw [List.length_map]; exact hr)
    exact ⟨A, c, rfl, ⟨hc, hs⟩, hb, fun a ha => (World.ownsRow.lt hr a.block (by rw [ha]; rfl)).1⟩
  cases hA : x.A with
  | none =>
    refine (Tryz.slices_Clone_string_nil _ _ _).mono ?_
    rintro e w' ⟨rfl, rfl⟩
    have h0 : x.t.vs = [] := by
      rcases h.vs.2 with ⟨_, h0⟩ | ⟨b, off, cap, e, _⟩
      · simpa using h0
      · rw [hA] at e; cases e
    refine ⟨none, 0, by rw [h0]; rfl, ⟨by rw [h0]; exact Nat.le_refl _, .inl ⟨by rw [h0]; rfl, by rw [h0]; rfl⟩⟩, Below.refl _ _, fun a h => by cases h⟩
  | some a =>
    rcases h.vs.2 with ⟨e, _⟩ | ⟨b, off, cap, e, hb, hc⟩
    · rw [hA] at e; cases e
    · rw [hA] at e
      injection e with e1 e2 e3
      injection e1 with e1
      subst e1
      by_cases h0 : x.t.vs.length = 0
      · rw [h0]
        refine (Tryz.slices_Clone_string_zero _ _ _).mono ?_
        rintro e w' ⟨v', rfl, hr, _, hb2⟩
        have hv0 : x.t.vs = [] := List.length_eq_zero_iff.1 h0
        obtain ⟨A, c, e1, rest⟩ := key v' w' (by rw [hv0]; exact hr) hb2
        rw [h0] at e1
        exact ⟨A, c, by rw [e1], rest⟩
      · refine (Tryz.slices_Clone_string b off x.t.vs.length x.c (x.t.vs.map mk) W (by simp) (by omega) (fun j hj => ?_)).mono ?_
        · have := hc j hj
          rw [this, List.getD_eq_getElem?_getD]
        · rintro e w' ⟨v', rfl, hr, _, hb2⟩
          obtain ⟨A, c, e1, rest⟩ := key v' w' (by rw [show x.t.vs.length = (x.t.vs.map mk).length by simp, List.take_length] at hr; simpa using hr) hb2
          exact ⟨A, c, by rw [e1], rest⟩
end Go.Proofs.YthlccfjhgejlmaaGreatDoor
