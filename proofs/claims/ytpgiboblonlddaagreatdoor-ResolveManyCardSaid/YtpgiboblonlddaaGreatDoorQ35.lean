/-
  Several texts put together (part 35): what the law and the program call, walked; their contracts.
-/
import Derived.RangeFuncBox
import Derived.RangeFuncLeaves
import Derived.RangeFuncFrom
import Derived.RangeFuncKeeps
import Derived.Shelf.Abstract
import Derived.WalkKit
import Derived.OwnWalkIn
import Derived.TacticsInMore
import Derived.LoopNIn
import Derived.LoopIn
import Derived.Test.YtpgiboblonlddaaGreatDoorQ4
namespace Go.Proofs.YtpgiboblonlddaaGreatDoor
open Go.RowKit Go.Shelf
set_option linter.unusedVariables false
set_option linter.unusedSimpArgs false
attribute [local go_sem] Oper.semAt_some
def bwd (len k : Nat) : List Nat := (List.range k).map fun i => len - 1 - i
theorem bwd_succ (len k : Nat) : bwd len (k + 1) = bwd len k ++ [len - 1 - k] := by simp [bwd, List.range_succ]
theorem bwd_length (len k : Nat) : (bwd len k).length = k := by simp [bwd]
structure AC where
  t : ByteArray
  A : Option Addr
  n : Nat
  c : Nat
def AC.v (a : AC) : Value := .agg #[.string a.t, .slice a.A a.n a.c]
set_option maxRecDepth 100000 in
set_option maxHeartbeats 4000000 in
theorem back1_in (F : Fence) (n : Nat) (h7 : F.fn 71) (hro : F.round = none) (hn : 1 ≤ n) (l Bs n₀ b off len cap : Nat) (X : Nat → AC) (hreach : len ≤ 4000000) (hb : b < n₀) (hB0 : Bs < n₀) (J Jx : List Nat → World → Prop)
    (hY : ∀ pre x W, J pre W → pre.length < len → YieldAt F (n - 1) Tryz.prog l #[.int .i64 (x : Nat), (X x).v] W fun e W' =>
      (e = .returned (.bool true) ∧ J (pre ++ [x]) W' ∧ Below n₀ W W') ∨ (e = .returned (.bool false) ∧ Jx (pre ++ [x]) W'))
    (W : World) (hBs : W.cell? ⟨Bs, 0, none⟩ = some (.slice (some ⟨b, off, none⟩) len cap)) (hc0 : ∀ j, j < len → W.cell? ⟨b, off + j * 2, none⟩ = some (.string (X j).t)) (hc1 : ∀ j, j < len → W.cell? ⟨b, off + j * 2 + 1, none⟩ = some (.slice (X j).A (X j).n (X j).c)) (h0 : J [] W) :
    CallsIn F n Tryz.prog 71 #[.func (.yield l) #[] #[], .pointer (some ⟨Bs, 0, none⟩)] W fun e W' => (∃ v, e = .returned v) ∧
      ((∃ ys, ys = bwd len len ∧ J ys W') ∨ (∃ pre, (∃ k, k ≤ len ∧ pre = bwd len k) ∧ Jx pre W')) := by
  have w1 : wrap64 ((len : Int) - 1) = (len : Int) - 1 := by unfold wrap64; omega
  refine callsIn_of_wp Tryz.func71 rfl h7 ?_ hro
  simp only [Tryz.ntmps71, List.size_toArray, List.length_cons, List.length_nil, Nat.reduceAdd, Nat.reduceSub, Array.replicate_succ, Array.replicate_zero, List.push_toArray, List.append_toArray, List.nil_append, List.cons_append]
  gi_wp2
  gi_loopw [3] (fun i wr => ∃ m : Nat, m ≤ len ∧ i = .int .i64 ((m : Int) - 1) ∧ J (bwd len (len - m)) wr ∧ Below n₀ W wr)
    (fun i _ => (intOf i + 1).toNat)
  case atStart => exact ⟨len, Nat.le_refl _, rfl, by rw [Nat.sub_self]; exact h0, Below.refl _ _⟩
  case round =>
    obtain ⟨m, hm, rfl, hJs, hnx⟩ := hrel
    cases m with
    | zero =>
      gi_wp2
      go_end0
      rw [Nat.sub_zero] at hJs
      exact ⟨⟨_, rfl⟩, .inl ⟨_, rfl, hJs⟩⟩
    | succ q =>
      have e1 : ((q + 1 : Nat) : Int) - 1 = (q : Int) := by omega
      have e2 : bwd len (len - (q + 1)) ++ [q] = bwd len (len - q) := by
        have := bwd_succ len (len - (q + 1))
        rw [show len - (q + 1) + 1 = len - q by omega, show len - 1 - (len - (q + 1)) = q by omega] at this
        exact this.symm
      obtain ⟨fn, tmps, assign, body, hy, hR⟩ := hY _ q wr hJs (by rw [bwd_length]; omega)
      rw [e2] at hR
      have k0 := (hnx.cell (p := ⟨b, off + q * 2, none⟩) hb).trans (hc0 q (by omega))
      have k1 := (hnx.cell (p := ⟨b, off + q * 2 + 1, none⟩) hb).trans (hc1 q (by omega))
      have k2 := (hnx.cell (p := ⟨Bs, 0, none⟩) hB0).trans hBs
      unfold AC.v at hy
      have hu : Below n₀ W wr := hnx
      rw [e1]
      have f1 : decide ((0 : Int) ≤ (q : Int)) = true := decide_eq_true (by omega)
      have f2 : q < len := by omega
      gi_wp2
      refine hR.mono ?_
      rintro e W3 (⟨rfl, hJ3, hk3⟩ | ⟨rfl, hJx3⟩)
      · gi_wp2
        go_roundw
        case rel => exact ⟨q, by omega, by simp, hJ3, hu.trans hk3⟩
        case measure => simp [intOf]
      · gi_wp2
        refine bodyPost_ret (results_none rfl _ _ _) rfl ?_
        exact ⟨⟨_, rfl⟩, .inr ⟨_, ⟨len - q, by omega, rfl⟩, hJx3⟩⟩
end Go.Proofs.YtpgiboblonlddaaGreatDoor
