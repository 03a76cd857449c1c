/-
  Several texts put together (part 36): what the law and the program call, walked; their contracts.
-/
import Derived.Test.YtpgiboblonlddaaGreatDoorQ34
import Derived.Test.YtpgiboblonlddaaGreatDoorQ35
import Derived.RangeFuncNested
namespace Go.Proofs.YtpgiboblonlddaaGreatDoor
open Go.RowKit Go.Shelf
set_option linter.unusedVariables false
set_option linter.unusedSimpArgs false
attribute [local go_sem] Oper.semAt_some
set_option maxHeartbeats 1000000 in
theorem backward_in (F : Fence) (n : Nat) (h5 : F.fn 45) (hro : F.round = none) (a : Option Addr) (len cap : Nat) (w : World) :
    CallsIn F n Tryz.prog 45 #[.slice a len cap] w fun e w' => e = .returned (.func (.func 71) #[] #[.pointer (some ⟨w.heap.size, 0, none⟩)]) ∧ w' = w.alloc (.cells #[.slice a len cap] 87) := by
  refine callsIn_of_wp Tryz.func45 rfl h5 ?_ hro
  simp only [Tryz.ntmps45, List.size_toArray, List.length_cons, List.length_nil, Nat.reduceAdd, Nat.reduceSub, Array.replicate_succ, Array.replicate_zero, List.push_toArray, List.append_toArray, List.nil_append, List.cons_append]
  gi_wp2
  go_ret
  exact ⟨rfl, rfl⟩
set_option maxRecDepth 100000 in
set_option maxHeartbeats 2000000 in
theorem back0_in (F : Fence) (n : Nat) (h7 : F.fn 71) (hro : F.round = none) (l Bs : Nat) (A : Option Addr) (cap : Nat) (J : List Nat → World → Prop) (W : World) (hBs : W.cell? ⟨Bs, 0, none⟩ = some (.slice A 0 cap)) (h0 : J [] W) :
    CallsIn F n Tryz.prog 71 #[.func (.yield l) #[] #[], .pointer (some ⟨Bs, 0, none⟩)] W fun e W' => (∃ v, e = .returned v) ∧ J [] W' := by
  refine callsIn_of_wp Tryz.func71 rfl h7 ?_ hro
  simp only [Tryz.ntmps71, List.size_toArray, List.length_cons, List.length_nil, Nat.reduceAdd, Nat.reduceSub, Array.replicate_succ, Array.replicate_zero, List.push_toArray, List.append_toArray, List.nil_append, List.cons_append]
  gi_wp2
  gi_loopw [3] (fun i wr => i = .int .i64 (-1) ∧ J [] wr) (fun _ _ => 0)
  case atStart => exact ⟨rfl, h0⟩
  case round =>
    obtain ⟨rfl, hJs⟩ := hrel
    gi_wp2
    go_end0
    exact ⟨⟨_, rfl⟩, hJs⟩
theorem back_stops (F : Fence) (n : Nat) (h7 : F.fn 71) (hro : F.round = none) (hn : 1 ≤ n) (Bs n₀ len cap : Nat) (A : Option Addr) (X : Nat → AC) (hreach : len ≤ 4000000) (w : World) (hB0 : Bs < n₀) (hn₀ : n₀ ≤ w.heap.size)
    (hBs : w.cell? ⟨Bs, 0, none⟩ = some (.slice A len cap)) (hc : 0 < len → ∃ b off, A = some ⟨b, off, none⟩ ∧ b < n₀ ∧ ∀ j, j < len → w.cell? ⟨b, off + j * 2, none⟩ = some (.string (X j).t) ∧ w.cell? ⟨b, off + j * 2 + 1, none⟩ = some (.slice (X j).A (X j).n (X j).c)) :
    SeqStopsK F n Tryz.prog 71 #[.pointer (some ⟨Bs, 0, none⟩)] (fun x : Nat => #[Value.int .i64 (x : Nat), (X x).v]) (Below n₀) (fun ys => ys = bwd len len) (fun pre => ∃ k, k ≤ len ∧ pre = bwd len k) len w := fun l J Jx W hW _ _ hY h0 => by
  have hW0 := hW.mono hn₀
  have hB := (hW0.cell (p := ⟨Bs, 0, none⟩) hB0).trans hBs
  by_cases hl : 0 < len
  · obtain ⟨b, off, rfl, hb, hcs⟩ := hc hl
    exact back1_in F n h7 hro hn l Bs n₀ b off len cap X hreach hb hB0 J Jx hY W hB (fun j hj => (hW0.cell (p := ⟨b, off + j * 2, none⟩) hb).trans (hcs j hj).1) (fun j hj => (hW0.cell (p := ⟨b, off + j * 2 + 1, none⟩) hb).trans (hcs j hj).2) h0
  · have : len = 0 := by omega
    subst this
    exact (back0_in F n h7 hro l Bs A cap J W hB h0).mono fun e W' ⟨he, hj⟩ => ⟨he, .inl ⟨_, rfl, hj⟩⟩
end Go.Proofs.YtpgiboblonlddaaGreatDoor
