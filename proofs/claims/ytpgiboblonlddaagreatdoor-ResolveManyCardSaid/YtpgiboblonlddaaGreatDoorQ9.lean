/-
  Several texts put together (part 9): what the law and the program call, walked; their contracts.
-/
import Derived.Test.YtpgiboblonlddaaGreatDoorQ8
import Derived.Deep.QuietTactic
import Derived.BigQuiet
namespace Go.Proofs.YtpgiboblonlddaaGreatDoor
open Go.RowKit
set_option linter.unusedVariables false
set_option linter.unusedSimpArgs false
def Enters (N : FuncId) : Prop := ∀ (args : Array Value) (w : World), (callFunc N args).run Tryz.prog w = .ok (.enter N args) w
def EndFn (N : FuncId) (f : ByteArray → Nat → Nat) (s : ByteArray) : Prop := Enters N ∧ ∀ (i : Nat) (w : World), s.size ≤ 4000000 → i ≤ s.size → i ≤ f s i ∧ f s i ≤ s.size ∧ Calls Tryz.prog N #[.string s, .int .i64 (i : Nat)] w fun e w' => e = .returned (.int .i64 (f s i : Nat)) ∧ Below w.heap.size w w'
set_option maxHeartbeats 2000000 in
set_option maxRecDepth 100000 in
theorem pass_any {N : FuncId} {f : ByteArray → Nat → Nat} {rb : Nat} {s : ByteArray} {i : Nat} (hN : EndFn N f s) (w : World) (hr : Rd rb s i w) (hs : s.size ≤ 4000000) (hi : i ≤ s.size) :
    Calls Tryz.prog 218 #[pt rb, .func (.func N) #[] #[]] w fun e w' => e = .returned (.string (s.extract i (f s i))) ∧ Rd rb s (f s i) w' ∧ Kp rb w w' := by
  obtain ⟨hE, hC⟩ := hN
  obtain ⟨h1, h2, _⟩ := hC i w hs hi
  have hC2 := fun W => (hC i W hs hi).2.2
  have HC := Lib.hid hC2
  have c0 := hr.c0
  have c1 := hr.c1
  have f0 := hr.f 0
  have f1 := hr.f 1
  have hlt := hr.lt
  have HR := Lib.hid hr
  obtain ⟨j, hj⟩ : ∃ j, f s i = j := ⟨_, rfl⟩
  rw [hj] at h1 h2 HC ⊢
  have hi0 : (i : Int) ≤ 4000000 := by omega
  have hj0 : (j : Int) ≤ 4000000 := by omega
  have hij : (i : Int) ≤ (j : Int) := by omega
  have hjs : (j : Int) ≤ (s.size : Int) := by omega
  have hss : (s.size : Int) ≤ 4000000 := by omega
  clear hC hC2 hj hr
  unfold Enters at hE
  unfold pt
  go_enter Tryz.func218, Tryz.ntmps218
  go_wp2_with fail
  refine (HC.out _).mono ?_
  rintro e w1 ⟨rfl, hb⟩
  have hR1 := HR.out.later hb
  have d0 := hR1.c0
  have d1 := hR1.c1
  have g0 := hR1.f 0
  have g1 := hR1.f 1
  have hl1 := hR1.lt
  have HR1 := Lib.hid hR1
  have HK := Lib.hid (Kp.of_below hb (Nat.le_of_lt hlt))
  clear hR1 hb
  go_wp2
  go_region
  go_wp2
  go_ret
  exact ⟨rfl, HR1.out.set j, (HK.out.setCell 1 _).drew⟩
end Go.Proofs.YtpgiboblonlddaaGreatDoor
