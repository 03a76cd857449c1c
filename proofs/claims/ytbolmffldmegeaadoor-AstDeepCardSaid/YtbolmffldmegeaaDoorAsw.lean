/-
  Package ast: Same, where what stands in places is at one place.
-/
import Derived.Test.YtbolmffldmegeaaDoorAal
import Derived.Deep.QuietTactic
import Derived.BigQuiet
import Derived.Deep.RegionHeld3
import Derived.LaidEqlPtr
namespace Go.Proofs.YtbolmffldmegeaaDoor
open Go.RowKit
set_option linter.unusedVariables false
set_option linter.unusedSimpArgs false

theorem ptr_info : ∃ j, Tryd.prog.info? 36 = some j := by
  cases h : Tryd.prog.info? 36 with
  | none => exact absurd h (by intro h; have : (Tryd.prog.info? 36).isSome = true := by kernel_rfl
                               rw [h] at this; cases this)
  | some j => exact ⟨j, rfl⟩
set_option maxHeartbeats 1000000 in
set_option maxRecDepth 100000 in
theorem within_one (qb : Nat) (p : Option Addr) (w : World) : Calls Tryd.prog 34 #[pt qb, .pointer p, .pointer p] w fun e w' => e = .returned (.bool true) ∧ Below w.heap.size w w' := by
  obtain ⟨j, hj⟩ := ptr_info
  unfold pt
  cases p with
  | none =>
    go_enter Tryd.func34, Tryd.ntmps34
    go_wp2
    go_ret
    exact ⟨rfl, by repeat' first | exact Below.refl _ _ | apply Below.setCell | apply Below.alloc | (simp; done) | (simp; omega)⟩
  | some a =>
    have he := fun W => run_eql_ptr_same (P := Tryd.prog) W a Tryd.underlying33 hj
    go_enter Tryd.func34, Tryd.ntmps34
    go_wp2
    all_goals
      go_ret
      exact ⟨rfl, by repeat' first | exact Below.refl _ _ | apply Below.setCell | apply Below.alloc | (simp; done) | (simp; omega)⟩
/-- What a function of a place answers. -/
def FnAt (w : World) (N : FuncId) (caps : Array Value) (n : Nat) (p : Nat → Bool) : Prop :=
  ∀ i, i < n → ∀ w1, Below w.heap.size w w1 → Calls Tryd.prog N (#[.int .i64 (i : Nat)] ++ caps) w1 fun e w' => e = .returned (.bool (p i)) ∧ Below w1.heap.size w1 w'
def allTo (p : Nat → Bool) : Nat → Bool
  | 0 => true
  | m + 1 => allTo p m && p m
theorem allTo_false (p : Nat → Bool) (i : Nat) (h : p i = false) : ∀ n, i < n → allTo p n = false
  | 0, hn => by omega
  | n + 1, hn => by
    rw [allTo]
    by_cases e : i = n
    · subst e; rw [h, Bool.and_false]
    · rw [allTo_false p i h n (by omega), Bool.false_and]
set_option maxHeartbeats 1000000 in
set_option maxRecDepth 100000 in
theorem areSame_any (n m : Nat) (hn : n ≤ 4000000) (hm : m ≤ 4000000) (N : FuncId) (caps : Array Value) (hE : Enters N) (p : Nat → Bool) (w : World) (hF0 : n = m → FnAt w N caps n p) :
    Calls Tryd.prog 32 #[.int .i64 (n : Nat), .int .i64 (m : Nat), .func (.func N) #[] caps] w fun e w' => e = .returned (.bool (decide (n = m) && allTo p n)) ∧ Below w.heap.size w w' := by
  have hnz : (n : Int) ≤ 4000000 := by omega
  have hmz : (m : Int) ≤ 4000000 := by omega
  unfold Enters at hE
  by_cases h : n = m
  case neg =>
    have hz : ((n : Int) != (m : Int)) = true := by simp; omega
    have hz' : (n != m) = true := by simp; omega
    rw [decide_eq_false h]
    clear h hF0
    go_enter Tryd.func32, Tryd.ntmps32
    go_wp2
    go_ret
    exact ⟨rfl, Below.refl _ _⟩
  have hz : ((n : Int) != (m : Int)) = false := by simp; omega
  have hz' : (n != m) = false := by simp; omega
  rw [decide_eq_true h, Bool.true_and]
  have HF := Lib.hid (hF0 h)
  clear h hF0
  go_enter Tryd.func32, Tryd.ntmps32
  go_wp2
  go_loopw [12] (fun t12 wr => ∃ i : Nat, t12 = .int .i64 i ∧ i ≤ n ∧ Hid (allTo p i = true) ∧ Hid (Below w.heap.size w wr)) (fun t12 _ => n - (intOf t12).toNat)
  case atStart => exact ⟨0, rfl, Nat.zero_le _, rfl, Below.refl _ _⟩
  case round =>
    obtain ⟨i, rfl, hi, Hall, Hb⟩ := hrel
    have hi0 : (i : Int) ≤ 4000000 := by omega
    by_cases hlt : i < n
    · have hlt' : decide ((i : Int) < (n : Int)) = true := decide_eq_true (by omega)
      have hlt'' : decide (i < n) = true := decide_eq_true hlt
      have hc := HF.out i hlt wr Hb.out
      obtain ⟨q, hq⟩ : ∃ q, p i = q := ⟨_, rfl⟩
      rw [hq] at hc
      have HC := Lib.hid hc
      have Hq := Lib.hid hq
      clear hc hq
      go_wp2_with fail
      refine HC.out.mono ?_
      rintro e w2 ⟨rfl, hb2⟩
      have hb3 : Below w.heap.size w w2 := Hb.out.trans (hb2.mono Hb.out.size)
      have Hb3 := Lib.hid hb3
      clear hb2 hb3
      cases q
      · go_wp2
        go_ret
        exact ⟨ret_bool (by rw [allTo_false p i Hq.out n hlt]), Hb3.out⟩
      · go_wp2
        go_roundw
        case rel => exact ⟨i + 1, by go_num, hlt, by unfold Hid; rw [allTo, Hall.out, Hq.out]; rfl, Hb3.out⟩
        case measure => simp [intOf]; omega
    · obtain rfl : i = n := by omega
      have hlt' : decide ((i : Int) < (i : Int)) = false := decide_eq_false (by omega)
      have hlt'' : decide (i < i) = false := decide_eq_false (by omega)
      go_wp2
      go_ret
      exact ⟨ret_bool (by rw [Hall.out]), Hb.out⟩
end Go.Proofs.YtbolmffldmegeaaDoor
