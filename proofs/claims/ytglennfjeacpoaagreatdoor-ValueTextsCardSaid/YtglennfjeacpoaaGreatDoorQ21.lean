/-
  Several texts put together (part 21): what the law and the program call, walked; their contracts.
-/
import Derived.Test.YtglennfjeacpoaaGreatDoorQ20
import Derived.Deep.RegionHeld3
namespace Go.Proofs.YtglennfjeacpoaaGreatDoor
open Go.RowKit
set_option linter.unusedVariables false
def FirstC (v : Value) (W : World) (F : ByteArray → Nat → Int) : Prop :=
  ∀ W1, Below W.heap.size W W1 → ∀ n s k, GoodD s k → Calls Tryz.prog 145 #[v, dv n s k] W1 fun e w' => e = .returned (.int .i64 (F s k)) ∧ Below W1.heap.size W1 w'
theorem FirstC.later {v : Value} {W W1 : World} {F : ByteArray → Nat → Int} (h : FirstC v W F) (hb : Below W.heap.size W W1) : FirstC v W1 F :=
  fun W2 hb2 => h W2 (hb.trans (hb2.mono hb.size))
def GivesF (f : FuncId) (args : Array Value) (w : World) (F : ByteArray → Nat → Int) : Prop := Calls Tryz.prog f args w fun e w' => ∃ v, e = .returned v ∧ FirstC v w' F ∧ Below w.heap.size w w'
theorem GivesR.first {f : FuncId} {args : Array Value} {w : World} {F : ByteArray → Nat → Int} (h : GivesR f args w F) : GivesF f args w F := by
  refine h.mono ?_
  rintro e w' ⟨⟨g, l, rfl, hl, hF, hR⟩ | ⟨rfl, hF⟩, hb⟩
  · refine ⟨_, rfl, fun W1 hb1 n s k hg => ?_, hb⟩
    have := first_any l g l.length n s k W1 (hR.later hb1) hl hg
    rw [hF] at this
    exact this
  · refine ⟨_, rfl, fun W1 hb1 n s k hg => ?_, hb⟩
    have := first_nil n s k W1
    rw [hF]
    exact this
theorem boxD {B : Nat} {w W w1 : World} {n : Bool} {s : ByteArray} {k : Nat} (hb1 : Below W.heap.size W w1)
    (h : W.cell? ⟨B, 0, none⟩ = some (.bool n) ∧ W.cell? ⟨B, 1, none⟩ = some (.string s) ∧ W.cell? ⟨B, 2, none⟩ = some (.int .i64 k) ∧ B + 1 ≤ W.heap.size ∧ Below B w W) :
    w1.cell? ⟨B, 0, none⟩ = some (.bool n) ∧ w1.cell? ⟨B, 1, none⟩ = some (.string s) ∧ w1.cell? ⟨B, 2, none⟩ = some (.int .i64 k) ∧ B + 1 ≤ w1.heap.size ∧ Below B w w1 := by
  exact box3 hb1 h
set_option maxHeartbeats 2000000 in
theorem of_gives (x : ByteArray) (F : ByteArray → Nat → Int) (hR : ∀ w, GivesF 147 #[.string x] w F) (n : Bool) (s : ByteArray) (k : Nat) (w : World) (hg : GoodD s k) :
    Calls Tryz.prog 96 #[.string x, dv n s k] w fun e w' => e = .returned (.int .i64 (F s k)) ∧ Below w.heap.size w w' := by
  have HR := Lib.hid hR
  clear hR
  have Hg := Lib.hid hg
  clear hg
  unfold dv
  go_enter Tryz.func96, Tryz.ntmps96
  go_wp2_with fail
  go_region_with (first | (go_at_call 147; refine (HR.out _).mono ?_; rintro e w1 ⟨v, rfl, hF, hb1⟩; obtain ⟨hc1, hf1⟩ := bcell hb1) | (go_at_call 145; refine (hF _ (by first | exact Below.refl _ _ | exact (Below.refl _ _).drew) n s k Hg.out).mono ?_; rintro e w2 ⟨rfl, hb2⟩))
  all_goals
    go_wp2
    go_ret
    exact ⟨rfl, below_then (below_then (((Below.refl _ w).alloc (Nat.le_refl _) _).drew) (Nat.le_refl _) hb1) (Nat.le_refl _) hb2⟩
set_option maxHeartbeats 2000000 in
theorem rank_gives (x : ByteArray) (F : ByteArray → Nat → Int) (hR : ∀ w, GivesF 146 #[.string x] w F) (n : Bool) (s : ByteArray) (k : Nat) (w : World) (hg : GoodD s k) :
    Calls Tryz.prog 95 #[.string x, dv n s k] w fun e w' => e = .returned (.int .i64 (F s k)) ∧ Below w.heap.size w w' := by
  have HR := Lib.hid hR
  clear hR
  have Hg := Lib.hid hg
  clear hg
  unfold dv
  go_enter Tryz.func95, Tryz.ntmps95
  go_wp2_with fail
  go_region_with (first | (go_at_call 146; refine (HR.out _).mono ?_; rintro e w1 ⟨v, rfl, hF, hb1⟩; obtain ⟨hc1, hf1⟩ := bcell hb1) | (go_at_call 145; refine (hF _ (by first | exact Below.refl _ _ | exact (Below.refl _ _).drew) n s k Hg.out).mono ?_; rintro e w2 ⟨rfl, hb2⟩))
  all_goals
    go_wp2
    go_ret
    exact ⟨rfl, below_then (below_then (((Below.refl _ w).alloc (Nat.le_refl _) _).drew) (Nat.le_refl _) hb1) (Nat.le_refl _) hb2⟩
set_option maxHeartbeats 1000000 in
theorem word_any (c : Int) (w : World) (h0 : 0 ≤ c) (h5 : c ≤ 5) : Calls Tryz.prog 51 #[.int .i64 c] w fun e w' => (e = .returned (.string (#[⟨#[111, 116, 104, 101, 114]⟩, ⟨#[122, 101, 114, 111]⟩, ⟨#[111, 110, 101]⟩, ⟨#[116, 119, 111]⟩, ⟨#[102, 101, 119]⟩, ⟨#[109, 97, 110, 121]⟩][c.toNat]?.getD ByteArray.empty))) ∧ Below w.heap.size w w' := by
  have : c = 0 ∨ c = 1 ∨ c = 2 ∨ c = 3 ∨ c = 4 ∨ c = 5 := by omega
  clear h0 h5
  rcases this with rfl | rfl | rfl | rfl | rfl | rfl
  all_goals
    go_enter Tryz.func51, Tryz.ntmps51
    go_wp2
    go_ret
    exact ⟨rfl, (Below.refl _ _).alloc (Nat.le_refl _) _⟩
theorem word_no (c : Int) (w : World) (h : c < 0 ∨ 5 < c) : Calls Tryz.prog 51 #[.int .i64 c] w fun e w' => e = .returned (.string ⟨#[]⟩) ∧ Below w.heap.size w w' := by
  by_cases h0 : c < 0
  all_goals
    go_enter Tryz.func51, Tryz.ntmps51
    go_wp2
    go_ret
    exact ⟨rfl, (Below.refl _ _).alloc (Nat.le_refl _) _⟩
end Go.Proofs.YtglennfjeacpoaaGreatDoor

namespace Go.Proofs.YtglennfjeacpoaaGreatDoor
open Go.RowKit
set_option linter.unusedVariables false
set_option maxHeartbeats 4000000 in
theorem count_no (x : ByteArray) (q0 : (x.toList == [101, 110]) = false) (q1 : (x.toList == [100, 101]) = false) (q2 : (x.toList == [110, 108]) = false) (q3 : (x.toList == [115, 118]) = false) (q4 : (x.toList == [102, 114]) = false) (q5 : (x.toList == [101, 115]) = false) (q6 : (x.toList == [112, 108]) = false) (q7 : (x.toList == [114, 117]) = false) (q8 : (x.toList == [99, 115]) = false) (q9 : (x.toList == [97, 114]) = false) (w : World) : GivesR 147 #[.string x] w (fun _ _ => 0) := by
  unfold GivesR
  go_enter Tryz.func147, Tryz.ntmps147
  go_wp2_with fail
  go_at_call 184
  refine (in_gives 1 1 _).mono ?_
  rintro e w1 ⟨v, rfl, ⟨None, Kone, rfl, he, hC⟩, hb⟩
  have Cone : Hid (CondV (.func (.func None) #[] Kone) w1 (pIn 1 1)) := Lib.hid ⟨_, _, rfl, he, hC⟩
  have HB := Lib.hid hb
  clear he hC hb
  go_wp2_with fail
  go_at_call 185
  refine (last_gives 1 2 4 _ (by omega) (by omega)).mono ?_
  rintro e w2 ⟨v, rfl, ⟨Nl1, Kl1, rfl, he, hC⟩, hb⟩
  have Cone := Lib.hid (Cone.out.later hb)
  have Cl1 : Hid (CondV (.func (.func Nl1) #[] Kl1) w2 (pLast 1 2 4)) := Lib.hid ⟨_, _, rfl, he, hC⟩
  have HB := Lib.hid (below_then HB.out (Nat.le_refl _) hb)
  clear he hC hb
  go_wp2_with fail
  go_at_call 185
  refine (last_gives 2 12 14 _ (by omega) (by omega)).mono ?_
  rintro e w3 ⟨v, rfl, ⟨Nl2, Kl2, rfl, he, hC⟩, hb⟩
  have Cone := Lib.hid (Cone.out.later hb)
  have Cl1 := Lib.hid (Cl1.out.later hb)
  have Cl2 : Hid (CondV (.func (.func Nl2) #[] Kl2) w3 (pLast 2 12 14)) := Lib.hid ⟨_, _, rfl, he, hC⟩
  have HB := Lib.hid (below_then HB.out (Nat.le_refl _) hb)
  clear he hC hb
  go_wp2_with fail
  go_at_call 182
  refine (not_gives _ Cl2.out).mono ?_
  rintro e w4 ⟨v, rfl, ⟨Nn2, Kn2, rfl, he, hC⟩, hb⟩
  have Cone := Lib.hid (Cone.out.later hb)
  have Cl1 := Lib.hid (Cl1.out.later hb)
  have Cl2 := Lib.hid (Cl2.out.later hb)
  have Cn2 : Hid (CondV (.func (.func Nn2) #[] Kn2) w4 (fun s k => !(pLast 2 12 14) s k)) := Lib.hid ⟨_, _, rfl, he, hC⟩
  have HB := Lib.hid (below_then HB.out (Nat.le_refl _) hb)
  clear he hC hb
  go_wp2_with fail
  go_at_call 186
  refine (both_gives _ Cl1.out Cn2.out).mono ?_
  rintro e w5 ⟨v, rfl, ⟨Nfew, Kfew, rfl, he, hC⟩, hb⟩
  have Cone := Lib.hid (Cone.out.later hb)
  have Cl1 := Lib.hid (Cl1.out.later hb)
  have Cl2 := Lib.hid (Cl2.out.later hb)
  have Cn2 := Lib.hid (Cn2.out.later hb)
  have Cfew : Hid (CondV (.func (.func Nfew) #[] Kfew) w5 (fun s k => (pLast 1 2 4) s k && (fun s k => !(pLast 2 12 14) s k) s k)) := Lib.hid ⟨_, _, rfl, he, hC⟩
  have HB := Lib.hid (below_then HB.out (Nat.le_refl _) hb)
  clear he hC hb
  go_wp2
  go_ret
  exact ⟨.inr ⟨rfl, fun s k => rfl⟩, HB.out⟩
set_option maxHeartbeats 4000000 in
theorem rank_no (x : ByteArray) (q4 : (x.toList == [102, 114]) = false) (q0 : (x.toList == [101, 110]) = false) (w : World) : GivesR 146 #[.string x] w (fun _ _ => 0) := by
  unfold GivesR
  go_enter Tryz.func146, Tryz.ntmps146
  go_wp2
  go_ret
  exact ⟨.inr ⟨rfl, fun s k => rfl⟩, Below.refl _ _⟩
end Go.Proofs.YtglennfjeacpoaaGreatDoor
