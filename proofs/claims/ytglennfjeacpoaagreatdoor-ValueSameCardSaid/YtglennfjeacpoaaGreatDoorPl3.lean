/-
  Package plural: conditions made: wholeIn, lastIn, not, both; the first rule that holds.
-/
import Derived.Test.YtglennfjeacpoaaGreatDoorPl2
import Derived.Laws.EntriesVeiled
namespace Go.Proofs.YtglennfjeacpoaaGreatDoor
open Go.RowKit
set_option linter.unusedVariables false

theorem hmfP : ∀ (fn : Fn) (first cap : Array Value) (w : World), (Instr.makeFunc fn first cap).run Tryz.prog w = .ok (.func fn first cap) w := fun _ _ _ _ => rfl
theorem enters_scale : Enters 187 := fun args w => by go_simp
theorem enters_isWhole : Enters 183 := fun args w => by go_simp
theorem enters_always : Enters 188 := fun args w => by go_simp
def pScale (s : ByteArray) (k : Nat) : Bool := (k : Int) != 0
theorem cond_scale (W : World) : CondV (.func (.func 187) #[] #[]) W pScale := ⟨_, _, rfl, enters_scale, fun W1 _ n s k _ => hasScale_any n s k W1⟩
theorem cond_whole (W : World) : CondV (.func (.func 183) #[] #[]) W pWhole := ⟨_, _, rfl, enters_isWhole, fun W1 _ n s k hg => isWhole_any n s k W1 hg⟩
theorem cond_always (W : World) : CondV (.func (.func 188) #[] #[]) W (fun _ _ => true) := ⟨_, _, rfl, enters_always, fun W1 _ n s k hg => always_any n s k W1⟩

/-- A call hands back a condition. -/
def GivesC (f : FuncId) (args : Array Value) (w : World) (p : ByteArray → Nat → Bool) : Prop := Calls Tryz.prog f args w fun e w' => ∃ v, e = .returned v ∧ CondV v w' p ∧ Below w.heap.size w w'
theorem not_gives {fa : Value} {p : ByteArray → Nat → Bool} (w : World) (ha : CondV fa w p) : GivesC 182 #[fa] w (fun s k => !p s k) := by
  have hmf := hmfP
  obtain ⟨N, caps, rfl, he, hC⟩ := ha
  have hA : Hid (CondV (.func (.func N) #[] caps) (w.alloc (.cells #[.func (.func N) #[] caps] 222)) (fun s k => p s k)) := Lib.hid (CondV.later ⟨N, caps, rfl, he, hC⟩ ((Below.refl _ w).alloc (Nat.le_refl _) _))
  clear he hC
  unfold GivesC
  go_enter Tryz.func182, Tryz.ntmps182
  go_wp2
  go_ret
  exact ⟨_, rfl, ⟨_, _, rfl, enters_not, not1_any w.heap.size _ (by simp) (by simp) hA.out⟩, (Below.refl _ _).alloc (Nat.le_refl _) _⟩
theorem both_gives {fa fb : Value} {p q : ByteArray → Nat → Bool} (w : World) (ha : CondV fa w p) (hb : CondV fb w q) : GivesC 186 #[fa, fb] w (fun s k => p s k && q s k) := by
  have hmf := hmfP
  obtain ⟨N, caps, rfl, he, hC⟩ := ha
  obtain ⟨N', caps', rfl, he', hC'⟩ := hb
  have B : Below w.heap.size w ((w.alloc (.cells #[.func (.func N) #[] caps] 222)).alloc (.cells #[.func (.func N') #[] caps'] 222)) := ((Below.refl _ w).alloc (Nat.le_refl _) _).alloc (by simp) _
  have hA := Lib.hid (CondV.later (p := fun s k => p s k) ⟨N, caps, rfl, he, hC⟩ B)
  have hB := Lib.hid (CondV.later (p := fun s k => q s k) ⟨N', caps', rfl, he', hC'⟩ B)
  have HB := Lib.hid B
  clear he hC he' hC' B
  unfold GivesC
  go_enter Tryz.func186, Tryz.ntmps186
  go_wp2
  go_ret
  exact ⟨_, rfl, ⟨_, _, rfl, enters_both, both1_any w.heap.size (w.heap.size + 1) _ (by simp) (by simp) (by simp; omega) (by simp) hA.out hB.out⟩, HB.out⟩
theorem three_boxes (w : World) (x y z : Int) (t : TypeId) :
    let W := ((w.alloc (.cells #[.int .i64 x] t)).alloc (.cells #[.int .i64 y] t)).alloc (.cells #[.int .i64 z] t)
    W.cell? ⟨w.heap.size, 0, none⟩ = some (.int .i64 x) ∧ W.cell? ⟨w.heap.size + 1, 0, none⟩ = some (.int .i64 y) ∧ W.cell? ⟨w.heap.size + 1 + 1, 0, none⟩ = some (.int .i64 z) ∧ W.heap.size = w.heap.size + 3 := by
  intro W
  refine ⟨?_, ?_, ?_, ?_⟩
  · show (((w.alloc _).alloc _).alloc _).cell? _ = _
    go_simp
  · show (((w.alloc _).alloc _).alloc _).cell? _ = _
    go_simp
  · show (((w.alloc _).alloc _).alloc _).cell? _ = _
    go_simp
  · show (((w.alloc _).alloc _).alloc _).heap.size = _
    simp
theorem last_gives (c : Nat) (lo hi : Int) (w : World) (h1 : 1 ≤ c) (h2 : c ≤ 2) : GivesC 185 #[.int .i64 c, .int .i64 lo, .int .i64 hi] w (pLast c lo hi) := by
  have hmf := hmfP
  unfold GivesC
  go_enter Tryz.func185, Tryz.ntmps185
  go_wp2
  go_ret
  obtain ⟨q1, q2, q3, q4⟩ := three_boxes w c lo hi 3
  exact ⟨_, rfl, ⟨_, _, rfl, enters_last, lastIn1_any c lo hi w.heap.size (w.heap.size + 1) (w.heap.size + 1 + 1) _ h1 h2 q1 q2 q3 (by omega) (by omega) (by omega)⟩, (((Below.refl _ w).alloc (Nat.le_refl _) _).alloc (by simp) _).alloc (by simp; omega) _⟩
def pIn (lo hi : Int) (s : ByteArray) (k : Nat) : Bool := decide ((trW s k).size ≤ 2) && pLast 2 lo hi s k
theorem in_gives (lo hi : Int) (w : World) : GivesC 184 #[.int .i64 lo, .int .i64 hi] w (pIn lo hi) := by
  have hmf := hmfP
  unfold GivesC
  go_enter Tryz.func184, Tryz.ntmps184
  go_wp2_with fail
  go_at_call 185
  refine (last_gives 2 lo hi _ (by omega) (by omega)).mono ?_
  rintro e w1 ⟨v, rfl, ⟨N, caps, rfl, he, hC⟩, hb⟩
  have hA := Lib.hid (CondV.later (p := fun s k => pLast 2 lo hi s k) ⟨N, caps, rfl, he, hC⟩ ((Below.refl _ w1).alloc (Nat.le_refl _) (.cells #[.func (.func N) #[] caps] 222)))
  have Hb := Lib.hid hb
  clear he hC hb
  go_wp2
  go_ret
  exact ⟨_, rfl, ⟨_, _, rfl, enters_whole, wholeIn1_any w1.heap.size _ (by simp) (by simp) hA.out⟩, below_new Hb.out (Nat.le_refl _) _⟩
end Go.Proofs.YtglennfjeacpoaaGreatDoor
