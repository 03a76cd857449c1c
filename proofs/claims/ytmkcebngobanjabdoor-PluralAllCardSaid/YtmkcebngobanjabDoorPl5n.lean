/-
  Package plural: a language without rules.
-/
import Derived.Test.YtmkcebngobanjabDoorPl5
namespace Go.Proofs.YtmkcebngobanjabDoor
open Go.RowKit
set_option linter.unusedVariables false

set_option maxHeartbeats 4000000 in
theorem count_no (x : ByteArray) (q0 : (x.toList == [101, 110]) = false) (q1 : (x.toList == [100, 101]) = false) (q2 : (x.toList == [110, 108]) = false) (q3 : (x.toList == [115, 118]) = false) (q4 : (x.toList == [102, 114]) = false) (q5 : (x.toList == [101, 115]) = false) (q6 : (x.toList == [112, 108]) = false) (q7 : (x.toList == [114, 117]) = false) (q8 : (x.toList == [99, 115]) = false) (q9 : (x.toList == [97, 114]) = false) (w : World) : GivesR 19 #[.string x] w (fun _ _ => 0) := by
  unfold GivesR
  go_enter Tryd.func19, Tryd.ntmps19
  go_wp2_with fail
  go_at_call 26
  refine (in_gives 1 1 _).mono ?_
  rintro e w1 ⟨v, rfl, ⟨None, Kone, rfl, he, hC⟩, hb⟩
  have Cone : Hid (CondV (.func (.func None) #[] Kone) w1 (pIn 1 1)) := Lib.hid ⟨_, _, rfl, he, hC⟩
  have HB := Lib.hid hb
  clear he hC hb
  go_wp2_with fail
  go_at_call 28
  refine (last_gives 1 2 4 _ (by omega) (by omega)).mono ?_
  rintro e w2 ⟨v, rfl, ⟨Nl1, Kl1, rfl, he, hC⟩, hb⟩
  have Cone := Lib.hid (Cone.out.later hb)
  have Cl1 : Hid (CondV (.func (.func Nl1) #[] Kl1) w2 (pLast 1 2 4)) := Lib.hid ⟨_, _, rfl, he, hC⟩
  have HB := Lib.hid (below_then HB.out (Nat.le_refl _) hb)
  clear he hC hb
  go_wp2_with fail
  go_at_call 28
  refine (last_gives 2 12 14 _ (by omega) (by omega)).mono ?_
  rintro e w3 ⟨v, rfl, ⟨Nl2, Kl2, rfl, he, hC⟩, hb⟩
  have Cone := Lib.hid (Cone.out.later hb)
  have Cl1 := Lib.hid (Cl1.out.later hb)
  have Cl2 : Hid (CondV (.func (.func Nl2) #[] Kl2) w3 (pLast 2 12 14)) := Lib.hid ⟨_, _, rfl, he, hC⟩
  have HB := Lib.hid (below_then HB.out (Nat.le_refl _) hb)
  clear he hC hb
  go_wp2_with fail
  go_at_call 29
  refine (not_gives _ Cl2.out).mono ?_
  rintro e w4 ⟨v, rfl, ⟨Nn2, Kn2, rfl, he, hC⟩, hb⟩
  have Cone := Lib.hid (Cone.out.later hb)
  have Cl1 := Lib.hid (Cl1.out.later hb)
  have Cl2 := Lib.hid (Cl2.out.later hb)
  have Cn2 : Hid (CondV (.func (.func Nn2) #[] Kn2) w4 (fun s k => !(pLast 2 12 14) s k)) := Lib.hid ⟨_, _, rfl, he, hC⟩
  have HB := Lib.hid (below_then HB.out (Nat.le_refl _) hb)
  clear he hC hb
  go_wp2_with fail
  go_at_call 27
  refine (both_gives _ Cl1.out Cn2.out).mono ?_
  rintro e w5 ⟨v, rfl, ⟨Nfew, Kfew, rfl, he, hC⟩, hb⟩
  have Cone := Lib.hid (Cone.out.later hb)
  have Cl1 := Lib.hid (Cl1.out.later hb)
  have Cl2 := Lib.hid (Cl2.out.later hb)
  have Cn2 := Lib.hid (Cn2.out.later hb)
  have Cfew : Hid (CondV (.func (.func Nfew) #[] Kfew) w5 (fun s k => (pLast 1 2 4) s k && (fun s k => !(pLast 2 12 14) s k) s k)) := Lib.hid ⟨_, _, rfl, he, hC⟩
  have HB := Lib.hid (below_then HB.out (Nat.le_refl _) hb)
  clear he hC hb
  go_wp2
  go_ret
  exact ⟨.inr ⟨rfl, fun s k => rfl⟩, HB.out⟩

set_option maxHeartbeats 4000000 in
theorem rank_no (x : ByteArray) (q4 : (x.toList == [102, 114]) = false) (q0 : (x.toList == [101, 110]) = false) (w : World) : GivesR 21 #[.string x] w (fun _ _ => 0) := by
  unfold GivesR
  go_enter Tryd.func21, Tryd.ntmps21
  go_wp2
  go_ret
  exact ⟨.inr ⟨rfl, fun s k => rfl⟩, Below.refl _ _⟩
end Go.Proofs.YtmkcebngobanjabDoor
