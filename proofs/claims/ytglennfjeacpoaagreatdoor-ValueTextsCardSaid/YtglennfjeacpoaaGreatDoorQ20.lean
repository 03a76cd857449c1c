/-
  Several texts put together (part 20): what the law and the program call, walked; their contracts.
-/
import Derived.Test.YtglennfjeacpoaaGreatDoorQ19
namespace Go.Proofs.YtglennfjeacpoaaGreatDoor
open Go.RowKit
set_option linter.unusedVariables false
def pFew (s : ByteArray) (k : Nat) : Bool := pLast 1 2 4 s k && !pLast 2 12 14 s k
def cEn (s : ByteArray) (k : Nat) : Int := if (!pScale s k && pIn 1 1 s k) = true then 2 else 0
def cFr (s : ByteArray) (k : Nat) : Int := if pIn 0 1 s k = true then 2 else 0
def cEs (s : ByteArray) (k : Nat) : Int := if (pWhole s k && pIn 1 1 s k) = true then 2 else 0
def cPl (s : ByteArray) (k : Nat) : Int := if pScale s k = true then 0 else if pIn 1 1 s k = true then 2 else if pFew s k = true then 4 else 5
def cRu (s : ByteArray) (k : Nat) : Int := if pScale s k = true then 0 else if (pLast 1 1 1 s k && !pLast 2 11 11 s k) = true then 2 else if pFew s k = true then 4 else 5
def cCs (s : ByteArray) (k : Nat) : Int := if pScale s k = true then 5 else if pIn 1 1 s k = true then 2 else if pIn 2 4 s k = true then 4 else 0
def cAr (s : ByteArray) (k : Nat) : Int := if (!pWhole s k) = true then 0 else if pIn 0 0 s k = true then 1 else if pIn 1 1 s k = true then 2 else if pIn 2 2 s k = true then 3 else if pLast 2 3 10 s k = true then 4 else if pLast 2 11 99 s k = true then 5 else 0
def rFr (s : ByteArray) (k : Nat) : Int := if (!pWhole s k) = true then 0 else if pIn 1 1 s k = true then 2 else 0
def rEn (s : ByteArray) (k : Nat) : Int := if (!pWhole s k) = true then 0 else if pLast 2 11 13 s k = true then 0 else if pLast 1 1 1 s k = true then 2 else if pLast 1 2 2 s k = true then 3 else if pLast 1 3 3 s k = true then 4 else 0
set_option maxHeartbeats 4000000 in
theorem count_en (w : World) : GivesR 147 #[.string ⟨#[101, 110]⟩] w cEn := by
  unfold GivesR
  go_enter Tryz.func147, Tryz.ntmps147
  go_wp2_with fail
  go_at_call 184
  refine (in_gives 1 1 _).mono ?_
  rintro e w1 ⟨v, rfl, ⟨None, Kone, rfl, he, hC⟩, hb⟩
  have Cone : Hid (CondV (.func (.func None) #[] Kone) w1 (pIn 1 1)) := Lib.hid ⟨_, _, rfl, he, hC⟩
  have HB := Lib.hid hb
  clear he hC hb
  go_wp2_with fail
  go_at_call 185
  refine (last_gives 1 2 4 _ (by omega) (by omega)).mono ?_
  rintro e w2 ⟨v, rfl, ⟨Nl1, Kl1, rfl, he, hC⟩, hb⟩
  have Cone := Lib.hid (Cone.out.later hb)
  have Cl1 : Hid (CondV (.func (.func Nl1) #[] Kl1) w2 (pLast 1 2 4)) := Lib.hid ⟨_, _, rfl, he, hC⟩
  have HB := Lib.hid (below_then HB.out (Nat.le_refl _) hb)
  clear he hC hb
  go_wp2_with fail
  go_at_call 185
  refine (last_gives 2 12 14 _ (by omega) (by omega)).mono ?_
  rintro e w3 ⟨v, rfl, ⟨Nl2, Kl2, rfl, he, hC⟩, hb⟩
  have Cone := Lib.hid (Cone.out.later hb)
  have Cl1 := Lib.hid (Cl1.out.later hb)
  have Cl2 : Hid (CondV (.func (.func Nl2) #[] Kl2) w3 (pLast 2 12 14)) := Lib.hid ⟨_, _, rfl, he, hC⟩
  have HB := Lib.hid (below_then HB.out (Nat.le_refl _) hb)
  clear he hC hb
  go_wp2_with fail
  go_at_call 182
  refine (not_gives _ Cl2.out).mono ?_
  rintro e w4 ⟨v, rfl, ⟨Nn2, Kn2, rfl, he, hC⟩, hb⟩
  have Cone := Lib.hid (Cone.out.later hb)
  have Cl1 := Lib.hid (Cl1.out.later hb)
  have Cl2 := Lib.hid (Cl2.out.later hb)
  have Cn2 : Hid (CondV (.func (.func Nn2) #[] Kn2) w4 (fun s k => !(pLast 2 12 14) s k)) := Lib.hid ⟨_, _, rfl, he, hC⟩
  have HB := Lib.hid (below_then HB.out (Nat.le_refl _) hb)
  clear he hC hb
  go_wp2_with fail
  go_at_call 186
  refine (both_gives _ Cl1.out Cn2.out).mono ?_
  rintro e w5 ⟨v, rfl, ⟨Nfew, Kfew, rfl, he, hC⟩, hb⟩
  have Cone := Lib.hid (Cone.out.later hb)
  have Cl1 := Lib.hid (Cl1.out.later hb)
  have Cl2 := Lib.hid (Cl2.out.later hb)
  have Cn2 := Lib.hid (Cn2.out.later hb)
  have Cfew : Hid (CondV (.func (.func Nfew) #[] Kfew) w5 (fun s k => (pLast 1 2 4) s k && (fun s k => !(pLast 2 12 14) s k) s k)) := Lib.hid ⟨_, _, rfl, he, hC⟩
  have HB := Lib.hid (below_then HB.out (Nat.le_refl _) hb)
  clear he hC hb
  go_wp2_with fail
  go_at_call 182
  refine (not_gives _ (cond_scale _)).mono ?_
  rintro e w6 ⟨v, rfl, ⟨Nns, Kns, rfl, he, hC⟩, hb⟩
  have Cone := Lib.hid (Cone.out.later hb)
  have Cl1 := Lib.hid (Cl1.out.later hb)
  have Cl2 := Lib.hid (Cl2.out.later hb)
  have Cn2 := Lib.hid (Cn2.out.later hb)
  have Cfew := Lib.hid (Cfew.out.later hb)
  have Cns : Hid (CondV (.func (.func Nns) #[] Kns) w6 (fun s k => !(pScale) s k)) := Lib.hid ⟨_, _, rfl, he, hC⟩
  have HB := Lib.hid (below_then HB.out (Nat.le_refl _) hb)
  clear he hC hb
  go_wp2_with fail
  go_at_call 186
  refine (both_gives _ Cns.out Cone.out).mono ?_
  rintro e w7 ⟨v, rfl, ⟨Nb, Kb, rfl, he, hC⟩, hb⟩
  have Cone := Lib.hid (Cone.out.later hb)
  have Cl1 := Lib.hid (Cl1.out.later hb)
  have Cl2 := Lib.hid (Cl2.out.later hb)
  have Cn2 := Lib.hid (Cn2.out.later hb)
  have Cfew := Lib.hid (Cfew.out.later hb)
  have Cns := Lib.hid (Cns.out.later hb)
  have Cb : Hid (CondV (.func (.func Nb) #[] Kb) w7 (fun s k => (fun s k => !(pScale) s k) s k && (pIn 1 1) s k)) := Lib.hid ⟨_, _, rfl, he, hC⟩
  have HB := Lib.hid (below_then HB.out (Nat.le_refl _) hb)
  clear he hC hb
  go_wp2
  go_ret
  refine ⟨.inl ⟨w7.heap.size, [⟨2, (.func (.func Nb) #[] Kb), fun s k => (fun s k => !(pScale) s k) s k && (pIn 1 1) s k⟩], rfl, by simp, fun s k => rfl, rulesAt_new w7 _ _ _ rfl ?_⟩, below_new HB.out (Nat.le_refl _) _⟩
  intro r hr
  simp only [List.mem_cons, List.not_mem_nil, or_false] at hr
  subst hr
  · exact Cb.out
set_option maxHeartbeats 4000000 in
theorem count_de (w : World) : GivesR 147 #[.string ⟨#[100, 101]⟩] w cEn := by
  unfold GivesR
  go_enter Tryz.func147, Tryz.ntmps147
  go_wp2_with fail
  go_at_call 184
  refine (in_gives 1 1 _).mono ?_
  rintro e w1 ⟨v, rfl, ⟨None, Kone, rfl, he, hC⟩, hb⟩
  have Cone : Hid (CondV (.func (.func None) #[] Kone) w1 (pIn 1 1)) := Lib.hid ⟨_, _, rfl, he, hC⟩
  have HB := Lib.hid hb
  clear he hC hb
  go_wp2_with fail
  go_at_call 185
  refine (last_gives 1 2 4 _ (by omega) (by omega)).mono ?_
  rintro e w2 ⟨v, rfl, ⟨Nl1, Kl1, rfl, he, hC⟩, hb⟩
  have Cone := Lib.hid (Cone.out.later hb)
  have Cl1 : Hid (CondV (.func (.func Nl1) #[] Kl1) w2 (pLast 1 2 4)) := Lib.hid ⟨_, _, rfl, he, hC⟩
  have HB := Lib.hid (below_then HB.out (Nat.le_refl _) hb)
  clear he hC hb
  go_wp2_with fail
  go_at_call 185
  refine (last_gives 2 12 14 _ (by omega) (by omega)).mono ?_
  rintro e w3 ⟨v, rfl, ⟨Nl2, Kl2, rfl, he, hC⟩, hb⟩
  have Cone := Lib.hid (Cone.out.later hb)
  have Cl1 := Lib.hid (Cl1.out.later hb)
  have Cl2 : Hid (CondV (.func (.func Nl2) #[] Kl2) w3 (pLast 2 12 14)) := Lib.hid ⟨_, _, rfl, he, hC⟩
  have HB := Lib.hid (below_then HB.out (Nat.le_refl _) hb)
  clear he hC hb
  go_wp2_with fail
  go_at_call 182
  refine (not_gives _ Cl2.out).mono ?_
  rintro e w4 ⟨v, rfl, ⟨Nn2, Kn2, rfl, he, hC⟩, hb⟩
  have Cone := Lib.hid (Cone.out.later hb)
  have Cl1 := Lib.hid (Cl1.out.later hb)
  have Cl2 := Lib.hid (Cl2.out.later hb)
  have Cn2 : Hid (CondV (.func (.func Nn2) #[] Kn2) w4 (fun s k => !(pLast 2 12 14) s k)) := Lib.hid ⟨_, _, rfl, he, hC⟩
  have HB := Lib.hid (below_then HB.out (Nat.le_refl _) hb)
  clear he hC hb
  go_wp2_with fail
  go_at_call 186
  refine (both_gives _ Cl1.out Cn2.out).mono ?_
  rintro e w5 ⟨v, rfl, ⟨Nfew, Kfew, rfl, he, hC⟩, hb⟩
  have Cone := Lib.hid (Cone.out.later hb)
  have Cl1 := Lib.hid (Cl1.out.later hb)
  have Cl2 := Lib.hid (Cl2.out.later hb)
  have Cn2 := Lib.hid (Cn2.out.later hb)
  have Cfew : Hid (CondV (.func (.func Nfew) #[] Kfew) w5 (fun s k => (pLast 1 2 4) s k && (fun s k => !(pLast 2 12 14) s k) s k)) := Lib.hid ⟨_, _, rfl, he, hC⟩
  have HB := Lib.hid (below_then HB.out (Nat.le_refl _) hb)
  clear he hC hb
  go_wp2_with fail
  go_at_call 182
  refine (not_gives _ (cond_scale _)).mono ?_
  rintro e w6 ⟨v, rfl, ⟨Nns, Kns, rfl, he, hC⟩, hb⟩
  have Cone := Lib.hid (Cone.out.later hb)
  have Cl1 := Lib.hid (Cl1.out.later hb)
  have Cl2 := Lib.hid (Cl2.out.later hb)
  have Cn2 := Lib.hid (Cn2.out.later hb)
  have Cfew := Lib.hid (Cfew.out.later hb)
  have Cns : Hid (CondV (.func (.func Nns) #[] Kns) w6 (fun s k => !(pScale) s k)) := Lib.hid ⟨_, _, rfl, he, hC⟩
  have HB := Lib.hid (below_then HB.out (Nat.le_refl _) hb)
  clear he hC hb
  go_wp2_with fail
  go_at_call 186
  refine (both_gives _ Cns.out Cone.out).mono ?_
  rintro e w7 ⟨v, rfl, ⟨Nb, Kb, rfl, he, hC⟩, hb⟩
  have Cone := Lib.hid (Cone.out.later hb)
  have Cl1 := Lib.hid (Cl1.out.later hb)
  have Cl2 := Lib.hid (Cl2.out.later hb)
  have Cn2 := Lib.hid (Cn2.out.later hb)
  have Cfew := Lib.hid (Cfew.out.later hb)
  have Cns := Lib.hid (Cns.out.later hb)
  have Cb : Hid (CondV (.func (.func Nb) #[] Kb) w7 (fun s k => (fun s k => !(pScale) s k) s k && (pIn 1 1) s k)) := Lib.hid ⟨_, _, rfl, he, hC⟩
  have HB := Lib.hid (below_then HB.out (Nat.le_refl _) hb)
  clear he hC hb
  go_wp2
  go_ret
  refine ⟨.inl ⟨w7.heap.size, [⟨2, (.func (.func Nb) #[] Kb), fun s k => (fun s k => !(pScale) s k) s k && (pIn 1 1) s k⟩], rfl, by simp, fun s k => rfl, rulesAt_new w7 _ _ _ rfl ?_⟩, below_new HB.out (Nat.le_refl _) _⟩
  intro r hr
  simp only [List.mem_cons, List.not_mem_nil, or_false] at hr
  subst hr
  · exact Cb.out
set_option maxHeartbeats 4000000 in
theorem count_nl (w : World) : GivesR 147 #[.string ⟨#[110, 108]⟩] w cEn := by
  unfold GivesR
  go_enter Tryz.func147, Tryz.ntmps147
  go_wp2_with fail
  go_at_call 184
  refine (in_gives 1 1 _).mono ?_
  rintro e w1 ⟨v, rfl, ⟨None, Kone, rfl, he, hC⟩, hb⟩
  have Cone : Hid (CondV (.func (.func None) #[] Kone) w1 (pIn 1 1)) := Lib.hid ⟨_, _, rfl, he, hC⟩
  have HB := Lib.hid hb
  clear he hC hb
  go_wp2_with fail
  go_at_call 185
  refine (last_gives 1 2 4 _ (by omega) (by omega)).mono ?_
  rintro e w2 ⟨v, rfl, ⟨Nl1, Kl1, rfl, he, hC⟩, hb⟩
  have Cone := Lib.hid (Cone.out.later hb)
  have Cl1 : Hid (CondV (.func (.func Nl1) #[] Kl1) w2 (pLast 1 2 4)) := Lib.hid ⟨_, _, rfl, he, hC⟩
  have HB := Lib.hid (below_then HB.out (Nat.le_refl _) hb)
  clear he hC hb
  go_wp2_with fail
  go_at_call 185
  refine (last_gives 2 12 14 _ (by omega) (by omega)).mono ?_
  rintro e w3 ⟨v, rfl, ⟨Nl2, Kl2, rfl, he, hC⟩, hb⟩
  have Cone := Lib.hid (Cone.out.later hb)
  have Cl1 := Lib.hid (Cl1.out.later hb)
  have Cl2 : Hid (CondV (.func (.func Nl2) #[] Kl2) w3 (pLast 2 12 14)) := Lib.hid ⟨_, _, rfl, he, hC⟩
  have HB := Lib.hid (below_then HB.out (Nat.le_refl _) hb)
  clear he hC hb
  go_wp2_with fail
  go_at_call 182
  refine (not_gives _ Cl2.out).mono ?_
  rintro e w4 ⟨v, rfl, ⟨Nn2, Kn2, rfl, he, hC⟩, hb⟩
  have Cone := Lib.hid (Cone.out.later hb)
  have Cl1 := Lib.hid (Cl1.out.later hb)
  have Cl2 := Lib.hid (Cl2.out.later hb)
  have Cn2 : Hid (CondV (.func (.func Nn2) #[] Kn2) w4 (fun s k => !(pLast 2 12 14) s k)) := Lib.hid ⟨_, _, rfl, he, hC⟩
  have HB := Lib.hid (below_then HB.out (Nat.le_refl _) hb)
  clear he hC hb
  go_wp2_with fail
  go_at_call 186
  refine (both_gives _ Cl1.out Cn2.out).mono ?_
  rintro e w5 ⟨v, rfl, ⟨Nfew, Kfew, rfl, he, hC⟩, hb⟩
  have Cone := Lib.hid (Cone.out.later hb)
  have Cl1 := Lib.hid (Cl1.out.later hb)
  have Cl2 := Lib.hid (Cl2.out.later hb)
  have Cn2 := Lib.hid (Cn2.out.later hb)
  have Cfew : Hid (CondV (.func (.func Nfew) #[] Kfew) w5 (fun s k => (pLast 1 2 4) s k && (fun s k => !(pLast 2 12 14) s k) s k)) := Lib.hid ⟨_, _, rfl, he, hC⟩
  have HB := Lib.hid (below_then HB.out (Nat.le_refl _) hb)
  clear he hC hb
  go_wp2_with fail
  go_at_call 182
  refine (not_gives _ (cond_scale _)).mono ?_
  rintro e w6 ⟨v, rfl, ⟨Nns, Kns, rfl, he, hC⟩, hb⟩
  have Cone := Lib.hid (Cone.out.later hb)
  have Cl1 := Lib.hid (Cl1.out.later hb)
  have Cl2 := Lib.hid (Cl2.out.later hb)
  have Cn2 := Lib.hid (Cn2.out.later hb)
  have Cfew := Lib.hid (Cfew.out.later hb)
  have Cns : Hid (CondV (.func (.func Nns) #[] Kns) w6 (fun s k => !(pScale) s k)) := Lib.hid ⟨_, _, rfl, he, hC⟩
  have HB := Lib.hid (below_then HB.out (Nat.le_refl _) hb)
  clear he hC hb
  go_wp2_with fail
  go_at_call 186
  refine (both_gives _ Cns.out Cone.out).mono ?_
  rintro e w7 ⟨v, rfl, ⟨Nb, Kb, rfl, he, hC⟩, hb⟩
  have Cone := Lib.hid (Cone.out.later hb)
  have Cl1 := Lib.hid (Cl1.out.later hb)
  have Cl2 := Lib.hid (Cl2.out.later hb)
  have Cn2 := Lib.hid (Cn2.out.later hb)
  have Cfew := Lib.hid (Cfew.out.later hb)
  have Cns := Lib.hid (Cns.out.later hb)
  have Cb : Hid (CondV (.func (.func Nb) #[] Kb) w7 (fun s k => (fun s k => !(pScale) s k) s k && (pIn 1 1) s k)) := Lib.hid ⟨_, _, rfl, he, hC⟩
  have HB := Lib.hid (below_then HB.out (Nat.le_refl _) hb)
  clear he hC hb
  go_wp2
  go_ret
  refine ⟨.inl ⟨w7.heap.size, [⟨2, (.func (.func Nb) #[] Kb), fun s k => (fun s k => !(pScale) s k) s k && (pIn 1 1) s k⟩], rfl, by simp, fun s k => rfl, rulesAt_new w7 _ _ _ rfl ?_⟩, below_new HB.out (Nat.le_refl _) _⟩
  intro r hr
  simp only [List.mem_cons, List.not_mem_nil, or_false] at hr
  subst hr
  · exact Cb.out
set_option maxHeartbeats 4000000 in
theorem count_sv (w : World) : GivesR 147 #[.string ⟨#[115, 118]⟩] w cEn := by
  unfold GivesR
  go_enter Tryz.func147, Tryz.ntmps147
  go_wp2_with fail
  go_at_call 184
  refine (in_gives 1 1 _).mono ?_
  rintro e w1 ⟨v, rfl, ⟨None, Kone, rfl, he, hC⟩, hb⟩
  have Cone : Hid (CondV (.func (.func None) #[] Kone) w1 (pIn 1 1)) := Lib.hid ⟨_, _, rfl, he, hC⟩
  have HB := Lib.hid hb
  clear he hC hb
  go_wp2_with fail
  go_at_call 185
  refine (last_gives 1 2 4 _ (by omega) (by omega)).mono ?_
  rintro e w2 ⟨v, rfl, ⟨Nl1, Kl1, rfl, he, hC⟩, hb⟩
  have Cone := Lib.hid (Cone.out.later hb)
  have Cl1 : Hid (CondV (.func (.func Nl1) #[] Kl1) w2 (pLast 1 2 4)) := Lib.hid ⟨_, _, rfl, he, hC⟩
  have HB := Lib.hid (below_then HB.out (Nat.le_refl _) hb)
  clear he hC hb
  go_wp2_with fail
  go_at_call 185
  refine (last_gives 2 12 14 _ (by omega) (by omega)).mono ?_
  rintro e w3 ⟨v, rfl, ⟨Nl2, Kl2, rfl, he, hC⟩, hb⟩
  have Cone := Lib.hid (Cone.out.later hb)
  have Cl1 := Lib.hid (Cl1.out.later hb)
  have Cl2 : Hid (CondV (.func (.func Nl2) #[] Kl2) w3 (pLast 2 12 14)) := Lib.hid ⟨_, _, rfl, he, hC⟩
  have HB := Lib.hid (below_then HB.out (Nat.le_refl _) hb)
  clear he hC hb
  go_wp2_with fail
  go_at_call 182
  refine (not_gives _ Cl2.out).mono ?_
  rintro e w4 ⟨v, rfl, ⟨Nn2, Kn2, rfl, he, hC⟩, hb⟩
  have Cone := Lib.hid (Cone.out.later hb)
  have Cl1 := Lib.hid (Cl1.out.later hb)
  have Cl2 := Lib.hid (Cl2.out.later hb)
  have Cn2 : Hid (CondV (.func (.func Nn2) #[] Kn2) w4 (fun s k => !(pLast 2 12 14) s k)) := Lib.hid ⟨_, _, rfl, he, hC⟩
  have HB := Lib.hid (below_then HB.out (Nat.le_refl _) hb)
  clear he hC hb
  go_wp2_with fail
  go_at_call 186
  refine (both_gives _ Cl1.out Cn2.out).mono ?_
  rintro e w5 ⟨v, rfl, ⟨Nfew, Kfew, rfl, he, hC⟩, hb⟩
  have Cone := Lib.hid (Cone.out.later hb)
  have Cl1 := Lib.hid (Cl1.out.later hb)
  have Cl2 := Lib.hid (Cl2.out.later hb)
  have Cn2 := Lib.hid (Cn2.out.later hb)
  have Cfew : Hid (CondV (.func (.func Nfew) #[] Kfew) w5 (fun s k => (pLast 1 2 4) s k && (fun s k => !(pLast 2 12 14) s k) s k)) := Lib.hid ⟨_, _, rfl, he, hC⟩
  have HB := Lib.hid (below_then HB.out (Nat.le_refl _) hb)
  clear he hC hb
  go_wp2_with fail
  go_at_call 182
  refine (not_gives _ (cond_scale _)).mono ?_
  rintro e w6 ⟨v, rfl, ⟨Nns, Kns, rfl, he, hC⟩, hb⟩
  have Cone := Lib.hid (Cone.out.later hb)
  have Cl1 := Lib.hid (Cl1.out.later hb)
  have Cl2 := Lib.hid (Cl2.out.later hb)
  have Cn2 := Lib.hid (Cn2.out.later hb)
  have Cfew := Lib.hid (Cfew.out.later hb)
  have Cns : Hid (CondV (.func (.func Nns) #[] Kns) w6 (fun s k => !(pScale) s k)) := Lib.hid ⟨_, _, rfl, he, hC⟩
  have HB := Lib.hid (below_then HB.out (Nat.le_refl _) hb)
  clear he hC hb
  go_wp2_with fail
  go_at_call 186
  refine (both_gives _ Cns.out Cone.out).mono ?_
  rintro e w7 ⟨v, rfl, ⟨Nb, Kb, rfl, he, hC⟩, hb⟩
  have Cone := Lib.hid (Cone.out.later hb)
  have Cl1 := Lib.hid (Cl1.out.later hb)
  have Cl2 := Lib.hid (Cl2.out.later hb)
  have Cn2 := Lib.hid (Cn2.out.later hb)
  have Cfew := Lib.hid (Cfew.out.later hb)
  have Cns := Lib.hid (Cns.out.later hb)
  have Cb : Hid (CondV (.func (.func Nb) #[] Kb) w7 (fun s k => (fun s k => !(pScale) s k) s k && (pIn 1 1) s k)) := Lib.hid ⟨_, _, rfl, he, hC⟩
  have HB := Lib.hid (below_then HB.out (Nat.le_refl _) hb)
  clear he hC hb
  go_wp2
  go_ret
  refine ⟨.inl ⟨w7.heap.size, [⟨2, (.func (.func Nb) #[] Kb), fun s k => (fun s k => !(pScale) s k) s k && (pIn 1 1) s k⟩], rfl, by simp, fun s k => rfl, rulesAt_new w7 _ _ _ rfl ?_⟩, below_new HB.out (Nat.le_refl _) _⟩
  intro r hr
  simp only [List.mem_cons, List.not_mem_nil, or_false] at hr
  subst hr
  · exact Cb.out
set_option maxHeartbeats 4000000 in
theorem count_fr (w : World) : GivesR 147 #[.string ⟨#[102, 114]⟩] w cFr := by
  unfold GivesR
  go_enter Tryz.func147, Tryz.ntmps147
  go_wp2_with fail
  go_at_call 184
  refine (in_gives 1 1 _).mono ?_
  rintro e w1 ⟨v, rfl, ⟨None, Kone, rfl, he, hC⟩, hb⟩
  have Cone : Hid (CondV (.func (.func None) #[] Kone) w1 (pIn 1 1)) := Lib.hid ⟨_, _, rfl, he, hC⟩
  have HB := Lib.hid hb
  clear he hC hb
  go_wp2_with fail
  go_at_call 185
  refine (last_gives 1 2 4 _ (by omega) (by omega)).mono ?_
  rintro e w2 ⟨v, rfl, ⟨Nl1, Kl1, rfl, he, hC⟩, hb⟩
  have Cone := Lib.hid (Cone.out.later hb)
  have Cl1 : Hid (CondV (.func (.func Nl1) #[] Kl1) w2 (pLast 1 2 4)) := Lib.hid ⟨_, _, rfl, he, hC⟩
  have HB := Lib.hid (below_then HB.out (Nat.le_refl _) hb)
  clear he hC hb
  go_wp2_with fail
  go_at_call 185
  refine (last_gives 2 12 14 _ (by omega) (by omega)).mono ?_
  rintro e w3 ⟨v, rfl, ⟨Nl2, Kl2, rfl, he, hC⟩, hb⟩
  have Cone := Lib.hid (Cone.out.later hb)
  have Cl1 := Lib.hid (Cl1.out.later hb)
  have Cl2 : Hid (CondV (.func (.func Nl2) #[] Kl2) w3 (pLast 2 12 14)) := Lib.hid ⟨_, _, rfl, he, hC⟩
  have HB := Lib.hid (below_then HB.out (Nat.le_refl _) hb)
  clear he hC hb
  go_wp2_with fail
  go_at_call 182
  refine (not_gives _ Cl2.out).mono ?_
  rintro e w4 ⟨v, rfl, ⟨Nn2, Kn2, rfl, he, hC⟩, hb⟩
  have Cone := Lib.hid (Cone.out.later hb)
  have Cl1 := Lib.hid (Cl1.out.later hb)
  have Cl2 := Lib.hid (Cl2.out.later hb)
  have Cn2 : Hid (CondV (.func (.func Nn2) #[] Kn2) w4 (fun s k => !(pLast 2 12 14) s k)) := Lib.hid ⟨_, _, rfl, he, hC⟩
  have HB := Lib.hid (below_then HB.out (Nat.le_refl _) hb)
  clear he hC hb
  go_wp2_with fail
  go_at_call 186
  refine (both_gives _ Cl1.out Cn2.out).mono ?_
  rintro e w5 ⟨v, rfl, ⟨Nfew, Kfew, rfl, he, hC⟩, hb⟩
  have Cone := Lib.hid (Cone.out.later hb)
  have Cl1 := Lib.hid (Cl1.out.later hb)
  have Cl2 := Lib.hid (Cl2.out.later hb)
  have Cn2 := Lib.hid (Cn2.out.later hb)
  have Cfew : Hid (CondV (.func (.func Nfew) #[] Kfew) w5 (fun s k => (pLast 1 2 4) s k && (fun s k => !(pLast 2 12 14) s k) s k)) := Lib.hid ⟨_, _, rfl, he, hC⟩
  have HB := Lib.hid (below_then HB.out (Nat.le_refl _) hb)
  clear he hC hb
  go_wp2_with fail
  go_at_call 184
  refine (in_gives 0 1 _).mono ?_
  rintro e w6 ⟨v, rfl, ⟨Nz, Kz, rfl, he, hC⟩, hb⟩
  have Cone := Lib.hid (Cone.out.later hb)
  have Cl1 := Lib.hid (Cl1.out.later hb)
  have Cl2 := Lib.hid (Cl2.out.later hb)
  have Cn2 := Lib.hid (Cn2.out.later hb)
  have Cfew := Lib.hid (Cfew.out.later hb)
  have Cz : Hid (CondV (.func (.func Nz) #[] Kz) w6 (pIn 0 1)) := Lib.hid ⟨_, _, rfl, he, hC⟩
  have HB := Lib.hid (below_then HB.out (Nat.le_refl _) hb)
  clear he hC hb
  go_wp2
  go_ret
  refine ⟨.inl ⟨w6.heap.size, [⟨2, (.func (.func Nz) #[] Kz), pIn 0 1⟩], rfl, by simp, fun s k => rfl, rulesAt_new w6 _ _ _ rfl ?_⟩, below_new HB.out (Nat.le_refl _) _⟩
  intro r hr
  simp only [List.mem_cons, List.not_mem_nil, or_false] at hr
  subst hr
  · exact Cz.out
set_option maxHeartbeats 4000000 in
theorem count_es (w : World) : GivesR 147 #[.string ⟨#[101, 115]⟩] w cEs := by
  unfold GivesR
  go_enter Tryz.func147, Tryz.ntmps147
  go_wp2_with fail
  go_at_call 184
  refine (in_gives 1 1 _).mono ?_
  rintro e w1 ⟨v, rfl, ⟨None, Kone, rfl, he, hC⟩, hb⟩
  have Cone : Hid (CondV (.func (.func None) #[] Kone) w1 (pIn 1 1)) := Lib.hid ⟨_, _, rfl, he, hC⟩
  have HB := Lib.hid hb
  clear he hC hb
  go_wp2_with fail
  go_at_call 185
  refine (last_gives 1 2 4 _ (by omega) (by omega)).mono ?_
  rintro e w2 ⟨v, rfl, ⟨Nl1, Kl1, rfl, he, hC⟩, hb⟩
  have Cone := Lib.hid (Cone.out.later hb)
  have Cl1 : Hid (CondV (.func (.func Nl1) #[] Kl1) w2 (pLast 1 2 4)) := Lib.hid ⟨_, _, rfl, he, hC⟩
  have HB := Lib.hid (below_then HB.out (Nat.le_refl _) hb)
  clear he hC hb
  go_wp2_with fail
  go_at_call 185
  refine (last_gives 2 12 14 _ (by omega) (by omega)).mono ?_
  rintro e w3 ⟨v, rfl, ⟨Nl2, Kl2, rfl, he, hC⟩, hb⟩
  have Cone := Lib.hid (Cone.out.later hb)
  have Cl1 := Lib.hid (Cl1.out.later hb)
  have Cl2 : Hid (CondV (.func (.func Nl2) #[] Kl2) w3 (pLast 2 12 14)) := Lib.hid ⟨_, _, rfl, he, hC⟩
  have HB := Lib.hid (below_then HB.out (Nat.le_refl _) hb)
  clear he hC hb
  go_wp2_with fail
  go_at_call 182
  refine (not_gives _ Cl2.out).mono ?_
  rintro e w4 ⟨v, rfl, ⟨Nn2, Kn2, rfl, he, hC⟩, hb⟩
  have Cone := Lib.hid (Cone.out.later hb)
  have Cl1 := Lib.hid (Cl1.out.later hb)
  have Cl2 := Lib.hid (Cl2.out.later hb)
  have Cn2 : Hid (CondV (.func (.func Nn2) #[] Kn2) w4 (fun s k => !(pLast 2 12 14) s k)) := Lib.hid ⟨_, _, rfl, he, hC⟩
  have HB := Lib.hid (below_then HB.out (Nat.le_refl _) hb)
  clear he hC hb
  go_wp2_with fail
  go_at_call 186
  refine (both_gives _ Cl1.out Cn2.out).mono ?_
  rintro e w5 ⟨v, rfl, ⟨Nfew, Kfew, rfl, he, hC⟩, hb⟩
  have Cone := Lib.hid (Cone.out.later hb)
  have Cl1 := Lib.hid (Cl1.out.later hb)
  have Cl2 := Lib.hid (Cl2.out.later hb)
  have Cn2 := Lib.hid (Cn2.out.later hb)
  have Cfew : Hid (CondV (.func (.func Nfew) #[] Kfew) w5 (fun s k => (pLast 1 2 4) s k && (fun s k => !(pLast 2 12 14) s k) s k)) := Lib.hid ⟨_, _, rfl, he, hC⟩
  have HB := Lib.hid (below_then HB.out (Nat.le_refl _) hb)
  clear he hC hb
  go_wp2_with fail
  go_at_call 186
  refine (both_gives _ (cond_whole _) Cone.out).mono ?_
  rintro e w6 ⟨v, rfl, ⟨Nb, Kb, rfl, he, hC⟩, hb⟩
  have Cone := Lib.hid (Cone.out.later hb)
  have Cl1 := Lib.hid (Cl1.out.later hb)
  have Cl2 := Lib.hid (Cl2.out.later hb)
  have Cn2 := Lib.hid (Cn2.out.later hb)
  have Cfew := Lib.hid (Cfew.out.later hb)
  have Cb : Hid (CondV (.func (.func Nb) #[] Kb) w6 (fun s k => (pWhole) s k && (pIn 1 1) s k)) := Lib.hid ⟨_, _, rfl, he, hC⟩
  have HB := Lib.hid (below_then HB.out (Nat.le_refl _) hb)
  clear he hC hb
  go_wp2
  go_ret
  refine ⟨.inl ⟨w6.heap.size, [⟨2, (.func (.func Nb) #[] Kb), fun s k => (pWhole) s k && (pIn 1 1) s k⟩], rfl, by simp, fun s k => rfl, rulesAt_new w6 _ _ _ rfl ?_⟩, below_new HB.out (Nat.le_refl _) _⟩
  intro r hr
  simp only [List.mem_cons, List.not_mem_nil, or_false] at hr
  subst hr
  · exact Cb.out
set_option maxHeartbeats 4000000 in
theorem count_pl (w : World) : GivesR 147 #[.string ⟨#[112, 108]⟩] w cPl := by
  unfold GivesR
  go_enter Tryz.func147, Tryz.ntmps147
  go_wp2_with fail
  go_at_call 184
  refine (in_gives 1 1 _).mono ?_
  rintro e w1 ⟨v, rfl, ⟨None, Kone, rfl, he, hC⟩, hb⟩
  have Cone : Hid (CondV (.func (.func None) #[] Kone) w1 (pIn 1 1)) := Lib.hid ⟨_, _, rfl, he, hC⟩
  have HB := Lib.hid hb
  clear he hC hb
  go_wp2_with fail
  go_at_call 185
  refine (last_gives 1 2 4 _ (by omega) (by omega)).mono ?_
  rintro e w2 ⟨v, rfl, ⟨Nl1, Kl1, rfl, he, hC⟩, hb⟩
  have Cone := Lib.hid (Cone.out.later hb)
  have Cl1 : Hid (CondV (.func (.func Nl1) #[] Kl1) w2 (pLast 1 2 4)) := Lib.hid ⟨_, _, rfl, he, hC⟩
  have HB := Lib.hid (below_then HB.out (Nat.le_refl _) hb)
  clear he hC hb
  go_wp2_with fail
  go_at_call 185
  refine (last_gives 2 12 14 _ (by omega) (by omega)).mono ?_
  rintro e w3 ⟨v, rfl, ⟨Nl2, Kl2, rfl, he, hC⟩, hb⟩
  have Cone := Lib.hid (Cone.out.later hb)
  have Cl1 := Lib.hid (Cl1.out.later hb)
  have Cl2 : Hid (CondV (.func (.func Nl2) #[] Kl2) w3 (pLast 2 12 14)) := Lib.hid ⟨_, _, rfl, he, hC⟩
  have HB := Lib.hid (below_then HB.out (Nat.le_refl _) hb)
  clear he hC hb
  go_wp2_with fail
  go_at_call 182
  refine (not_gives _ Cl2.out).mono ?_
  rintro e w4 ⟨v, rfl, ⟨Nn2, Kn2, rfl, he, hC⟩, hb⟩
  have Cone := Lib.hid (Cone.out.later hb)
  have Cl1 := Lib.hid (Cl1.out.later hb)
  have Cl2 := Lib.hid (Cl2.out.later hb)
  have Cn2 : Hid (CondV (.func (.func Nn2) #[] Kn2) w4 (fun s k => !(pLast 2 12 14) s k)) := Lib.hid ⟨_, _, rfl, he, hC⟩
  have HB := Lib.hid (below_then HB.out (Nat.le_refl _) hb)
  clear he hC hb
  go_wp2_with fail
  go_at_call 186
  refine (both_gives _ Cl1.out Cn2.out).mono ?_
  rintro e w5 ⟨v, rfl, ⟨Nfew, Kfew, rfl, he, hC⟩, hb⟩
  have Cone := Lib.hid (Cone.out.later hb)
  have Cl1 := Lib.hid (Cl1.out.later hb)
  have Cl2 := Lib.hid (Cl2.out.later hb)
  have Cn2 := Lib.hid (Cn2.out.later hb)
  have Cfew : Hid (CondV (.func (.func Nfew) #[] Kfew) w5 (fun s k => (pLast 1 2 4) s k && (fun s k => !(pLast 2 12 14) s k) s k)) := Lib.hid ⟨_, _, rfl, he, hC⟩
  have HB := Lib.hid (below_then HB.out (Nat.le_refl _) hb)
  clear he hC hb
  go_wp2
  go_ret
  refine ⟨.inl ⟨w5.heap.size, [⟨0, (.func (.func 187) #[] #[]), pScale⟩, ⟨2, (.func (.func None) #[] Kone), pIn 1 1⟩, ⟨4, (.func (.func Nfew) #[] Kfew), fun s k => (pLast 1 2 4) s k && (fun s k => !(pLast 2 12 14) s k) s k⟩, ⟨5, (.func (.func 188) #[] #[]), (fun _ _ => true)⟩], rfl, by simp, fun s k => rfl, rulesAt_new w5 _ _ _ rfl ?_⟩, below_new HB.out (Nat.le_refl _) _⟩
  intro r hr
  simp only [List.mem_cons, List.not_mem_nil, or_false] at hr
  rcases hr with rfl | rfl | rfl | rfl
  · exact (cond_scale _)
  · exact Cone.out
  · exact Cfew.out
  · exact (cond_always _)
set_option maxHeartbeats 4000000 in
theorem count_ru (w : World) : GivesR 147 #[.string ⟨#[114, 117]⟩] w cRu := by
  unfold GivesR
  go_enter Tryz.func147, Tryz.ntmps147
  go_wp2_with fail
  go_at_call 184
  refine (in_gives 1 1 _).mono ?_
  rintro e w1 ⟨v, rfl, ⟨None, Kone, rfl, he, hC⟩, hb⟩
  have Cone : Hid (CondV (.func (.func None) #[] Kone) w1 (pIn 1 1)) := Lib.hid ⟨_, _, rfl, he, hC⟩
  have HB := Lib.hid hb
  clear he hC hb
  go_wp2_with fail
  go_at_call 185
  refine (last_gives 1 2 4 _ (by omega) (by omega)).mono ?_
  rintro e w2 ⟨v, rfl, ⟨Nl1, Kl1, rfl, he, hC⟩, hb⟩
  have Cone := Lib.hid (Cone.out.later hb)
  have Cl1 : Hid (CondV (.func (.func Nl1) #[] Kl1) w2 (pLast 1 2 4)) := Lib.hid ⟨_, _, rfl, he, hC⟩
  have HB := Lib.hid (below_then HB.out (Nat.le_refl _) hb)
  clear he hC hb
  go_wp2_with fail
  go_at_call 185
  refine (last_gives 2 12 14 _ (by omega) (by omega)).mono ?_
  rintro e w3 ⟨v, rfl, ⟨Nl2, Kl2, rfl, he, hC⟩, hb⟩
  have Cone := Lib.hid (Cone.out.later hb)
  have Cl1 := Lib.hid (Cl1.out.later hb)
  have Cl2 : Hid (CondV (.func (.func Nl2) #[] Kl2) w3 (pLast 2 12 14)) := Lib.hid ⟨_, _, rfl, he, hC⟩
  have HB := Lib.hid (below_then HB.out (Nat.le_refl _) hb)
  clear he hC hb
  go_wp2_with fail
  go_at_call 182
  refine (not_gives _ Cl2.out).mono ?_
  rintro e w4 ⟨v, rfl, ⟨Nn2, Kn2, rfl, he, hC⟩, hb⟩
  have Cone := Lib.hid (Cone.out.later hb)
  have Cl1 := Lib.hid (Cl1.out.later hb)
  have Cl2 := Lib.hid (Cl2.out.later hb)
  have Cn2 : Hid (CondV (.func (.func Nn2) #[] Kn2) w4 (fun s k => !(pLast 2 12 14) s k)) := Lib.hid ⟨_, _, rfl, he, hC⟩
  have HB := Lib.hid (below_then HB.out (Nat.le_refl _) hb)
  clear he hC hb
  go_wp2_with fail
  go_at_call 186
  refine (both_gives _ Cl1.out Cn2.out).mono ?_
  rintro e w5 ⟨v, rfl, ⟨Nfew, Kfew, rfl, he, hC⟩, hb⟩
  have Cone := Lib.hid (Cone.out.later hb)
  have Cl1 := Lib.hid (Cl1.out.later hb)
  have Cl2 := Lib.hid (Cl2.out.later hb)
  have Cn2 := Lib.hid (Cn2.out.later hb)
  have Cfew : Hid (CondV (.func (.func Nfew) #[] Kfew) w5 (fun s k => (pLast 1 2 4) s k && (fun s k => !(pLast 2 12 14) s k) s k)) := Lib.hid ⟨_, _, rfl, he, hC⟩
  have HB := Lib.hid (below_then HB.out (Nat.le_refl _) hb)
  clear he hC hb
  go_wp2_with fail
  go_at_call 185
  refine (last_gives 1 1 1 _ (by omega) (by omega)).mono ?_
  rintro e w6 ⟨v, rfl, ⟨Nm1, Km1, rfl, he, hC⟩, hb⟩
  have Cone := Lib.hid (Cone.out.later hb)
  have Cl1 := Lib.hid (Cl1.out.later hb)
  have Cl2 := Lib.hid (Cl2.out.later hb)
  have Cn2 := Lib.hid (Cn2.out.later hb)
  have Cfew := Lib.hid (Cfew.out.later hb)
  have Cm1 : Hid (CondV (.func (.func Nm1) #[] Km1) w6 (pLast 1 1 1)) := Lib.hid ⟨_, _, rfl, he, hC⟩
  have HB := Lib.hid (below_then HB.out (Nat.le_refl _) hb)
  clear he hC hb
  go_wp2_with fail
  go_at_call 185
  refine (last_gives 2 11 11 _ (by omega) (by omega)).mono ?_
  rintro e w7 ⟨v, rfl, ⟨Nm2, Km2, rfl, he, hC⟩, hb⟩
  have Cone := Lib.hid (Cone.out.later hb)
  have Cl1 := Lib.hid (Cl1.out.later hb)
  have Cl2 := Lib.hid (Cl2.out.later hb)
  have Cn2 := Lib.hid (Cn2.out.later hb)
  have Cfew := Lib.hid (Cfew.out.later hb)
  have Cm1 := Lib.hid (Cm1.out.later hb)
  have Cm2 : Hid (CondV (.func (.func Nm2) #[] Km2) w7 (pLast 2 11 11)) := Lib.hid ⟨_, _, rfl, he, hC⟩
  have HB := Lib.hid (below_then HB.out (Nat.le_refl _) hb)
  clear he hC hb
  go_wp2_with fail
  go_at_call 182
  refine (not_gives _ Cm2.out).mono ?_
  rintro e w8 ⟨v, rfl, ⟨Nnm, Knm, rfl, he, hC⟩, hb⟩
  have Cone := Lib.hid (Cone.out.later hb)
  have Cl1 := Lib.hid (Cl1.out.later hb)
  have Cl2 := Lib.hid (Cl2.out.later hb)
  have Cn2 := Lib.hid (Cn2.out.later hb)
  have Cfew := Lib.hid (Cfew.out.later hb)
  have Cm1 := Lib.hid (Cm1.out.later hb)
  have Cm2 := Lib.hid (Cm2.out.later hb)
  have Cnm : Hid (CondV (.func (.func Nnm) #[] Knm) w8 (fun s k => !(pLast 2 11 11) s k)) := Lib.hid ⟨_, _, rfl, he, hC⟩
  have HB := Lib.hid (below_then HB.out (Nat.le_refl _) hb)
  clear he hC hb
  go_wp2_with fail
  go_at_call 186
  refine (both_gives _ Cm1.out Cnm.out).mono ?_
  rintro e w9 ⟨v, rfl, ⟨Neo, Keo, rfl, he, hC⟩, hb⟩
  have Cone := Lib.hid (Cone.out.later hb)
  have Cl1 := Lib.hid (Cl1.out.later hb)
  have Cl2 := Lib.hid (Cl2.out.later hb)
  have Cn2 := Lib.hid (Cn2.out.later hb)
  have Cfew := Lib.hid (Cfew.out.later hb)
  have Cm1 := Lib.hid (Cm1.out.later hb)
  have Cm2 := Lib.hid (Cm2.out.later hb)
  have Cnm := Lib.hid (Cnm.out.later hb)
  have Ceo : Hid (CondV (.func (.func Neo) #[] Keo) w9 (fun s k => (pLast 1 1 1) s k && (fun s k => !(pLast 2 11 11) s k) s k)) := Lib.hid ⟨_, _, rfl, he, hC⟩
  have HB := Lib.hid (below_then HB.out (Nat.le_refl _) hb)
  clear he hC hb
  go_wp2
  go_ret
  refine ⟨.inl ⟨w9.heap.size, [⟨0, (.func (.func 187) #[] #[]), pScale⟩, ⟨2, (.func (.func Neo) #[] Keo), fun s k => (pLast 1 1 1) s k && (fun s k => !(pLast 2 11 11) s k) s k⟩, ⟨4, (.func (.func Nfew) #[] Kfew), fun s k => (pLast 1 2 4) s k && (fun s k => !(pLast 2 12 14) s k) s k⟩, ⟨5, (.func (.func 188) #[] #[]), (fun _ _ => true)⟩], rfl, by simp, fun s k => rfl, rulesAt_new w9 _ _ _ rfl ?_⟩, below_new HB.out (Nat.le_refl _) _⟩
  intro r hr
  simp only [List.mem_cons, List.not_mem_nil, or_false] at hr
  rcases hr with rfl | rfl | rfl | rfl
  · exact (cond_scale _)
  · exact Ceo.out
  · exact Cfew.out
  · exact (cond_always _)
set_option maxHeartbeats 4000000 in
theorem count_cs (w : World) : GivesR 147 #[.string ⟨#[99, 115]⟩] w cCs := by
  unfold GivesR
  go_enter Tryz.func147, Tryz.ntmps147
  go_wp2_with fail
  go_at_call 184
  refine (in_gives 1 1 _).mono ?_
  rintro e w1 ⟨v, rfl, ⟨None, Kone, rfl, he, hC⟩, hb⟩
  have Cone : Hid (CondV (.func (.func None) #[] Kone) w1 (pIn 1 1)) := Lib.hid ⟨_, _, rfl, he, hC⟩
  have HB := Lib.hid hb
  clear he hC hb
  go_wp2_with fail
  go_at_call 185
  refine (last_gives 1 2 4 _ (by omega) (by omega)).mono ?_
  rintro e w2 ⟨v, rfl, ⟨Nl1, Kl1, rfl, he, hC⟩, hb⟩
  have Cone := Lib.hid (Cone.out.later hb)
  have Cl1 : Hid (CondV (.func (.func Nl1) #[] Kl1) w2 (pLast 1 2 4)) := Lib.hid ⟨_, _, rfl, he, hC⟩
  have HB := Lib.hid (below_then HB.out (Nat.le_refl _) hb)
  clear he hC hb
  go_wp2_with fail
  go_at_call 185
  refine (last_gives 2 12 14 _ (by omega) (by omega)).mono ?_
  rintro e w3 ⟨v, rfl, ⟨Nl2, Kl2, rfl, he, hC⟩, hb⟩
  have Cone := Lib.hid (Cone.out.later hb)
  have Cl1 := Lib.hid (Cl1.out.later hb)
  have Cl2 : Hid (CondV (.func (.func Nl2) #[] Kl2) w3 (pLast 2 12 14)) := Lib.hid ⟨_, _, rfl, he, hC⟩
  have HB := Lib.hid (below_then HB.out (Nat.le_refl _) hb)
  clear he hC hb
  go_wp2_with fail
  go_at_call 182
  refine (not_gives _ Cl2.out).mono ?_
  rintro e w4 ⟨v, rfl, ⟨Nn2, Kn2, rfl, he, hC⟩, hb⟩
  have Cone := Lib.hid (Cone.out.later hb)
  have Cl1 := Lib.hid (Cl1.out.later hb)
  have Cl2 := Lib.hid (Cl2.out.later hb)
  have Cn2 : Hid (CondV (.func (.func Nn2) #[] Kn2) w4 (fun s k => !(pLast 2 12 14) s k)) := Lib.hid ⟨_, _, rfl, he, hC⟩
  have HB := Lib.hid (below_then HB.out (Nat.le_refl _) hb)
  clear he hC hb
  go_wp2_with fail
  go_at_call 186
  refine (both_gives _ Cl1.out Cn2.out).mono ?_
  rintro e w5 ⟨v, rfl, ⟨Nfew, Kfew, rfl, he, hC⟩, hb⟩
  have Cone := Lib.hid (Cone.out.later hb)
  have Cl1 := Lib.hid (Cl1.out.later hb)
  have Cl2 := Lib.hid (Cl2.out.later hb)
  have Cn2 := Lib.hid (Cn2.out.later hb)
  have Cfew : Hid (CondV (.func (.func Nfew) #[] Kfew) w5 (fun s k => (pLast 1 2 4) s k && (fun s k => !(pLast 2 12 14) s k) s k)) := Lib.hid ⟨_, _, rfl, he, hC⟩
  have HB := Lib.hid (below_then HB.out (Nat.le_refl _) hb)
  clear he hC hb
  go_wp2_with fail
  go_at_call 184
  refine (in_gives 2 4 _).mono ?_
  rintro e w6 ⟨v, rfl, ⟨Nt, Kt, rfl, he, hC⟩, hb⟩
  have Cone := Lib.hid (Cone.out.later hb)
  have Cl1 := Lib.hid (Cl1.out.later hb)
  have Cl2 := Lib.hid (Cl2.out.later hb)
  have Cn2 := Lib.hid (Cn2.out.later hb)
  have Cfew := Lib.hid (Cfew.out.later hb)
  have Ct : Hid (CondV (.func (.func Nt) #[] Kt) w6 (pIn 2 4)) := Lib.hid ⟨_, _, rfl, he, hC⟩
  have HB := Lib.hid (below_then HB.out (Nat.le_refl _) hb)
  clear he hC hb
  go_wp2
  go_ret
  refine ⟨.inl ⟨w6.heap.size, [⟨5, (.func (.func 187) #[] #[]), pScale⟩, ⟨2, (.func (.func None) #[] Kone), pIn 1 1⟩, ⟨4, (.func (.func Nt) #[] Kt), pIn 2 4⟩], rfl, by simp, fun s k => rfl, rulesAt_new w6 _ _ _ rfl ?_⟩, below_new HB.out (Nat.le_refl _) _⟩
  intro r hr
  simp only [List.mem_cons, List.not_mem_nil, or_false] at hr
  rcases hr with rfl | rfl | rfl
  · exact (cond_scale _)
  · exact Cone.out
  · exact Ct.out
set_option maxHeartbeats 4000000 in
theorem count_ar (w : World) : GivesR 147 #[.string ⟨#[97, 114]⟩] w cAr := by
  unfold GivesR
  go_enter Tryz.func147, Tryz.ntmps147
  go_wp2_with fail
  go_at_call 184
  refine (in_gives 1 1 _).mono ?_
  rintro e w1 ⟨v, rfl, ⟨None, Kone, rfl, he, hC⟩, hb⟩
  have Cone : Hid (CondV (.func (.func None) #[] Kone) w1 (pIn 1 1)) := Lib.hid ⟨_, _, rfl, he, hC⟩
  have HB := Lib.hid hb
  clear he hC hb
  go_wp2_with fail
  go_at_call 185
  refine (last_gives 1 2 4 _ (by omega) (by omega)).mono ?_
  rintro e w2 ⟨v, rfl, ⟨Nl1, Kl1, rfl, he, hC⟩, hb⟩
  have Cone := Lib.hid (Cone.out.later hb)
  have Cl1 : Hid (CondV (.func (.func Nl1) #[] Kl1) w2 (pLast 1 2 4)) := Lib.hid ⟨_, _, rfl, he, hC⟩
  have HB := Lib.hid (below_then HB.out (Nat.le_refl _) hb)
  clear he hC hb
  go_wp2_with fail
  go_at_call 185
  refine (last_gives 2 12 14 _ (by omega) (by omega)).mono ?_
  rintro e w3 ⟨v, rfl, ⟨Nl2, Kl2, rfl, he, hC⟩, hb⟩
  have Cone := Lib.hid (Cone.out.later hb)
  have Cl1 := Lib.hid (Cl1.out.later hb)
  have Cl2 : Hid (CondV (.func (.func Nl2) #[] Kl2) w3 (pLast 2 12 14)) := Lib.hid ⟨_, _, rfl, he, hC⟩
  have HB := Lib.hid (below_then HB.out (Nat.le_refl _) hb)
  clear he hC hb
  go_wp2_with fail
  go_at_call 182
  refine (not_gives _ Cl2.out).mono ?_
  rintro e w4 ⟨v, rfl, ⟨Nn2, Kn2, rfl, he, hC⟩, hb⟩
  have Cone := Lib.hid (Cone.out.later hb)
  have Cl1 := Lib.hid (Cl1.out.later hb)
  have Cl2 := Lib.hid (Cl2.out.later hb)
  have Cn2 : Hid (CondV (.func (.func Nn2) #[] Kn2) w4 (fun s k => !(pLast 2 12 14) s k)) := Lib.hid ⟨_, _, rfl, he, hC⟩
  have HB := Lib.hid (below_then HB.out (Nat.le_refl _) hb)
  clear he hC hb
  go_wp2_with fail
  go_at_call 186
  refine (both_gives _ Cl1.out Cn2.out).mono ?_
  rintro e w5 ⟨v, rfl, ⟨Nfew, Kfew, rfl, he, hC⟩, hb⟩
  have Cone := Lib.hid (Cone.out.later hb)
  have Cl1 := Lib.hid (Cl1.out.later hb)
  have Cl2 := Lib.hid (Cl2.out.later hb)
  have Cn2 := Lib.hid (Cn2.out.later hb)
  have Cfew : Hid (CondV (.func (.func Nfew) #[] Kfew) w5 (fun s k => (pLast 1 2 4) s k && (fun s k => !(pLast 2 12 14) s k) s k)) := Lib.hid ⟨_, _, rfl, he, hC⟩
  have HB := Lib.hid (below_then HB.out (Nat.le_refl _) hb)
  clear he hC hb
  go_wp2_with fail
  go_at_call 182
  refine (not_gives _ (cond_whole _)).mono ?_
  rintro e w6 ⟨v, rfl, ⟨Nnw, Knw, rfl, he, hC⟩, hb⟩
  have Cone := Lib.hid (Cone.out.later hb)
  have Cl1 := Lib.hid (Cl1.out.later hb)
  have Cl2 := Lib.hid (Cl2.out.later hb)
  have Cn2 := Lib.hid (Cn2.out.later hb)
  have Cfew := Lib.hid (Cfew.out.later hb)
  have Cnw : Hid (CondV (.func (.func Nnw) #[] Knw) w6 (fun s k => !(pWhole) s k)) := Lib.hid ⟨_, _, rfl, he, hC⟩
  have HB := Lib.hid (below_then HB.out (Nat.le_refl _) hb)
  clear he hC hb
  go_wp2_with fail
  go_at_call 184
  refine (in_gives 0 0 _).mono ?_
  rintro e w7 ⟨v, rfl, ⟨Nz, Kz, rfl, he, hC⟩, hb⟩
  have Cone := Lib.hid (Cone.out.later hb)
  have Cl1 := Lib.hid (Cl1.out.later hb)
  have Cl2 := Lib.hid (Cl2.out.later hb)
  have Cn2 := Lib.hid (Cn2.out.later hb)
  have Cfew := Lib.hid (Cfew.out.later hb)
  have Cnw := Lib.hid (Cnw.out.later hb)
  have Cz : Hid (CondV (.func (.func Nz) #[] Kz) w7 (pIn 0 0)) := Lib.hid ⟨_, _, rfl, he, hC⟩
  have HB := Lib.hid (below_then HB.out (Nat.le_refl _) hb)
  clear he hC hb
  go_wp2_with fail
  go_at_call 184
  refine (in_gives 2 2 _).mono ?_
  rintro e w8 ⟨v, rfl, ⟨Ntwo, Ktwo, rfl, he, hC⟩, hb⟩
  have Cone := Lib.hid (Cone.out.later hb)
  have Cl1 := Lib.hid (Cl1.out.later hb)
  have Cl2 := Lib.hid (Cl2.out.later hb)
  have Cn2 := Lib.hid (Cn2.out.later hb)
  have Cfew := Lib.hid (Cfew.out.later hb)
  have Cnw := Lib.hid (Cnw.out.later hb)
  have Cz := Lib.hid (Cz.out.later hb)
  have Ctwo : Hid (CondV (.func (.func Ntwo) #[] Ktwo) w8 (pIn 2 2)) := Lib.hid ⟨_, _, rfl, he, hC⟩
  have HB := Lib.hid (below_then HB.out (Nat.le_refl _) hb)
  clear he hC hb
  go_wp2_with fail
  go_at_call 185
  refine (last_gives 2 3 10 _ (by omega) (by omega)).mono ?_
  rintro e w9 ⟨v, rfl, ⟨Nf, Kf, rfl, he, hC⟩, hb⟩
  have Cone := Lib.hid (Cone.out.later hb)
  have Cl1 := Lib.hid (Cl1.out.later hb)
  have Cl2 := Lib.hid (Cl2.out.later hb)
  have Cn2 := Lib.hid (Cn2.out.later hb)
  have Cfew := Lib.hid (Cfew.out.later hb)
  have Cnw := Lib.hid (Cnw.out.later hb)
  have Cz := Lib.hid (Cz.out.later hb)
  have Ctwo := Lib.hid (Ctwo.out.later hb)
  have Cf : Hid (CondV (.func (.func Nf) #[] Kf) w9 (pLast 2 3 10)) := Lib.hid ⟨_, _, rfl, he, hC⟩
  have HB := Lib.hid (below_then HB.out (Nat.le_refl _) hb)
  clear he hC hb
  go_wp2_with fail
  go_at_call 185
  refine (last_gives 2 11 99 _ (by omega) (by omega)).mono ?_
  rintro e w10 ⟨v, rfl, ⟨Nm, Km, rfl, he, hC⟩, hb⟩
  have Cone := Lib.hid (Cone.out.later hb)
  have Cl1 := Lib.hid (Cl1.out.later hb)
  have Cl2 := Lib.hid (Cl2.out.later hb)
  have Cn2 := Lib.hid (Cn2.out.later hb)
  have Cfew := Lib.hid (Cfew.out.later hb)
  have Cnw := Lib.hid (Cnw.out.later hb)
  have Cz := Lib.hid (Cz.out.later hb)
  have Ctwo := Lib.hid (Ctwo.out.later hb)
  have Cf := Lib.hid (Cf.out.later hb)
  have Cm : Hid (CondV (.func (.func Nm) #[] Km) w10 (pLast 2 11 99)) := Lib.hid ⟨_, _, rfl, he, hC⟩
  have HB := Lib.hid (below_then HB.out (Nat.le_refl _) hb)
  clear he hC hb
  go_wp2
  go_ret
  refine ⟨.inl ⟨w10.heap.size, [⟨0, (.func (.func Nnw) #[] Knw), fun s k => !(pWhole) s k⟩, ⟨1, (.func (.func Nz) #[] Kz), pIn 0 0⟩, ⟨2, (.func (.func None) #[] Kone), pIn 1 1⟩, ⟨3, (.func (.func Ntwo) #[] Ktwo), pIn 2 2⟩, ⟨4, (.func (.func Nf) #[] Kf), pLast 2 3 10⟩, ⟨5, (.func (.func Nm) #[] Km), pLast 2 11 99⟩], rfl, by simp, fun s k => rfl, rulesAt_new w10 _ _ _ rfl ?_⟩, below_new HB.out (Nat.le_refl _) _⟩
  intro r hr
  simp only [List.mem_cons, List.not_mem_nil, or_false] at hr
  rcases hr with rfl | rfl | rfl | rfl | rfl | rfl
  · exact Cnw.out
  · exact Cz.out
  · exact Cone.out
  · exact Ctwo.out
  · exact Cf.out
  · exact Cm.out
set_option maxHeartbeats 4000000 in
theorem rank_fr (w : World) : GivesR 146 #[.string ⟨#[102, 114]⟩] w rFr := by
  unfold GivesR
  go_enter Tryz.func146, Tryz.ntmps146
  go_wp2_with fail
  go_at_call 182
  refine (not_gives _ (cond_whole _)).mono ?_
  rintro e w1 ⟨v, rfl, ⟨Nnw, Knw, rfl, he, hC⟩, hb⟩
  have Cnw : Hid (CondV (.func (.func Nnw) #[] Knw) w1 (fun s k => !(pWhole) s k)) := Lib.hid ⟨_, _, rfl, he, hC⟩
  have HB := Lib.hid hb
  clear he hC hb
  go_wp2_with fail
  go_at_call 184
  refine (in_gives 1 1 _).mono ?_
  rintro e w2 ⟨v, rfl, ⟨No, Ko, rfl, he, hC⟩, hb⟩
  have Cnw := Lib.hid (Cnw.out.later hb)
  have Co : Hid (CondV (.func (.func No) #[] Ko) w2 (pIn 1 1)) := Lib.hid ⟨_, _, rfl, he, hC⟩
  have HB := Lib.hid (below_then HB.out (Nat.le_refl _) hb)
  clear he hC hb
  go_wp2
  go_ret
  refine ⟨.inl ⟨w2.heap.size, [⟨0, (.func (.func Nnw) #[] Knw), fun s k => !(pWhole) s k⟩, ⟨2, (.func (.func No) #[] Ko), pIn 1 1⟩], rfl, by simp, fun s k => rfl, rulesAt_new w2 _ _ _ rfl ?_⟩, below_new HB.out (Nat.le_refl _) _⟩
  intro r hr
  simp only [List.mem_cons, List.not_mem_nil, or_false] at hr
  rcases hr with rfl | rfl
  · exact Cnw.out
  · exact Co.out
set_option maxHeartbeats 4000000 in
theorem rank_en (w : World) : GivesR 146 #[.string ⟨#[101, 110]⟩] w rEn := by
  unfold GivesR
  go_enter Tryz.func146, Tryz.ntmps146
  go_wp2_with fail
  go_at_call 182
  refine (not_gives _ (cond_whole _)).mono ?_
  rintro e w1 ⟨v, rfl, ⟨Nnw, Knw, rfl, he, hC⟩, hb⟩
  have Cnw : Hid (CondV (.func (.func Nnw) #[] Knw) w1 (fun s k => !(pWhole) s k)) := Lib.hid ⟨_, _, rfl, he, hC⟩
  have HB := Lib.hid hb
  clear he hC hb
  go_wp2_with fail
  go_at_call 185
  refine (last_gives 2 11 13 _ (by omega) (by omega)).mono ?_
  rintro e w2 ⟨v, rfl, ⟨Nt, Kt, rfl, he, hC⟩, hb⟩
  have Cnw := Lib.hid (Cnw.out.later hb)
  have Ct : Hid (CondV (.func (.func Nt) #[] Kt) w2 (pLast 2 11 13)) := Lib.hid ⟨_, _, rfl, he, hC⟩
  have HB := Lib.hid (below_then HB.out (Nat.le_refl _) hb)
  clear he hC hb
  go_wp2_with fail
  go_at_call 185
  refine (last_gives 1 1 1 _ (by omega) (by omega)).mono ?_
  rintro e w3 ⟨v, rfl, ⟨No, Ko, rfl, he, hC⟩, hb⟩
  have Cnw := Lib.hid (Cnw.out.later hb)
  have Ct := Lib.hid (Ct.out.later hb)
  have Co : Hid (CondV (.func (.func No) #[] Ko) w3 (pLast 1 1 1)) := Lib.hid ⟨_, _, rfl, he, hC⟩
  have HB := Lib.hid (below_then HB.out (Nat.le_refl _) hb)
  clear he hC hb
  go_wp2_with fail
  go_at_call 185
  refine (last_gives 1 2 2 _ (by omega) (by omega)).mono ?_
  rintro e w4 ⟨v, rfl, ⟨Nw2, Kw2, rfl, he, hC⟩, hb⟩
  have Cnw := Lib.hid (Cnw.out.later hb)
  have Ct := Lib.hid (Ct.out.later hb)
  have Co := Lib.hid (Co.out.later hb)
  have Cw2 : Hid (CondV (.func (.func Nw2) #[] Kw2) w4 (pLast 1 2 2)) := Lib.hid ⟨_, _, rfl, he, hC⟩
  have HB := Lib.hid (below_then HB.out (Nat.le_refl _) hb)
  clear he hC hb
  go_wp2_with fail
  go_at_call 185
  refine (last_gives 1 3 3 _ (by omega) (by omega)).mono ?_
  rintro e w5 ⟨v, rfl, ⟨Nw3, Kw3, rfl, he, hC⟩, hb⟩
  have Cnw := Lib.hid (Cnw.out.later hb)
  have Ct := Lib.hid (Ct.out.later hb)
  have Co := Lib.hid (Co.out.later hb)
  have Cw2 := Lib.hid (Cw2.out.later hb)
  have Cw3 : Hid (CondV (.func (.func Nw3) #[] Kw3) w5 (pLast 1 3 3)) := Lib.hid ⟨_, _, rfl, he, hC⟩
  have HB := Lib.hid (below_then HB.out (Nat.le_refl _) hb)
  clear he hC hb
  go_wp2
  go_ret
  refine ⟨.inl ⟨w5.heap.size, [⟨0, (.func (.func Nnw) #[] Knw), fun s k => !(pWhole) s k⟩, ⟨0, (.func (.func Nt) #[] Kt), pLast 2 11 13⟩, ⟨2, (.func (.func No) #[] Ko), pLast 1 1 1⟩, ⟨3, (.func (.func Nw2) #[] Kw2), pLast 1 2 2⟩, ⟨4, (.func (.func Nw3) #[] Kw3), pLast 1 3 3⟩], rfl, by simp, fun s k => rfl, rulesAt_new w5 _ _ _ rfl ?_⟩, below_new HB.out (Nat.le_refl _) _⟩
  intro r hr
  simp only [List.mem_cons, List.not_mem_nil, or_false] at hr
  rcases hr with rfl | rfl | rfl | rfl | rfl
  · exact Cnw.out
  · exact Ct.out
  · exact Co.out
  · exact Cw2.out
  · exact Cw3.out
end Go.Proofs.YtglennfjeacpoaaGreatDoor
