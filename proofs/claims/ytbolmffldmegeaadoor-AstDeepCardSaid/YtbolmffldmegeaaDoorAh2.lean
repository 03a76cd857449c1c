/-
  The law's head.
-/
import Derived.Test.YtbolmffldmegeaaDoorAhd
namespace Go.Proofs.YtbolmffldmegeaaDoor
open Go.RowKit
set_option linter.unusedVariables false
set_option linter.unusedSimpArgs false

set_option maxHeartbeats 2000000 in
set_option maxRecDepth 100000 in
theorem head_any (w : World) (hT : TabU w) : Calls Tryd.prog 6 #[] w fun e w' => e = .returned (.bool true) ∧ Below w.heap.size w w' := by
  have HT := Lib.hid hT
  clear hT
  have hxy : decide ((⟨#[120]⟩ : ByteArray) = ⟨#[121]⟩) = false := by decide
  go_enter Tryd.func6, Tryd.ntmps6
  go_wp2_with fail
  go_at_call 12
  refine (message_any _ _).mono ?_
  rintro e w1 ⟨k1, rfl, m1, b1⟩
  have B1 := Lib.hid b1
  have R1 := Lib.hid (right_text _ k1 w1 (HT.out.below b1) m1 (by decide) ca1 true msg1)
  clear m1 b1
  unfold entV at R1
  go_wp2_with fail
  go_at_call 8
  refine R1.out.mono ?_
  rintro e w2 ⟨rfl, b2⟩
  have B2 := Lib.hid (B1.out.trans (b2.mono B1.out.size))
  clear b2
  go_wp2_with fail
  go_at_call 12
  refine (message_any _ _).mono ?_
  rintro e w3 ⟨k3, rfl, m3, b3⟩
  have B3 := Lib.hid (B2.out.trans (b3.mono B2.out.size))
  have R3 := Lib.hid (right_text _ k3 w3 (HT.out.below B3.out) m3 (by decide) ca2 true msg2)
  clear m3 b3
  unfold entV at R3
  go_wp2_with fail
  go_at_call 8
  refine R3.out.mono ?_
  rintro e w4 ⟨rfl, b4⟩
  have B4 := Lib.hid (B3.out.trans (b4.mono B3.out.size))
  clear b4
  go_wp2_with fail
  go_at_call 12
  refine (message_any _ _).mono ?_
  rintro e w5 ⟨k5, rfl, m5, b5⟩
  have B5 := Lib.hid (B4.out.trans (b5.mono B4.out.size))
  have R5 := Lib.hid (right_text _ k5 w5 (HT.out.below B5.out) m5 (by decide) ca3 false msg3)
  clear m5 b5
  unfold entV at R5
  go_wp2_with fail
  go_at_call 8
  refine R5.out.mono ?_
  rintro e w6 ⟨rfl, b6⟩
  have B6 := Lib.hid (B5.out.trans (b6.mono B5.out.size))
  clear b6
  go_wp2_with fail
  go_at_call 12
  refine (message_any _ _).mono ?_
  rintro e w7 ⟨k7, rfl, m7, b7⟩
  have B7 := Lib.hid (B6.out.trans (b7.mono B6.out.size))
  have M7 := Lib.hid m7
  clear m7 b7
  unfold entV
  go_wp2_with fail
  go_at_call 12
  refine (message_any _ _).mono ?_
  rintro e w8 ⟨k8, rfl, m8, b8⟩
  have B8 := Lib.hid (B7.out.trans (b8.mono B7.out.size))
  have R8 := Lib.hid (same_text _ _ k7 k8 w8 (M7.out.later b8) m8)
  clear m8 b8
  unfold entV at R8
  unfold entV
  go_wp2_with fail
  go_at_call 10
  refine R8.out.mono ?_
  rintro e w9 ⟨rfl, b9⟩
  have B9 := Lib.hid (B8.out.trans (b9.mono B8.out.size))
  clear b9

  go_wp2_with fail
  go_at_call 12
  refine (message_any _ _).mono ?_
  rintro e wA ⟨kA, rfl, mA, bA⟩
  have BA := Lib.hid (B9.out.trans (bA.mono B9.out.size))
  have MA := Lib.hid mA
  clear mA bA
  unfold entV
  go_wp2_with fail
  go_at_call 12
  refine (message_any _ _).mono ?_
  rintro e wB ⟨kB, rfl, mB, bB⟩
  have BB := Lib.hid (BA.out.trans (bB.mono BA.out.size))
  have RB := Lib.hid (same_text _ _ kA kB wB (MA.out.later bB) mB)
  clear mB bB
  unfold entV at RB
  unfold entV
  go_wp2_with fail
  go_at_call 10
  refine RB.out.mono ?_
  rintro e wC ⟨rfl, bC⟩
  have BC := Lib.hid (BB.out.trans (bC.mono BB.out.size))
  clear bC
  try rw [hxy]
  go_wp2
  go_ret
  exact ⟨rfl, BC.out⟩
end Go.Proofs.YtbolmffldmegeaaDoor
