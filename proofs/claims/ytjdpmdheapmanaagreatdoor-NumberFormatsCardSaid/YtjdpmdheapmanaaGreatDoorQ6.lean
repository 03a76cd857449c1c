/-
  Several texts put together (part 6): what the law and the program call, walked; their contracts.
-/
import Derived.Test.YtjdpmdheapmanaaGreatDoorQ4
import Derived.Test.YtjdpmdheapmanaaGreatDoorQ5
import Derived.Lib.RabinKarpLaws
namespace Go.Proofs.YtjdpmdheapmanaaGreatDoor
open Go.RowKit
set_option maxHeartbeats 400000 in
theorem zero_any (neg : Bool) (s : ByteArray) (sc : Int) (w : World) (hs : s.size ≤ maxLen) :
    Calls Tryz.prog 33 #[.agg #[.bool neg, .string s, .int .i64 sc]] w fun e w' => e = .returned (.bool (Lib.trimB s.data.toList 48).isEmpty) ∧ Below w.heap.size w w' := by
  unfold maxLen at hs
  go_enter Tryz.func33, Tryz.ntmps33
  go_wp2_with (go_at_call 47; refine (Tryz.strings_Trim_one s 48 (by decide) _ (by omega)).mono ?_; rintro e w1 ⟨rfl, hw1⟩)
  go_ret
  refine ⟨ret_bool ?_, ?_⟩
  · simp
  · rcases hw1 with rfl | rfl
    · exact (Below.refl _ _).alloc (Nat.le_refl _) _
    · exact ((Below.refl _ _).alloc (Nat.le_refl _) _).drew
end Go.Proofs.YtjdpmdheapmanaaGreatDoor

namespace Go.Proofs.YtjdpmdheapmanaaGreatDoor
open Go.RowKit
def decRightB (l : List UInt8) (sc : Int) : Bool := digsB l && decide (0 ≤ sc) && decide (sc < l.length) && (!(l.head? == some 48) || decide ((l.length : Int) - sc = 1))
theorem right_digs {l : List UInt8} {sc : Int} (h : ¬ digsB l = true) : decRightB l sc = false := by simp [decRightB, h]
theorem right_neg {l : List UInt8} {sc : Int} (h : sc < 0) : decRightB l sc = false := by
  have : ¬ 0 ≤ sc := by omega
  simp [decRightB, this]
theorem right_big {s : ByteArray} {sc : Int} (h0 : 0 ≤ sc) (h : sc < 0 ∨ (s.size : Int) ≤ sc) : decRightB s.data.toList sc = false := by
  have h' : ¬ sc < (s.data.toList.length : Int) := by rw [size_data]; omega
  simp only [decRightB, h', decide_false, Bool.and_false, Bool.false_and]
theorem right_full {s : ByteArray} {sc : Int} (hd : digsB s.data.toList = true) (h : 0 ≤ sc ∧ sc < (s.size : Int)) (h0 : 0 < s.size) (h48 : ¬ (s[0].toNat : Int) = 48) : decRightB s.data.toList sc = true := by
  have h1 : sc < (s.data.toList.length : Int) := by rw [size_data]; omega
  have h2 : (s[0] == (48 : UInt8)) = false := by
    rw [beq_eq_false_iff_ne]
    intro e
    exact h48 (by rw [e]; rfl)
  simp only [decRightB, hd, h.1, h1, head_data s h0, decide_true, Bool.and_self, Bool.true_and]
  simp [h2]
theorem right_nought {s : ByteArray} {sc : Int} (hd : digsB s.data.toList = true) (h : 0 ≤ sc ∧ sc < (s.size : Int)) (h0 : 0 < s.size) (h48 : (s[0].toNat : Int) = 48) : decRightB s.data.toList sc = decide ((s.size : Int) - sc = 1) := by
  have h1 : sc < (s.data.toList.length : Int) := by rw [size_data]; omega
  have h2 : s[0] = 48 := by
    apply UInt8.toNat_inj.mp
    have : s[0].toNat = 48 := by omega
    rw [this]; rfl
  have h3 : decide (sc < (s.data.toList.length : Int)) = true := by rw [decide_eq_true_eq]; exact h1
  simp only [decRightB, hd, h.1, h3, head_data s h0, h2, decide_true, Bool.and_self, Bool.true_and]
  simp
end Go.Proofs.YtjdpmdheapmanaaGreatDoor
