import Derived.Test.YtglennfjeacpoaaGreatDoorA2
import Derived.Test.YtglennfjeacpoaaGreatDoorShelf
import Derived.Lib.SmallJoins
import Derived.Lib.RabinKarpLaws
namespace Go.Proofs.YtglennfjeacpoaaGreatDoor
open Go.RowKit

/-- A number as a text. -/
def strB (neg : Bool) (s : ByteArray) (sc : Nat) : ByteArray :=
  let a := if neg then ⟨#[45]⟩ ++ s.extract 0 (s.size - sc) else s.extract 0 (s.size - sc)
  if sc = 0 then a else a ++ (⟨#[46]⟩ ++ s.extract (s.size - sc) s.size)

set_option maxHeartbeats 400000 in
theorem string_any (neg : Bool) (s : ByteArray) (sc : Nat) (w : World) (hs : s.size + 2 ≤ maxLen) (hsc : sc ≤ s.size) :
    Calls Tryz.prog 19 #[.agg #[.bool neg, .string s, .int .i64 sc]] w fun e w' => e = .returned (.string (strB neg s sc)) ∧ Below w.heap.size w w' := by
  have hm : s.size ≤ maxLen := by omega
  unfold maxLen at hs
  rcases Nat.eq_zero_or_pos sc with h0 | h0
  · subst h0
    cases neg <;>
    · go_enter Tryz.func19, Tryz.ntmps19
      go_wp2_with (go_at_call 37; refine (whole_any _ s _ _ hm (by omega)).mono ?_; rintro e w1 ⟨rfl, hb1⟩; obtain ⟨hc1, hf1⟩ := bcell hb1)
      go_ret
      exact ⟨ret_str (by simp [strB]), below_box hb1⟩
  · have hne : ¬ sc = 0 := by omega
    have Hne := Lib.hid hne
    clear hne
    cases neg <;>
    · go_enter Tryz.func19, Tryz.ntmps19
      go_wp2_with (first | (go_at_call 37; refine (whole_any _ s _ _ hm (by omega)).mono ?_; rintro e w1 ⟨rfl, hb1⟩; obtain ⟨hc1, hf1⟩ := bcell hb1) | (go_at_call 40; refine (part_any _ s _ _ hm (by omega)).mono ?_; rintro e w2 ⟨rfl, hb2⟩; obtain ⟨hc2, hf2⟩ := bcell hb2))
      go_ret
      exact ⟨ret_str (by simp [strB, Hne.out]), below_then (below_box hb1) (Nat.le_refl _) hb2⟩

end Go.Proofs.YtglennfjeacpoaaGreatDoor
