/-
  Several texts put together (part 16): what the law and the program call, walked; their contracts.
-/
import Derived.Test.YtjdpmdheapmanaaGreatDoorQ4
import Derived.Test.YtjdpmdheapmanaaGreatDoorQ5
import Derived.Lib.RabinKarpLaws
import Derived.Test.YtjdpmdheapmanaaGreatDoorQ6
import Derived.Test.YtjdpmdheapmanaaGreatDoorQ15
import Derived.Lib.ItoaNum
import Derived.Lib.AppendIntMem
import Derived.Lib.SmallJoins
namespace Go.Proofs.YtjdpmdheapmanaaGreatDoor
open Go.RowKit
theorem decDigits_digs (u : Nat) : digsB (Lib.decDigits u) = true := by
  obtain ⟨c, l, e, _⟩ := decDigits_head u
  have h := decDigits_all u
  rw [digsB, h, e]; rfl
theorem decDigits_right (u : Nat) : decRightB (Lib.decDigits u) 0 = true := by
  have hd := decDigits_digs u
  obtain ⟨c, l, e, hc, hz⟩ := decDigits_head u
  rw [e] at hd ⊢
  simp only [decRightB, hd, Bool.true_and, List.head?_cons]
  by_cases h : c = 48
  · subst h; rw [hz rfl]; rfl
  · have : (some c == some (48 : UInt8)) = false := by rw [beq_eq_false_iff_ne]; intro e; exact h (Option.some.inj e)
    rw [this]
    simp
theorem itoa_prefix (n : Int) : Lib.hasPrefix (Lib.itoa n) [45] = decide (n < 0) := by
  unfold Lib.hasPrefix Lib.itoa
  by_cases h : n < 0
  · rw [if_pos h]; simp [h]
  · rw [if_neg h]
    obtain ⟨c, l, e, hc, _⟩ := decDigits_head n.toNat
    rw [e]
    have : ¬ c = 45 := by intro h45; rw [h45] at hc; exact absurd hc (by decide)
    have h45 : ((45 : UInt8) == c) = false := by rw [beq_eq_false_iff_ne]; exact fun e => this e.symm
    simp [List.isPrefixOf, h45, h]
theorem itoa_trim (n : Int) : Lib.trimPrefix (Lib.itoa n) [45] = Lib.decDigits n.natAbs := by
  unfold Lib.trimPrefix
  rw [itoa_prefix]
  unfold Lib.itoa
  by_cases h : n < 0
  · simp [h]
  · simp [h]
    congr 1
    omega
theorem itoa_signed (n : Int) : Lib.itoa n = (if decide (n < 0) then 45 :: Lib.decDigits n.natAbs else Lib.decDigits n.natAbs) := by
  unfold Lib.itoa
  by_cases h : n < 0
  · simp [h]
  · simp [h]
    congr 1
    omega
theorem formatInt_any (n : Int) (h0 : -9223372036854775808 ≤ n) (h1 : n ≤ 9223372036854775807) (w : World) (ht : TabPow w) :
    Calls Tryz.prog 72 #[.int .i64 n, .int .i64 10] w fun e w' => e = .returned (.string ⟨(Lib.itoa n).toArray⟩) ∧ Below w.heap.size w w' := by
  refine (Tryz.strconv_FormatInt_10 n h0 h1 w ht).mono ?_
  rintro e w' ⟨he, k, os, rfl⟩
  exact ⟨he, Lib.below_grow _ w (Nat.le_refl _) k os⟩
set_option maxHeartbeats 400000 in
theorem int_any (n : Int) (h0 : -9223372036854775808 ≤ n) (h1 : n ≤ 9223372036854775807) (w : World) (ht : TabPow w) :
    Calls Tryz.prog 50 #[.int .i64 n] w fun e w' => e = .returned (.agg #[.bool (decide (n < 0)), .string ⟨(Lib.decDigits n.natAbs).toArray⟩, .int .i64 0]) ∧ Below w.heap.size w w' := by
  go_enter Tryz.func50, Tryz.ntmps50
  go_wp2_with (first | (go_at_call 72; refine (formatInt_any n h0 h1 _ (ht.alloc _)).mono ?_; rintro e w1 ⟨rfl, hb1⟩; obtain ⟨hc1, hf1⟩ := bcell hb1) | (go_at_call 71; refine (Tryz.strings_CutPrefix _ _ _).mono ?_; rintro e w2 ⟨rfl, rfl⟩))
  exact bodyPost_ret (v := .agg #[.bool (decide (n < 0)), .string ⟨(Lib.decDigits n.natAbs).toArray⟩, .int .i64 0]) (by simp [results, Tryz.results50, go_sem, itoa_prefix, itoa_trim, hc1]) rfl ⟨rfl, (((below_box hb1).setCell (p := ⟨w.heap.size, 0, none⟩) (Nat.le_refl _) _).setCell (p := ⟨w.heap.size, 1, none⟩) (Nat.le_refl _) _).setCell (p := ⟨w.heap.size, 2, none⟩) (Nat.le_refl _) _⟩
end Go.Proofs.YtjdpmdheapmanaaGreatDoor
