import Derived.Test.YtpblmdginlkedadDoorA3
import Derived.Test.YtpblmdginlkedadDoorA3m
import Derived.Lib.ItoaNum
import Derived.Lib.AppendIntMem
import Derived.Lib.SmallJoins
namespace Go.Proofs.YtpblmdginlkedadDoor
open Go.RowKit

theorem ofNat_dig {d : Nat} (h : d < 10) : digB (UInt8.ofNat (48 + d)) = true := by
  have e : (UInt8.ofNat (48 + d)).toNat = 48 + d := by
    rw [UInt8.toNat_ofNat', Nat.mod_eq_of_lt (by omega)]
  simp only [digB, e, Bool.and_eq_true, decide_eq_true_eq]; omega
theorem decDigits_all (u : Nat) : (Lib.decDigits u).all digB = true := by
  induction u using Nat.strongRecOn with
  | _ u ih =>
    by_cases h : u < 10
    · rw [Lib.decDigits, dif_pos h, List.all_cons, List.all_nil, Bool.and_true]; exact ofNat_dig h
    · rw [Lib.decDigits, dif_neg h, List.all_append, ih (u / 10) (by omega), List.all_cons, List.all_nil, Bool.and_true, Bool.true_and]
      exact ofNat_dig (Nat.mod_lt u (by omega : 0 < 10))
theorem decDigits_head (u : Nat) : ∃ c l, Lib.decDigits u = c :: l ∧ digB c = true ∧ (c = 48 → l = []) := by
  induction u using Nat.strongRecOn with
  | _ u ih =>
    by_cases h : u < 10
    · exact ⟨_, [], by rw [Lib.decDigits, dif_pos h], ofNat_dig h, fun _ => rfl⟩
    · obtain ⟨c, l, e, hc, hz⟩ := ih (u / 10) (by omega)
      refine ⟨c, l ++ [UInt8.ofNat (48 + u % 10)], by rw [Lib.decDigits, dif_neg h, e]; rfl, hc, ?_⟩
      intro h48
      exfalso
      have hl := hz h48
      subst hl
      by_cases h10 : u / 10 < 10
      · rw [Lib.decDigits, dif_pos h10] at e
        have e' : UInt8.ofNat (48 + u / 10) = c := by simpa using e
        have e2 : (UInt8.ofNat (48 + u / 10)).toNat = 48 + u / 10 := by rw [UInt8.toNat_ofNat', Nat.mod_eq_of_lt (by omega)]
        rw [e', h48] at e2
        have : (48 : UInt8).toNat = 48 := rfl
        omega
      · rw [Lib.decDigits, dif_neg h10] at e
        have := congrArg List.length e
        simp [Lib.decDigits_length] at this
        have := Lib.nDigits_pos (u / 10 / 10)
        omega
theorem decDigits_digs (u : Nat) : digsB (Lib.decDigits u) = true := by
  obtain ⟨c, l, e, _⟩ := decDigits_head u
  have h := decDigits_all u
  rw [digsB, h, e]; rfl
theorem decDigits_right (u : Nat) : decRightB (Lib.decDigits u) 0 = true := by
  have hd := decDigits_digs u
  obtain ⟨c, l, e, hc, hz⟩ := decDigits_head u
  rw [e] at hd ⊢
  simp only [decRightB, hd, Bool.true_and, List.head?_cons]
  by_cases h : c = 48
  · subst h; rw [hz rfl]; rfl
  · have : (some c == some (48 : UInt8)) = false := by rw [beq_eq_false_iff_ne]; intro e; exact h (Option.some.inj e)
    rw [this]
    simp
theorem itoa_prefix (n : Int) : Lib.hasPrefix (Lib.itoa n) [45] = decide (n < 0) := by
  unfold Lib.hasPrefix Lib.itoa
  by_cases h : n < 0
  · rw [if_pos h]; simp [h]
  · rw [if_neg h]
    obtain ⟨c, l, e, hc, _⟩ := decDigits_head n.toNat
    rw [e]
    have : ¬ c = 45 := by intro h45; rw [h45] at hc; exact absurd hc (by decide)
    have h45 : ((45 : UInt8) == c) = false := by rw [beq_eq_false_iff_ne]; exact fun e => this e.symm
    simp [List.isPrefixOf, h45, h]
theorem itoa_trim (n : Int) : Lib.trimPrefix (Lib.itoa n) [45] = Lib.decDigits n.natAbs := by
  unfold Lib.trimPrefix
  rw [itoa_prefix]
  unfold Lib.itoa
  by_cases h : n < 0
  · simp [h]
  · simp [h]
    congr 1
    omega
theorem itoa_signed (n : Int) : Lib.itoa n = (if decide (n < 0) then 45 :: Lib.decDigits n.natAbs else Lib.decDigits n.natAbs) := by
  unfold Lib.itoa
  by_cases h : n < 0
  · simp [h]
  · simp [h]
    congr 1
    omega
theorem nDigits_le : ∀ (k u : Nat), u < 10 ^ (k + 1) → Lib.nDigits u ≤ k + 1
  | 0, u, h => by rw [Lib.nDigits_small (by simpa using h)]; omega
  | k + 1, u, h => by
    by_cases h' : u < 10
    · rw [Lib.nDigits_small h']; omega
    · rw [Lib.nDigits_big h']
      have := nDigits_le k (u / 10) (by rw [Nat.pow_succ] at h; omega)
      omega
theorem decDigits_le {n : Int} (h0 : -9223372036854775808 ≤ n) (h1 : n ≤ 9223372036854775807) : (Lib.decDigits n.natAbs).length ≤ 20 := by
  rw [Lib.decDigits_length]
  exact nDigits_le 19 _ (by omega)

def TabPow (w : World) : Prop := Lib.TabIs Tryd.prog w "internal/strconv.uint64pow10" .u64 Lib.pow10Tab
theorem TabPow.below {w w1 : World} (h : TabPow w) (hb : Below w.heap.size w w1) : TabPow w1 := Lib.tabBelow_of_tabIs h w1 hb
theorem TabPow.alloc {w : World} (h : TabPow w) (o : Obj) : TabPow (w.alloc o) := Lib.tabIs_alloc h o

theorem formatInt_any (n : Int) (h0 : -9223372036854775808 ≤ n) (h1 : n ≤ 9223372036854775807) (w : World) (ht : TabPow w) :
    Calls Tryd.prog 23 #[.int .i64 n, .int .i64 10] w fun e w' => e = .returned (.string ⟨(Lib.itoa n).toArray⟩) ∧ Below w.heap.size w w' := by
  refine (Tryd.strconv_FormatInt_10 n h0 h1 w ht).mono ?_
  rintro e w' ⟨he, k, os, rfl⟩
  exact ⟨he, Lib.below_grow _ w (Nat.le_refl _) k os⟩

set_option maxHeartbeats 400000 in
theorem int_any (n : Int) (h0 : -9223372036854775808 ≤ n) (h1 : n ≤ 9223372036854775807) (w : World) (ht : TabPow w) :
    Calls Tryd.prog 13 #[.int .i64 n] w fun e w' => e = .returned (.agg #[.bool (decide (n < 0)), .string ⟨(Lib.decDigits n.natAbs).toArray⟩, .int .i64 0]) ∧ Below w.heap.size w w' := by
  go_enter Tryd.func13, Tryd.ntmps13
  go_wp2_with (first | (go_at_call 23; refine (formatInt_any n h0 h1 _ (ht.alloc _)).mono ?_; rintro e w1 ⟨rfl, hb1⟩; obtain ⟨hc1, hf1⟩ := bcell hb1) | (go_at_call 22; refine (Tryd.strings_CutPrefix _ _ _).mono ?_; rintro e w2 ⟨rfl, rfl⟩))
  exact bodyPost_ret (v := .agg #[.bool (decide (n < 0)), .string ⟨(Lib.decDigits n.natAbs).toArray⟩, .int .i64 0]) (by simp [results, Tryd.results13, go_sem, itoa_prefix, itoa_trim, hc1]) rfl ⟨rfl, (((below_box hb1).setCell (p := ⟨w.heap.size, 0, none⟩) (Nat.le_refl _) _).setCell (p := ⟨w.heap.size, 1, none⟩) (Nat.le_refl _) _).setCell (p := ⟨w.heap.size, 2, none⟩) (Nat.le_refl _) _⟩
end Go.Proofs.YtpblmdginlkedadDoor
