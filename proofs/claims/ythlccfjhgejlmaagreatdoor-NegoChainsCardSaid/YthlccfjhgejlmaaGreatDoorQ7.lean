/-
  Several texts put together (part 7): what the law and the program call, walked; their contracts.
-/
import Derived.Test.YthlccfjhgejlmaaGreatDoorQ4
import Derived.Test.YthlccfjhgejlmaaGreatDoorQ5
import Derived.Test.YthlccfjhgejlmaaGreatDoorQ6
namespace Go.Proofs.YthlccfjhgejlmaaGreatDoor
open Go.RowKit Go.Shelf Go.Sort
set_option linter.unusedVariables false
def bytesL (zs : List ByteArray) : List (List UInt8) := zs.map (·.data.toList)
theorem bytesL_length (zs : List ByteArray) : (bytesL zs).length = zs.length := by simp [bytesL]
theorem bytesL_enc (zs : List ByteArray) : zs.map Value.string = (bytesL zs).map encStr := by
  simp only [bytesL, List.map_map]
  apply List.map_congr_left
  intro x _
  simp [encStr]
theorem bytesL_nodup (zs : List ByteArray) : (bytesL zs).Nodup ↔ zs.Nodup := by
  unfold bytesL
  rw [List.Nodup, List.pairwise_map]
  constructor
  · intro h; exact h.imp (fun hne e => hne (by rw [e]))
  · intro h
    refine List.Pairwise.imp ?_ h
    intro a b hne e
    apply hne
    cases a; cases b
    simp at e
    simpa using e
theorem appendSeq_any (Bs : Nat) (sv : Value) (zs : List ByteArray) (hlen : zs.length ≤ maxLen) (hbytes : zs.length * 16 ≤ 140737488351232) (w : World)
    (hBs : Bs < w.heap.size) (hc : w.cell? ⟨Bs, 0, none⟩ = some sv) (hI : StrsAt w.heap.size w sv zs) :
    Calls Tryz.prog 75 #[.slice none 0 0, .func (.func 65) #[] #[.pointer (some ⟨Bs, 0, none⟩)]] w fun e W' => ∃ v, e = .returned v ∧ W'.ownsRow w.heap.size 9 1 v zs.length (zs.map Value.string) ∧ (v = .slice none 0 0 ↔ zs = []) ∧ Below w.heap.size w W' :=
  (callsIn_wide (n := 3)).1 (appendSeqRun Fence.wide 3 trivial trivial rfl (Nat.le_refl _) Bs sv zs hlen hbytes w hBs hc hI)
theorem collect_any (Bs : Nat) (sv : Value) (zs : List ByteArray) (hlen : zs.length ≤ maxLen) (hbytes : zs.length * 16 ≤ 140737488351232) (w : World)
    (hBs : Bs < w.heap.size) (hc : w.cell? ⟨Bs, 0, none⟩ = some sv) (hI : StrsAt w.heap.size w sv zs) :
    Calls Tryz.prog 63 #[.func (.func 65) #[] #[.pointer (some ⟨Bs, 0, none⟩)]] w fun e W' => ∃ v, e = .returned v ∧ W'.ownsRow w.heap.size 9 1 v zs.length (zs.map Value.string) ∧ (v = .slice none 0 0 ↔ zs = []) ∧ Below w.heap.size w W' := by
  go_enter Tryz.func63, Tryz.ntmps63
  go_wp2_with (go_at_call 75; refine (appendSeq_any Bs sv zs hlen hbytes w hBs hc hI).mono ?_; rintro e w' ⟨v, rfl, hrow, hnil, hb⟩)
  go_ret
  exact ⟨v, rfl, hrow, hnil, hb⟩
theorem sorted_any (Bs : Nat) (sv : Value) (zs : List ByteArray) (hlen : zs.length ≤ maxLen) (hbytes : zs.length * 16 ≤ 140737488351232) (w : World)
    (hBs : Bs < w.heap.size) (hc : w.cell? ⟨Bs, 0, none⟩ = some sv) (hI : StrsAt w.heap.size w sv zs) :
    Calls Tryz.prog 42 #[.func (.func 65) #[] #[.pointer (some ⟨Bs, 0, none⟩)]] w fun e W' => ∃ v, e = .returned v ∧ W'.ownsRow w.heap.size 9 1 v zs.length (((bytesL zs).mergeSort fun x y => decide (x ≤ y)).map encStr) ∧ (v = .slice none 0 0 ↔ zs = []) ∧ Below w.heap.size w W' := by
  go_enter Tryz.func42, Tryz.ntmps42
  go_wp2_with (go_at_call 63; refine (collect_any Bs sv zs hlen hbytes w hBs hc hI).mono ?_; rintro e W ⟨v, rfl, hrow, hnil, hb⟩)
  rcases hrow.2 with ⟨rfl, hz⟩ | ⟨gb, cap, cur, rfl, hbase, hgb, r1, r2, r3, r4⟩
  · have hss : zs = [] := List.eq_nil_of_length_eq_zero hz
    subst hss
    go_wp2_with (go_at_call 64; refine (Tryz.slices_Sort_string_none none 0 W).mono ?_; rintro e w' ⟨rfl, rfl⟩)
    go_ret
    exact ⟨_, rfl, by simpa [bytesL] using hrow, by simp, hb⟩
  · have hH : Holds encStr W gb 0 (bytesL zs).toArray := holds_of_block hgb (by rw [bytesL_length, ← bytesL_enc]; simpa using r4)
    have hgl : gb < W.heap.size := (Array.getElem?_eq_some_iff.1 hgb).1
    have cS := Tryz.slices_Sort_string gb 0 cap (bytesL zs) W hH hgl (by rw [bytesL_length]; simp [maxLen] at hlen; omega)
    rw [bytesL_length] at cS
    go_wp2_with (go_at_call 64; refine cS.mono ?_; rintro e w' ⟨rfl, nn, os, rfl⟩)
    go_ret
    have ho := ownsRow_sorted (w := W) (n := nn) (os := os) (ts := (bytesL zs).mergeSort fun x y => decide (x ≤ y)) (ss := bytesL zs) (by simp) hbase hgb (by rw [bytesL_length]; exact r1) r2 r3
    rw [bytesL_length] at ho
    exact ⟨_, rfl, ho, hnil, hb.grown (grownBy_sorted _) hb.size (fun j hj => by cases hj; exact hbase)⟩
theorem grownBy_put {W : World} {g n : Nat} (d : Array (List UInt8)) : W.grownBy (putRow encStr (Sort.ahead W n) g 0 d) (some g) := by
  refine ⟨rfl, rfl, rfl, by simp, fun k hk hne => ?_⟩
  have : g ≠ k := fun e => hne (by rw [e])
  simp [putRow, mapBlock, Sort.ahead, Array.getElem?_modify, this]
theorem hasTwice_any (sv : Value) (zs : List ByteArray) (hlen : zs.length ≤ maxLen) (hbytes : zs.length * 16 ≤ 140737488351232) (w : World) (hI : StrsAt w.heap.size w sv zs) :
    Calls Tryz.prog 21 #[sv] w fun e W' => e = .returned (.bool (decide (¬ zs.Nodup))) ∧ Below w.heap.size w W' := by
  obtain ⟨a, cap, rfl⟩ : ∃ a cap, sv = .slice a zs.length cap := by
    rcases hI with ⟨rfl, rfl⟩ | ⟨b, off, cap, rfl, _⟩
    · exact ⟨none, 0, rfl⟩
    · exact ⟨_, _, rfl⟩
  go_enter Tryz.func21, Tryz.ntmps21
  have hB0 : Below w.heap.size w (w.alloc (.cells #[.slice a zs.length cap] 22)) := (Below.refl _ w).alloc (Nat.le_refl _) _
  have hI1 : StrsAt (w.alloc (.cells #[.slice a zs.length cap] 22)).heap.size (w.alloc (.cells #[.slice a zs.length cap] 22)) (.slice a zs.length cap) zs := by
    rcases hI.below hB0 with h | ⟨b, off, c, e, hb, hh⟩
    · exact .inl h
    · exact .inr ⟨b, off, c, e, by simp; omega, hh⟩
  have hcell : (w.alloc (.cells #[.slice a zs.length cap] 22)).cell? ⟨w.heap.size, 0, none⟩ = some (.slice a zs.length cap) := (Boxed.new w 22 (.slice a zs.length cap)).cell
  have cT := sorted_any w.heap.size _ zs hlen hbytes _ (by simp) hcell hI1
  go_wp2_with (first
    | (go_at_call 43; refine (values_any a zs.length cap w).mono ?_; rintro e w' ⟨rfl, rfl⟩)
    | (go_at_call 42; refine cT.mono ?_; rintro e W ⟨v, rfl, hrow, hnil, hb⟩))
  have hb2 : Below w.heap.size w W := hB0.trans (hb.mono (by simp))
  rcases hrow.2 with ⟨rfl, hz⟩ | ⟨gb, c2, cur, rfl, hbase, hgb, r1, r2, r3, r4⟩
  · have hss : zs = [] := List.eq_nil_of_length_eq_zero hz
    subst hss
    go_wp2_with (go_at_call 44; refine (Tryz.slices_Compact_string_empty none 0 W).mono ?_; rintro e w' ⟨rfl, rfl⟩)
    go_ret
    exact ⟨by simp, hb2⟩
  · obtain ⟨S, hS⟩ : ∃ S, ((bytesL zs).mergeSort fun x y => decide (x ≤ y)) = S := ⟨_, rfl⟩
    have hl : S.length = zs.length := by rw [← hS, List.length_mergeSort, bytesL_length]
    rw [hS] at r4
    have hH : Holds encStr W gb 0 S.toArray := holds_of_block hgb (by rw [hl]; simpa using r4)
    have cS := Tryz.slices_Compact_string gb 0 c2 S W hH (by rw [hl]; simp [maxLen] at hlen; omega) (by rw [hl]; exact r1)
    rw [hl] at cS
    have hM := sorted_compact_lt (bytesL zs)
    rw [hS, bytesL_length, bytesL_nodup] at hM
    go_wp2_with (go_at_call 44; refine cS.mono ?_; rintro e w' ⟨rfl, q, rfl⟩)
    go_ret
    have hd : decide ((Lib.compact S).length < zs.length) = decide (¬ zs.Nodup) := by rw [decide_eq_decide]; exact hM
    refine ⟨by simp, ?_⟩
    refine hb2.grown (grownBy_put (W := W) (g := gb) (n := q) _) hb2.size (fun j hj => by cases hj; simp at hbase; omega)
end Go.Proofs.YthlccfjhgejlmaaGreatDoor
