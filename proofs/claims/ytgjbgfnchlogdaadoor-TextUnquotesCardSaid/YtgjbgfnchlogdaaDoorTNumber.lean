/-
  number: the value of a sign that is a hexadecimal digit, or -1. Conditions: none.
-/
import Derived.Test.YtgjbgfnchlogdaaDoorTLawQuotes
import Derived.Handy
namespace Go.Proofs.YtgjbgfnchlogdaaDoor
open Go.RowKit
set_option linter.unusedVariables false
set_option linter.unusedSimpArgs false

macro "num_below" : tactic => `(tactic| (repeat (first | (exact Below.refl _ _) | (refine Below.alloc ?_ (by go_size) _) | (refine Below.drew ?_))))
/-- A hexadecimal digit's value, or -1. -/
def digV (q : List UInt8) : Int :=
  if (q == [48]) = true then 0 else
  if (q == [49]) = true then 1 else
  if (q == [50]) = true then 2 else
  if (q == [51]) = true then 3 else
  if (q == [52]) = true then 4 else
  if (q == [53]) = true then 5 else
  if (q == [54]) = true then 6 else
  if (q == [55]) = true then 7 else
  if (q == [56]) = true then 8 else
  if (q == [57]) = true then 9 else
  if (q == [97]) = true then 10 else
  if (q == [65]) = true then 10 else
  if (q == [98]) = true then 11 else
  if (q == [66]) = true then 11 else
  if (q == [99]) = true then 12 else
  if (q == [67]) = true then 12 else
  if (q == [100]) = true then 13 else
  if (q == [68]) = true then 13 else
  if (q == [101]) = true then 14 else
  if (q == [69]) = true then 14 else
  if (q == [102]) = true then 15 else
  if (q == [70]) = true then 15 else
  -1

set_option maxHeartbeats 8000000 in
set_option maxRecDepth 1000000 in
theorem number_any (q : List UInt8) (w : World) :
    Calls Tryd.prog 23 #[.string (bytesV q)] w fun e w' => e = .returned (.int .i64 (digV q)) ∧ Below w.heap.size w w' := by
  obtain ⟨r, hr⟩ : ∃ r, digV q = r := ⟨_, rfl⟩
  rw [hr]
  have Hr := Lib.hid hr
  clear hr
  have hql := bytesV_toList q
  have hb0 := Below.refl w.heap.size w
  go_enter Tryd.func23, Tryd.ntmps23
  go_wp2
  refine wp_loop_rounds 17 ?_
  rw [rounds_succ]
  cases e48 : (q == [48])
  rotate_left
  · obtain rfl : r = 0 := by
      rw [← Hr.out]; unfold digV; simp only [e48, Bool.false_eq_true, if_false, if_true]
    go_wp2
    go_ret
    exact ⟨rfl, by num_below⟩
  go_wp2
  rw [rounds_succ]
  cases e49 : (q == [49])
  rotate_left
  · obtain rfl : r = 1 := by
      rw [← Hr.out]; unfold digV; simp only [e48, e49, Bool.false_eq_true, if_false, if_true]
    go_wp2
    go_ret
    exact ⟨rfl, by num_below⟩
  go_wp2
  rw [rounds_succ]
  cases e50 : (q == [50])
  rotate_left
  · obtain rfl : r = 2 := by
      rw [← Hr.out]; unfold digV; simp only [e48, e49, e50, Bool.false_eq_true, if_false, if_true]
    go_wp2
    go_ret
    exact ⟨rfl, by num_below⟩
  go_wp2
  rw [rounds_succ]
  cases e51 : (q == [51])
  rotate_left
  · obtain rfl : r = 3 := by
      rw [← Hr.out]; unfold digV; simp only [e48, e49, e50, e51, Bool.false_eq_true, if_false, if_true]
    go_wp2
    go_ret
    exact ⟨rfl, by num_below⟩
  go_wp2
  rw [rounds_succ]
  cases e52 : (q == [52])
  rotate_left
  · obtain rfl : r = 4 := by
      rw [← Hr.out]; unfold digV; simp only [e48, e49, e50, e51, e52, Bool.false_eq_true, if_false, if_true]
    go_wp2
    go_ret
    exact ⟨rfl, by num_below⟩
  go_wp2
  rw [rounds_succ]
  cases e53 : (q == [53])
  rotate_left
  · obtain rfl : r = 5 := by
      rw [← Hr.out]; unfold digV; simp only [e48, e49, e50, e51, e52, e53, Bool.false_eq_true, if_false, if_true]
    go_wp2
    go_ret
    exact ⟨rfl, by num_below⟩
  go_wp2
  rw [rounds_succ]
  cases e54 : (q == [54])
  rotate_left
  · obtain rfl : r = 6 := by
      rw [← Hr.out]; unfold digV; simp only [e48, e49, e50, e51, e52, e53, e54, Bool.false_eq_true, if_false, if_true]
    go_wp2
    go_ret
    exact ⟨rfl, by num_below⟩
  go_wp2
  rw [rounds_succ]
  cases e55 : (q == [55])
  rotate_left
  · obtain rfl : r = 7 := by
      rw [← Hr.out]; unfold digV; simp only [e48, e49, e50, e51, e52, e53, e54, e55, Bool.false_eq_true, if_false, if_true]
    go_wp2
    go_ret
    exact ⟨rfl, by num_below⟩
  go_wp2
  rw [rounds_succ]
  cases e56 : (q == [56])
  rotate_left
  · obtain rfl : r = 8 := by
      rw [← Hr.out]; unfold digV; simp only [e48, e49, e50, e51, e52, e53, e54, e55, e56, Bool.false_eq_true, if_false, if_true]
    go_wp2
    go_ret
    exact ⟨rfl, by num_below⟩
  go_wp2
  rw [rounds_succ]
  cases e57 : (q == [57])
  rotate_left
  · obtain rfl : r = 9 := by
      rw [← Hr.out]; unfold digV; simp only [e48, e49, e50, e51, e52, e53, e54, e55, e56, e57, Bool.false_eq_true, if_false, if_true]
    go_wp2
    go_ret
    exact ⟨rfl, by num_below⟩
  go_wp2
  rw [rounds_succ]
  cases e97 : (q == [97])
  rotate_left
  · obtain rfl : r = 10 := by
      rw [← Hr.out]; unfold digV; simp only [e48, e49, e50, e51, e52, e53, e54, e55, e56, e57, e97, Bool.false_eq_true, if_false, if_true]
    go_wp2
    go_ret
    exact ⟨rfl, by num_below⟩
  cases e65 : (q == [65])
  rotate_left
  · obtain rfl : r = 10 := by
      rw [← Hr.out]; unfold digV; simp only [e48, e49, e50, e51, e52, e53, e54, e55, e56, e57, e97, e65, Bool.false_eq_true, if_false, if_true]
    go_wp2
    go_ret
    exact ⟨rfl, by num_below⟩
  go_wp2
  rw [rounds_succ]
  cases e98 : (q == [98])
  rotate_left
  · obtain rfl : r = 11 := by
      rw [← Hr.out]; unfold digV; simp only [e48, e49, e50, e51, e52, e53, e54, e55, e56, e57, e97, e65, e98, Bool.false_eq_true, if_false, if_true]
    go_wp2
    go_ret
    exact ⟨rfl, by num_below⟩
  cases e66 : (q == [66])
  rotate_left
  · obtain rfl : r = 11 := by
      rw [← Hr.out]; unfold digV; simp only [e48, e49, e50, e51, e52, e53, e54, e55, e56, e57, e97, e65, e98, e66, Bool.false_eq_true, if_false, if_true]
    go_wp2
    go_ret
    exact ⟨rfl, by num_below⟩
  go_wp2
  rw [rounds_succ]
  cases e99 : (q == [99])
  rotate_left
  · obtain rfl : r = 12 := by
      rw [← Hr.out]; unfold digV; simp only [e48, e49, e50, e51, e52, e53, e54, e55, e56, e57, e97, e65, e98, e66, e99, Bool.false_eq_true, if_false, if_true]
    go_wp2
    go_ret
    exact ⟨rfl, by num_below⟩
  cases e67 : (q == [67])
  rotate_left
  · obtain rfl : r = 12 := by
      rw [← Hr.out]; unfold digV; simp only [e48, e49, e50, e51, e52, e53, e54, e55, e56, e57, e97, e65, e98, e66, e99, e67, Bool.false_eq_true, if_false, if_true]
    go_wp2
    go_ret
    exact ⟨rfl, by num_below⟩
  go_wp2
  rw [rounds_succ]
  cases e100 : (q == [100])
  rotate_left
  · obtain rfl : r = 13 := by
      rw [← Hr.out]; unfold digV; simp only [e48, e49, e50, e51, e52, e53, e54, e55, e56, e57, e97, e65, e98, e66, e99, e67, e100, Bool.false_eq_true, if_false, if_true]
    go_wp2
    go_ret
    exact ⟨rfl, by num_below⟩
  cases e68 : (q == [68])
  rotate_left
  · obtain rfl : r = 13 := by
      rw [← Hr.out]; unfold digV; simp only [e48, e49, e50, e51, e52, e53, e54, e55, e56, e57, e97, e65, e98, e66, e99, e67, e100, e68, Bool.false_eq_true, if_false, if_true]
    go_wp2
    go_ret
    exact ⟨rfl, by num_below⟩
  go_wp2
  rw [rounds_succ]
  cases e101 : (q == [101])
  rotate_left
  · obtain rfl : r = 14 := by
      rw [← Hr.out]; unfold digV; simp only [e48, e49, e50, e51, e52, e53, e54, e55, e56, e57, e97, e65, e98, e66, e99, e67, e100, e68, e101, Bool.false_eq_true, if_false, if_true]
    go_wp2
    go_ret
    exact ⟨rfl, by num_below⟩
  cases e69 : (q == [69])
  rotate_left
  · obtain rfl : r = 14 := by
      rw [← Hr.out]; unfold digV; simp only [e48, e49, e50, e51, e52, e53, e54, e55, e56, e57, e97, e65, e98, e66, e99, e67, e100, e68, e101, e69, Bool.false_eq_true, if_false, if_true]
    go_wp2
    go_ret
    exact ⟨rfl, by num_below⟩
  go_wp2
  rw [rounds_succ]
  cases e102 : (q == [102])
  rotate_left
  · obtain rfl : r = 15 := by
      rw [← Hr.out]; unfold digV; simp only [e48, e49, e50, e51, e52, e53, e54, e55, e56, e57, e97, e65, e98, e66, e99, e67, e100, e68, e101, e69, e102, Bool.false_eq_true, if_false, if_true]
    go_wp2
    go_ret
    exact ⟨rfl, by num_below⟩
  cases e70 : (q == [70])
  rotate_left
  · obtain rfl : r = 15 := by
      rw [← Hr.out]; unfold digV; simp only [e48, e49, e50, e51, e52, e53, e54, e55, e56, e57, e97, e65, e98, e66, e99, e67, e100, e68, e101, e69, e102, e70, Bool.false_eq_true, if_false, if_true]
    go_wp2
    go_ret
    exact ⟨rfl, by num_below⟩
  go_wp2
  rw [rounds_succ]
  obtain rfl : r = -1 := by
    rw [← Hr.out]; unfold digV; simp only [e48, e49, e50, e51, e52, e53, e54, e55, e56, e57, e97, e65, e98, e66, e99, e67, e100, e68, e101, e69, e102, e70, Bool.false_eq_true, if_false]
  go_wp2
  go_ret
  exact ⟨rfl, by num_below⟩
end Go.Proofs.YtgjbgfnchlogdaaDoor
