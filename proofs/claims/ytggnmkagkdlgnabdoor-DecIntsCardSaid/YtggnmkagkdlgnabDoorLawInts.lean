/-
  DecInts: whatever whole number: its text is its decimal numeral, it has no digit behind the point, it is below nought just if the number is, and it is such as calls tell. Conditions: none but the program's own tables as its text lays them.
-/
import Derived.Test.YtggnmkagkdlgnabDoorA4
import Derived.Test.YtggnmkagkdlgnabDoorA11
namespace Go.Proofs.YtggnmkagkdlgnabDoor
open Go.RowKit

theorem intText (n : Int) (h0 : -9223372036854775808 ≤ n) (h1 : n ≤ 9223372036854775807) (w : World) :
    Calls Tryd.prog 11 #[.agg #[.bool (decide (n < 0)), .string ⟨(Lib.decDigits n.natAbs).toArray⟩, .int .i64 0]] w fun e w' => e = .returned (.string ⟨(Lib.itoa n).toArray⟩) ∧ Below w.heap.size w w' := by
  have hl := decDigits_le h0 h1
  refine (string_any (decide (n < 0)) ⟨(Lib.decDigits n.natAbs).toArray⟩ 0 w (by rw [size_mk]; unfold maxLen; omega) (by omega)).mono ?_
  rintro e w' ⟨rfl, hb⟩
  refine ⟨ret_str ?_, hb⟩
  apply bytes_eq
  rw [itoa_signed]
  have e0 : (⟨(Lib.decDigits n.natAbs).toArray⟩ : ByteArray).extract 0 ((⟨(Lib.decDigits n.natAbs).toArray⟩ : ByteArray).size - 0) = ⟨(Lib.decDigits n.natAbs).toArray⟩ := by
    apply bytes_eq
    rw [extract_take, size_mk]
    simp
  simp only [strB, e0]
  cases decide (n < 0) <;> simp
theorem intRight (n : Int) (h0 : -9223372036854775808 ≤ n) (h1 : n ≤ 9223372036854775807) (w : World) :
    Calls Tryd.prog 12 #[.agg #[.bool (decide (n < 0)), .string ⟨(Lib.decDigits n.natAbs).toArray⟩, .int .i64 0]] w fun e w' => e = .returned (.bool true) ∧ Below w.heap.size w w' := by
  have hl := decDigits_le h0 h1
  refine (right_any (decide (n < 0)) ⟨(Lib.decDigits n.natAbs).toArray⟩ 0 w (by rw [size_mk]; unfold maxLen; omega) (by omega) (by omega)).mono ?_
  rintro e w' ⟨rfl, hb⟩
  exact ⟨ret_bool (decDigits_right _), hb⟩

set_option maxHeartbeats 1000000 in
set_option maxRecDepth 100000 in
theorem lawInts (n : Int) (h0 : -9223372036854775808 ≤ n) (h1 : n ≤ 9223372036854775807) (w : World) (hsh : w.ShapedOpen Tryd.prog) (ht : TabPow w) :
    Calls Tryd.prog 7 #[.int .i64 n] w fun e w' => e = .returned (.bool true) ∧ Below w.heap.size w w' := by
  go_enter Tryd.func7, Tryd.ntmps7
  go_wp2_with fail
  go_at_call 8
  refine (head_any _ hsh).mono ?_
  rintro e w1 ⟨rfl, hb1⟩
  have ht1 := ht.below hb1
  go_wp2_with fail
  go_at_call 25
  refine (int_any n h0 h1 _ ht1).mono ?_
  rintro e w2 ⟨rfl, hb2⟩
  have ht2 := (ht1.below hb2).alloc
  have hz2 := hb2.size
  go_wp2_with fail
  go_at_call 11
  refine (intText n h0 h1 _).mono ?_
  rintro e w3 ⟨rfl, hb3⟩
  obtain ⟨hc3, hf3⟩ := bcell hb3
  have hz3 : w2.heap.size < w3.heap.size := by have := hb3.size; simp at this; omega
  go_wp2_with fail
  go_at_call 26
  refine (formatInt_any n h0 h1 _ ((ht2 _).below hb3)).mono ?_
  rintro e w4 ⟨rfl, hb4⟩
  obtain ⟨hc4, hf4⟩ := bcell hb4
  have hz4 : w2.heap.size < w4.heap.size := by have := hb4.size; omega
  go_wp2_with fail
  go_at_call 12
  refine (intRight n h0 h1 _).mono ?_
  rintro e w5 ⟨rfl, hb5⟩
  go_wp2
  go_ret
  have L := Nat.le_refl w.heap.size
  exact ⟨ret_bool (by simp), below_then (below_then (below_then (below_new (below_then hb1 L hb2) L _) L hb3) L hb4) L hb5⟩
end Go.Proofs.YtggnmkagkdlgnabDoor
