import Derived.Test.YtglennfjeacpoaaGreatDoorA1
import Derived.Test.YtglennfjeacpoaaGreatDoorBld
import Derived.Test.YtglennfjeacpoaaGreatDoorBldb
namespace Go.Proofs.YtglennfjeacpoaaGreatDoor
open Go.RowKit

/-- The first k digits in groups. -/
def grpTo (l btw : List UInt8) : Nat → List UInt8
  | 0 => []
  | k + 1 => grpTo l btw k ++ (if 0 < k ∧ (l.length - k) % 3 = 0 then btw else []) ++ [l.getD k 0]
theorem grpTo_length (l btw : List UInt8) : ∀ k, (grpTo l btw k).length ≤ k * (btw.length + 1)
  | 0 => by simp [grpTo]
  | k + 1 => by
    have := grpTo_length l btw k
    simp only [grpTo, List.length_append, List.length_singleton]
    rw [Nat.succ_mul]
    split <;> simp <;> omega

theorem grpTo_yes (l btw : List UInt8) (k : Nat) (h0 : 0 < k) (h3 : (l.length - k) % 3 = 0) : grpTo l btw (k + 1) = (grpTo l btw k ++ btw) ++ [l.getD k 0] := by
  simp only [grpTo]; rw [if_pos ⟨h0, h3⟩]
theorem grpTo_no (l btw : List UInt8) (k : Nat) (h : ¬ (0 < k ∧ (l.length - k) % 3 = 0)) : grpTo l btw (k + 1) = grpTo l btw k ++ [l.getD k 0] := by
  simp only [grpTo]; rw [if_neg h, List.append_nil]
theorem byte_cell (s : ByteArray) (k : Nat) (h : k < s.size) : Lib.byteCells [s.data.toList.getD k 0] = [.int .u8 s[k].toNat] := by
  have : s.data.toList.getD k 0 = s[k] := by
    rw [List.getD_eq_getElem?_getD, List.getElem?_eq_getElem (by simpa using h)]; rfl
  rw [this]; rfl

set_option maxHeartbeats 1000000 in
set_option maxRecDepth 100000 in
theorem group_any (s t : ByteArray) (w : World) (hs : s.size * (t.size + 1) ≤ 140737488355328) :
    Calls Tryz.prog 38 #[.string s, .string t] w fun e w' => e = .returned (.string ⟨(grpTo s.data.toList t.data.toList s.size).toArray⟩) ∧ Below w.heap.size w w' := by
  have hb : s.size ≤ 140737488355328 := Nat.le_trans (Nat.le_mul_of_pos_right _ (by omega)) hs
  go_enter Tryz.func38, Tryz.ntmps38
  go_wp2
  go_loopw [9] (fun i wr => ∃ k : Nat, k ≤ s.size ∧ i = .int .i64 k ∧ Lib.IsBuilderF 127 5 w.heap.size w.heap.size (Lib.byteCells (grpTo s.data.toList t.data.toList k)) wr ∧ Below w.heap.size w wr) (fun i _ => s.size - (intOf i).toNat)
  case atStart => exact ⟨0, Nat.zero_le _, rfl, Lib.IsBuilderF.of (Lib.fresh_isBuilder 127 5 w), (Below.refl _ w).alloc (Nat.le_refl _) _⟩
  case round =>
    obtain ⟨k, hk, rfl, hI, hbw⟩ := hrel
    have hlen := grpTo_length s.data.toList t.data.toList k
    rw [size_data t] at hlen
    have hsz := hbw.size
    by_cases hlt : k < s.size
    · have hmul : (k + 1) * (t.size + 1) ≤ s.size * (t.size + 1) := Nat.mul_le_mul_right _ hlt
      rw [Nat.succ_mul] at hmul
      have hbc := byte_cell s k hlt
      by_cases h0 : 0 < k
      · by_cases h3 : ((s.size : Int) - k) % 3 = 0
        · have hy := grpTo_yes s.data.toList t.data.toList k h0 (by rw [size_data]; omega)
          have Hy := Lib.hid hy
          have Hbc := Lib.hid hbc
          have Hmul := Lib.hid hmul
          have Hlen := Lib.hid hlen
          clear hy hbc hmul hlen
          go_wp2_with (go_at_call 77; refine (bld_WriteString w.heap.size w.heap.size _ t _ hI (by have := Hlen.out; have := Hmul.out; rw [Lib.byteCells_length]; omega) hsz).mono ?_)
          rintro e W1 ⟨rfl, h1, b1, k1⟩
          have hsz1 := b1.size
          go_wp2_with (go_at_call 78; refine (bld_WriteByte w.heap.size w.heap.size _ _ _ (Or.inr h1) (by have := Hlen.out; have := Hmul.out; simp [Lib.byteCells_length, Lib.strCells_length]; omega) (by omega)).mono ?_)
          rintro e W2 ⟨rfl, h2, b2, k2⟩
          go_wp2
          go_roundw
          case rel =>
            refine ⟨k + 1, by omega, by go_num, Or.inr ?_, (hbw.trans b1).trans b2⟩
            rw [Hy.out, Lib.byteCells_append, Lib.byteCells_append, Hbc.out]
            exact h2
          case measure => simp [intOf]; omega
        · have hy := grpTo_no s.data.toList t.data.toList k (by rw [size_data]; omega)
          have Hy := Lib.hid hy
          have Hbc := Lib.hid hbc
          have Hmul := Lib.hid hmul
          have Hlen := Lib.hid hlen
          clear hy hbc hmul hlen
          go_wp2_with (go_at_call 78; refine (bld_WriteByte w.heap.size w.heap.size _ _ _ hI (by have := Hlen.out; have := Hmul.out; rw [Lib.byteCells_length]; omega) hsz).mono ?_)
          rintro e W1 ⟨rfl, h1, b1, k1⟩
          go_wp2
          go_roundw
          case rel =>
            refine ⟨k + 1, by omega, by go_num, Or.inr ?_, hbw.trans b1⟩
            rw [Hy.out, Lib.byteCells_append, Hbc.out]
            exact h1
          case measure => simp [intOf]; omega
      · have hy := grpTo_no s.data.toList t.data.toList k (by rw [size_data]; omega)
        have Hy := Lib.hid hy
        have Hbc := Lib.hid hbc
        have Hmul := Lib.hid hmul
        have Hlen := Lib.hid hlen
        clear hy hbc hmul hlen
        go_wp2_with (go_at_call 78; refine (bld_WriteByte w.heap.size w.heap.size _ _ _ hI (by have := Hlen.out; have := Hmul.out; rw [Lib.byteCells_length]; omega) hsz).mono ?_)
        rintro e W1 ⟨rfl, h1, b1, k1⟩
        go_wp2
        go_roundw
        case rel =>
          refine ⟨k + 1, by omega, by go_num, Or.inr ?_, hbw.trans b1⟩
          rw [Hy.out, Lib.byteCells_append, Hbc.out]
          exact h1
        case measure => simp [intOf]; omega
    · obtain rfl : k = s.size := by omega
      clear hlen
      go_wp2_with (go_at_call 79; refine (Tryz.Builder_String_any_k w.heap.size w.heap.size _ _ hI hsz).mono ?_)
      rintro e W1 ⟨rfl, _, b1, _⟩
      go_wp2
      go_ret
      exact ⟨rfl, hbw.trans b1⟩
end Go.Proofs.YtglennfjeacpoaaGreatDoor
