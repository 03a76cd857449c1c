/-
  The law's own small, big (package tag's law).
-/
import Derived.Test.YtldmldgkjkgkcaaDoorTgLaw1
import Derived.Test.YtldmldgkjkgkcaaDoorTgParse0
import Derived.Lib.ConvBytes
import Derived.Lib.SlBytesRow
namespace Go.Proofs.YtldmldgkjkgkcaaDoor
open Go.RowKit
set_option linter.unusedVariables false
set_option linter.unusedSimpArgs false

theorem lowerB_nat (c : UInt8) : (65 ≤ c.toNat → c.toNat ≤ 90 → (Lib.lowerB c).toNat + 65 = c.toNat + 97) ∧ (c.toNat < 65 ∨ 90 < c.toNat → (Lib.lowerB c).toNat = c.toNat) := by
  have := all256 (fun c => (!(decide (65 ≤ c.toNat) && decide (c.toNat ≤ 90)) || (Lib.lowerB c).toNat + 65 == c.toNat + 97) && ((decide (65 ≤ c.toNat) && decide (c.toNat ≤ 90)) || (Lib.lowerB c).toNat == c.toNat)) (by decide +kernel) c
  simp only [Bool.and_eq_true, Bool.or_eq_true, Bool.not_eq_true', Bool.and_eq_false_iff, decide_eq_true_eq, decide_eq_false_iff_not, beq_iff_eq] at this
  omega
theorem upperB_nat (c : UInt8) : (97 ≤ c.toNat → c.toNat ≤ 122 → (Lib.upperB c).toNat + 97 = c.toNat + 65) ∧ (c.toNat < 97 ∨ 122 < c.toNat → (Lib.upperB c).toNat = c.toNat) := by
  have := all256 (fun c => (!(decide (97 ≤ c.toNat) && decide (c.toNat ≤ 122)) || (Lib.upperB c).toNat + 97 == c.toNat + 65) && ((decide (97 ≤ c.toNat) && decide (c.toNat ≤ 122)) || (Lib.upperB c).toNat == c.toNat)) (by decide +kernel) c
  simp only [Bool.and_eq_true, Bool.or_eq_true, Bool.not_eq_true', Bool.and_eq_false_iff, decide_eq_true_eq, decide_eq_false_iff_not, beq_iff_eq] at this
  omega
/-- One byte as a string. -/
theorem conv_one (b : UInt8) (wr : World) (e : Int) (he : e = (b.toNat : Int)) :
    (convert 45 9 (.slice (some ⟨wr.heap.size, 0, none⟩) 1 1)).run Tryd.prog (wr.alloc (.cells #[.int .u8 e] 5)) = .ok (.string (mk [b])) (wr.alloc (.cells #[.int .u8 e] 5)) := by
  subst he
  refine Lib.run_convert_whole (P := Tryd.prog) _ 45 5 9 Tryd.underlying45 Tryd.underlying5 Tryd.underlying9 wr.heap.size 0 (mk [b]) ?_ 1
  intro i hi
  have hi' : i < 1 := hi
  obtain rfl : i = 0 := by omega
  unfold World.cell?
  rw [World.alloc_heap_new]
  rfl
theorem low_snoc (s : ByteArray) (k : Nat) (h : k < s.size) : mk (low (s.data.toList.take (k + 1))) = mk (low (s.data.toList.take k)) ++ mk [Lib.lowerB s[k]] := by
  rw [take_succ s k h, mk_append]; simp [low, Lib.toLowerA]
theorem upp_snoc (s : ByteArray) (k : Nat) (h : k < s.size) : mk (upp (s.data.toList.take (k + 1))) = mk (upp (s.data.toList.take k)) ++ mk [Lib.upperB s[k]] := by
  rw [take_succ s k h, mk_append]; simp [upp, Lib.toUpperA]


set_option maxRecDepth 100000 in
set_option maxHeartbeats 4000000 in
theorem small_any (s : ByteArray) (w : World) (hs : s.size ≤ 100000) :
    Calls Tryd.prog 15 #[.string s] w fun e w' => e = .returned (.string (mk (low s.data.toList))) ∧ Below w.heap.size w w' := by
  go_enter Tryd.func15, Tryd.ntmps15
  go_wp2
  go_loopw [3, 4] (fun o i wr => ∃ k : Nat, k ≤ s.size ∧ i = .int .i64 k ∧ o = .string (mk (low (s.data.toList.take k))) ∧ Below w.heap.size w wr) (fun _ i _ => s.size - (intOf i).toNat)
  case atStart => exact ⟨0, Nat.zero_le _, rfl, rfl, Below.refl _ _⟩
  case round =>
    obtain ⟨k, hk, rfl, rfl, hb⟩ := hrel
    by_cases hlt : k < s.size
    · have f1 := low_snoc s k hlt
      have l1 : (mk (low (s.data.toList.take k))).size ≤ 100000 := by rw [mk_size, low_length]; simp; omega
      obtain ⟨c, hc⟩ : ∃ c, s[k] = c := ⟨_, rfl⟩
      rw [hc] at f1
      obtain ⟨X, hX⟩ : ∃ X, mk (low (s.data.toList.take k)) = X := ⟨_, rfl⟩
      rw [hX] at f1 l1 ⊢
      have hU := lowerB_nat c
      have hc1 : (mk [Lib.lowerB c]).size = 1 := rfl
      obtain ⟨Y, hY⟩ : ∃ Y, mk [Lib.lowerB c] = Y := ⟨_, rfl⟩
      rw [hY] at f1 hc1
      by_cases h1 : (65 : Int) ≤ (c.toNat : Int) <;> by_cases h2 : (c.toNat : Int) ≤ 90
      · have kv := conv_one (Lib.lowerB c) wr ((c.toNat : Int) - 65 + 97) (by have := hU.1 (by omega) (by omega); omega)
        rw [hY] at kv
        have F1 := Lib.hid f1
        clear f1 hX hY hU
        go_wp2
        go_roundw
        case rel => exact ⟨k + 1, by omega, by go_num, by rw [F1.out], hb.alloc hb.size _⟩
        case measure => simp [intOf]; omega
      all_goals
        first
        | (exfalso; omega)
        | (have kv := conv_one (Lib.lowerB c) wr (c.toNat : Int) (by have := hU.2 (by omega); omega)
           rw [hY] at kv
           have F1 := Lib.hid f1
           clear f1 hX hY hU
           go_wp2
           go_roundw
           case rel => exact ⟨k + 1, by omega, by go_num, by rw [F1.out], hb.alloc hb.size _⟩
           case measure => simp [intOf]; omega)
    · obtain rfl : k = s.size := by omega
      have ht : s.data.toList.take s.size = s.data.toList := List.take_of_length_le (by simp)
      rw [ht]
      clear ht
      go_wp2
      go_ret
      exact ⟨rfl, hb⟩

set_option maxRecDepth 100000 in
set_option maxHeartbeats 4000000 in
theorem big_any (s : ByteArray) (w : World) (hs : s.size ≤ 100000) :
    Calls Tryd.prog 14 #[.string s] w fun e w' => e = .returned (.string (mk (upp s.data.toList))) ∧ Below w.heap.size w w' := by
  go_enter Tryd.func14, Tryd.ntmps14
  go_wp2
  go_loopw [3, 4] (fun o i wr => ∃ k : Nat, k ≤ s.size ∧ i = .int .i64 k ∧ o = .string (mk (upp (s.data.toList.take k))) ∧ Below w.heap.size w wr) (fun _ i _ => s.size - (intOf i).toNat)
  case atStart => exact ⟨0, Nat.zero_le _, rfl, rfl, Below.refl _ _⟩
  case round =>
    obtain ⟨k, hk, rfl, rfl, hb⟩ := hrel
    by_cases hlt : k < s.size
    · have f1 := upp_snoc s k hlt
      have l1 : (mk (upp (s.data.toList.take k))).size ≤ 100000 := by rw [mk_size, upp_length]; simp; omega
      obtain ⟨c, hc⟩ : ∃ c, s[k] = c := ⟨_, rfl⟩
      rw [hc] at f1
      obtain ⟨X, hX⟩ : ∃ X, mk (upp (s.data.toList.take k)) = X := ⟨_, rfl⟩
      rw [hX] at f1 l1 ⊢
      have hU := upperB_nat c
      have hc1 : (mk [Lib.upperB c]).size = 1 := rfl
      obtain ⟨Y, hY⟩ : ∃ Y, mk [Lib.upperB c] = Y := ⟨_, rfl⟩
      rw [hY] at f1 hc1
      by_cases h1 : (97 : Int) ≤ (c.toNat : Int) <;> by_cases h2 : (c.toNat : Int) ≤ 122
      · have kv := conv_one (Lib.upperB c) wr ((c.toNat : Int) - 97 + 65) (by have := hU.1 (by omega) (by omega); omega)
        rw [hY] at kv
        have F1 := Lib.hid f1
        clear f1 hX hY hU
        go_wp2
        go_roundw
        case rel => exact ⟨k + 1, by omega, by go_num, by rw [F1.out], hb.alloc hb.size _⟩
        case measure => simp [intOf]; omega
      all_goals
        first
        | (exfalso; omega)
        | (have kv := conv_one (Lib.upperB c) wr (c.toNat : Int) (by have := hU.2 (by omega); omega)
           rw [hY] at kv
           have F1 := Lib.hid f1
           clear f1 hX hY hU
           go_wp2
           go_roundw
           case rel => exact ⟨k + 1, by omega, by go_num, by rw [F1.out], hb.alloc hb.size _⟩
           case measure => simp [intOf]; omega)
    · obtain rfl : k = s.size := by omega
      have ht : s.data.toList.take s.size = s.data.toList := List.take_of_length_le (by simp)
      rw [ht]
      clear ht
      go_wp2
      go_ret
      exact ⟨rfl, hb⟩
end Go.Proofs.YtldmldgkjkgkcaaDoor
