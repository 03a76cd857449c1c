import Derived.Test.YtmkcebngobanjabDoorFix
namespace Go.Proofs.YtmkcebngobanjabDoor
open Go.RowKit

set_option maxHeartbeats 2000000 in
set_option maxRecDepth 100000 in
theorem of_any (n : Bool) (s : ByteArray) (k : Nat) (w : World) (hk : k ≤ s.size) (h1 : s.size - k ≤ 100) (h2 : k ≤ 100) (hd : s.data.toList.all digB = true) :
    Calls Tryd.prog 33 #[.agg #[.bool n, .string s, .int .i64 k]] w fun e w' => e = .returned (.agg (row 200 (fixF s.data.toList k))) ∧ Below w.heap.size w w' := by
  have hz := fixZero
  have hrs := row_size 200
  have Hd := Lib.hid hd
  clear hd
  go_enter Tryd.func33, Tryd.ntmps33
  go_wp2
  rw [fix_storeNew _ _ _ _ _ (by simp)]
  simp only [Result.andThen]
  rw [Oper.upon_skip]
  go_wp2
  go_loopw [4] (fun i wr => ∃ j : Nat, j ≤ s.size ∧ i = .int .i64 j ∧ RowF wr (w.heap.size + 1 + 1) (fixJ s.data.toList k j) ∧ RowF wr (w.heap.size + 1) (fun _ => 0) ∧ wr.cell? ⟨w.heap.size, 1, none⟩ = some (.string s) ∧ wr.cell? ⟨w.heap.size, 2, none⟩ = some (.int .i64 k) ∧ Below w.heap.size w wr) (fun i _ => s.size - (intOf i).toNat)
  case atStart =>
    refine ⟨0, Nat.zero_le _, rfl, ?_, ?_, ?_, ?_, ?_⟩
    · refine RowF.congr (A := fun _ => 0) ?_ (fun p _ => (fixJ_zero _ _ _).symm)
      have := RowF.new ((w.alloc (.cells #[.bool n, .string s, .int .i64 k] 23)).alloc (.cells (row 200 fun _ => 0) 55)) (fun _ => 0) 55
      simpa using this
    · have := (RowF.new (w.alloc (.cells #[.bool n, .string s, .int .i64 k] 23)) (fun _ => 0) 55).alloc (by simp) (.cells (row 200 fun _ => 0) 55)
      simpa using this
    · go_simp
    · go_simp
    · exact (((Below.refl _ _).alloc (Nat.le_refl _) _).alloc (by simp) _).alloc (by simp; omega) _
  case round =>
    obtain ⟨j, hj, rfl, hr, h0, c1, c2, hb⟩ := hrel
    by_cases hlt : j < s.size
    · have hdj : digB s[j] = true := by
        have h3 := all_take_succ s j hlt
        rw [all_take Hd.out, all_take Hd.out, Bool.true_and] at h3
        exact h3.symm
      have hv : fixJ s.data.toList k (j + 1) (100 - (s.size - k) + j) = (s[j].toNat : Int) - 48 := by
        unfold fixJ
        rw [size_data, if_pos (by omega), Nat.add_sub_cancel_left, List.getD_eq_getElem?_getD, List.getElem?_eq_getElem (by rw [size_data]; exact hlt), Option.getD_some]
        rfl
      have hset := (hr.set (100 - (s.size - k) + j) ((s[j].toNat : Int) - 48)).congr (B := fixJ s.data.toList k (j + 1)) (by
        intro p hp
        by_cases e : p = 100 - (s.size - k) + j
        · rw [if_pos e, e, hv]
        · rw [if_neg e]
          unfold fixJ
          rw [size_data]
          by_cases h3 : 100 - (s.size - k) ≤ p ∧ p < 100 - (s.size - k) + j
          · rw [if_pos h3, if_pos (by omega)]
          · rw [if_neg h3, if_neg (by omega)])
      obtain ⟨hcell, hfz⟩ := hr (100 - (s.size - k) + j) (by omega)
      have hb1 := (dig_le hdj).1
      have hb2 := (dig_le hdj).2
      have hb3 : (48 : Int) ≤ (s[j].toNat : Int) := by omega
      have hb4 : (s[j].toNat : Int) ≤ 57 := by omega
      have hi0 : (0 : Int) ≤ 100 - ((s.size : Int) - (k : Int)) + (j : Int) := by omega
      have hi1 : 100 - ((s.size : Int) - (k : Int)) + (j : Int) < 200 := by omega
      have hi2 : (100 - ((s.size : Int) - (k : Int)) + (j : Int)).toNat = 100 - (s.size - k) + j := by omega
      have h0' := Lib.hid ((show RowF (wr.setCell ⟨w.heap.size + 1 + 1, 100 - (s.size - k) + j, none⟩ (.int .i64 ((s[j].toNat : Int) - 48))) (w.heap.size + 1) (fun _ => 0) from fun p hp => by
        rw [World.cell?_setCell_other _ _ _ _ (by intro e; injection e with e _; omega), World.frozen?_setCell]; exact h0 p hp))
      have Hset := Lib.hid hset
      clear hv hdj hset hb1 hb2 h0
      go_wp2_with fail
      go_region
      go_wp2
      go_roundw
      case rel => exact ⟨j + 1, by omega, by go_num, Hset.out.drew, h0'.out.drew, by go_simp, by go_simp, (hb.setCell (p := ⟨w.heap.size + 1 + 1, 100 - (s.size - k) + j, none⟩) (by show w.heap.size ≤ w.heap.size + 1 + 1; omega) _).drew⟩
      case measure => simp [intOf]; omega
    · obtain rfl : j = s.size := by omega
      go_wp2
      refine wp_fix_load _ rfl _ rfl _ hr ?_
      go_wp2
      rw [fix_storeCells h0 _]
      simp only [Result.andThen]
      rw [Oper.upon_skip]
      have hbb := below_setCells (w.heap.size + 1) (by omega) (row 200 (fixJ s.data.toList k s.size)).toList 0 wr hb
      have ef : fixJ s.data.toList k s.size = fixF s.data.toList k := by unfold fixF; rw [size_data]
      go_wp2
      (try simp only [Exit.inBlock, Exit.then])
      refine bodyPost_ret (v := .agg (row 200 (fixJ s.data.toList k s.size))) ?_ rfl ⟨by rw [ef], hbb⟩
      exact results_fix rfl _ (w.heap.size + 1) _ _ rfl (h0.put _)
end Go.Proofs.YtmkcebngobanjabDoor
