import Derived.Test.YtjgfijpgoffmlabDoorFix
import Derived.Test.YtjgfijpgoffmlabDoorFixMath2
namespace Go.Proofs.YtjgfijpgoffmlabDoor
open Go.RowKit
set_option linter.unusedVariables false
set_option linter.unusedSimpArgs false


set_option maxHeartbeats 4000000 in
set_option maxRecDepth 100000 in
theorem twice_any (A : Nat → Int) (w : World) (hA : DigF A) :
    Calls Tryd.prog 22 #[.agg (row 200 A)] w fun e w' => e = .returned (.agg (row 200 (twS A 200).1)) ∧ Below w.heap.size w w' := by
  have hrs := row_size 200
  have hz := fixZero
  have HA := Lib.hid hA
  clear hA
  go_enter Tryd.func22, Tryd.ntmps22
  go_wp2
  go_loopw [3, 4] (fun c i wr => ∃ m : Nat, m ≤ 200 ∧ c = .int .i64 (twS A m).2 ∧ i = .int .i64 (199 - (m : Int)) ∧ RowF wr w.heap.size (twS A m).1 ∧ RowF wr (w.heap.size + 1) (fun _ => 0) ∧ Below w.heap.size w wr) (fun _ i _ => (intOf i + 1).toNat)
  case atStart =>
    refine ⟨0, by omega, rfl, rfl, ?_, ?_, ?_⟩
    · exact (RowF.new w A 31).alloc (by simp) _
    · have := RowF.new (w.alloc (.cells (row 200 A) 31)) (fun _ => 0) 31
      simpa using this
    · exact ((Below.refl _ _).alloc (Nat.le_refl _) _).alloc (by simp) _
  case round =>
    obtain ⟨m, hm, rfl, rfl, hC, h0, hb⟩ := hrel
    by_cases hlt : m < 200
    · obtain ⟨hd, -, c0, c1, -⟩ := twS_inv HA.out m hm
      have hai := hd (199 - m)
      have hs := hC.set (199 - m) ((2 * (twS A m).1 (199 - m) + (twS A m).2) % 10)
      have Hs : Hid (RowF (wr.setCell ⟨w.heap.size, 199 - m, none⟩ (.int .i64 ((2 * (twS A m).1 (199 - m) + (twS A m).2) % 10))) w.heap.size (twS A (m + 1)).1) := hs
      have Hc : Hid ((twS A (m + 1)).2 = (2 * (twS A m).1 (199 - m) + (twS A m).2) / 10) := rfl
      have hc1 := (hC (199 - m) (by omega)).1
      have hf1 := (hC (199 - m) (by omega)).2
      have hi0 : (0 : Int) ≤ 199 - (m : Int) := by omega
      have hi1 : 199 - (m : Int) < 200 := by omega
      have hi2 : (199 - (m : Int)).toNat = 199 - m := by omega
      have H0 := Lib.hid h0
      have Hd := Lib.hid hd
      clear hs hC h0 hd
      have g1 := hai.1
      have g2 := hai.2
      clear hai
      go_wp2
      go_roundw
      case rel => exact ⟨m + 1, by omega, by rw [Hc.out], by go_num, Hs.out, H0.out.other (by omega) _ _, hb.setCell (p := ⟨w.heap.size, 199 - m, none⟩) (Nat.le_refl _) _⟩
      case measure => simp [intOf]; omega
    · obtain rfl : m = 200 := by omega
      go_wp2
      refine wp_fix_load _ rfl _ rfl _ hC ?_
      go_wp2
      rw [fix_storeCells h0 _]
      simp only [Result.andThen]
      rw [Oper.upon_skip]
      have hbb := below_setCells (w.heap.size + 1) (by omega) (row 200 (twS A 200).1).toList 0 wr hb
      go_wp2
      (try simp only [Exit.inBlock, Exit.then])
      refine bodyPost_ret (v := .agg (row 200 (twS A 200).1)) ?_ rfl ⟨rfl, hbb⟩
      exact results_fix rfl _ (w.heap.size + 1) _ _ rfl (h0.put _)
end Go.Proofs.YtjgfijpgoffmlabDoor
