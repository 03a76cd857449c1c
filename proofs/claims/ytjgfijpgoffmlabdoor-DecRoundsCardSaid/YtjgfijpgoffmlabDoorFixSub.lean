import Derived.Test.YtjgfijpgoffmlabDoorFix
import Derived.Test.YtjgfijpgoffmlabDoorFixMath2
namespace Go.Proofs.YtjgfijpgoffmlabDoor
open Go.RowKit
set_option linter.unusedVariables false
set_option linter.unusedSimpArgs false


set_option maxHeartbeats 4000000 in
set_option maxRecDepth 100000 in
theorem sub_any (A B : Nat → Int) (w : World) (hA : DigF A) (hB : DigF B) (hle : hor B 200 ≤ hor A 200) :
    Calls Tryd.prog 21 #[.agg (row 200 A), .agg (row 200 B)] w fun e w' => e = .returned (.agg (row 200 (leS A B 200))) ∧ Below w.heap.size w w' := by
  have hrs := row_size 200
  have hz := fixZero
  have HA := Lib.hid hA
  have HB := Lib.hid hB
  have Hle := Lib.hid hle
  clear hA hB hle
  go_enter Tryd.func21, Tryd.ntmps21
  go_wp2
  go_loopw [5] (fun i wr => ∃ m : Nat, m ≤ 200 ∧ i = .int .i64 (199 - (m : Int)) ∧ RowF wr w.heap.size (leS A B m) ∧ RowF wr (w.heap.size + 1) B ∧ RowF wr (w.heap.size + 1 + 1) (fun _ => 0) ∧ Below w.heap.size w wr) (fun i _ => (intOf i + 1).toNat)
  case atStart =>
    refine ⟨0, by omega, rfl, ?_, ?_, ?_, ?_⟩
    · exact ((RowF.new w A 31).alloc (by simp) _).alloc (by simp; omega) _
    · have := (RowF.new (w.alloc (.cells (row 200 A) 31)) B 31).alloc (by simp) (.cells (row 200 fun _ => 0) 31)
      simpa using this
    · have := RowF.new ((w.alloc (.cells (row 200 A) 31)).alloc (.cells (row 200 B) 31)) (fun _ => 0) 31
      simpa using this
    · exact (((Below.refl _ _).alloc (Nat.le_refl _) _).alloc (by simp) _).alloc (by simp; omega) _
  case round =>
    obtain ⟨m, hm, rfl, hC, hR, h0, hb⟩ := hrel
    by_cases hlt : m < 200
    · obtain ⟨c, hinv, -⟩ := leS_inv HA.out HB.out Hle.out m hm
      have hfirst := fun hy => le_first HA.out HB.out Hle.out hinv hlt hy
      obtain ⟨hc, g1, g2, g3, -⟩ := hinv
      have hci := g2 (199 - m) (by omega)
      have hai := HA.out (199 - m)
      have hbi := HB.out (199 - m)
      have hstep : leS A B (m + 1) = if leS A B m (199 - m) - B (199 - m) < 0 then (fun q => if q = 199 - m - 1 then leS A B m (199 - m - 1) - 1 else if q = 199 - m then leS A B m (199 - m) - B (199 - m) + 10 else leS A B m q)
        else (fun q => if q = 199 - m then leS A B m (199 - m) - B (199 - m) else leS A B m q) := rfl
      have hc1 := (hC (199 - m) (by omega)).1
      have hf1 := (hC (199 - m) (by omega)).2
      have hc2 := (hR (199 - m) (by omega)).1
      have hlo : -1 ≤ leS A B m (199 - m) := by rcases hc with e | e <;> omega
      have hhi : leS A B m (199 - m) ≤ 9 := by rcases hc with e | e <;> omega
      clear hci hc
      have Hg1 := Lib.hid g1
      clear g1 g2 g3
      have Hstep := Lib.hid hstep
      clear hstep
      have hi0 : (0 : Int) ≤ 199 - (m : Int) := by omega
      have hi1 : 199 - (m : Int) < 200 := by omega
      have hi2 : (199 - (m : Int)).toNat = 199 - m := by omega
      by_cases hy : leS A B m (199 - m) - B (199 - m) < 0
      · have hm1 := hfirst hy
        have hb0 := (hC (199 - m - 1) (by omega)).1
        have hf0 := (hC (199 - m - 1) (by omega)).2
        have hpa := Hg1.out (199 - m - 1) (by omega)
        have hpd := HA.out (199 - m - 1)
        rw [← hpa] at hpd
        have s1 := hC.set (199 - m) (leS A B m (199 - m) - B (199 - m))
        have s2 := s1.set (199 - m) (leS A B m (199 - m) - B (199 - m) + 10)
        have s3 := s2.set (199 - m - 1) (leS A B m (199 - m - 1) - 1)
        have Hs := Lib.hid (s3.congr (B := leS A B (m + 1)) (fun p _ => by
          rw [Hstep.out, if_pos hy]
          by_cases e1 : p = 199 - m - 1
          · simp only [e1, ↓reduceIte]
          · by_cases e2 : p = 199 - m
            · subst e2; simp only [e1, ↓reduceIte]
            · simp only [e1, e2, ↓reduceIte]))
        have k1 := (s1 (199 - m) (by omega)).1
        simp only [↓reduceIte] at k1
        have hne : ¬ 199 - m - 1 = 199 - m := by omega
        have k2 := (s2 (199 - m - 1) (by omega)).1
        simp only [hne, ↓reduceIte] at k2
        have HR := Lib.hid hR
        have H0 := Lib.hid h0
        have q0 := hpd.1
        have q1 := hpd.2
        clear s1 s2 s3 hC hR h0 Hstep hfirst hpa hpd hne Hg1 hb0
        generalize leS A B m (199 - m - 1) = pi at *
        generalize leS A B m (199 - m) = ci at *
        generalize B (199 - m) = bi at *
        have d1 : decide (ci - bi < 0) = true := decide_eq_true hy
        have hi3 : (0 : Int) ≤ 199 - (m : Int) - 1 := by omega
        have hi4 : 199 - (m : Int) - 1 < 200 := by omega
        have hi5 : (199 - (m : Int) - 1).toNat = 199 - m - 1 := by omega
        go_wp2_with fail
        go_region
        go_wp2
        go_roundw
        case rel => exact ⟨m + 1, by omega, by go_num, Hs.out.drew, (((HR.out.other (by omega) _ _).other (by omega) _ _).other (by omega) _ _).drew, (((H0.out.other (by omega) _ _).other (by omega) _ _).other (by omega) _ _).drew, (((hb.setCell (p := ⟨w.heap.size, 199 - m, none⟩) (Nat.le_refl _) _).setCell (p := ⟨w.heap.size, 199 - m, none⟩) (Nat.le_refl _) _).setCell (p := ⟨w.heap.size, 199 - m - 1, none⟩) (Nat.le_refl _) _).drew⟩
        case measure => simp [intOf]; omega
      · have hs := hC.set (199 - m) (leS A B m (199 - m) - B (199 - m))
        have es : leS A B (m + 1) = (fun q => if q = 199 - m then leS A B m (199 - m) - B (199 - m) else leS A B m q) := by rw [Hstep.out, if_neg hy]
        have hcell := (hs (199 - m) (by omega)).1
        simp only [↓reduceIte] at hcell
        rw [← es] at hs
        have Hs := Lib.hid hs
        have HR := Lib.hid hR
        have H0 := Lib.hid h0
        clear hs es hC hR h0 Hstep hfirst
        generalize leS A B m (199 - m) = ci at *
        generalize B (199 - m) = bi at *
        have d1 : decide (ci - bi < 0) = false := decide_eq_false hy
        go_wp2_with fail
        go_region
        go_wp2
        go_roundw
        case rel => exact ⟨m + 1, by omega, by go_num, Hs.out.drew, (HR.out.other (by omega) _ _).drew, (H0.out.other (by omega) _ _).drew, (hb.setCell (p := ⟨w.heap.size, 199 - m, none⟩) (Nat.le_refl _) _).drew⟩
        case measure => simp [intOf]; omega
    · obtain rfl : m = 200 := by omega
      clear Hle
      go_wp2
      refine wp_fix_load _ rfl _ rfl _ hC ?_
      go_wp2
      rw [fix_storeCells h0 _]
      simp only [Result.andThen]
      rw [Oper.upon_skip]
      have hbb := below_setCells (w.heap.size + 1 + 1) (by omega) (row 200 (leS A B 200)).toList 0 wr hb
      go_wp2
      (try simp only [Exit.inBlock, Exit.then])
      refine bodyPost_ret (v := .agg (row 200 (leS A B 200))) ?_ rfl ⟨rfl, hbb⟩
      exact results_fix rfl _ (w.heap.size + 1 + 1) _ _ rfl (h0.put _)
end Go.Proofs.YtjgfijpgoffmlabDoor
