import Derived.Test.YtgdkpamlkpncgabGreatDoorTQuote
namespace Go.Proofs.YtgdkpamlkpncgabGreatDoor
open Go.RowKit
set_option linter.unusedVariables false
set_option linter.unusedSimpArgs false

theorem quoteR_length (r : Nat) : (quoteR r).length ≤ 6 := by
  unfold quoteR
  split
  · have := (Lib.runeCells_le (r : Int)).2
    rw [Lib.runeCells_length] at this
    rw [List.length_cons]; omega
  · split
    · exact Nat.le_refl _
    · have := (Lib.runeCells_le (r : Int)).2
      rw [Lib.runeCells_length] at this
      omega

theorem quoteFrom_length (s : ByteArray) : ∀ fuel pos, (quoteFrom s fuel pos).length ≤ 6 * (s.size - pos)
  | 0, _ => by simp [quoteFrom]
  | f + 1, pos => by
    unfold quoteFrom
    by_cases hp : pos < s.size
    · rw [if_pos hp, List.length_append]
      have ih := quoteFrom_length s f (pos + (Utf8.decode s pos).2)
      have hw := width_pos s pos hp
      have h4 := quoteR_length (Utf8.decode s pos).1
      omega
    · rw [if_neg hp]; simp

set_option maxHeartbeats 8000000 in
set_option maxRecDepth 1000000 in
theorem quote_any (s : ByteArray) (w : World) (hs : s.size ≤ 4000000) :
    Calls Tryz.prog 394 #[.string s] w fun e w' => e = .returned (.string ⟨(quoteAll s).toArray⟩) ∧ Below w.heap.size w w' := by
  have hbk := heap_alloc_new w (.cells #[.pointer none, .slice none 0 0] 192)
  have Hbk := Lib.hid hbk
  clear hbk
  have hn2 : ((s.size : Int) + 2) = ((s.size + 2 : Nat) : Int) := by omega
  have Hn2 := Lib.hid hn2
  clear hn2
  go_enter Tryz.func394, Tryz.ntmps394
  go_wp2_with fail
  rw [Hn2.out]
  go_at_call 86
  refine (Tryz.Builder_Grow_fresh w.heap.size w.heap.size (s.size + 2) _ (Nat.le_refl _) Hbk.out (by simp) (by omega)).mono ?_
  rintro e w1 ⟨rfl, hI0, hb0⟩
  have hB0 : Below w.heap.size w w1 := ((Below.refl _ _).alloc (Nat.le_refl _) _).trans hb0
  have hK0 : w.heap.size < w1.heap.size := by have := hb0.size; simp at this; omega
  clear hb0
  go_wp2_with fail
  go_at_call 88
  refine (bld_WriteByte w.heap.size w.heap.size [] _ _ (Lib.IsBuilderF.of (Or.inr hI0)) (by simp) (by omega)).mono ?_
  rintro e w2 ⟨rfl, hI1, hb1, -⟩
  have hB1 := hB0.trans hb1
  have hK : w.heap.size < w2.heap.size := Nat.lt_of_lt_of_le hK0 hb1.size
  have HI1 := Lib.hid hI1
  have HB1 := Lib.hid hB1
  clear hI0 hI1 hB0 hB1 hb1 Hn2
  go_wp2
  go_loopw [] (fun wr => ∃ (pos fuel : Nat) (acc : List UInt8), Lib.IsBuilderF 192 5 w.heap.size w.heap.size (Lib.byteCells (34 :: acc)) wr ∧ wr.heap[w2.heap.size]? = some (.stringIter s pos) ∧ Below w.heap.size w wr ∧ Hid (acc ++ quoteFrom s fuel pos = quoteFrom s s.size 0) ∧ Hid (s.size ≤ pos + fuel) ∧ Hid (acc.length ≤ 6 * pos)) (fun wr => s.size - wr.iterPos w2.heap.size)
  case atStart =>
    refine ⟨0, s.size, [], Lib.IsBuilderF.alloc (Or.inr HI1.out) _, ?_, HB1.out.alloc (by omega) _, rfl, by show s.size ≤ 0 + s.size; omega, by show 0 ≤ _; omega⟩
    exact World.iter_heap w2 s 0
  case round =>
    obtain ⟨pos, fuel, acc, hI, hit, hbw, Hacc, Hfu, Hal⟩ := hrel
    have hsz : w2.heap.size < wr.heap.size := (Array.getElem?_eq_some_iff.1 hit).1
    clear HI1 HB1
    by_cases hp : pos < s.size
    · have hnx : ∀ ty, (Instr.next (.pointer (some ⟨w2.heap.size, 0, none⟩)) true ty).run Tryz.prog wr = _ := fun ty => Lib.run_next_any_at wr w2.heap.size s pos ty hit hp
      have hwd := width_pos s pos hp
      have hd1 := decode_le s pos
      have hI2 := hI.iterAt hit (pos + (Utf8.decode s pos).2)
      have hit2 := Lib.iterAt_heap wr w2.heap.size s pos (pos + (Utf8.decode s pos).2) hit
      have hbw2 := Lib.below_iterAt hbw (k := w2.heap.size) (by omega) s (pos + (Utf8.decode s pos).2)
      have hsz2 : w.heap.size ≤ (wr.iterAt w2.heap.size s (pos + (Utf8.decode s pos).2)).heap.size := by rw [Lib.iterAt_size]; omega
      obtain ⟨f, rfl⟩ : ∃ f, fuel = f + 1 := ⟨fuel - 1, by have := Hfu.out; omega⟩
      have hstep := Hacc.out
      rw [quoteFrom, if_pos hp] at hstep
      have hq6 := quoteR_length (Utf8.decode s pos).1
      have Hq6 := Lib.hid hq6
      have hlen : (Lib.byteCells (34 :: acc)).length + 10 ≤ 140737488355328 := by rw [Lib.byteCells_length, List.length_cons]; have := Hal.out; omega
      have Hlen := Lib.hid hlen
      have Hit := Lib.hid hit
      have Hstep := Lib.hid hstep
      clear Hacc hit hI hq6 hlen hstep
      by_cases h1 : (Utf8.decode s pos).1 = 34 ∨ (Utf8.decode s pos).1 = 92
      · have hqr : quoteR (Utf8.decode s pos).1 = 92 :: Lib.encodeRune (Utf8.decode s pos).1 := by unfold quoteR; rw [if_pos h1]
        have Hqr := Lib.hid hqr
        clear hqr
        rcases h1 with h1 | h1
        all_goals
          go_wp2_with fail
          go_at_call 88
          refine (bld_WriteByte w.heap.size w.heap.size _ _ _ hI2 (by have := Hlen.out; omega) hsz2).mono ?_
          rintro e W1 ⟨rfl, g1, b1, k1⟩
          have hsz3 : w.heap.size ≤ W1.heap.size := Nat.le_trans hsz2 b1.size
          have G1 := Lib.hid g1
          clear g1
          go_wp2_with fail
          go_at_call 103
          refine (bld_WriteRune w.heap.size w.heap.size _ _ (by decide) (by decide) _ (Or.inr G1.out) (by simp only [List.length_append, List.length_singleton]; have := Hlen.out; omega) hsz3).mono ?_
          rintro e W2 ⟨rfl, g2, b2, k2⟩
          have G2 := Lib.hid g2
          clear g2
          go_wp2
          go_roundw
          case rel =>
            refine ⟨pos + (Utf8.decode s pos).2, f, acc ++ quoteR (Utf8.decode s pos).1, Or.inr ?_, (k1.trans k2).iter hit2 (by omega), (hbw2.trans b1).trans b2, ?_, by have := Hfu.out; show s.size ≤ _; omega, by have := Hal.out; have := Hq6.out; show _ ≤ _; rw [List.length_append]; omega⟩
            · have := G2.out
              rw [Hqr.out, h1]
              rw [← Lib.byteCells_encodeRune] at this
              simpa [Lib.byteCells] using this
            · show _ = _
              rw [← Hstep.out, List.append_assoc]
          case measure =>
            simp only [World.iterPos, (k1.trans k2).iter hit2 (by omega), Hit.out]
            omega
      by_cases h2 : (Utf8.decode s pos).1 < 32 ∨ (Utf8.decode s pos).1 = 127
      · have hqr : quoteR (Utf8.decode s pos).1 = [92, 117, 48, 48, hexC ((Utf8.decode s pos).1 / 16), hexC ((Utf8.decode s pos).1 % 16)] := by unfold quoteR; rw [if_neg h1, if_pos h2]
        have Hqr := Lib.hid hqr
        clear hqr
        have n34 : (((Utf8.decode s pos).1 : Int) == 34) = false := by rw [beq_eq_false_iff_ne]; omega
        have n92 : (((Utf8.decode s pos).1 : Int) == 92) = false := by rw [beq_eq_false_iff_ne]; omega
        have hc : (((Utf8.decode s pos).1 : Int) < 32) ∨ (¬ ((Utf8.decode s pos).1 : Int) < 32 ∧ (((Utf8.decode s pos).1 : Int) == 127) = true) := by
          rcases h2 with h | h
          · left; omega
          · right; exact ⟨by omega, by rw [h]; rfl⟩
        have h128 : (Utf8.decode s pos).1 < 128 := by omega
        have H12 := Lib.hid h1
        clear h1 h2
        rcases hc with hc | ⟨hc, hc2⟩
        all_goals
          go_wp2_with fail
          go_at_call 395
          refine (writeNumber_any w.heap.size w.heap.size _ _ h128 _ hI2 (by have := Hlen.out; omega) hsz2).mono ?_
          rintro e W1 ⟨rfl, g1, b1, k1⟩
          have G1 := Lib.hid g1
          clear g1
          go_wp2
          go_roundw
          case rel =>
            refine ⟨pos + (Utf8.decode s pos).2, f, acc ++ quoteR (Utf8.decode s pos).1, Or.inr ?_, k1.iter hit2 (by omega), hbw2.trans b1, ?_, by have := Hfu.out; show s.size ≤ _; omega, by have := Hal.out; have := Hq6.out; show _ ≤ _; rw [List.length_append]; omega⟩
            · have := G1.out
              rw [Hqr.out]
              simpa [Lib.byteCells] using this
            · show _ = _
              rw [← Hstep.out, List.append_assoc]
          case measure =>
            simp only [World.iterPos, k1.iter hit2 (by omega), Hit.out]
            omega
      · have hqr : quoteR (Utf8.decode s pos).1 = Lib.encodeRune (Utf8.decode s pos).1 := by unfold quoteR; rw [if_neg h1, if_neg h2]
        have Hqr := Lib.hid hqr
        clear hqr
        have n34 : (((Utf8.decode s pos).1 : Int) == 34) = false := by rw [beq_eq_false_iff_ne]; omega
        have n92 : (((Utf8.decode s pos).1 : Int) == 92) = false := by rw [beq_eq_false_iff_ne]; omega
        have n32 : ¬ ((Utf8.decode s pos).1 : Int) < 32 := by omega
        have n127 : (((Utf8.decode s pos).1 : Int) == 127) = false := by rw [beq_eq_false_iff_ne]; omega
        clear h1 h2
        go_wp2_with fail
        go_at_call 103
        refine (bld_WriteRune w.heap.size w.heap.size _ _ (by omega) (by omega) _ hI2 (by have := Hlen.out; omega) hsz2).mono ?_
        rintro e W1 ⟨rfl, g1, b1, k1⟩
        have G1 := Lib.hid g1
        clear g1
        go_wp2
        go_roundw
        case rel =>
          refine ⟨pos + (Utf8.decode s pos).2, f, acc ++ quoteR (Utf8.decode s pos).1, Or.inr ?_, k1.iter hit2 (by omega), hbw2.trans b1, ?_, by have := Hfu.out; show s.size ≤ _; omega, by have := Hal.out; have := Hq6.out; show _ ≤ _; rw [List.length_append]; omega⟩
          · have := G1.out
            rw [Hqr.out]
            rw [← Lib.byteCells_encodeRune] at this
            simpa [Lib.byteCells] using this
          · show _ = _
            rw [← Hstep.out, List.append_assoc]
        case measure =>
          simp only [World.iterPos, k1.iter hit2 (by omega), Hit.out]
          omega
    · have hnx : ∀ ty, (Instr.next (.pointer (some ⟨w2.heap.size, 0, none⟩)) true ty).run Tryz.prog wr = _ := fun ty => Lib.run_next_end_at wr w2.heap.size s pos ty hit hp
      have hstep := Hacc.out
      rw [quoteFrom_end s fuel pos hp, List.append_nil] at hstep
      have hfin : acc = quoteFrom s s.size 0 := hstep
      have Hfin := Lib.hid hfin
      clear hstep hfin Hacc
      go_wp2_with fail
      go_at_call 88
      refine (bld_WriteByte w.heap.size w.heap.size _ _ _ hI (by rw [Lib.byteCells_length, List.length_cons, Hfin.out]; have := quoteFrom_length s s.size 0; omega) (by omega)).mono ?_
      rintro e W1 ⟨rfl, g1, b1, -⟩
      have hsz3 : w.heap.size ≤ W1.heap.size := Nat.le_trans (by omega) b1.size
      have g2 : Lib.IsBuilderF 192 5 w.heap.size w.heap.size (Lib.byteCells (34 :: (acc ++ [34]))) W1 := Or.inr (by simpa [Lib.byteCells] using g1)
      clear g1
      go_wp2_with fail
      go_at_call 89
      refine (Tryz.Builder_String_any_k w.heap.size w.heap.size _ _ g2 hsz3).mono ?_
      rintro e W2 ⟨rfl, _, b2, _⟩
      go_wp2
      go_ret
      exact ⟨by rw [Hfin.out]; rfl, (hbw.trans b1).trans b2⟩
end Go.Proofs.YtgdkpamlkpncgabGreatDoor
