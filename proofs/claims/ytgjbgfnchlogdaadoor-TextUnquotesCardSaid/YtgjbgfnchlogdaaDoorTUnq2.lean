import Derived.Test.YtgjbgfnchlogdaaDoorTUnq
import Derived.OwnWalk
namespace Go.Proofs.YtgjbgfnchlogdaaDoor
open Go.RowKit
set_option linter.unusedVariables false
set_option linter.unusedSimpArgs false

theorem unqFrom_end (s : ByteArray) (f pos next : Nat) (acc : List UInt8) (h : ¬ pos < s.size) : unqFrom s f pos next acc = none := by
  cases f with
  | zero => rfl
  | succ f => rw [unqFrom, if_neg h]

set_option maxHeartbeats 8000000 in
set_option maxRecDepth 1000000 in
theorem unquote_any (s : ByteArray) (w : World) (hs : s.size ≤ 1000000) :
    Calls Tryd.prog 14 #[.string s] w fun e w' => e = .returned (unqVal (unqAll s)) ∧ Below w.heap.size w w' := by
  obtain ⟨r, hr⟩ : ∃ r, r = unqAll s := ⟨_, rfl⟩
  rw [← hr]
  unfold unqAll at hr
  have hpre := fun W => Tryd.strings_HasPrefix s ⟨#[34]⟩ W
  have e34 : (⟨#[34]⟩ : ByteArray).data.toList = [34] := rfl
  rw [e34] at hpre
  clear e34
  cases hp : Lib.hasPrefix s.data.toList [34]
  · rw [hp] at hpre hr
    rw [if_neg (by decide)] at hr
    subst hr
    go_enter Tryd.func14, Tryd.ntmps14
    go_wp2_with fail
    go_at_call 21
    refine (hpre _).mono ?_
    rintro e w2 ⟨rfl, hw⟩
    rw [hw]
    clear hw
    go_wp2
    go_ret3
    exact ⟨rfl, Below.refl _ _⟩
  rw [hp] at hpre hr
  rw [if_pos rfl] at hr
  have Hr := Lib.hid hr
  clear hr hp
  go_enter Tryd.func14, Tryd.ntmps14
  go_wp2_with fail
  go_at_call 21
  refine (hpre _).mono ?_
  rintro e w2 ⟨rfl, hw⟩
  rw [hw]
  clear hw hpre
  go_wp2
  go_loopw [6] (fun nx wr => ∃ (pos fuel next : Nat) (acc : List UInt8), nx = .int .i64 next ∧ Lib.IsBuilderF 39 5 w.heap.size w.heap.size (Lib.byteCells acc) wr ∧ wr.heap[w.heap.size + 1]? = some (.stringIter s pos) ∧ Below w.heap.size w wr ∧ Hid (unqFrom s fuel pos next acc = r) ∧ Hid (s.size ≤ pos + fuel) ∧ Hid (acc.length ≤ 4 * pos) ∧ Hid (next ≤ s.size + 1)) (fun _ wr => s.size - wr.iterPos (w.heap.size + 1))
  case atStart =>
    refine ⟨0, s.size, 1, [], rfl, (Lib.IsBuilderF.of (Lib.fresh_isBuilder 39 5 w)).alloc _, ?_, ((Below.refl _ w).alloc (Nat.le_refl _) _).alloc (by simp) _, Hr.out.symm, by show s.size ≤ 0 + s.size; omega, by show 0 ≤ _; omega, by show 1 ≤ _; omega⟩
    have := World.iter_heap (w.alloc (.cells #[.pointer none, .slice none 0 0] 39)) s 0
    simpa using this
  case round =>
    obtain ⟨pos, fuel, next, acc, rfl, hI, hit, hbw, Hacc, Hfu, Hal, Hnx⟩ := hrel
    have hsz : w.heap.size + 1 < wr.heap.size := (Array.getElem?_eq_some_iff.1 hit).1
    clear Hr
    by_cases hp : pos < s.size
    · have hnx : ∀ ty, (Instr.next (.pointer (some ⟨w.heap.size + 1, 0, none⟩)) true ty).run Tryd.prog wr = _ := fun ty => Lib.run_next_any_at wr (w.heap.size + 1) s pos ty hit hp
      have hwd := width_pos s pos hp
      have hd1 := decode_le s pos
      have hI2 := hI.iterAt hit (pos + (Utf8.decode s pos).2)
      have hit2 := Lib.iterAt_heap wr (w.heap.size + 1) s pos (pos + (Utf8.decode s pos).2) hit
      have hbw2 := Lib.below_iterAt hbw (k := w.heap.size + 1) (by omega) s (pos + (Utf8.decode s pos).2)
      have hsz2 : w.heap.size ≤ (wr.iterAt (w.heap.size + 1) s (pos + (Utf8.decode s pos).2)).heap.size := by rw [Lib.iterAt_size]; omega
      obtain ⟨f, rfl⟩ : ∃ f, fuel = f + 1 := ⟨fuel - 1, by have := Hfu.out; omega⟩
      have hstep := Hacc.out
      rw [unqFrom, if_pos hp] at hstep
      have Hit := Lib.hid hit
      have Hnn := Hnx.out
      clear Hacc hit hI
      by_cases hlt : pos < next
      · rw [if_pos hlt] at hstep
        have Hstep := Lib.hid hstep
        clear hstep
        have hlt' : (pos : Int) < next := by omega
        go_wp2
        go_roundw
        case rel => exact ⟨pos + (Utf8.decode s pos).2, f, next, acc, rfl, hI2, hit2, hbw2, Hstep.out, by have := Hfu.out; show s.size ≤ _; omega, by have := Hal.out; show _ ≤ _; omega, Hnx⟩
        case measure =>
          simp only [World.iterPos, hit2, Hit.out]
          omega
      rw [if_neg hlt] at hstep
      have hlt' : ¬ (pos : Int) < next := by omega
      by_cases h34 : (Utf8.decode s pos).1 = 34
      · rw [if_pos h34] at hstep
        subst hstep
        go_wp2_with fail
        go_at_call 20
        refine (Tryd.Builder_String_any_k w.heap.size w.heap.size acc _ hI2 hsz2).mono ?_
        rintro e W1 ⟨rfl, _, b1, _⟩
        go_wp2
        go_ret3
        exact ⟨rfl, hbw2.trans b1⟩
      rw [if_neg h34] at hstep
      by_cases h10 : (Utf8.decode s pos).1 = 10
      · rw [if_pos h10] at hstep
        subst hstep
        go_wp2
        go_ret3
        exact ⟨rfl, hbw2⟩
      rw [if_neg h10] at hstep
      by_cases h92 : (Utf8.decode s pos).1 = 92
      · rw [if_pos h92] at hstep
        have hes := escV_range (s.data.toList.drop pos)
        have hcall := fun W => escaped_any (s.extract pos s.size) W (by simp; omega)
        have hed := extract_drop s pos
        rw [hed] at hcall
        clear hed
        rw [List.length_drop, size_data] at hes
        generalize escV (s.data.toList.drop pos) = ev at *
        obtain ⟨sg, wd⟩ := ev
        dsimp only at hes hcall hstep
        obtain ⟨q0, q1, q2⟩ := hes
        by_cases hw0 : wd = 0
        · subst hw0
          rw [if_pos rfl] at hstep
          subst hstep
          go_wp2_with fail
          go_at_call 22
          refine (hcall _).mono ?_
          rintro e W1 ⟨rfl, rfl⟩
          go_wp2
          go_ret3
          exact ⟨rfl, hbw2⟩
        · rw [if_neg hw0] at hstep
          have Hstep := Lib.hid hstep
          clear hstep
          have hwb : ((wd : Int) == 0) = false := by rw [beq_eq_false_iff_ne]; omega
          clear hw0
          go_wp2_with fail
          go_at_call 22
          refine (hcall _).mono ?_
          rintro e W1 ⟨rfl, rfl⟩
          go_wp2_with fail
          go_at_call 19
          refine (bld_WriteRune w.heap.size w.heap.size _ _ (by omega) (by omega) _ hI2 (by rw [Lib.byteCells_length]; have := Hal.out; omega) hsz2).mono ?_
          rintro e W2 ⟨rfl, h1, b1, k1⟩
          go_wp2
          go_roundw
          case rel =>
            have hl4 := (Lib.runeCells_le sg).2
            rw [Lib.runeCells_length] at hl4
            refine ⟨pos + (Utf8.decode s pos).2, f, pos + wd, acc ++ Lib.encodeRune sg, by go_num, ?_, k1.iter hit2 (by omega), hbw2.trans b1, Hstep.out, by have := Hfu.out; show s.size ≤ _; omega, by have := Hal.out; show _ ≤ _; simp; omega, by show _ ≤ _; omega⟩
            rw [Lib.byteCells_append, Lib.byteCells_encodeRune]; exact Or.inr h1
          case measure =>
            simp only [World.iterPos, k1.iter hit2 (by omega), Hit.out]
            omega
      · rw [if_neg h92] at hstep
        have Hstep := Lib.hid hstep
        clear hstep
        go_wp2_with fail
        go_at_call 19
        refine (bld_WriteRune w.heap.size w.heap.size _ _ (by omega) (by omega) _ hI2 (by rw [Lib.byteCells_length]; have := Hal.out; omega) hsz2).mono ?_
        rintro e W2 ⟨rfl, h1, b1, k1⟩
        go_wp2
        go_roundw
        case rel =>
          have hl4 := (Lib.runeCells_le ((Utf8.decode s pos).1 : Int)).2
          rw [Lib.runeCells_length] at hl4
          refine ⟨pos + (Utf8.decode s pos).2, f, next, acc ++ Lib.encodeRune (Utf8.decode s pos).1, rfl, ?_, k1.iter hit2 (by omega), hbw2.trans b1, Hstep.out, by have := Hfu.out; show s.size ≤ _; omega, by have := Hal.out; show _ ≤ _; simp; omega, Hnx⟩
          rw [Lib.byteCells_append, Lib.byteCells_encodeRune]; exact Or.inr h1
        case measure =>
          simp only [World.iterPos, k1.iter hit2 (by omega), Hit.out]
          omega
    · have hnx : ∀ ty, (Instr.next (.pointer (some ⟨w.heap.size + 1, 0, none⟩)) true ty).run Tryd.prog wr = _ := fun ty => Lib.run_next_end_at wr (w.heap.size + 1) s pos ty hit hp
      have hstep := Hacc.out
      rw [unqFrom_end s fuel pos next acc hp] at hstep
      subst hstep
      go_wp2
      go_ret3
      exact ⟨rfl, hbw⟩
end Go.Proofs.YtgjbgfnchlogdaaDoor
