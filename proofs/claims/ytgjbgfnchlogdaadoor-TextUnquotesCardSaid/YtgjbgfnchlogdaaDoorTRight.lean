import Derived.Test.YtgjbgfnchlogdaaDoorTMath
import Derived.Deep.RegionHeld3
namespace Go.Proofs.YtgjbgfnchlogdaaDoor
open Go.RowKit
set_option linter.unusedVariables false
set_option linter.unusedSimpArgs false

/-- Is a text such as Decode tells, from a place on? -/
def rightFrom (s : ByteArray) : Nat → Nat → Bool
  | 0, _ => true
  | f + 1, pos => if pos < s.size then (if (Utf8.decode s pos).1 = 13 ∨ ((Utf8.decode s pos).1 = 65533 ∧ Lib.hasPrefix (s.data.toList.drop pos) [239, 191, 189] = false) then false else rightFrom s f (pos + (Utf8.decode s pos).2)) else true
theorem rightFrom_end (s : ByteArray) (f pos : Nat) (h : ¬ pos < s.size) : rightFrom s f pos = true := by
  cases f with
  | zero => rfl
  | succ f => rw [rightFrom, if_neg h]

set_option maxHeartbeats 4000000 in
set_option maxRecDepth 1000000 in
theorem right_any (s : ByteArray) (w : World) (hs : s.size ≤ 1000000) :
    Calls Tryd.prog 11 #[.string s] w fun e w' => e = .returned (.bool (rightFrom s s.size 0)) ∧ Below w.heap.size w w' := by
  obtain ⟨r, hr⟩ : ∃ r, rightFrom s s.size 0 = r := ⟨_, rfl⟩
  rw [hr]
  have Hr := Lib.hid hr
  clear hr
  go_enter Tryd.func11, Tryd.ntmps11
  go_wp2
  go_loopw [] (fun wr => ∃ (pos fuel : Nat), wr.heap[w.heap.size]? = some (.stringIter s pos) ∧ Below w.heap.size w wr ∧ Hid (rightFrom s fuel pos = r) ∧ Hid (s.size ≤ pos + fuel)) (fun wr => s.size - wr.iterPos w.heap.size)
  case atStart =>
    exact ⟨0, s.size, World.iter_heap w s 0, (Below.refl _ w).alloc (Nat.le_refl _) _, Hr.out, by show s.size ≤ 0 + s.size; omega⟩
  case round =>
    obtain ⟨pos, fuel, hit, hbw, Hacc, Hfu⟩ := hrel
    have hsz : w.heap.size < wr.heap.size := (Array.getElem?_eq_some_iff.1 hit).1
    clear Hr
    by_cases hp : pos < s.size
    · have hnx : ∀ ty, (Instr.next (.pointer (some ⟨w.heap.size, 0, none⟩)) true ty).run Tryd.prog wr = _ := fun ty => Lib.run_next_any_at wr w.heap.size s pos ty hit hp
      have hwd := width_pos s pos hp
      have hit2 := Lib.iterAt_heap wr w.heap.size s pos (pos + (Utf8.decode s pos).2) hit
      have hbw2 := Lib.below_iterAt hbw (k := w.heap.size) (by omega) s (pos + (Utf8.decode s pos).2)
      obtain ⟨f, rfl⟩ : ∃ f, fuel = f + 1 := ⟨fuel - 1, by have := Hfu.out; omega⟩
      have hstep := Hacc.out
      rw [rightFrom, if_pos hp] at hstep
      have Hit := Lib.hid hit
      clear Hacc hit
      by_cases h13 : (Utf8.decode s pos).1 = 13
      · rw [if_pos (Or.inl h13)] at hstep
        subst hstep
        have q1 : (((Utf8.decode s pos).1 : Int) == 13) = true := by rw [h13]; rfl
        clear h13
        go_wp2
        go_ret
        exact ⟨rfl, hbw2⟩
      have q1 : (((Utf8.decode s pos).1 : Int) == 13) = false := by rw [beq_eq_false_iff_ne]; omega
      by_cases hE : (Utf8.decode s pos).1 = 65533
      · have q2 : (((Utf8.decode s pos).1 : Int) == 65533) = true := by rw [hE]; rfl
        have hcall := fun W => Tryd.strings_HasPrefix (s.extract pos s.size) ⟨#[239, 191, 189]⟩ W
        have e3 : (⟨#[239, 191, 189]⟩ : ByteArray).data.toList = [239, 191, 189] := rfl
        rw [extract_drop s pos, e3] at hcall
        clear e3
        cases hpre : Lib.hasPrefix (s.data.toList.drop pos) [239, 191, 189]
        · rw [hpre] at hcall hstep
          rw [if_pos (Or.inr ⟨hE, rfl⟩)] at hstep
          subst hstep
          clear h13 hE hpre
          go_wp2_with fail
          go_at_call 21
          refine (hcall _).mono ?_
          rintro e w2 ⟨rfl, rfl⟩
          go_wp2
          go_ret
          exact ⟨rfl, hbw2⟩
        · rw [hpre] at hcall hstep
          rw [if_neg (by rintro (h | h); exact h13 h; exact absurd h.2 (by decide))] at hstep
          have Hstep := Lib.hid hstep
          clear h13 hE hpre hstep
          go_wp2_with fail
          go_at_call 21
          refine (hcall _).mono ?_
          rintro e w2 ⟨rfl, hw⟩
          rw [hw]
          clear hw
          go_wp2
          go_roundw
          case rel => exact ⟨pos + (Utf8.decode s pos).2, f, hit2, hbw2, Hstep.out, by have := Hfu.out; show s.size ≤ _; omega⟩
          case measure =>
            simp only [World.iterPos, hit2, Hit.out]
            omega
      · have q2 : (((Utf8.decode s pos).1 : Int) == 65533) = false := by rw [beq_eq_false_iff_ne]; omega
        rw [if_neg (by rintro (h | h); exact h13 h; exact hE h.1)] at hstep
        have Hstep := Lib.hid hstep
        clear h13 hE hstep
        go_wp2
        go_roundw
        case rel => exact ⟨pos + (Utf8.decode s pos).2, f, hit2, hbw2, Hstep.out, by have := Hfu.out; show s.size ≤ _; omega⟩
        case measure =>
          simp only [World.iterPos, hit2, Hit.out]
          omega
    · have hnx : ∀ ty, (Instr.next (.pointer (some ⟨w.heap.size, 0, none⟩)) true ty).run Tryd.prog wr = _ := fun ty => Lib.run_next_end_at wr w.heap.size s pos ty hit hp
      have hstep := Hacc.out
      rw [rightFrom_end s fuel pos hp] at hstep
      subst hstep
      go_wp2
      go_ret
      exact ⟨rfl, hbw⟩
end Go.Proofs.YtgjbgfnchlogdaaDoor
