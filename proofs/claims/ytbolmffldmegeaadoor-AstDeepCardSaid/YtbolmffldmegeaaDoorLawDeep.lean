/-
  AstDeep: braces within braces may be as deep as is said, and no deeper.
-/
import Derived.Test.YtbolmffldmegeaaDoorAdm
namespace Go.Proofs.YtbolmffldmegeaaDoor
open Go.RowKit
set_option linter.unusedVariables false
set_option linter.unusedSimpArgs false

theorem box7 {w : World} {E : Nat} {x0 x1 x2 x3 x4 x5 x6 : Value} {t : TypeId} (h : BoxAt w E #[x0, x1, x2, x3, x4, x5, x6] t) (y0 y1 y2 y3 y4 y5 y6 : Value) :
    BoxAt (((((((w.setCell ⟨E, 0, none⟩ y0).setCell ⟨E, 1, none⟩ y1).setCell ⟨E, 2, none⟩ y2).setCell ⟨E, 3, none⟩ y3).setCell ⟨E, 4, none⟩ y4).setCell ⟨E, 5, none⟩ y5).setCell ⟨E, 6, none⟩ y6) E #[y0, y1, y2, y3, y4, y5, y6] t := by
  unfold BoxAt at h ⊢
  simp [World.setCell, Array.getElem?_modify, h]
theorem box_cells {w : World} {E : Nat} {c : C7} {t : TypeId} (h : BoxAt w E c.arr t) : CellsAt w E 0 c :=
  ⟨h.cell 0, h.cell 1, h.cell 2, h.cell 3, h.cell 4, h.cell 5, h.cell 6⟩
theorem nestC.later {W W' : World} {E k : Nat} {c : C7} (h : nestC W E k c) (hb : Below W.heap.size W W') : nestC W' E k c :=
  nestC.mono hb.size (fun b o _ h2 => hb.cell (p := ⟨b, o, none⟩) h2) h
theorem deep_pat {W : World} {k E j : Nat} {c : C7} (hk : BoxAt W k #[.string ⟨#[]⟩, .pointer (some ⟨E, 0, none⟩)] 38) (hE : BoxAt W E c.arr 36) (hN : nestC W E j c) : PatAt W [.mk ⟨#[]⟩ (some (nestE j))] (.slice (some ⟨k, 0, none⟩) 1 1) := by
  refine ⟨_, _, rfl, Nat.le_refl _, by unfold maxLen; omega, fun _ => ⟨k, 0, rfl, ?_⟩⟩
  rw [EsAt, EsAt]
  refine ⟨hk.lt, hk.cell 0, ⟨_, hk.cell 1, ?_⟩, trivial⟩
  simp only [OAt]
  exact ⟨E, 0, c, rfl, hE.lt, box_cells hE, hN.ex⟩
theorem pat_nil (W : World) : PatAt W [] (.slice none 0 0) := ⟨none, 0, rfl, by simp, by simp, fun h => absurd h (by simp)⟩
theorem deep_ok (j : Nat) : PatOk Nd [.mk ⟨#[]⟩ (some (nestE j))] 0 := by
  refine ⟨fun t p hm _ => ?_, fun t e hm => ?_⟩
  · simp at hm
    obtain ⟨rfl, _⟩ := hm
    exact ca0
  · simp at hm
    obtain ⟨_, rfl⟩ := hm
    exact ⟨_, _, rfl, nest_nv j⟩
theorem deep_rx {W : World} {k E j : Nat} {c : C7} (hT : TabU W) (hj : j ≤ 31) (hk : BoxAt W k #[.string ⟨#[]⟩, .pointer (some ⟨E, 0, none⟩)] 38) (hE : BoxAt W E c.arr 36) (hN : nestC W E j c) :
    Calls Tryd.prog 8 #[entV 1 0 ⟨#[]⟩ ⟨#[109]⟩ (.slice (some ⟨k, 0, none⟩) 1 1) (.slice none 0 0) 0 0] W fun e w' => e = .returned (.bool (decide (j + 1 ≤ 20))) ∧ Below W.heap.size W w' := by
  rw [← deep_x j]
  refine right_msg 1 0 (.inl rfl) _ _ [.mk ⟨#[]⟩ (some (nestE j))] [] _ _ 0 0 W Nd (nd_qc hT) hT (deep_pat hk hE hN) ⟨none, 0, rfl, by simp, by simp, fun h => absurd h (by simp)⟩ (deep_ok j) (fun t l h => absurd h (by simp)) (by decide) ?_
  rw [sizeEs, sizeEs, sizeO, sizeTs, nest_size]
  show 1 + 0 + (j + 2) + 0 + 0 ≤ 4000000
  omega
theorem deep_ry {W : World} {k k2 E j : Nat} {c : C7} (hT : TabU W) (hj : j ≤ 31) (hk : BoxAt W k #[.string ⟨#[]⟩, .pointer (some ⟨E, 0, none⟩)] 38) (hE : BoxAt W E c.arr 36) (hN : nestC W E j c) (hk2 : BoxAt W k2 #[.string ⟨#[97]⟩, .slice (some ⟨k, 0, none⟩) 1 1] 40) :
    Calls Tryd.prog 8 #[entV 1 0 ⟨#[]⟩ ⟨#[109]⟩ (.slice none 0 0) (.slice (some ⟨k2, 0, none⟩) 1 1) 0 0] W fun e w' => e = .returned (.bool (decide (j + 1 ≤ 20))) ∧ Below W.heap.size W w' := by
  rw [← deep_y j]
  refine right_msg 1 0 (.inl rfl) _ _ [] [.mk ⟨#[97]⟩ [.mk ⟨#[]⟩ (some (nestE j))]] _ _ 0 0 W Nd (nd_qc hT) hT (pat_nil W) ⟨_, _, rfl, Nat.le_refl _, by unfold maxLen; omega, fun _ => ⟨k2, 0, rfl, ?_⟩⟩ ⟨fun t p h => absurd h (by simp), fun t e h => absurd h (by simp)⟩ ?_ (by decide) ?_
  · rw [TsAt, TsAt]
    exact ⟨hk2.lt, hk2.cell 0, ⟨_, hk2.cell 1, deep_pat hk hE hN⟩, trivial⟩
  · intro t l h
    simp at h
    obtain ⟨_, rfl⟩ := h
    exact deep_ok j
  · rw [sizeEs, sizeTs, sizeTs, sizeEs, sizeEs, sizeO, nest_size]
    show 0 + (1 + 1 + (1 + 0 + (j + 2) + 0) + 0) ≤ 4000000
    omega
theorem deep_sx {W : World} {k E j : Nat} {c : C7} (hk : BoxAt W k #[.string ⟨#[]⟩, .pointer (some ⟨E, 0, none⟩)] 38) (hE : BoxAt W E c.arr 36) (hN : nestC W E j c) :
    Calls Tryd.prog 10 #[entV 1 0 ⟨#[]⟩ ⟨#[109]⟩ (.slice (some ⟨k, 0, none⟩) 1 1) (.slice none 0 0) 0 0, entV 1 0 ⟨#[]⟩ ⟨#[109]⟩ (.slice (some ⟨k, 0, none⟩) 1 1) (.slice none 0 0) 0 0] W fun e w' => e = .returned (.bool true) ∧ Below W.heap.size W w' := by
  have := same_entry 1 0 ⟨#[]⟩ ⟨#[109]⟩ [.mk ⟨#[]⟩ (some (nestE j))] [.mk ⟨#[]⟩ (some (nestE j))] _ _ 0 0 0 0 W ⟨deep_pat hk hE hN, deep_pat hk hE hN, ?_⟩ (by simp) (by simp)
  · have e1 : (decide ([EL.mk ⟨#[]⟩ (some (nestE j))].length = [EL.mk ⟨#[]⟩ (some (nestE j))].length) && allTo (txtAt [.mk ⟨#[]⟩ (some (nestE j))] [.mk ⟨#[]⟩ (some (nestE j))]) [EL.mk ⟨#[]⟩ (some (nestE j))].length) = true := by
      simp [allTo, txtAt, elText]
    rw [e1] at this
    exact this
  · rintro b o b' o' ⟨n, c, e⟩ ⟨n', c', e'⟩ j hj hj'
    cases e
    cases e'
    rfl
set_option maxHeartbeats 4000000 in
set_option maxRecDepth 1000000 in
theorem lawDeep (n : Int) (w : World) (hT : TabU w) : Calls Tryd.prog 5 #[.int .i64 n] w fun e w' => e = .returned (.bool true) ∧ Below w.heap.size w w' := by
  obtain ⟨j, hj, hj31⟩ : ∃ j : Nat, n % 32 = (j : Int) ∧ j ≤ 31 := ⟨(n % 32).toNat, by omega, by omega⟩
  have hbit := i64_and31 n
  rw [hj] at hbit
  have HT := Lib.hid hT
  have hjz : (j : Int) ≤ 31 := by omega
  have hj0 : (0 : Int) ≤ (j : Int) := by omega
  clear hT hj
  go_enter Tryd.func5, Tryd.ntmps5
  go_wp2_with fail
  go_at_call 6
  refine (head_any w HT.out).mono ?_
  rintro e w1 ⟨rfl, b1⟩
  have B1 := Lib.hid b1
  have hs1 := b1.size
  have T1 := Lib.hid (HT.out.below b1)
  clear b1
  go_wp2
  go_loopw [4] (fun t4 wr => ∃ (i : Nat) (c : C7), t4 = .int .i64 i ∧ 1 ≤ i ∧ i ≤ j + 1 ∧ Hid (BoxAt wr w1.heap.size c.arr 36) ∧ Hid (nestC wr w1.heap.size (i - 1) c) ∧ Hid (Below w1.heap.size w1 wr)) (fun t4 _ => j + 1 - (intOf t4).toNat)
  case atStart =>
    exact ⟨1, ⟨.int .i64 2, .string ⟨#[]⟩, .string ⟨#[120]⟩, .string ⟨#[]⟩, .slice none 0 0, .pointer none, .slice none 0 0⟩, rfl, by omega, by omega, BoxAt.new' _ _ _ _ rfl, rfl, (Below.refl _ _).alloc (Nat.le_refl _) _⟩
  case round =>
    obtain ⟨i, c, rfl, hi1, hi2, HB, HN, Hbel⟩ := hrel
    have hiz : (i : Int) ≤ 32 := by omega
    have hfm := HN.out.form
    obtain ⟨kd, nm, p, rfl⟩ := hfm
    have hbx := HB.out
    have hbx2 : BoxAt wr w1.heap.size #[.int .i64 kd, .string ⟨#[]⟩, .string nm, .string ⟨#[]⟩, .slice none 0 0, .pointer p, .slice none 0 0] 36 := hbx
    have c0 := hbx2.cell 0
    have c1 := hbx2.cell 1
    have c2 := hbx2.cell 2
    have c3 := hbx2.cell 3
    have c4 := hbx2.cell 4
    have c5 := hbx2.cell 5
    have c6 := hbx2.cell 6
    simp at c0 c1 c2 c3 c4 c5 c6
    have f0 := fun o => Lib.frozen_of_heap hbx2 o
    have hlt := hbx2.lt
    have HX := Lib.hid hbx2
    clear hbx hbx2
    by_cases h : i < j + 1
    · have hd : decide ((i : Int) < 1 + (j : Int)) = true := decide_eq_true (by omega)
      have hd2 : (i : Int) < 1 + (j : Int) := by omega
      go_wp2
      go_roundw
      case rel =>
        refine ⟨i + 1, ⟨.int .i64 6, .string ⟨#[]⟩, .string ⟨#[]⟩, .string ⟨#[]⟩, .slice none 0 0, .pointer (some ⟨wr.heap.size, 0, none⟩), .slice none 0 0⟩, by go_num, by omega, by omega, ?_, ?_, ?_⟩
        · exact (box7 HX.out _ _ _ _ _ _ _).alloc _
        · rw [Nat.add_sub_cancel]
          obtain ⟨i', rfl⟩ : ∃ i', i = i' + 1 := ⟨i - 1, by omega⟩
          have hN := HN.out
          rw [Nat.add_sub_cancel] at hN
          refine ⟨wr.heap.size, ⟨.int .i64 kd, .string ⟨#[]⟩, .string nm, .string ⟨#[]⟩, .slice none 0 0, .pointer p, .slice none 0 0⟩, hlt, ?_, box_cells (t := 36) ?_, nestC.mono ?_ ?_ hN, rfl⟩
          · simp [World.setCell]
          · exact BoxAt.new' _ _ _ _ (by simp [World.setCell])
          · simp [World.setCell]
          · intro b o h1 h2
            apply World.cell?_of_block
            have hne : b ≠ w1.heap.size := by omega
            refine (Lib.alloc_old _ _ b (by simp [World.setCell]; exact h2)).trans ?_
            rw [Below.heap_setCell _ _ _ b hne, Below.heap_setCell _ _ _ b hne, Below.heap_setCell _ _ _ b hne, Below.heap_setCell _ _ _ b hne, Below.heap_setCell _ _ _ b hne, Below.heap_setCell _ _ _ b hne, Below.heap_setCell _ _ _ b hne]
        · refine Hbel.out.trans ?_
          have := Hbel.out.size
          repeat' first | with_reducible exact Below.refl _ _ | with_reducible apply Below.setCell | with_reducible apply Below.alloc | (simp; done) | (simp; omega)
      case measure => simp [intOf]; omega
    · obtain rfl : i = j + 1 := by omega
      have hd : decide (((j + 1 : Nat) : Int) < 1 + (j : Int)) = false := decide_eq_false (by omega)
      have hd3 : ¬ (((j + 1 : Nat) : Int) < 1 + (j : Int)) := by omega
      have hN := HN.out
      rw [Nat.add_sub_cancel] at hN
      obtain ⟨W4, hW4⟩ : ∃ W4, ((((wr.alloc (.cells #[.string ⟨#[]⟩, .pointer (some ⟨w1.heap.size, 0, none⟩)] 38)).alloc (.cells #[.int .i64 1, .int .i64 0, .string ⟨#[]⟩, .string ⟨#[109]⟩, .slice (some ⟨wr.heap.size, 0, none⟩) 1 1, .slice none 0 0, .int .i64 0, .int .i64 0] 26)).alloc (.cells #[.string ⟨#[97]⟩, .slice (some ⟨wr.heap.size, 0, none⟩) 1 1] 40)).alloc (.cells #[.int .i64 1, .int .i64 0, .string ⟨#[]⟩, .string ⟨#[109]⟩, .slice none 0 0, .slice (some ⟨wr.heap.size + 1 + 1, 0, none⟩) 1 1, .int .i64 0, .int .i64 0] 26)) = W4 := ⟨_, rfl⟩
      have hB4 : Below wr.heap.size wr W4 := by
        rw [← hW4]
        exact ((((Below.refl _ _).alloc (Nat.le_refl _) _).alloc (by simp) _).alloc (by simp; omega) _).alloc (by simp; omega) _
      have k0 : BoxAt W4 wr.heap.size #[.string ⟨#[]⟩, .pointer (some ⟨w1.heap.size, 0, none⟩)] 38 := by
        rw [← hW4]
        exact (((BoxAt.new' _ _ _ _ rfl).alloc _).alloc _).alloc _
      have k1 : BoxAt W4 (wr.heap.size + 1) #[.int .i64 1, .int .i64 0, .string ⟨#[]⟩, .string ⟨#[109]⟩, .slice (some ⟨wr.heap.size, 0, none⟩) 1 1, .slice none 0 0, .int .i64 0, .int .i64 0] 26 := by
        rw [← hW4]
        exact ((BoxAt.new' _ _ _ _ (by simp)).alloc _).alloc _
      have k2 : BoxAt W4 (wr.heap.size + 1 + 1) #[.string ⟨#[97]⟩, .slice (some ⟨wr.heap.size, 0, none⟩) 1 1] 40 := by
        rw [← hW4]
        exact (BoxAt.new' _ _ _ _ (by simp)).alloc _
      have k3 : BoxAt W4 (wr.heap.size + 1 + 1 + 1) #[.int .i64 1, .int .i64 0, .string ⟨#[]⟩, .string ⟨#[109]⟩, .slice none 0 0, .slice (some ⟨wr.heap.size + 1 + 1, 0, none⟩) 1 1, .int .i64 0, .int .i64 0] 26 := by
        rw [← hW4]
        exact BoxAt.new' _ _ _ _ (by simp)
      have kE := HB.out.later hB4
      have kN := hN.later hB4
      have hT4 : TabU W4 := T1.out.below (Hbel.out.trans (hB4.mono Hbel.out.size))
      have hbw4 : Below w.heap.size w W4 := B1.out.trans ((Hbel.out.trans (hB4.mono Hbel.out.size)).mono B1.out.size)
      have RX := Lib.hid (deep_rx hT4 hj31 k0 kE kN)
      have HK0 := Lib.hid k0
      have HK1 := Lib.hid k1
      have HK2 := Lib.hid k2
      have HK3 := Lib.hid k3
      have HKE := Lib.hid kE
      have HKN := Lib.hid kN
      have HT4 := Lib.hid hT4
      have HB4 := Lib.hid hB4
      have HBW4 := Lib.hid hbw4
      have HW4 := Lib.hid hW4
      clear hN hW4 hB4 k0 k1 k2 k3 kE kN hT4 hbw4 HX
      unfold entV at RX
      obtain ⟨z, hz⟩ : ∃ z, decide (j + 1 ≤ 20) = z := ⟨_, rfl⟩
      have hz1 : decide ((1 : Int) + (j : Int) ≤ 20) = z := by rw [← hz, decide_eq_decide]; omega
      have HZ := Lib.hid hz
      have HZ1 := Lib.hid hz1
      clear hz hz1
      go_wp2_with fail
      go_at_call 8
      rw [HW4.out]
      refine RX.out.mono ?_
      rintro e w5 ⟨rfl, b5⟩
      rw [HZ.out]
      have d := fun o => (HK3.out.later b5).cell o
      have d0 := d 0
      have d1 := d 1
      have d2 := d 2
      have d3 := d 3
      have d4 := d 4
      have d5 := d 5
      have d6 := d 6
      have d7 := d 7
      simp at d0 d1 d2 d3 d4 d5 d6 d7
      have hz1 := HZ1.out
      have RY := Lib.hid (deep_ry (HT4.out.below b5) hj31 (HK0.out.later b5) (HKE.out.later b5) (HKN.out.later b5) (HK2.out.later b5))
      have B5 := Lib.hid b5
      clear d b5
      unfold entV at RY
      cases z
      all_goals
        go_wp2_with fail
        go_at_call 8
        refine RY.out.mono ?_
        rintro e w6 ⟨rfl, b6⟩
        rw [HZ.out]
        have b46 := B5.out.trans (b6.mono B5.out.size)
        have d := fun o => (HK1.out.later b46).cell o
        have x0 := d 0
        have x1 := d 1
        have x2 := d 2
        have x3 := d 3
        have x4 := d 4
        have x5 := d 5
        have x6 := d 6
        have x7 := d 7
        simp at x0 x1 x2 x3 x4 x5 x6 x7
        have RS := Lib.hid (deep_sx (HK0.out.later b46) (HKE.out.later b46) (HKN.out.later b46))
        have B46 := Lib.hid b46
        clear d b6 b46 d0 d1 d2 d3 d4 d5 d6 d7
        unfold entV at RS
        go_wp2_with fail
        go_at_call 10
        refine RS.out.mono ?_
        rintro e w7 ⟨rfl, b7⟩
        have B7 := Lib.hid (HBW4.out.trans ((B46.out.trans (b7.mono B46.out.size)).mono HBW4.out.size))
        clear b7
        go_wp2
        go_ret
        exact ⟨rfl, B7.out⟩
end Go.Proofs.YtbolmffldmegeaaDoor
