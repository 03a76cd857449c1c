/-
  Package ast: Same of entries without attributes, where what stands in places is at one place.
-/
import Derived.Test.YtbolmffldmegeaaDoorAsp2
import Derived.Test.YtbolmffldmegeaaDoorAms
namespace Go.Proofs.YtbolmffldmegeaaDoor
open Go.RowKit
set_option linter.unusedVariables false
set_option linter.unusedSimpArgs false

set_option maxHeartbeats 1000000 in
theorem sameAttrs_nil (qb : Nat) (w : World) : Calls Tryd.prog 21 #[pt qb, .slice none 0 0, .slice none 0 0] w fun e w' => e = .returned (.bool true) ∧ Below w.heap.size w w' := by
  have hE : Enters 35 := fun args w => by go_simp
  have hS : ∀ W, Calls Tryd.prog 32 #[.int .i64 0, .int .i64 0, .func (.func 35) #[] #[pt (w.heap.size + 1), pt (w.heap.size + 1 + 1), pt w.heap.size]] W fun e w' => e = .returned (.bool true) ∧ Below W.heap.size W w' := fun W =>
    areSame_any 0 0 (by omega) (by omega) 35 #[pt (w.heap.size + 1), pt (w.heap.size + 1 + 1), pt w.heap.size] hE (fun _ => true) W (fun _ i hi => absurd hi (by omega))
  have HS := Lib.hid hS
  clear hS hE
  unfold pt
  unfold pt at HS
  go_enter Tryd.func21, Tryd.ntmps21
  go_wp2_with fail
  go_at_call 32
  refine (HS.out _).mono ?_
  rintro e w2 ⟨rfl, hb2⟩
  have hbw : Below w.heap.size w w2 := Below.trans (by repeat' first | exact Below.refl _ _ | apply Below.setCell | apply Below.alloc | (simp; done) | (simp; omega)) (hb2.mono (by simp; omega))
  have HB := Lib.hid hbw
  clear hb2 hbw
  go_wp2
  go_ret
  exact ⟨rfl, HB.out⟩
theorem no_qc (W0 : World) (qb : Nat) : QC W0 qb (fun _ => False) := fun _ h => h.elim
set_option maxHeartbeats 2000000 in
set_option maxRecDepth 1000000 in
theorem same_entry (ty level : Int) (text name : ByteArray) (l l' : List EL) (v v' : Value) (fr tu fr' tu' : Int) (w : World) (h : TwoAt w l l' v v') (hn : l.length ≤ 4000000) (hn' : l'.length ≤ 4000000) :
    Calls Tryd.prog 10 #[entV ty level text name v (.slice none 0 0) fr tu, entV ty level text name v' (.slice none 0 0) fr' tu'] w fun e w' => e = .returned (.bool (decide (l.length = l'.length) && allTo (txtAt l l') l.length)) ∧ Below w.heap.size w w' := by
  obtain ⟨h1, h2, h3⟩ := h
  have h1' := h1
  have h2' := h2
  obtain ⟨A, c, rfl, _, _, _⟩ := h1'
  obtain ⟨A', c', rfl, _, _, _⟩ := h2'
  obtain ⟨W3, hW3⟩ : ∃ W3, ((w.alloc (.cells #[.int .i64 ty, .int .i64 level, .string text, .string name, .slice A l.length c, .slice none 0 0, .int .i64 fr, .int .i64 tu] 26)).alloc (.cells #[.int .i64 ty, .int .i64 level, .string text, .string name, .slice A' l'.length c', .slice none 0 0, .int .i64 fr', .int .i64 tu'] 26)).alloc (.cells #[.slice none 0 0] 46) = W3 := ⟨_, rfl⟩
  have hBW : Below w.heap.size w W3 := by
    rw [← hW3]
    repeat' first | exact Below.refl _ _ | apply Below.setCell | apply Below.alloc | (simp; done) | (simp; omega)
  have hqs : QsAt w (w.heap.size + 1 + 1) [] W3 := by
    refine ⟨[], ⟨by omega, .slice none 0 0, ?_, by simp, .inl ⟨rfl, rfl⟩⟩, trivial, hBW⟩
    rw [← hW3]
    exact BoxAt.new' _ _ _ _ (by simp)
  have hP := samePats (w.heap.size + 1 + 1) l l' _ _ w W3 ⟨h1, h2, h3⟩ hBW hn hn'
  obtain ⟨q, hq⟩ : ∃ q, (decide (l.length = l'.length) && allTo (txtAt l l') l.length) = q := ⟨_, rfl⟩
  rw [hq] at hP ⊢
  have hts : (text.toList == text.toList) = true := beq_iff_eq.2 rfl
  have hns : (name.toList == name.toList) = true := beq_iff_eq.2 rfl
  have HP := Lib.hid hP
  have HQs := Lib.hid hqs
  have HBW := Lib.hid hBW
  have HA := fun W => sameAttrs_nil (w.heap.size + 1 + 1) W
  have HAA := Lib.hid HA
  have HL := fun W h => allHold_any (no_qc w (w.heap.size + 1 + 1)) [] W h (by simp) (by simp [total, qMax])
  have HLL := Lib.hid HL
  have hk0 : BoxAt W3 w.heap.size #[.int .i64 ty, .int .i64 level, .string text, .string name, .slice A l.length c, .slice none 0 0, .int .i64 fr, .int .i64 tu] 26 := by
    rw [← hW3]
    exact ((BoxAt.new' _ _ _ _ rfl).alloc _).alloc _
  have hk1 : BoxAt W3 (w.heap.size + 1) #[.int .i64 ty, .int .i64 level, .string text, .string name, .slice A' l'.length c', .slice none 0 0, .int .i64 fr', .int .i64 tu'] 26 := by
    rw [← hW3]
    exact (BoxAt.new' _ _ _ _ (by simp)).alloc _
  have HK0 := Lib.hid hk0
  have HK1 := Lib.hid hk1
  have HW3 := Lib.hid hW3
  clear hk0 hk1 hW3
  clear hP hqs hBW hq h1 h2 h3 HA HL
  unfold pt at HP HAA HLL
  unfold entV
  cases q
  case false =>
    go_enter Tryd.func10, Tryd.ntmps10
    go_wp2_with fail
    go_at_call 20
    rw [HW3.out]
    refine HP.out.mono ?_
    rintro e w4 ⟨rfl, hb4⟩
    have HB4 := Lib.hid (HBW.out.trans (hb4.mono HBW.out.size))
    clear hb4
    go_wp2
    go_ret
    exact ⟨rfl, HB4.out⟩
  go_enter Tryd.func10, Tryd.ntmps10
  go_wp2_with fail
  go_at_call 20
  rw [HW3.out]
  refine HP.out.mono ?_
  rintro e w4 ⟨rfl, hb4⟩
  have d0 := (HK0.out.later hb4).cell 5
  have d1 := (HK1.out.later hb4).cell 5
  simp at d0 d1
  have HB4 := Lib.hid (HBW.out.trans (hb4.mono HBW.out.size))
  have HQ4 := Lib.hid (HQs.out.later hb4)
  clear hb4
  go_wp2_with fail
  go_at_call 21
  refine (HAA.out _).mono ?_
  rintro e w5 ⟨rfl, hb5⟩
  have HB5 := Lib.hid (HB4.out.trans (hb5.mono HB4.out.size))
  have HQ5 := Lib.hid (HQ4.out.later hb5)
  clear hb5
  go_wp2_with fail
  go_at_call 16
  refine (HLL.out _ HQ5.out).mono ?_
  rintro e w6 ⟨rfl, hb6⟩
  have HB6 := Lib.hid (HB5.out.trans hb6)
  clear hb6
  go_wp2
  go_ret
  exact ⟨rfl, HB6.out⟩
end Go.Proofs.YtbolmffldmegeaaDoor
