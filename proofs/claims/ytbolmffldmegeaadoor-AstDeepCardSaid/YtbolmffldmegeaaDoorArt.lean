/-
  Package ast: Right, of messages and terms.
-/
import Derived.Test.YtbolmffldmegeaaDoorAms
import Derived.Test.YtbolmffldmegeaaDoorAbr
namespace Go.Proofs.YtbolmffldmegeaaDoor
open Go.RowKit
set_option linter.unusedVariables false
set_option linter.unusedSimpArgs false

/-- An empty list. -/
theorem fresh_qs (w : World) (o : Obj) : QsAt w (w.heap.size + 1) [] ((w.alloc o).alloc (.cells #[.slice none 0 0] 46)) := by
  refine ⟨[], ⟨by omega, .slice none 0 0, ?_, by simp, .inl ⟨rfl, rfl⟩⟩, trivial, ((Below.refl _ _).alloc (Nat.le_refl _) _).alloc (by simp) _⟩
  have := BoxAt.new (w.alloc o) #[.slice none 0 0] 46
  rw [World.size_alloc] at this
  exact this
set_option maxHeartbeats 2000000 in
set_option maxRecDepth 1000000 in
theorem right_msg (ty level : Int) (hty : ty = 1 ∨ ty = 2) (text name : ByteArray) (val : List EL) (ats : List AT) (v u : Value) (fr tu : Int) (w : World) (D : Qn → Prop) (HQ : QC w (w.heap.size + 1) D) (hT : TabU w)
    (hv : PatAt w val v) (hu : LieAt (TsAt w ats) u ats.length) (h1 : PatOk D val 0) (h2 : ∀ t l, AT.mk t l ∈ ats → PatOk D l 0) (hnm : name.size ≤ 4000000) (hsz : sizeEs val + sizeTs ats ≤ qMax) :
    Calls Tryd.prog 8 #[entV ty level text name v u fr tu] w fun e w' => e = .returned (.bool (msgB ty level text name val ats)) ∧ Below w.heap.size w w' := by
  have hM := fun W => isMessage_asks (W0 := w) (qb := w.heap.size + 1) (D := D) hT ty level text name val ats v u fr tu hv hu h1 h2 hnm W
  obtain ⟨A, c, rfl, _⟩ := hv
  obtain ⟨A2, c2, rfl, _⟩ := hu
  have HM := Lib.hid hM
  have HC := Lib.hid HQ
  have Hsz := Lib.hid hsz
  have hA := fun qs W hq hD hn => allHold_any (W0 := w) (qb := w.heap.size + 1) (D := D) HQ qs W hq hD hn
  have HA := Lib.hid hA
  clear hM HQ hsz h1 h2 hA
  have HF := Lib.hid (fresh_qs w (.cells #[.int .i64 ty, .int .i64 level, .string text, .string name, .slice A val.length c, .slice A2 ats.length c2, .int .i64 fr, .int .i64 tu] 26))
  unfold entV pt at HM
  unfold pt at HA
  unfold entV
  rcases hty with rfl | rfl
  all_goals
    go_enter Tryd.func8, Tryd.ntmps8
    go_wp2_with fail
    go_at_call 15
    refine (HM.out _ [] HF.out (by simpa [total] using Hsz.out)).mono ?_
    rintro e w2 ⟨r, new, rfl, h1, h2, h3, h4, h5⟩
    have hb : Below w.heap.size w w2 := (((Below.refl _ _).alloc (Nat.le_refl _) _).alloc (by simp) _).trans h2.below
    rw [List.nil_append] at h1
    have H4 := Lib.hid h4
    have H1 := Lib.hid h1
    have H5 := Lib.hid h5
    have Hb := Lib.hid hb
    have H3 := Lib.hid h3
    clear h1 h2 h3 h4 h5 hb
    cases r
    case false =>
      go_wp2
      go_ret
      exact ⟨ret_bool (by rw [H4.out]; rfl), Hb.out⟩
    go_wp2_with fail
    go_at_call 16
    refine (HA.out new _ H1.out H5.out (Nat.le_trans H3.out Hsz.out)).mono ?_
    rintro e w3 ⟨rfl, hb3⟩
    go_wp2
    go_ret
    exact ⟨ret_bool (by rw [H4.out]; simp), Hb.out.trans hb3⟩
end Go.Proofs.YtbolmffldmegeaaDoor
