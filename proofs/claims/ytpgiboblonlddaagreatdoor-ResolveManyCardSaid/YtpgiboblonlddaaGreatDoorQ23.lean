/-
  Several texts put together (part 23): what the law and the program call, walked; their contracts.
-/
import Derived.Test.YtpgiboblonlddaaGreatDoorQ22
import Derived.Lib.SmallJoins
import Derived.Deep.MidRow
namespace Go.Proofs.YtpgiboblonlddaaGreatDoor
open Go.RowKit Go.ChangeMaps
set_option linter.unusedVariables false
set_option linter.unusedSimpArgs false
theorem erInfo : (Tryz.prog.info? 59).map (fun i => (i.zero, i.size, i.bytes)) = some (some (.agg #[.int .i64 0, .string ⟨#[]⟩]), 2, 24) := by kernel_rfl
theorem er_news (W : World) (c : Int) (n : ByteArray) : ∀ j u, ([.int .i64 c, .string n] : List Value)[j]? = some u → (W.alloc (.cells #[.int .i64 c, .string n] 59)).cell? ((⟨W.heap.size, 0, none⟩ : Addr).add j) = some u := by
  intro j u hj
  rw [Addr.add_mid, Nat.zero_add]
  have h := BoxAt.new W #[.int .i64 c, .string n] 59
  match j, hj with
  | 0, hj => simp at hj; subst hj; exact h.cell 0
  | 1, hj => simp at hj; subst hj; exact h.cell 1
theorem box_grown {W W1 W2 : World} {B k : Nat} {cs : Array Value} {t : TypeId} {v : Value} {n : Nat} {xs : List Value} (hb : BoxAt W k cs t) (hr : W.ownsRow B 59 2 v n xs) (ht : t ≠ 59) (h1 : Below W.heap.size W W1) (hg : W1.grownBy W2 v.ownBlock) : BoxAt W2 k cs t := by
  have h2 : BoxAt W1 k cs t := hb.later h1
  refine (hg.block k h2.lt (fun e => ?_)).trans h2
  obtain ⟨c, fz, h3⟩ := Lib.ownsRow_kind hr k e.symm
  exact box_ne hb h3 ht rfl
theorem er_one (c : Int) (n : ByteArray) : ∀ u ∈ ([.int .i64 c, .string n] : List Value), u.oneCell' = true := by
  intro u hu
  simp at hu
  rcases hu with rfl | rfl <;> rfl
set_option maxHeartbeats 4000000 in
set_option maxRecDepth 100000 in
theorem leaveOut_any {R : RL} (F : R.Far) {op : List ByteArray} {s s' : RSt} (c : Int) (W : World) (h : WrAt R W op s) (hb : badG c ⟨#[63]⟩ s = some s') :
    Calls Tryz.prog 106 #[.pointer (some ⟨R.wb, 0, none⟩), .int .i64 c] W fun e w' => e = .returned (.string leftB) ∧ WrAt R w' op s' ∧ WK R W w' := by
  obtain ⟨i0, hi, hz0, hz1, hz2⟩ := info_parts erInfo
  unfold badG at hb
  split at hb
  case isFalse => cases hb
  case isTrue hlen =>
    cases hb
    have H := Lib.hid h
    have HF := Lib.hid F
    obtain ⟨ev, hbx, hrow⟩ := h.box
    have c5 : W.cell? ⟨R.wb, 5, none⟩ = some ev := hbx.cell 5
    have z5 := hbx.z 5
    have hwl := hbx.lt
    obtain ⟨A, c1, rfl⟩ : ∃ A c, ev = .slice A s.er.length c := by
      rcases Joins.ownsRow_forms hrow with ⟨rfl, h0⟩ | ⟨g, cap, rfl⟩
      · exact ⟨none, 0, by rw [h0]⟩
      · exact ⟨_, _, rfl⟩
    have hB := h.bf.size
    have HX := Lib.hid hbx
    have HR := Lib.hid hrow
    clear h F hbx hrow
    go_enter Tryz.func106, Tryz.ntmps106
    have HA := Lib.hid ((Below.refl W.heap.size W).alloc (Nat.le_refl _) (.cells #[.int .i64 c, .string ⟨#[63]⟩] 59))
    have HRA := Lib.hid (HR.out.alloc (.cells #[.int .i64 c, .string ⟨#[63]⟩] 59))
    have HNw := Lib.hid (er_news W c ⟨#[63]⟩)
    have h2 : s.er.length + 1 ≤ maxLen := by unfold maxLen; omega
    have HL := Lib.hid hlen
    go_wp2_with (at_builtin; (refine wpList_append_own _ rfl _ _ 34 rfl R.w0.heap.size 59 i0 (.agg #[.int .i64 0, .string ⟨#[]⟩]) 2 24 Tryz.underlying34 hi hz0 hz1 hz2 rfl (by decide) _ _ _ rfl HRA.out ⟨W.heap.size, 0, none⟩ 1 1 [.int .i64 c, .string ⟨#[63]⟩] rfl rfl HNw.out (er_one _ _) h2 (by have := HL.out; omega) (by simp; omega) ?_; intro v' W2 hown' hgrow _; obtain ⟨g2, cap2, rfl⟩ := Joins.ownsRow_form hown' (by omega); have hbx2 := box_grown HX.out HR.out (by decide) HA.out hgrow; have d5 := hbx2.cell 5; have d5z := hbx2.z 5; have hE := Lib.hid (WrAt.err HF.out (H.out.later HA.out) (HX.out.later HA.out) HRA.out c ⟨#[63]⟩ hgrow hown'); have hK := Lib.hid (H.out.wk HA.out); clear hown' hgrow hbx2))
    go_ret
    exact ⟨rfl, hE.out.1, hK.out.trans hE.out.2⟩
end Go.Proofs.YtpgiboblonlddaaGreatDoor
