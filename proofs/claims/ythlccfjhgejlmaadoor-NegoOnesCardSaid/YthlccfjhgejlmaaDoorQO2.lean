/-
  Several texts put together (part O2): what the law and the program call, walked; their contracts.
-/
import Derived.Test.YthlccfjhgejlmaaDoorQ9
import Derived.Deep.RegionWith
import Derived.Deep.DrawnRows
import Derived.Deep.DeepCutAuto
namespace Go.Proofs.YthlccfjhgejlmaaDoor
open Go.RowKit Go.Shelf
set_option linter.unusedVariables false
set_option linter.unusedSimpArgs false
set_option maxRecDepth 100000 in
set_option maxHeartbeats 4000000 in
theorem fits_any (L S R : ByteArray) (sv : Value) (vs : List ByteArray) (L' S' R' : ByteArray) (sv' : Value) (vs' : List ByteArray) (hL : L ≠ ⟨#[]⟩) (hL' : L' ≠ ⟨#[]⟩) (hvs : vs.length ≤ 1000) (hvs' : vs'.length ≤ 1000)
    (w : World) (hI : StrsAt w.heap.size w sv vs) (hI' : StrsAt w.heap.size w sv' vs') :
    Calls Tryd.prog 11 #[tagV L S R sv, tagV L' S' R' sv'] w fun e W' => e = .returned (.bool (fitsB (piecesB L S R vs) (piecesB L' S' R' vs'))) ∧ Below w.heap.size w W' := by
  obtain ⟨A, cap, rfl⟩ := hI.out
  obtain ⟨A', cap', rfl⟩ := hI'.out
  have hb0 : Below w.heap.size w ((w.alloc (.cells #[.string L, .string S, .string R, .slice A vs.length cap] 26)).alloc (.cells #[.string L', .string S', .string R', .slice A' vs'.length cap'] 26)) := ((Below.refl _ w).alloc (Nat.le_refl _) _).alloc (by simp) _
  have P1 := PartsTo.of L S R hL _ vs hvs _ (hI.later hb0 (by simp; omega))
  have P2 := PartsTo.of L' S' R' hL' _ vs' hvs' _ (hI'.later hb0 (by simp; omega))
  have hp := piecesB_len L S R vs
  have hq := piecesB_len L' S' R' vs'
  obtain ⟨p, hpe⟩ : ∃ p, piecesB L S R vs = p := ⟨_, rfl⟩
  obtain ⟨q, hqe⟩ : ∃ q, piecesB L' S' R' vs' = q := ⟨_, rfl⟩
  unfold PartsTo at P1 P2
  rw [hpe] at P1 hp
  rw [hqe] at P2 hq
  rw [hpe, hqe]
  have H1 := Lib.hid P1
  have H2 := Lib.hid P2
  clear P1 P2 hpe hqe hI hI'
  unfold tagV at H1 H2 ⊢
  go_enter Tryd.func11, Tryd.ntmps11
  go_upto_region 1 with fail
  go_cut [5, 6] (fun a b wx => StandsS wx a p ∧ StandsS wx b q ∧ Below w.heap.size w wx)
  case first =>
    go_region_with (first
      | (go_at_call 27; (with_reducible refine (H1.out _ (Below.refl _ _).drew).mono ?_); rintro e w1 ⟨v1, rfl, s1, hb1⟩; obtain ⟨hc1, hf1⟩ := bcell hb1)
      | (go_at_call 27; (with_reducible refine (H2.out _ (Below.refl _ _).drew).mono ?_); rintro e w1 ⟨v2, rfl, s2, hb1⟩; obtain ⟨hc1, hf1⟩ := bcell hb1)
      | (go_at_call 27; (with_reducible refine (H1.out _ (below_drew hb1)).mono ?_); rintro e w2 ⟨v1, rfl, s1, hb2⟩)
      | (go_at_call 27; (with_reducible refine (H2.out _ (below_drew hb1)).mono ?_); rintro e w2 ⟨v2, rfl, s2, hb2⟩))
    all_goals
      go_wp2_with fail
      go_meet
      case rel => exact ⟨s1.below hb2, s2, below_two hb1 hb2⟩
  case rest =>
    obtain ⟨s1, s2, hb⟩ := hcut
    obtain ⟨b1, c1, rfl, r1, k1, g1⟩ := s1
    obtain ⟨b2, c2, rfl, r2, k2, g2⟩ := s2
    have cE := Tryd.slices_Equal_string b1 0 q.length c1 b2 0 q.length c2 p q wc
    clear H1 H2 hb0
    by_cases hle : q.length ≤ p.length
    · have cE := Lib.hid (cE hle (Nat.le_refl _) (by omega) (by omega) g1 g2)
      have r1' : q.length ≤ c1 := by omega
      clear g1 g2
      go_wp2_with ((go_at_call 28; refine cE.out.mono ?_; rintro e w' ⟨rfl, n, rfl⟩))
      go_ret
      exact ⟨by simp [fitsB, hle], below_drewN hb n⟩
    · clear cE g1 g2
      go_wp2_with fail
      go_ret
      exact ⟨by simp [fitsB, hle], hb⟩
end Go.Proofs.YthlccfjhgejlmaaDoor
