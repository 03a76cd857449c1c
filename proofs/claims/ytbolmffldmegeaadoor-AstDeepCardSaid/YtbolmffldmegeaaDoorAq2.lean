/-
  Package ast: 'later': a question is put off.
-/
import Derived.Test.YtbolmffldmegeaaDoorAq
namespace Go.Proofs.YtbolmffldmegeaaDoor
open Go.RowKit
set_option linter.unusedVariables false

set_option maxHeartbeats 1000000 in
set_option maxRecDepth 100000 in
theorem later_any {B qb : Nat} {fvs : List Value} {w : World} (N : FuncId) (caps : Array Value) (hq : QAt B qb fvs w) (hB : B ≤ w.heap.size) (hn : fvs.length ≤ 1000000000) :
    Calls Tryd.prog 42 #[.pointer (some ⟨qb, 0, none⟩), .func (.func N) #[] caps] w fun e w' => e = .returned (.bool true) ∧ QAt B qb (fvs ++ [.func (.func N) #[] caps]) w' ∧ StepQ B qb w w' := by
  obtain ⟨i0, hi, hz0, hz1, hz2⟩ := info_parts infoFn
  obtain ⟨hBq, v, hb, hown⟩ := hq
  have hlt := hb.lt
  have hne : v.ownBlock ≠ some qb := Lib.ownBlock_ne hown hb (by decide)
  have c0 : w.cell? ⟨qb, 0, none⟩ = some v := hb.cell 0
  have f0 : w.frozen? ⟨qb, 0, none⟩ = false := Lib.frozen_of_heap hb 0
  have hform : ∃ ao n cap, v = .slice ao n cap := by
    rcases hown.2 with ⟨hv, _⟩ | ⟨g, cap, cur, hv, _⟩
    · exact ⟨_, _, _, hv⟩
    · exact ⟨_, _, _, hv⟩
  obtain ⟨ao, n0, cap0, rfl⟩ := hform
  have Hn := Lib.hid hn
  clear hn
  go_enter Tryd.func42, Tryd.ntmps42
  go_wp2_with (at_builtin; go_loud (refine wpList_append_own _ rfl _ _ 44 rfl B 27 i0 .nilFunc 1 8 Tryd.underlying44 hi hz0 hz1 hz2 rfl (by decide) _ _ _ rfl (hown.alloc _) ⟨w.heap.size, 0, none⟩ 1 1 [.func (.func N) #[] caps] rfl rfl ?c1 ?c2 ?c3 ?c4 ?c5 ?_))
  case c1 =>
    intro j u hj
    match j, hj with
    | 0, hj => simp at hj; subst hj; simp [Addr.add]
  case c2 => intro u hu; simp at hu; subst hu; rfl
  case c3 => have := Hn.out; unfold maxLen; omega
  case c4 => have := Hn.out; omega
  case c5 => simp; omega
  intro v' w2 hown' hgrow _
  have hb2 : BoxAt w2 qb #[.slice ao n0 cap0] 46 := by
    unfold BoxAt
    rw [hgrow.block qb (by simp; omega) (fun e => hne e.symm), Lib.alloc_old w _ qb hlt]
    exact hb
  have d0 : w2.cell? ⟨qb, 0, none⟩ = some (.slice ao n0 cap0) := hb2.cell 0
  have f1 : w2.frozen? ⟨qb, 0, none⟩ = false := Lib.frozen_of_heap hb2 0
  obtain ⟨g, cap, rfl⟩ : ∃ g cap, v' = .slice (some ⟨g, 0, none⟩) (fvs.length + 1) cap := by
    rcases hown'.2 with ⟨_, h0⟩ | ⟨g, cap, cur, hv, _⟩
    · omega
    · exact ⟨g, cap, hv⟩
  go_wp2
  go_ret
  have hne' : (Value.slice (some ⟨g, 0, none⟩) (fvs.length + 1) cap).ownBlock ≠ some qb := Lib.ownBlock_ne hown' hb2 (by decide)
  refine ⟨rfl, ⟨hBq, .slice (some ⟨g, 0, none⟩) (fvs.length + 1) cap, ?_, ?_⟩, ⟨?_, ?_⟩⟩
  · unfold BoxAt at hb2 ⊢
    simp [World.setCell, Array.getElem?_modify, hb2]
  · simpa using ownsRow_setCell_other hown' (a := ⟨qb, 0, none⟩) hne' _
  · exact (((Below.refl B w).alloc hB _).grown hgrow (by simp; omega) (fun k hk => by
      rcases hown.2 with ⟨hv, _⟩ | ⟨g, cap, cur, hv, hg, _⟩
      · rw [hv] at hk; simp [Value.ownBlock] at hk
      · rw [hv] at hk; simp [Value.ownBlock] at hk; omega)).setCell (p := ⟨qb, 0, none⟩) hBq _
  · exact (((Lib.OthersKept.refl _ _ w).alloc _).grown hgrow (Lib.ownsRow_kind (hown.alloc _))).setCell ⟨qb, 0, none⟩ rfl _
end Go.Proofs.YtbolmffldmegeaaDoor
