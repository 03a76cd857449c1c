/-
  Package tag: a tag as a text.
-/
import Derived.Test.YtldmldgkjkgkcaaDoorTgParts
namespace Go.Proofs.YtldmldgkjkgkcaaDoor
open Go.RowKit Go.Shelf
set_option linter.unusedVariables false
set_option linter.unusedSimpArgs false

def joinS (l : List ByteArray) : ByteArray := ⟨(Lib.join (l.map (·.data.toList)) [45]).toArray⟩
/-- A tag, as it is handed on. -/
def tagV (L S R : ByteArray) (sv : Value) : Value := .agg #[.string L, .string S, .string R, sv]
theorem add_zero (b j : Nat) : ((⟨b, 0, none⟩ : Addr).add j) = ⟨b, 0 + j, none⟩ := by unfold Addr.add; split <;> simp_all
theorem StrsAt.out {n₀ : Nat} {W : World} {sv : Value} {zs : List ByteArray} (h : StrsAt n₀ W sv zs) : ∃ a cap, sv = .slice a zs.length cap := by
  rcases h with ⟨rfl, rfl⟩ | ⟨b, off, cap, rfl, _⟩
  · exact ⟨none, 0, rfl⟩
  · exact ⟨_, _, rfl⟩
theorem StrsAt.later {n₀ n₁ : Nat} {A B : World} {sv : Value} {zs : List ByteArray} (h : StrsAt n₀ A sv zs) (hb : Below n₀ A B) (hn : n₀ ≤ n₁) : StrsAt n₁ B sv zs := by
  rcases h.below hb with h | ⟨b, off, cap, rfl, h1, h2⟩
  · exact .inl h
  · exact .inr ⟨b, off, cap, rfl, by omega, h2⟩

set_option maxRecDepth 100000 in
set_option maxHeartbeats 1000000 in
theorem string_any (L S R : ByteArray) (sv : Value) (vs : List ByteArray) (hvs : vs.length ≤ 1000) (hj : (Lib.join ((fullL [L, S, R] ++ vs).map (·.data.toList)) [45]).length ≤ 100000) (w : World) (hI : StrsAt w.heap.size w sv vs) :
    Calls Tryd.prog 10 #[tagV L S R sv] w fun e W' => e = .returned (.string (joinS (fullL [L, S, R] ++ vs))) ∧ Below w.heap.size w W' := by
  obtain ⟨A, cap, rfl⟩ := hI.out
  have hq : (fullL [L, S, R]).length ≤ 3 := List.length_filter_le _ _
  obtain ⟨W0, hW0⟩ : ∃ W0, w.alloc (.cells #[.string L, .string S, .string R, .slice A vs.length cap] 25) = W0 := ⟨_, rfl⟩
  have hsz : W0.heap.size = w.heap.size + 1 := by rw [← hW0]; simp
  have hb0 : Below w.heap.size w W0 := by rw [← hW0]; exact (Below.refl _ w).alloc (Nat.le_refl _) _
  have h0 : W0.heap[w.heap.size]? = some (.cells #[.string L, .string S, .string R, .slice A vs.length cap] 25 (0, 0)) := by rw [← hW0]; exact World.alloc_heap_new w _
  have hc0 : W0.cell? ⟨w.heap.size, 0, none⟩ = some (.string L) := by unfold World.cell?; rw [h0]; rfl
  have hc1 : W0.cell? ⟨w.heap.size, 1, none⟩ = some (.string S) := by unfold World.cell?; rw [h0]; rfl
  have hc2 : W0.cell? ⟨w.heap.size, 2, none⟩ = some (.string R) := by unfold World.cell?; rw [h0]; rfl
  have hc3 : W0.cell? ⟨w.heap.size, 3, none⟩ = some (.slice A vs.length cap) := by unfold World.cell?; rw [h0]; rfl
  have cP := parts_any L S R _ vs hvs W0 (hI.later hb0 (by omega))
  unfold tagV
  go_enter Tryd.func10, Tryd.ntmps10
  go_wp2_with (go_at_call 26; refine cP.mono ?_; rintro e W ⟨v, rfl, hrow, hb⟩)
  have hb2 : Below w.heap.size w W := hb0.trans (hb.mono (by omega))
  rcases hrow.2 with ⟨rfl, hz⟩ | ⟨gb, c2, cur, rfl, hbase, hgb, r1, r2, r3, r4⟩
  · have hss : fullL [L, S, R] ++ vs = [] := List.eq_nil_of_length_eq_zero hz
    go_wp2_with (go_at_call 25; refine (Tryd.strings_Join_none none 0 _ W).mono ?_; rintro e w' ⟨rfl, rfl⟩)
    go_ret
    exact ⟨by rw [hss]; rfl, hb2⟩
  · have hcells : ∀ (j : Nat) x, (fullL [L, S, R] ++ vs)[j]? = some x → W.cell? ⟨gb, 0 + j, none⟩ = some (.string x) := by
      intro j x hx
      rw [← add_zero]
      exact hrow.cells (g := gb) rfl j _ (by rw [List.getElem?_map, hx]; rfl)
    have hl : (fullL [L, S, R] ++ vs).length ≤ 1003 := by rw [List.length_append]; omega
    have cJ := Tryd.strings_Join gb 0 c2 (fullL [L, S, R] ++ vs) ⟨#[45]⟩ W hcells (Array.getElem?_eq_some_iff.1 hgb).1 (by omega) r1 (by show (Lib.join _ [45]).length ≤ _; omega)
    go_wp2_with (go_at_call 25; refine cJ.mono ?_; rintro e w' ⟨rfl, h3⟩)
    go_ret
    exact ⟨by simp [joinS], hb2.trans (h3.mono hb2.size)⟩
end Go.Proofs.YtldmldgkjkgkcaaDoor
