/-
  Several texts put together (part O1): what the law and the program call, walked; their contracts.
-/
import Derived.Test.YthlccfjhgejlmaaDoorQ22
import Derived.Test.YthlccfjhgejlmaaDoorQ14
namespace Go.Proofs.YthlccfjhgejlmaaDoor
open Go.RowKit Go.Shelf
set_option linter.unusedVariables false
set_option linter.unusedSimpArgs false
theorem presR_pre : ∀ (r pre q : Pth), q ∈ presR pre r → ∃ s, pre ++ r = q ++ s
  | [], pre, q, h => by cases h
  | k :: r, pre, q, h => by
    rw [presR] at h
    rcases List.mem_append.1 h with h | h
    · obtain ⟨s, e⟩ := presR_pre r _ q h
      exact ⟨s, by rw [← e]; simp⟩
    · rw [List.mem_singleton] at h
      exact ⟨r, by rw [h]; simp⟩
theorem fitsT_app {t u : TagT} {s : List (List UInt8)} (h : t.pieces = u.pieces ++ s) : fitsT t u = true := by
  unfold fitsT
  rw [h]
  simp
def tieB (t x w : TagT) : Bool := decide (x.text = t.text) && (fitsT t w || fitsT w t)
theorem ask_tie {T : List TagT} {w t : TagT} (h : t ∈ askU T w.pieces) : t ∈ T ∧ (fitsT t w || fitsT w t) = true := by
  unfold askU at h
  have hI : ∀ q, t ∈ IspU T q → t ∈ T ∧ t.pieces = q := fun q h => by
    unfold IspU at h
    rw [List.mem_filter] at h
    exact ⟨h.1, by simpa using h.2⟩
  rcases List.mem_append.1 h with h | h
  · rcases List.mem_append.1 h with h | h
    · obtain ⟨h1, h2⟩ := hI _ h
      exact ⟨h1, by rw [fitsT_app (s := []) (by rw [h2, List.append_nil])]; rfl⟩
    · unfold FspU at h
      split at h
      · cases h
      · rw [List.mem_filter] at h
        obtain ⟨s, e⟩ := List.isPrefixOf_iff_prefix.1 h.2
        exact ⟨h.1, by rw [fitsT_app e.symm]; rfl⟩
  · obtain ⟨q, hq, h⟩ := List.mem_flatMap.1 h
    obtain ⟨h1, h2⟩ := hI _ h
    obtain ⟨s, e⟩ := presR_pre _ _ _ hq
    rw [List.nil_append, ← h2] at e
    exact ⟨h1, by rw [fitsT_app e]; exact Bool.or_true _⟩
theorem chain_tie {W T : List TagT} {l t : TagT} (h : t ∈ chainU W T l) : t.text = l.text ∨ (T.any fun x => W.any fun w => tieB t x w) = true := by
  unfold chainU at h
  rcases onceU_mem _ _ _ h with h | h
  · cases h
  · rcases List.mem_append.1 h with h | h
    · obtain ⟨w, hw, h⟩ := List.mem_flatMap.1 h
      obtain ⟨h1, h2⟩ := ask_tie h
      have hwm : w ∈ W := by rcases onceU_mem _ _ _ hw with h | h; cases h; exact h
      have htm : t ∈ T := by rcases onceU_mem _ _ _ h1 with h | h; cases h; exact h
      refine .inr ?_
      rw [List.any_eq_true]
      refine ⟨t, htm, ?_⟩
      rw [List.any_eq_true]
      exact ⟨w, hwm, by unfold tieB; rw [h2]; simp⟩
    · rw [List.mem_singleton] at h
      exact .inl (by rw [h])
theorem chain_nodup (W T : List TagT) (l : TagT) : ((chainU W T l).map TagT.text).Nodup := onceU_nodup _ _ List.nodup_nil
theorem chain_last (W T : List TagT) (l : TagT) : ∃ y ∈ chainU W T l, y.text = l.text := onceU_has _ _ _ (by simp)
end Go.Proofs.YthlccfjhgejlmaaDoor
