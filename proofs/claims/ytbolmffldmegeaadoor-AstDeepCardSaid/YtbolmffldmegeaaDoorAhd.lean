/-
  The law's message and its head.
-/
import Derived.Test.YtbolmffldmegeaaDoorArt
import Derived.Test.YtbolmffldmegeaaDoorAse
namespace Go.Proofs.YtbolmffldmegeaaDoor
open Go.RowKit
set_option linter.unusedVariables false
set_option linter.unusedSimpArgs false

set_option maxHeartbeats 1000000 in
theorem message_any (s : ByteArray) (w : World) : Calls Tryd.prog 12 #[.string s] w fun e w' => ∃ k, e = .returned (entV 1 0 ⟨#[]⟩ ⟨#[109]⟩ (.slice (some ⟨k, 0, none⟩) 1 1) (.slice none 0 0) 0 0) ∧ BoxAt w' k #[.string s, .pointer none] 38 ∧ Below w.heap.size w w' := by
  go_enter Tryd.func12, Tryd.ntmps12
  go_wp2
  exact bodyPost_ret (v := entV 1 0 ⟨#[]⟩ ⟨#[109]⟩ (.slice (some ⟨w.heap.size + 1, 0, none⟩) 1 1) (.slice none 0 0) 0 0) (by simp [results, Tryd.results12, go_sem, entV]) rfl
    ⟨w.heap.size + 1, rfl, BoxAt.new' _ _ _ _ (by simp), by repeat' first | exact Below.refl _ _ | apply Below.setCell | apply Below.alloc | (simp; done) | (simp; omega)⟩
/-- The pattern of one text, as it lies. -/
theorem pat_text {W : World} {k : Nat} {s : ByteArray} (h : BoxAt W k #[.string s, .pointer none] 38) : PatAt W [.mk s none] (.slice (some ⟨k, 0, none⟩) 1 1) := by
  refine ⟨_, _, rfl, Nat.le_refl _, by unfold maxLen; omega, fun _ => ⟨k, 0, rfl, ?_⟩⟩
  rw [EsAt, EsAt]
  exact ⟨h.lt, h.cell 0, ⟨.pointer none, h.cell 1, by simp only [OAt]⟩, trivial⟩
theorem ca_ascii (s : ByteArray) (hs : s.size ≤ 1000) (has : ∀ (j : Nat) b, s.data.toList[j]? = some b → b.toNat < 128) (he : Lib.containsAny s.data.toList [123, 125] = hasBrace s) : CaTo s := by
  intro w
  have := Tryd.strings_ContainsAny_laid s ⟨#[123, 125]⟩ w (by omega) (by decide) has (by
    intro j b hj
    have : j < 2 := by have := (List.getElem?_eq_some_iff.1 hj).1; simpa using this
    match j, hj with
    | 0, hj => simp at hj; subst hj; decide
    | 1, hj => simp at hj; subst hj; decide)
  rw [show (⟨#[123, 125]⟩ : ByteArray).data.toList = [123, 125] from rfl, he] at this
  exact this
theorem right_text (s : ByteArray) (k : Nat) (w : World) (hT : TabU w) (hk : BoxAt w k #[.string s, .pointer none] 38) (hs : s.size ≤ 1000) (hca : CaTo s) (b : Bool) (hb : msgB 1 0 ⟨#[]⟩ ⟨#[109]⟩ [.mk s none] [] = b) :
    Calls Tryd.prog 8 #[entV 1 0 ⟨#[]⟩ ⟨#[109]⟩ (.slice (some ⟨k, 0, none⟩) 1 1) (.slice none 0 0) 0 0] w fun e w' => e = .returned (.bool b) ∧ Below w.heap.size w w' := by
  rw [← hb]
  refine right_msg 1 0 (.inl rfl) _ _ [.mk s none] [] _ _ 0 0 w (fun _ => False) (no_qc _ _) hT (pat_text hk) ⟨none, 0, rfl, by simp, by simp, fun h => absurd h (by simp)⟩ ⟨?_, ?_⟩ (fun t l h => absurd h (by simp)) (by decide) ?_
  · intro t p hm hv
    simp at hm
    obtain ⟨rfl, _⟩ := hm
    exact hca
  · intro t e hm
    simp at hm
  · rw [sizeEs, sizeEs, sizeO, sizeTs]; unfold qMax; omega
theorem same_text (s s' : ByteArray) (k k' : Nat) (w : World) (hk : BoxAt w k #[.string s, .pointer none] 38) (hk' : BoxAt w k' #[.string s', .pointer none] 38) :
    Calls Tryd.prog 10 #[entV 1 0 ⟨#[]⟩ ⟨#[109]⟩ (.slice (some ⟨k, 0, none⟩) 1 1) (.slice none 0 0) 0 0, entV 1 0 ⟨#[]⟩ ⟨#[109]⟩ (.slice (some ⟨k', 0, none⟩) 1 1) (.slice none 0 0) 0 0] w fun e w' => e = .returned (.bool (decide (s = s'))) ∧ Below w.heap.size w w' := by
  have := same_entry 1 0 ⟨#[]⟩ ⟨#[109]⟩ [.mk s none] [.mk s' none] _ _ 0 0 0 0 w ⟨pat_text hk, pat_text hk', ?_⟩ (by simp) (by simp)
  · have e1 : (decide ([EL.mk s none].length = [EL.mk s' none].length) && allTo (txtAt [.mk s none] [.mk s' none]) [EL.mk s none].length) = decide (s = s') := by
      simp [allTo, txtAt, elText]
    rw [e1] at this
    exact this
  · rintro b o b' o' ⟨n, c, e⟩ ⟨n', c', e'⟩ j hj hj'
    cases e
    cases e'
    have : j = 0 := by simp at hj; omega
    subst this
    exact (hk.cell 1).trans (hk'.cell 1).symm
theorem emp_data (s : ByteArray) : emp s = s.data.toList.isEmpty := by unfold emp; rw [Lib.toList_data]
theorem msg1 : msgB 1 0 ⟨#[]⟩ ⟨#[109]⟩ [.mk ⟨#[46, 97, 10, 98]⟩ none] [] = true := by
  unfold msgB patB patL
  simp only [textsB, okEs, emp_data]
  kernel_rfl
theorem msg2 : msgB 1 0 ⟨#[]⟩ ⟨#[109]⟩ [.mk ⟨#[97, 10, 32, 98]⟩ none] [] = true := by
  unfold msgB patB patL
  simp only [textsB, okEs, emp_data]
  kernel_rfl
theorem msg3 : msgB 1 0 ⟨#[]⟩ ⟨#[109]⟩ [.mk ⟨#[46, 97, 10, 32, 98]⟩ none] [] = false := by
  unfold msgB patB patL
  simp only [textsB, okEs, emp_data]
  kernel_rfl
theorem ascii_of (s : ByteArray) (h : (s.data.toList.all fun b => decide (b.toNat < 128)) = true) : ∀ (j : Nat) b, s.data.toList[j]? = some b → b.toNat < 128 := fun j b hj => of_decide_eq_true (List.all_eq_true.1 h b (List.mem_of_getElem? hj))
theorem ca1 : CaTo ⟨#[46, 97, 10, 98]⟩ := ca_ascii _ (by decide) (ascii_of _ (by decide)) (by kernel_rfl)
theorem ca2 : CaTo ⟨#[97, 10, 32, 98]⟩ := ca_ascii _ (by decide) (ascii_of _ (by decide)) (by kernel_rfl)
theorem ca3 : CaTo ⟨#[46, 97, 10, 32, 98]⟩ := ca_ascii _ (by decide) (ascii_of _ (by decide)) (by kernel_rfl)
theorem ca0 : CaTo ⟨#[]⟩ := ca_ascii _ (by decide) (ascii_of _ (by decide)) (by kernel_rfl)
end Go.Proofs.YtbolmffldmegeaaDoor
