/-
  What the program reckons of a number's digits is what the law reckons of its row.
-/
import Derived.Test.YtmkcebngobanjabDoorPlR
import Derived.Test.YtmkcebngobanjabDoorPl8
namespace Go.Proofs.YtmkcebngobanjabDoor
open Go.RowKit
set_option linter.unusedVariables false

def nL (s : ByteArray) (k : Nat) : Int := valL (whB s k).data.toList % 100
def nM (s : ByteArray) (k : Nat) : Bool := decide (2 < s.size - k)
section
variable (s : ByteArray) (k : Nat) (hn : Num s.data.toList k)
include hn
theorem num_good : GoodD s k := by
  obtain ⟨h1, h2⟩ := num_m s k hn
  exact ⟨by omega, by omega, hn.digs⟩
theorem num_parts (n : Bool) : PartsTo n s k (nL s k) (nM s k) (pWhole s k) := fun W => by
  obtain ⟨h1, h2⟩ := num_m s k hn
  have := parts_any n s k W (by omega) (by omega) (by omega) hn.digs
  rw [row_last s k hn, row_more s k hn, row_whole s k hn] at this
  exact this
theorem e_last2 (lo hi : Int) : pLast 2 lo hi s k = (decide (lo ≤ nL s k) && decide (nL s k ≤ hi)) := by
  unfold pLast nL
  rw [valL_last 2 _ (whB_all hn.digs)]
  rfl
theorem e_last1 (lo hi : Int) : pLast 1 lo hi s k = (decide (lo ≤ nL s k % 10) && decide (nL s k % 10 ≤ hi)) := by
  unfold pLast nL
  rw [valL_last 1 _ (whB_all hn.digs)]
  have : valL (whB s k).data.toList % ((10 ^ 1 : Nat) : Int) = valL (whB s k).data.toList % 100 % 10 := by
    have : (10 ^ 1 : Nat) = 10 := by decide
    omega
  rw [this]
omit hn in
theorem trimLeft_ne {l : List UInt8} (h : l.head? ≠ some 48) : Lib.trimLeftB l 48 = l := by
  cases l with
  | nil => rfl
  | cons c m =>
    have hc : (c == (48 : UInt8)) = false := by
      rw [beq_eq_false_iff_ne]
      intro e
      exact h (by rw [e]; rfl)
    unfold Lib.trimLeftB
    rw [List.dropWhile_cons, hc]
    rfl
theorem trW_two : decide ((trW s k).size ≤ 2) = decide (s.size - k ≤ 2) := by
  obtain ⟨h1, h2⟩ := num_m s k hn
  rcases hn.head with h | h
  · have hl : (whB s k).data.toList.head? ≠ some 48 := by
      unfold whB
      rw [extract_take]
      intro e
      apply h
      cases hs : s.data.toList with
      | nil => rw [hs] at e; simp at e
      | cons c m =>
        rw [hs] at e
        have h3 : s.size - k = (s.size - k - 1) + 1 := by omega
        rw [h3, List.take_succ_cons] at e
        exact e
    have e : trW s k = whB s k := by
      unfold trW
      rw [trimLeft_ne hl]
    rw [e, whB_size]
  · rw [size_data] at h
    have := trW_size s k
    rw [Bool.eq_iff_iff, decide_eq_true_iff, decide_eq_true_iff]
    omega
theorem e_in (lo hi : Int) : pIn lo hi s k = (!nM s k && (decide (lo ≤ nL s k) && decide (nL s k ≤ hi))) := by
  unfold pIn
  rw [e_last2 s k hn, trW_two s k hn]
  congr 1
  unfold nM
  rw [Bool.eq_iff_iff, decide_eq_true_iff, Bool.not_eq_true', decide_eq_false_iff_not]
  omega
theorem e_few : pFew s k = fewB (nL s k) := by
  unfold pFew fewB
  rw [e_last1 s k hn, e_last2 s k hn]
  rw [Bool.eq_iff_iff]
  simp <;> omega
end
theorem nL_bd (s : ByteArray) (k : Nat) : 0 ≤ nL s k ∧ nL s k ≤ 99 := by unfold nL; omega
theorem e_scale (s : ByteArray) (k : Nat) : pScale s k = decide (0 < k) := by
  unfold pScale
  rw [Bool.eq_iff_iff, bne_iff_ne, decide_eq_true_iff]
  omega
section
variable (s : ByteArray) (k : Nat) (hn : Num s.data.toList k)
include hn
theorem eEn : cEn s k = LEn (nL s k) (nM s k) (pWhole s k) (fewB (nL s k)) k := by
  unfold cEn LEn
  rw [e_in s k hn, e_scale]
  generalize nL s k = l
  cases nM s k
  · by_cases h : k = 0 <;> by_cases h1 : l = 1 <;> simp [h, h1] <;> omega
  · simp
theorem eFr : cFr s k = LFr (nL s k) (nM s k) (pWhole s k) (fewB (nL s k)) k := by
  have := nL_bd s k
  unfold cFr LFr
  rw [e_in s k hn]
  generalize nL s k = l at *
  cases nM s k
  · by_cases h1 : l ≤ 1 <;> simp [h1] <;> omega
  · simp
theorem eEs : cEs s k = LEs (nL s k) (nM s k) (pWhole s k) (fewB (nL s k)) k := by
  unfold cEs LEs
  rw [e_in s k hn]
  generalize nL s k = l
  cases pWhole s k
  · simp
  · cases nM s k
    · by_cases h1 : l = 1 <;> simp [h1] <;> omega
    · simp
theorem ePl : cPl s k = LPl (nL s k) (nM s k) (pWhole s k) (fewB (nL s k)) k := by
  unfold cPl LPl
  rw [e_in s k hn, e_scale, e_few s k hn]
  generalize fewB (nL s k) = fw
  generalize nL s k = l
  cases nM s k
  · by_cases h : k = 0 <;> by_cases h1 : l = 1 <;> simp [h, h1] <;> (try (intros; omega))
  · simp
theorem eRu : cRu s k = LRu (nL s k) (nM s k) (pWhole s k) (fewB (nL s k)) k := by
  unfold cRu LRu
  rw [e_last1 s k hn, e_last2 s k hn, e_scale, e_few s k hn]
  generalize fewB (nL s k) = fw
  generalize nL s k = l
  have e : (decide (1 ≤ l % 10) && decide (l % 10 ≤ 1) && !(decide (11 ≤ l) && decide (l ≤ 11))) = decide (l % 10 = 1 ∧ l ≠ 11) := by
    rw [Bool.eq_iff_iff]
    simp
    omega
  rw [e]
  simp only [decide_eq_true_iff]
theorem eCs : cCs s k = LCs (nL s k) (nM s k) (pWhole s k) (fewB (nL s k)) k := by
  unfold cCs LCs
  rw [e_in s k hn, e_in s k hn, e_scale]
  generalize nL s k = l
  have e1 : (decide (1 ≤ l) && decide (l ≤ 1)) = decide (l = 1) := by
    rw [Bool.eq_iff_iff]; simp; omega
  rw [e1]
  cases nM s k
  · simp only [Bool.not_false, Bool.true_and, decide_eq_true_iff, Bool.and_eq_true, true_and]
  · simp
theorem eAr : cAr s k = LAr (nL s k) (nM s k) (pWhole s k) (fewB (nL s k)) k := by
  have := nL_bd s k
  unfold cAr LAr
  rw [e_in s k hn, e_in s k hn, e_in s k hn, e_last2 s k hn, e_last2 s k hn]
  generalize nL s k = l at *
  cases pWhole s k
  · simp
  · cases nM s k
    · simp only [Bool.not_true, Bool.false_eq_true, if_false, Bool.not_false, Bool.true_and, Bool.and_eq_true, decide_eq_true_iff, true_and, reduceCtorEq]
      repeat' split
      all_goals omega
    · simp only [Bool.not_true, Bool.false_eq_true, if_false, Bool.false_and, Bool.and_eq_true, decide_eq_true_iff, false_and, reduceCtorEq]
      repeat' split
      all_goals omega
theorem eRFr : rFr s k = SFr (nL s k) (nM s k) (pWhole s k) := by
  unfold rFr SFr
  rw [e_in s k hn]
  generalize nL s k = l
  cases pWhole s k
  · simp
  · cases nM s k
    · by_cases h1 : l = 1 <;> simp [h1] <;> omega
    · simp
theorem eREn : rEn s k = SEn (nL s k) (nM s k) (pWhole s k) := by
  have := nL_bd s k
  unfold rEn SEn
  rw [e_last2 s k hn, e_last1 s k hn, e_last1 s k hn, e_last1 s k hn]
  generalize nL s k = l at *
  cases pWhole s k
  · simp
  · simp only [Bool.not_true, Bool.false_eq_true, if_false, Bool.and_eq_true, decide_eq_true_iff, false_or, reduceCtorEq]
    repeat' split
    all_goals omega
end
end Go.Proofs.YtmkcebngobanjabDoor
