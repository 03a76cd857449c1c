/-
  Several texts put together (part 4): what the law and the program call, walked; their contracts.
-/
import Derived.WalkKit
namespace Go.Proofs.YtglennfjeacpoaaGreatDoor
def fdB (y : Int) : Int := 365 * (y - 1) + (y - 1) / 4 - (y - 1) / 100 + (y - 1) / 400 - 719162
def lpB (y : Int) : Bool := decide (y % 4 = 0) && (decide (y % 100 ≠ 0) || decide (y % 400 = 0))
def lpI (y : Int) : Int := if lpB y = true then 1 else 0
def dimI (y m : Int) : Int :=
  if m = 1 ∨ m = 3 ∨ m = 5 ∨ m = 7 ∨ m = 8 ∨ m = 10 ∨ m = 12 then 31
  else if m = 4 ∨ m = 6 ∨ m = 9 ∨ m = 11 then 30
  else if m = 2 then 28 + lpI y else 0
def cumI (y m : Int) : Int :=
  if m ≤ 1 then 0 else if m = 2 then 31 else
  lpI y + (if m = 3 then 59 else if m = 4 then 90 else if m = 5 then 120 else if m = 6 then 151 else if m = 7 then 181 else if m = 8 then 212 else if m = 9 then 243 else if m = 10 then 273 else if m = 11 then 304 else if m = 12 then 334 else 365)
theorem lpI_01 (y : Int) : 0 ≤ lpI y ∧ lpI y ≤ 1 := by unfold lpI; split <;> omega
theorem lpB_iff (y : Int) : lpB y = true ↔ (y % 4 = 0 ∧ (y % 100 ≠ 0 ∨ y % 400 = 0)) := by
  simp [lpB, Bool.and_eq_true, Bool.or_eq_true]
theorem fd_succ (y : Int) : fdB (y + 1) = fdB y + 365 + lpI y := by
  unfold fdB lpI
  by_cases h : lpB y = true
  · rw [if_pos h]; have := (lpB_iff y).1 h; omega
  · rw [if_neg h]
    have h' : ¬ (y % 4 = 0 ∧ (y % 100 ≠ 0 ∨ y % 400 = 0)) := fun k => h ((lpB_iff y).2 k)
    omega
theorem fd_400 (y k : Int) : fdB (y + 400 * k) = fdB y + 146097 * k := by
  unfold fdB; omega
theorem lp_400 (y k : Int) : lpI (y + 400 * k) = lpI y := by
  have h1 := fd_succ y
  have h2 := fd_succ (y + 400 * k)
  rw [show y + 400 * k + 1 = (y + 1) + 400 * k by omega, fd_400, fd_400] at h2
  omega
theorem dim_400 (y k m : Int) : dimI (y + 400 * k) m = dimI y m := by unfold dimI; rw [lp_400]
theorem cum_400 (y k m : Int) : cumI (y + 400 * k) m = cumI y m := by unfold cumI; rw [lp_400]
theorem fd_lt (a b : Int) (h : a < b) : fdB a + 365 ≤ fdB b := by unfold fdB; omega
theorem fd_bd (y : Int) : 365 * y - 719528 - 366 ≤ fdB y ∧ fdB y ≤ 365 * y + y / 4 - 719000 ∨ y < 1 := by
  unfold fdB; omega
theorem fd_guess (d : Int) : d < fdB (1970 + d * 400 / 146097 + 1 + 1) := by unfold fdB; omega
theorem dim_pos (y m : Int) (h1 : 1 ≤ m) (h2 : m ≤ 12) : 28 ≤ dimI y m ∧ dimI y m ≤ 31 := by
  have := lpI_01 y
  unfold dimI; repeat' split
  all_goals omega
theorem dim_none (y m : Int) (h : m < 1 ∨ 12 < m) : dimI y m = 0 := by
  unfold dimI
  rw [if_neg (by omega), if_neg (by omega), if_neg (by omega)]
theorem dim_bd (y m : Int) : 0 ≤ dimI y m ∧ dimI y m ≤ 31 := by
  by_cases h : 1 ≤ m ∧ m ≤ 12
  · have := dim_pos y m h.1 h.2; omega
  · rw [dim_none y m (by omega)]; omega
theorem cum_succ (y m : Int) (h1 : 1 ≤ m) (h2 : m ≤ 12) : cumI y (m + 1) = cumI y m + dimI y m := by
  have hl := lpI_01 y
  have : m = 1 ∨ m = 2 ∨ m = 3 ∨ m = 4 ∨ m = 5 ∨ m = 6 ∨ m = 7 ∨ m = 8 ∨ m = 9 ∨ m = 10 ∨ m = 11 ∨ m = 12 := by omega
  rcases this with rfl | rfl | rfl | rfl | rfl | rfl | rfl | rfl | rfl | rfl | rfl | rfl <;> simp [cumI, dimI] <;> omega
theorem cum_bd (y m : Int) : 0 ≤ cumI y m ∧ cumI y m ≤ 366 := by
  have := lpI_01 y
  unfold cumI; repeat' split
  all_goals omega
theorem cum_one (y : Int) : cumI y 1 = 0 := by simp [cumI]
theorem cum_13 (y : Int) : cumI y 13 = 365 + lpI y := by simp [cumI]; omega
theorem cum_mono (y a b : Int) (h1 : 1 ≤ a) (h2 : a < b) (h3 : b ≤ 13) : cumI y a + dimI y a ≤ cumI y b := by
  obtain ⟨n, rfl⟩ : ∃ n : Nat, b = a + 1 + n := ⟨(b - a - 1).toNat, by omega⟩
  induction n with
  | zero => rw [show a + 1 + ((0 : Nat) : Int) = a + 1 by omega, cum_succ y a h1 (by omega)]; omega
  | succ n ih =>
    have h := ih (by omega) (by omega)
    have hs := cum_succ y (a + 1 + n) (by omega) (by omega)
    have hd := dim_bd y (a + 1 + n)
    rw [show a + 1 + ((n + 1 : Nat) : Int) = a + 1 + n + 1 by omega]
    omega
structure Civ (days y m d : Int) : Prop where
  num : fdB y + cumI y m + d - 1 = days
  m1 : 1 ≤ m
  m12 : m ≤ 12
  d1 : 1 ≤ d
  dd : d ≤ dimI y m
theorem Civ.year {days y m d : Int} (h : Civ days y m d) : fdB y ≤ days ∧ days < fdB (y + 1) := by
  have h1 := h.num
  have h2 := h.m1
  have h3 := h.m12
  have h4 := h.d1
  have h5 := h.dd
  have hc := cum_bd y m
  have hm := cum_mono y m 13 h2 (by omega) (by omega)
  rw [cum_13] at hm
  rw [fd_succ]
  omega
theorem Civ.uniq {days y m d y' m' d' : Int} (h : Civ days y m d) (h' : Civ days y' m' d') : y = y' ∧ m = m' ∧ d = d' := by
  have a := h.year
  have b := h'.year
  have hy : y = y' := by
    rcases Int.lt_trichotomy y y' with hlt | heq | hgt
    · exfalso
      by_cases e : y + 1 = y'
      · rw [e] at a; omega
      · have := fd_lt (y + 1) y' (by omega); omega
    · exact heq
    · exfalso
      by_cases e : y' + 1 = y
      · rw [e] at b; omega
      · have := fd_lt (y' + 1) y (by omega); omega
  subst hy
  have hm : m = m' := by
    rcases Int.lt_trichotomy m m' with hlt | heq | hgt
    · exfalso
      have := cum_mono y m m' h.m1 hlt (by have := h'.m12; omega)
      have h1 := h.num; have h2 := h'.num; have h3 := h.dd; have h4 := h'.d1
      omega
    · exact heq
    · exfalso
      have := cum_mono y m' m h'.m1 hgt (by have := h.m12; omega)
      have h1 := h.num; have h2 := h'.num; have h3 := h'.dd; have h4 := h.d1
      omega
  subst hm
  have h1 := h.num; have h2 := h'.num
  exact ⟨rfl, rfl, by omega⟩
theorem Civ.bd {days y m d : Int} (h : Civ days y m d) : 365 * y - 719900 ≤ days ∨ y < 0 := by
  have a := h.year
  unfold fdB at a
  omega
theorem civ_of {days y m left : Int} (hm1 : 1 ≤ m) (hm2 : m ≤ 12) (h0 : 0 ≤ left) (hlt : left < dimI y m) (h : left = days - fdB y - cumI y m) : Civ days y m (left + 1) :=
  ⟨by omega, hm1, hm2, by omega, by omega⟩
structure Mom (sec y m d h mi s wd : Int) : Prop where
  civ : Civ (sec / 86400) y m d
  hh : h = sec % 86400 / 3600
  hmi : mi = sec % 86400 % 3600 / 60
  hs : s = sec % 86400 % 60
  hwd : wd = (sec / 86400 + 4) % 7
theorem Mom.uniq {sec y m d h mi s wd y' m' d' h' mi' s' wd' : Int} (a : Mom sec y m d h mi s wd) (b : Mom sec y' m' d' h' mi' s' wd') : y = y' ∧ m = m' ∧ d = d' ∧ h = h' ∧ mi = mi' ∧ s = s' ∧ wd = wd' := by
  obtain ⟨e1, e2, e3⟩ := a.civ.uniq b.civ
  exact ⟨e1, e2, e3, by rw [a.hh, b.hh], by rw [a.hmi, b.hmi], by rw [a.hs, b.hs], by rw [a.hwd, b.hwd]⟩
end Go.Proofs.YtglennfjeacpoaaGreatDoor
