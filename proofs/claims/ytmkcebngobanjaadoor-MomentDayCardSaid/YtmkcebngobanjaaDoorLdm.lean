/-
  How great a moment's parts are.
-/
import Derived.Test.YtmkcebngobanjaaDoorLawFrom
namespace Go.Proofs.YtmkcebngobanjaaDoor
open Go.RowKit

theorem mom_bd {sec y m d h mi se wd : Int} (a : Mom sec y m d h mi se wd) (s0 : -9100000000000000 ≤ sec) (s1 : sec ≤ 9100000000000000) : -400000000 ≤ y ∧ y ≤ 400000000 ∧ 1 ≤ m ∧ m ≤ 12 ∧ 1 ≤ d ∧ d ≤ 31 ∧ 0 ≤ h ∧ h < 24 ∧ 0 ≤ mi ∧ mi < 60 ∧ 0 ≤ se ∧ se < 60 ∧ 0 ≤ wd ∧ wd < 7 := by
  obtain ⟨hy0, hy1⟩ := a.civ.year
  have h1 := fd_dn y _ hy1 (by omega)
  have h2 := fd_up y _ hy0 (by omega)
  have h3 := a.hh
  have h4 := a.hmi
  have h5 := a.hs
  have h6 := a.hwd
  have h7 := a.civ.dd
  have h8 := dim_bd y m
  have h9 := a.civ.d1
  exact ⟨h1, h2, a.civ.m1, a.civ.m12, h9, by omega, by omega, by omega, by omega, by omega, by omega, by omega, by omega, by omega⟩
/-- What a day later is. -/
theorem next_of {sec y m d h mi se wd y' m' d' h' mi' se' wd' : Int} (a : Mom sec y m d h mi se wd) (b : Mom (sec + 86400) y' m' d' h' mi' se' wd') :
    h' = h ∧ mi' = mi ∧ se' = se ∧ wd' = (wd + 1) % 7 ∧ (1 < d' → d' = d + 1 ∧ m' = m ∧ y' = y ∧ d' ≤ dimI y m) ∧ (¬ 1 < d' → 1 < m' → d = dimI y m ∧ m' = m + 1 ∧ y' = y) ∧ (¬ 1 < d' → ¬ 1 < m' → d = 31 ∧ m = 12 ∧ y' = y + 1) := by
  have e1 : h' = h := by rw [a.hh, b.hh]; omega
  have e2 : mi' = mi := by rw [a.hmi, b.hmi]; omega
  have e3 : se' = se := by rw [a.hs, b.hs]; omega
  have e4 : wd' = (wd + 1) % 7 := by rw [a.hwd, b.hwd]; omega
  have ed : (sec + 86400) / 86400 = sec / 86400 + 1 := by omega
  have hb := b.civ
  rw [ed] at hb
  have ha := a.civ
  have m1 := ha.m1
  have m12 := ha.m12
  refine ⟨e1, e2, e3, e4, ?_⟩
  by_cases hlt : d < dimI y m
  · have c : Civ (sec / 86400 + 1) y m (d + 1) := ⟨by have := ha.num; omega, m1, m12, by have := ha.d1; omega, by omega⟩
    obtain ⟨rfl, rfl, rfl⟩ := hb.uniq c
    have := ha.d1
    exact ⟨fun _ => ⟨rfl, rfl, rfl, by omega⟩, fun h => absurd h (by omega), fun h => absurd h (by omega)⟩
  · have hd : d = dimI y m := by have := ha.dd; omega
    by_cases hm : m < 12
    · have hs := cum_succ y m m1 m12
      have hp := dim_pos y (m + 1) (by omega) (by omega)
      have c : Civ (sec / 86400 + 1) y (m + 1) 1 := ⟨by have := ha.num; omega, by omega, by omega, by omega, by omega⟩
      obtain ⟨rfl, rfl, rfl⟩ := hb.uniq c
      exact ⟨fun h => absurd h (by omega), fun _ _ => ⟨hd, rfl, rfl⟩, fun _ h => absurd h (by omega)⟩
    · obtain rfl : m = 12 := by omega
      have hs := cum_succ y 12 (by omega) (by omega)
      rw [show (12 : Int) + 1 = 13 from rfl, cum_13] at hs
      have h31 : dimI y 12 = 31 := by simp [dimI]
      have c : Civ (sec / 86400 + 1) (y + 1) 1 1 := ⟨by rw [fd_succ, cum_one]; have := ha.num; omega, by omega, by omega, by omega, by simp [dimI]⟩
      obtain ⟨rfl, rfl, rfl⟩ := hb.uniq c
      exact ⟨fun h => absurd h (by omega), fun _ h => absurd h (by omega), fun _ _ => ⟨by omega, rfl, rfl⟩⟩
end Go.Proofs.YtmkcebngobanjaaDoor
