/-
  DateNext: a day later it is the next day.
-/
import Derived.Test.YtpblmdginlkedaaLawDate
import Derived.IntWalk
namespace Go.Proofs.Ytpblmdginlkedaa
open Go.RowKit

/-- What a day later is. -/
theorem next_of {sec y m d h mi se wd y' m' d' h' mi' se' wd' : Int} (a : Mom sec y m d h mi se wd) (b : Mom (sec + 86400) y' m' d' h' mi' se' wd') :
    h' = h ∧ mi' = mi ∧ se' = se ∧ wd' = (wd + 1) % 7 ∧ (1 < d' → d' = d + 1 ∧ m' = m ∧ y' = y ∧ d' ≤ dimI y m) ∧ (¬ 1 < d' → 1 < m' → d = dimI y m ∧ m' = m + 1 ∧ y' = y) ∧ (¬ 1 < d' → ¬ 1 < m' → d = 31 ∧ m = 12 ∧ y' = y + 1) := by
  have e1 : h' = h := by rw [a.hh, b.hh]; omega
  have e2 : mi' = mi := by rw [a.hmi, b.hmi]; omega
  have e3 : se' = se := by rw [a.hs, b.hs]; omega
  have e4 : wd' = (wd + 1) % 7 := by rw [a.hwd, b.hwd]; omega
  have ed : (sec + 86400) / 86400 = sec / 86400 + 1 := by omega
  have hb := b.civ
  rw [ed] at hb
  have ha := a.civ
  have m1 := ha.m1
  have m12 := ha.m12
  refine ⟨e1, e2, e3, e4, ?_⟩
  by_cases hlt : d < dimI y m
  · have c : Civ (sec / 86400 + 1) y m (d + 1) := ⟨by have := ha.num; omega, m1, m12, by have := ha.d1; omega, by omega⟩
    obtain ⟨rfl, rfl, rfl⟩ := hb.uniq c
    have := ha.d1
    exact ⟨fun _ => ⟨rfl, rfl, rfl, by omega⟩, fun h => absurd h (by omega), fun h => absurd h (by omega)⟩
  · have hd : d = dimI y m := by have := ha.dd; omega
    by_cases hm : m < 12
    · have hs := cum_succ y m m1 m12
      have hp := dim_pos y (m + 1) (by omega) (by omega)
      have c : Civ (sec / 86400 + 1) y (m + 1) 1 := ⟨by have := ha.num; omega, by omega, by omega, by omega, by omega⟩
      obtain ⟨rfl, rfl, rfl⟩ := hb.uniq c
      exact ⟨fun h => absurd h (by omega), fun _ _ => ⟨hd, rfl, rfl⟩, fun _ h => absurd h (by omega)⟩
    · obtain rfl : m = 12 := by omega
      have hs := cum_succ y 12 (by omega) (by omega)
      rw [show (12 : Int) + 1 = 13 from rfl, cum_13] at hs
      have h31 : dimI y 12 = 31 := by simp [dimI]
      have c : Civ (sec / 86400 + 1) (y + 1) 1 1 := ⟨by rw [fd_succ, cum_one]; have := ha.num; omega, by omega, by omega, by omega, by simp [dimI]⟩
      obtain ⟨rfl, rfl, rfl⟩ := hb.uniq c
      exact ⟨fun h => absurd h (by omega), fun _ h => absurd h (by omega), fun _ _ => ⟨by omega, rfl, rfl⟩⟩

set_option maxHeartbeats 8000000 in
theorem lawDateNext (s : Int) (w : World) : Calls Try.prog 4 #[.int .i64 s] w fun e w' => e = .returned (.bool true) ∧ Below w.heap.size w w' := by
  have L := Nat.le_refl w.heap.size
  go_enter Try.func4, Try.ntmps4
  go_wp2_with fail
  go_at_call 7
  refine (head_any _).mono ?_
  rintro e w1 ⟨rfl, hb1⟩
  have hq : -4503599627370496 ≤ s.tmod 4503599627370496 ∧ s.tmod 4503599627370496 < 4503599627370496 := tdm_bd s 4503599627370496 (by omega)
  generalize hqq : s.tmod 4503599627370496 = q at hq
  obtain ⟨q0, q1⟩ := hq
  go_wp2_with fail
  go_at_call 8
  refine (from_any _ _).mono ?_
  rintro e w2 ⟨y, m, d, h, mi, se, wd, rfl, hm, hb2⟩
  rw [clamp_in _ (by omega) (by omega)] at hm
  have hz2 := hb2.size
  have Hm := Lib.hid hm
  clear hm
  go_wp2_with fail
  go_at_call 8
  refine (from_any _ _).mono ?_
  rintro e w3 ⟨y', m', d', h', mi', se', wd', rfl, hm', hb3⟩
  rw [clamp_in _ (by omega) (by omega)] at hm'
  have Hn := Lib.hid (next_of Hm.out hm')
  have hbd := mom_bd Hm.out (by omega) (by omega)
  obtain ⟨y0, y1, m0, m1, d0, d1, h0, h1, i0, i1, s0, s1, wd0, wd1⟩ := hbd
  have hbd' := mom_bd hm' (by omega) (by omega)
  obtain ⟨y0', y1', m0', m1', d0', d1', h0', h1', i0', i1', s0', s1', wd0', wd1'⟩ := hbd'
  obtain ⟨e1, e2, e3, e4, hA, hB, hC⟩ := Hn.out
  obtain ⟨hc3, hf3⟩ := bcell hb3
  have L0 := hb1.size
  have hz3 : w2.heap.size < w3.heap.size := by have := hb3.size; simp at this; omega
  have HB := Lib.hid (below_then (below_new (below_then hb1 L hb2) L (civilObj y m d h mi se wd)) L hb3)
  subst e1 e2 e3
  clear hm' hb1 hb2 hb3 Hn hqq
  have E4 := Lib.hid e4
  have w4 : (wd' == (wd + 1) % 7) = true := by simpa using e4
  have w5 : (wd' != (wd + 1) % 7) = false := by simpa using e4
  clear e4
  have HC := Lib.hid hC
  have HBB := Lib.hid hB
  have HA := Lib.hid hA
  clear hA hB hC
  by_cases c1 : 1 < d'
  · obtain ⟨rfl, rfl, rfl, hdm⟩ := HA.out c1
    clear HC HBB HA
    have hd : decide (d + 1 ≤ dimI y' m') = true := by simpa using hdm
    have hw : IntKind.i64.wrap (d + 1) = d + 1 := IntWalk.i64_in _ (by omega)
    go_wp2_with fail
    go_quiet ((go_at_call 11; exact Calls.quiet_of_same ((days_any _ _ _).mono fun _ _ ⟨a, b⟩ => ⟨a, b.symm⟩)))
    go_wp2
    go_ret
    exact ⟨rfl, below_drewN (below_new HB.out L _) _⟩
  · by_cases c2 : 1 < m'
    · obtain ⟨hd, rfl, rfl⟩ := HBB.out c1 c2
      clear HC HBB HA
      have hd1 : (d == dimI y' m) = true := by simpa using hd
      have Hd := Lib.hid hd
      clear hd
      have hw : IntKind.i64.wrap (m + 1) = m + 1 := IntWalk.i64_in _ (by omega)
      go_wp2_with fail
      go_quiet ((go_at_call 11; exact Calls.quiet_of_same ((days_any _ _ _).mono fun _ _ ⟨a, b⟩ => ⟨a, b.symm⟩)))
      go_wp2
      go_ret
      exact ⟨rfl, below_drewN (below_new HB.out L _) _⟩
    · obtain ⟨rfl, rfl, rfl⟩ := HC.out c1 c2
      clear HC HBB HA
      go_wp2
      go_ret
      exact ⟨rfl, below_new HB.out L _⟩
end Go.Proofs.Ytpblmdginlkedaa
