/-
  DateTo: whatever day and time that there may be: as seconds, and back.
-/
import Derived.Test.YtpblmdginlkedaaLawDate
import Derived.IntWalk
namespace Go.Proofs.Ytpblmdginlkedaa
open Go.RowKit

theorem utm (n b : Int) (hb : 0 < b) : 0 ≤ (IntKind.u64.wrap n).tmod b ∧ (IntKind.u64.wrap n).tmod b < b := by
  have h := wrap_u64_nonneg n
  rw [Int.tmod_eq_emod_of_nonneg h]
  exact ⟨Int.emod_nonneg _ (by omega), Int.emod_lt_of_pos _ hb⟩
theorem mom_to {y m d c : Int} (hm1 : 1 ≤ m) (hm2 : m ≤ 12) (hd1 : 1 ≤ d) (hd2 : d ≤ dimI y m) (c0 : 0 ≤ c) (c1 : c < 86400) : ∃ wd, Mom ((fdB y + cumI y m + d - 1) * 86400 + c / 3600 * 3600 + c / 60 % 60 * 60 + c % 60) y m d (c / 3600) (c / 60 % 60) (c % 60) wd := by
  have e : (fdB y + cumI y m + d - 1) * 86400 + c / 3600 * 3600 + c / 60 % 60 * 60 + c % 60 = (fdB y + cumI y m + d - 1) * 86400 + c := by omega
  rw [e]
  have e1 : ((fdB y + cumI y m + d - 1) * 86400 + c) / 86400 = fdB y + cumI y m + d - 1 := by omega
  exact ⟨_, ⟨by rw [e1], hm1, hm2, hd1, hd2⟩, by omega, by omega, by omega, rfl⟩
theorem mom_later {sec y m d h mi se wd : Int} (a : Mom sec y m d h mi se wd) : Mom (sec + 12622780800) (y + 400) m d h mi se wd := by
  have h1 := a.civ.num
  have h2 := fd_400 y 1
  have h3 := cum_400 y 1 m
  have h4 := dim_400 y 1 m
  rw [show y + 400 * 1 = y + 400 by omega] at h2 h3 h4
  refine ⟨⟨by rw [h2, h3]; omega, a.civ.m1, a.civ.m12, a.civ.d1, by rw [h4]; exact a.civ.dd⟩, ?_, ?_, ?_, ?_⟩
  · rw [a.hh]; omega
  · rw [a.hmi]; omega
  · rw [a.hs]; omega
  · rw [a.hwd]; omega
theorem sec_bd (q m d k : Int) (q0 : -100000 ≤ q) (q1 : q < 100000) (d0 : 1 ≤ d) (d1 : d ≤ 32) (k0 : 0 ≤ k) (k1 : k < 86400) :
    -9000000000000 ≤ (fdB q + cumI q m + d - 1) * 86400 + k / 3600 * 3600 + k / 60 % 60 * 60 + k % 60 ∧ (fdB q + cumI q m + d - 1) * 86400 + k / 3600 * 3600 + k / 60 % 60 * 60 + k % 60 ≤ 9000000000000 := by
  have := cum_bd q m
  have : -40000000 ≤ fdB q ∧ fdB q ≤ 40000000 := by unfold fdB; omega
  omega
set_option maxHeartbeats 8000000 in
theorem lawDateTo (y m d c : Int) (w : World) : Calls Try.prog 6 #[.int .i64 y, .int .i64 m, .int .i64 d, .int .i64 c] w fun e w' => e = .returned (.bool true) ∧ Below w.heap.size w w' := by
  have L := Nat.le_refl w.heap.size
  have hq : -100000 ≤ y.tmod 100000 ∧ y.tmod 100000 < 100000 := tdm_bd y 100000 (by omega)
  generalize hqq : y.tmod 100000 = q at hq
  obtain ⟨q0, q1⟩ := hq
  have hu := utm m 12 (by omega)
  generalize hmm : (IntKind.u64.wrap m).tmod 12 = n at hu
  obtain ⟨n0, n1⟩ := hu
  have hv := utm c 86400 (by omega)
  generalize hcc : (IntKind.u64.wrap c).tmod 86400 = k at hv
  obtain ⟨k0, k1⟩ := hv
  have hD := dim_pos q (1 + n) (by omega) (by omega)
  obtain ⟨D0, D1⟩ := hD
  have hx := utm d (dimI q (1 + n)) (by omega)
  generalize hdd : (IntKind.u64.wrap d).tmod (dimI q (1 + n)) = x at hx
  obtain ⟨x0, x1⟩ := hx
  have hDu : IntKind.u64.wrap (dimI q (1 + n)) = dimI q (1 + n) := IntWalk.u64_in _ (by omega)
  have hDz : (dimI q (1 + n) == 0) = false := by simp; omega
  have hmt := mom_to (y := q) (m := 1 + n) (d := 1 + x) (c := k) (by omega) (by omega) (by omega) (by omega) k0 k1
  have Ht := Lib.hid hmt
  clear hmt
  go_enter Try.func6, Try.ntmps6
  go_wp2_with fail
  go_at_call 7
  refine (head_any _).mono ?_
  rintro e w1 ⟨rfl, hb1⟩
  have hz1 := hb1.size
  go_wp2_with fail
  go_at_call 14
  refine (ldays_any _ _ _).mono ?_
  rintro e w2 ⟨rfl, hb2⟩
  obtain ⟨wd, hm⟩ := Ht.out
  have hsb := sec_bd q (1 + n) (1 + x) k (by omega) (by omega) (by omega) (by omega) k0 k1
  generalize (fdB q + cumI q (1 + n) + (1 + x) - 1) * 86400 + k / 3600 * 3600 + k / 60 % 60 * 60 + k % 60 = sec at *
  obtain ⟨sb0, sb1⟩ := hsb
  have Hm := Lib.hid hm
  have hbd := mom_bd hm (by omega) (by omega)
  obtain ⟨y0, y1, m0, m1, d0, d1, h0, h1, i0, i1, s0, s1, wd0, wd1⟩ := hbd
  clear hm Ht
  have HB2 := Lib.hid (below_then hb1 L hb2)
  have hz2 := HB2.out.size
  clear hb1 hb2
  go_wp2_with fail
  go_at_call 10
  refine (to_mom Hm.out (by omega) (by omega) 0 _).mono ?_
  rintro e w3 ⟨rfl, hb3⟩
  obtain ⟨hc3, hf3⟩ := bcell hb3
  have hz3 : w2.heap.size < w3.heap.size := by have := hb3.size; simp at this; omega
  have HB3 := Lib.hid (below_then (below_new HB2.out L (civilObj q (1 + n) (1 + x) (k / 3600) (k / 60 % 60) (k % 60) 0)) L hb3)
  go_wp2_with fail
  go_at_call 8
  refine (from_any _ _).mono ?_
  rintro e w4 ⟨y', m', d', h', mi', se', wd', rfl, hm', hb4⟩
  rw [clamp_in _ (by omega) (by omega)] at hm'
  obtain ⟨rfl, rfl, rfl, rfl, rfl, rfl, rfl⟩ := Hm.out.uniq hm'
  obtain ⟨hc4, hf4⟩ := bcell hb4
  have hz4 : w2.heap.size < w4.heap.size := by have := hb4.size; omega
  have HB4 := Lib.hid (below_then HB3.out L hb4)
  clear hm' hb4
  go_wp2_with fail
  go_at_call 8
  refine (from_any _ _).mono ?_
  rintro e w5 ⟨y', m', d', h', mi', se', wd', rfl, hm', hb5⟩
  rw [clamp_in _ (by omega) (by omega)] at hm'
  obtain ⟨rfl, rfl, rfl, rfl, rfl, rfl, rfl⟩ := (mom_later Hm.out).uniq hm'
  obtain ⟨hc5, hf5⟩ := bcell hb5
  have hz5 : w4.heap.size < w5.heap.size := by have := hb5.size; simp at this; omega
  have hz5' : w2.heap.size < w5.heap.size := by omega
  have HB5 := Lib.hid (below_then (below_new HB4.out L (civilObj q (1 + n) (1 + x) (k / 3600) (k / 60 % 60) (k % 60) wd)) L hb5)
  clear hm' hb5 hb3
  have hz6 : w2.heap.size < w4.heap.size + 1 := by omega
  have hz7 : w2.heap.size < w5.heap.size + 1 := by omega
  have hz8 : w4.heap.size < w5.heap.size + 1 := by omega
  have hn1 : ¬ w2.heap.size = w4.heap.size := by omega
  have hn2 : ¬ w2.heap.size = w5.heap.size := by omega
  have hn3 : ¬ w4.heap.size = w5.heap.size := by omega
  have hn1' : ¬ w4.heap.size = w2.heap.size := by omega
  have hn2' : ¬ w5.heap.size = w2.heap.size := by omega
  have hn3' : ¬ w5.heap.size = w4.heap.size := by omega
  go_wp2
  go_ret
  exact ⟨rfl, below_new (below1 HB5.out hz2 _ _) L _⟩
end Go.Proofs.Ytpblmdginlkedaa
