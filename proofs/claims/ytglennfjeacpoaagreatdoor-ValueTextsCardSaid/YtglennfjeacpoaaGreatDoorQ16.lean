/-
  Several texts put together (part 16): what the law and the program call, walked; their contracts.
-/
import Derived.Test.YtglennfjeacpoaaGreatDoorQ14
import Derived.Lib.Repeat
import Derived.IntWalk
import Derived.Deep.RegionWith
namespace Go.Proofs.YtglennfjeacpoaaGreatDoor
open Go.RowKit
set_option linter.unusedVariables false
set_option linter.unusedSimpArgs false
theorem w64in (n : Int) (h0 : -9223372036854775808 ≤ n) (h1 : n ≤ 9223372036854775807) : wrap64 n = n := by unfold wrap64; omega
set_option maxHeartbeats 1000000 in
set_option maxRecDepth 100000 in
theorem trim_same (neg : Bool) (s p : ByteArray) (k m : Nat) (x : Int) (w : World) (hp : PartTo neg s p k) (hps : p.size = k) (hx : max x 0 = (m : Int)) (hkm : k ≤ m) :
    Calls Tryz.prog 75 #[.agg #[.bool neg, .string s, .int .i64 k], .int .i64 x] w fun e w' => e = .returned (.agg #[.bool neg, .string s, .int .i64 k]) ∧ Below w.heap.size w w' := by
  have hle : (p.size : Int) ≤ (m : Int) := by omega
  clear hps
  go_enter Tryz.func75, Tryz.ntmps75
  go_wp2_with (go_at_call 40; refine (hp _).mono ?_; rintro e w1 ⟨rfl, hb1⟩; obtain ⟨hc1, hf1⟩ := bcell hb1)
  exact bodyPost_ret (v := .agg #[.bool neg, .string s, .int .i64 k]) (by simp [results, Tryz.results75, go_sem, hc1]) rfl ⟨rfl, Below.set3 (below_box2 hb1) (by omega) _ _ _⟩
set_option maxHeartbeats 1000000 in
set_option maxRecDepth 100000 in
theorem trim_less (neg : Bool) (s p T : ByteArray) (k m z : Nat) (x : Int) (w : World) (hs : s.size ≤ 1000000) (hk : k ≤ s.size) (hp : PartTo neg s p k) (hps : p.size = k) (hx : max x 0 = (m : Int)) (hm : m < k) (hT : TrimRTo (p.extract m p.size) T) (hz : T.size + z = k - m) :
    Calls Tryz.prog 75 #[.agg #[.bool neg, .string s, .int .i64 k], .int .i64 x] w fun e w' => e = .returned (.agg #[.bool neg, .string (s.extract 0 (s.size - z)), .int .i64 (k - z : Nat)]) ∧ Below w.heap.size w w' := by
  have Hps := Lib.hid hps
  have hpm : m < p.size := by omega
  have hle : ¬ (p.size : Int) ≤ (m : Int) := by omega
  have hzi : (p.size : Int) - (m : Int) - (T.size : Int) = (z : Int) := by omega
  have hsi : (s.size : Int) - (z : Int) = ((s.size - z : Nat) : Int) := by omega
  have hpi : (p.size : Int) - (z : Int) = ((k - z : Nat) : Int) := by omega
  have Hzi := Lib.hid hzi
  have Hsi := Lib.hid hsi
  have Hpi := Lib.hid hpi
  clear hps hzi hsi hpi
  go_enter Tryz.func75, Tryz.ntmps75
  go_wp2_with (go_at_call 40; refine (hp _).mono ?_; rintro e w1 ⟨rfl, hb1⟩; obtain ⟨hc1, hf1⟩ := bcell hb1)
  go_at_call 99
  refine (hT _).mono ?_
  rintro e w2 ⟨rfl, rfl⟩
  have hzi := Hzi.out
  have hpb : p.size ≤ 1000000 := by have := Hps.out; omega
  have hTb : T.size ≤ 1000000 := by omega
  have hmb : m ≤ 1000000 := by omega
  have hz0 : (0 : Int) ≤ z := by omega
  have hz1 : (z : Int) ≤ s.size := by omega
  have hz2 : (z : Int) ≤ p.size := by have := Hps.out; omega
  have hi0 : (0 : Int) ≤ (s.size : Int) - (z : Int) := by omega
  have hi1 : (s.size : Int) - (z : Int) ≤ s.size := by omega
  have hi2 : ((s.size : Int) - (z : Int)).toNat = s.size - z := by omega
  have hw1 : wrap64 ((p.size : Int) - (m : Int)) = (p.size : Int) - (m : Int) := w64in _ (by omega) (by omega)
  have hw2 : wrap64 ((p.size : Int) - (m : Int) - (T.size : Int)) = (z : Int) := (w64in _ (by omega) (by omega)).trans hzi
  have hw3 : wrap64 ((s.size : Int) - (z : Int)) = (s.size : Int) - (z : Int) := w64in _ (by omega) (by omega)
  have hw4 : IntKind.i64.wrap ((s.size : Int) - (z : Int)) = (s.size : Int) - (z : Int) := IntWalk.i64_in _ (by omega)
  have hw5 : wrap64 ((p.size : Int) - (z : Int)) = (p.size : Int) - (z : Int) := w64in _ (by omega) (by omega)
  have hw6 : IntKind.i64.wrap ((p.size : Int) - (m : Int)) = (p.size : Int) - (m : Int) := IntWalk.i64_in _ (by omega)
  have hw7 : IntKind.i64.wrap ((p.size : Int) - (m : Int) - (T.size : Int)) = (z : Int) := (IntWalk.i64_in _ (by omega)).trans hzi
  go_wp2_with fail
  go_region
  go_wp2
  have hpi := Hpi.out
  exact bodyPost_ret (v := .agg #[.bool neg, .string (s.extract 0 (s.size - z)), .int .i64 (k - z : Nat)]) (by simp [results, Tryz.results75, go_sem, hc1, hpi]) rfl ⟨rfl, (Below.set3 (below_box2 hb1) (by omega) _ _ _).drew⟩
set_option maxHeartbeats 1000000 in
set_option maxRecDepth 100000 in
theorem pad_same (neg : Bool) (s p : ByteArray) (k : Nat) (y x : Int) (w : World) (hp : PartTo neg s p k) (hps : p.size = k) (hx : min x 40 = y) (hky : y ≤ (k : Int)) :
    Calls Tryz.prog 21 #[.agg #[.bool neg, .string s, .int .i64 k], .int .i64 x] w fun e w' => e = .returned (.agg #[.bool neg, .string s, .int .i64 k]) ∧ Below w.heap.size w w' := by
  have hle : y ≤ (p.size : Int) := by omega
  clear hps
  go_enter Tryz.func21, Tryz.ntmps21
  go_wp2_with (go_at_call 40; refine (hp _).mono ?_; rintro e w1 ⟨rfl, hb1⟩; obtain ⟨hc1, hf1⟩ := bcell hb1)
  exact bodyPost_ret (v := .agg #[.bool neg, .string s, .int .i64 k]) (by simp [results, Tryz.results21, go_sem, hc1]) rfl ⟨rfl, Below.set3 (below_box2 hb1) (by omega) _ _ _⟩
def RepTo (j : Nat) (r : ByteArray) : Prop := ∀ W : World, Calls Tryz.prog 54 #[.string ⟨#[48]⟩, .int .i64 j] W fun e w' => e = .returned (.string r) ∧ Below W.heap.size W w'
theorem RepTo.at_ {j : Nat} {r : ByteArray} (h : RepTo j r) (W : World) : Calls Tryz.prog 54 #[.string ⟨#[48]⟩, .int .i64 j] W fun e w' => e = .returned (.string r) ∧ Below W.heap.size W w' := h W
theorem repeat_noughts (j : Nat) : Lib.repeatL [48] j = List.replicate j 48 := by
  induction j with
  | zero => rfl
  | succ j ih => rw [Lib.repeatL, ih, List.replicate_succ]; rfl
theorem repTo (j : Nat) (h1 : 1 ≤ j) (h2 : j ≤ 1000) : RepTo j ⟨(List.replicate j 48).toArray⟩ := by
  intro W
  by_cases hj : j = 1
  · subst hj
    refine (Tryz.strings_Repeat_one _ W).mono ?_
    rintro e w' ⟨rfl, rfl⟩
    exact ⟨rfl, Below.refl _ _⟩
  · have h := Tryz.strings_Repeat_main ⟨#[48]⟩ j W (by omega) (by omega) (by show 1 * j ≤ _; omega) (by decide)
    have e : (⟨#[48]⟩ : ByteArray).data.toList = [48] := rfl
    rw [e, repeat_noughts] at h
    exact h
theorem boxR {b : Nat} {w W w1 : World} {a0 a1 a2 r0 r1 r2 : Value} (hb : Below W.heap.size W w1) (h : W.cell? ⟨b, 0, none⟩ = some a0 ∧ W.cell? ⟨b, 1, none⟩ = some a1 ∧ W.cell? ⟨b, 2, none⟩ = some a2 ∧ W.cell? ⟨b + 1, 0, none⟩ = some r0 ∧ W.cell? ⟨b + 1, 1, none⟩ = some r1 ∧ W.cell? ⟨b + 1, 2, none⟩ = some r2 ∧ W.frozen? ⟨b + 1, 0, none⟩ = false ∧ W.frozen? ⟨b + 1, 1, none⟩ = false ∧ W.frozen? ⟨b + 1, 2, none⟩ = false ∧ b + 1 + 1 ≤ W.heap.size ∧ Below b w W) : w1.cell? ⟨b, 0, none⟩ = some a0 ∧ w1.cell? ⟨b, 1, none⟩ = some a1 ∧ w1.cell? ⟨b, 2, none⟩ = some a2 ∧ w1.cell? ⟨b + 1, 0, none⟩ = some r0 ∧ w1.cell? ⟨b + 1, 1, none⟩ = some r1 ∧ w1.cell? ⟨b + 1, 2, none⟩ = some r2 ∧ w1.frozen? ⟨b + 1, 0, none⟩ = false ∧ w1.frozen? ⟨b + 1, 1, none⟩ = false ∧ w1.frozen? ⟨b + 1, 2, none⟩ = false ∧ b + 1 + 1 ≤ w1.heap.size ∧ Below b w w1 := by
  obtain ⟨x0, x1, x2, x3, x4, x5, f0, f1, f2, z, hB⟩ := h
  have hz := hb.size
  have c := bcell hb
  exact ⟨(c.1 b 0 (by omega)).trans x0, (c.1 b 1 (by omega)).trans x1, (c.1 b 2 (by omega)).trans x2, (c.1 (b + 1) 0 (by omega)).trans x3, (c.1 (b + 1) 1 (by omega)).trans x4, (c.1 (b + 1) 2 (by omega)).trans x5, (c.2 (b + 1) 0 (by omega)).trans f0, (c.2 (b + 1) 1 (by omega)).trans f1, (c.2 (b + 1) 2 (by omega)).trans f2, by omega, hB.trans (hb.mono (by omega))⟩
theorem boxR_start {w w1 : World} {t1 t2 : TypeId} {a0 a1 a2 r0 r1 r2 : Value} (hb : Below ((w.alloc (.cells #[a0, a1, a2] t1)).alloc (.cells #[r0, r1, r2] t2)).heap.size ((w.alloc (.cells #[a0, a1, a2] t1)).alloc (.cells #[r0, r1, r2] t2)) w1) : w1.cell? ⟨w.heap.size, 0, none⟩ = some a0 ∧ w1.cell? ⟨w.heap.size, 1, none⟩ = some a1 ∧ w1.cell? ⟨w.heap.size, 2, none⟩ = some a2 ∧ w1.cell? ⟨w.heap.size + 1, 0, none⟩ = some r0 ∧ w1.cell? ⟨w.heap.size + 1, 1, none⟩ = some r1 ∧ w1.cell? ⟨w.heap.size + 1, 2, none⟩ = some r2 ∧ w1.frozen? ⟨w.heap.size + 1, 0, none⟩ = false ∧ w1.frozen? ⟨w.heap.size + 1, 1, none⟩ = false ∧ w1.frozen? ⟨w.heap.size + 1, 2, none⟩ = false ∧ w.heap.size + 1 + 1 ≤ w1.heap.size ∧ Below w.heap.size w w1 := by
  refine boxR hb ⟨?_, ?_, ?_, ?_, ?_, ?_, ?_, ?_, ?_, by simp, ((Below.refl _ _).alloc (Nat.le_refl _) _).alloc (by simp) _⟩
  all_goals go_simp
theorem boxR_drew {b : Nat} {w W : World} {a0 a1 a2 r0 r1 r2 : Value} (h : W.cell? ⟨b, 0, none⟩ = some a0 ∧ W.cell? ⟨b, 1, none⟩ = some a1 ∧ W.cell? ⟨b, 2, none⟩ = some a2 ∧ W.cell? ⟨b + 1, 0, none⟩ = some r0 ∧ W.cell? ⟨b + 1, 1, none⟩ = some r1 ∧ W.cell? ⟨b + 1, 2, none⟩ = some r2 ∧ W.frozen? ⟨b + 1, 0, none⟩ = false ∧ W.frozen? ⟨b + 1, 1, none⟩ = false ∧ W.frozen? ⟨b + 1, 2, none⟩ = false ∧ b + 1 + 1 ≤ W.heap.size ∧ Below b w W) : W.drew.cell? ⟨b, 0, none⟩ = some a0 ∧ W.drew.cell? ⟨b, 1, none⟩ = some a1 ∧ W.drew.cell? ⟨b, 2, none⟩ = some a2 ∧ W.drew.cell? ⟨b + 1, 0, none⟩ = some r0 ∧ W.drew.cell? ⟨b + 1, 1, none⟩ = some r1 ∧ W.drew.cell? ⟨b + 1, 2, none⟩ = some r2 ∧ W.drew.frozen? ⟨b + 1, 0, none⟩ = false ∧ W.drew.frozen? ⟨b + 1, 1, none⟩ = false ∧ W.drew.frozen? ⟨b + 1, 2, none⟩ = false ∧ b + 1 + 1 ≤ W.drew.heap.size ∧ Below b w W.drew := boxR (Below.refl _ _).drew h
set_option maxHeartbeats 1000000 in
set_option maxRecDepth 100000 in
theorem pad_more (neg : Bool) (s p r : ByteArray) (k m : Nat) (x : Int) (w : World) (hs : s.size ≤ 1000000) (hp : PartTo neg s p k) (hps : p.size = k) (hx : min x 40 = (m : Int)) (hm : k < m) (hr : RepTo (m - k) r) (hrs : r.size ≤ 1000000) :
    Calls Tryz.prog 21 #[.agg #[.bool neg, .string s, .int .i64 k], .int .i64 x] w fun e w' => e = .returned (.agg #[.bool neg, .string (s ++ r), .int .i64 m]) ∧ Below w.heap.size w w' := by
  have hle : ¬ (m : Int) ≤ (p.size : Int) := by omega
  have hsub : (m : Int) - (p.size : Int) = ((m - k : Nat) : Int) := by omega
  have Hsub := Lib.hid hsub
  clear hps hsub
  have hcat : ¬ 9223372036854775807 < s.size + r.size := by omega
  go_enter Tryz.func21, Tryz.ntmps21
  go_wp2_with (go_at_call 40; refine (hp _).mono ?_; rintro e w1 ⟨rfl, hb1⟩; obtain ⟨hc1, hf1⟩ := bcell hb1)
  have hsub := Hsub.out
  have hw1 : wrap64 ((m : Int) - (p.size : Int)) = ((m - k : Nat) : Int) := (w64in _ (by omega) (by omega)).trans hsub
  have hw2 : IntKind.i64.wrap ((m : Int) - (p.size : Int)) = ((m - k : Nat) : Int) := (IntWalk.i64_in _ (by omega)).trans hsub
  have hw3 : IntKind.i64.wrap ((m - k : Nat) : Int) = ((m - k : Nat) : Int) := IntWalk.i64_in _ (by omega)
  have hw4 : wrap64 ((m - k : Nat) : Int) = ((m - k : Nat) : Int) := w64in _ (by omega) (by omega)
  have hb1' := below_box2 hb1
  have hz1 := hb1.size
  have KS0 := Lib.hid (boxR_start hb1)
  obtain ⟨c0, c1, c2, c3, c4, c5, g0, g1, g2, zz, hBB⟩ := boxR_start hb1
  have zz1 : w.heap.size + 1 < w1.heap.size := zz
  have zz0 : w.heap.size < w1.heap.size := by omega
  clear hz1 hc1 hf1 hb1
  (go_region_with (first | (go_at_call 54; (with_reducible refine (hr.at_ _).mono ?_); rintro e w2 ⟨rfl, hb2⟩; obtain ⟨c0', c1', c2', c3', c4', c5', g0', g1', g2', zz', hBB'⟩ := boxR hb2 (boxR_drew KS0.out))))
  all_goals
    go_wp2
    exact bodyPost_ret (v := .agg #[.bool neg, .string (s ++ r), .int .i64 m]) (by simp [results, Tryz.results21, go_sem, c3', c4', c5']) rfl ⟨rfl, Below.set3 hBB' (by omega) _ _ _⟩
theorem trim_any (n : Bool) (s : ByteArray) (k m : Nat) (x : Int) (w : World) (hs : s.size ≤ 1000) (hk : k ≤ s.size) (hx : max x 0 = (m : Int)) :
    Calls Tryz.prog 75 #[.agg #[.bool n, .string s, .int .i64 k], .int .i64 x] w fun e w' => e = .returned (if m < k then .agg #[.bool n, .string (s.extract 0 (s.size - trimZ s.data.toList k m)), .int .i64 (k - trimZ s.data.toList k m : Nat)] else .agg #[.bool n, .string s, .int .i64 k]) ∧ Below w.heap.size w w' := by
  have hp := partTo n s k (by unfold maxLen; omega) hk
  have hps : (s.extract (s.size - k) s.size).size = k := by simp; omega
  by_cases hm : m < k
  · rw [if_pos hm]
    have hl : ((s.extract (s.size - k) s.size).extract m (s.extract (s.size - k) s.size).size).data.toList = s.data.toList.drop (s.data.toList.length - k + m) := by
      rw [extract_drop, extract_drop, List.drop_drop, size_data]
    have hT := trimRTo ((s.extract (s.size - k) s.size).extract m (s.extract (s.size - k) s.size).size) (by simp; omega)
    rw [hl] at hT
    have hz := (trim_split s.data.toList k m (by rw [size_data]; exact hk) hm).2.2
    exact trim_less n s _ _ k m _ x w (by omega) hk hp hps hx hm hT (by rw [size_mk]; exact hz)
  · rw [if_neg hm]
    exact trim_same n s _ k m x w hp hps hx (by omega)
theorem pad_any (n : Bool) (s : ByteArray) (k : Nat) (x : Int) (w : World) (hs : s.size ≤ 1000) (hk : k ≤ s.size) :
    Calls Tryz.prog 21 #[.agg #[.bool n, .string s, .int .i64 k], .int .i64 x] w fun e w' => e = .returned (.agg #[.bool n, .string (s ++ ⟨(List.replicate ((min x 40).toNat - k) 48).toArray⟩), .int .i64 (k + ((min x 40).toNat - k) : Nat)]) ∧ Below w.heap.size w w' := by
  have hp := partTo n s k (by unfold maxLen; omega) hk
  have hps : (s.extract (s.size - k) s.size).size = k := by simp; omega
  by_cases hm : (k : Int) < min x 40
  · have hmn : min x 40 = (((min x 40).toNat : Nat) : Int) := by omega
    have h := pad_more n s _ ⟨(List.replicate ((min x 40).toNat - k) 48).toArray⟩ k (min x 40).toNat x w (by omega) hp hps hmn (by omega) (repTo _ (by omega) (by omega)) (by rw [size_mk, List.length_replicate]; omega)
    have e : k + ((min x 40).toNat - k) = (min x 40).toNat := by omega
    rw [e]
    exact h
  · have e : (min x 40).toNat - k = 0 := by omega
    have e2 : s ++ (⟨([] : List UInt8).toArray⟩ : ByteArray) = s := by
      apply bytes_eq
      simp
    rw [e, List.replicate_zero, Nat.add_zero, e2]
    exact pad_same n s _ k _ x w hp hps rfl (by omega)
end Go.Proofs.YtglennfjeacpoaaGreatDoor
