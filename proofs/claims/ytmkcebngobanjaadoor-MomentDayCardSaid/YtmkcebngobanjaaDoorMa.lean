/-
  Package moment: a number with so many digits; the law's own two and four.
-/
import Derived.Test.YtmkcebngobanjaaDoorA4i
import Derived.Test.YtmkcebngobanjaaDoorShelf
import Derived.Deep.QuietTactic
import Derived.BigQuiet
namespace Go.Proofs.YtmkcebngobanjaaDoor
open Go.RowKit
set_option linter.unusedVariables false
set_option linter.unusedSimpArgs false

def itB (n : Int) : ByteArray := ⟨(Lib.itoa n).toArray⟩
def zrB (k : Nat) : ByteArray := ⟨(List.replicate k (48 : UInt8)).toArray⟩
def dgB (n : Int) (l : Nat) : ByteArray := if n < 0 then ⟨#[45]⟩ ++ (zrB (l - (itB (-n)).size) ++ itB (-n)) else zrB (l - (itB n).size) ++ itB n
theorem itB_pos {n : Int} (h : 0 ≤ n) : Lib.itoa n = Lib.decDigits n.toNat := by unfold Lib.itoa; rw [if_neg (by omega)]
theorem itB_size {n : Int} (h : 0 ≤ n) : (itB n).size = Lib.nDigits n.toNat := by
  unfold itB
  rw [size_mk, itB_pos h, Lib.decDigits_length]
theorem itB_bd {n : Int} (h : 0 ≤ n) (h1 : n ≤ 1000000000) : 1 ≤ (itB n).size ∧ (itB n).size ≤ 10 := by
  rw [itB_size h]
  exact ⟨Lib.nDigits_pos _, nDigits_le 9 _ (by omega)⟩
theorem zrB_size (k : Nat) : (zrB k).size = k := by unfold zrB; rw [size_mk, List.length_replicate]
theorem zrB_zero (a : ByteArray) : zrB 0 ++ a = a := by
  apply bytes_eq
  rw [ByteArray.data_append, Array.toList_append]
  rfl
theorem zrB_succ (k : Nat) (a : ByteArray) : (⟨#[48]⟩ : ByteArray) ++ (zrB k ++ a) = zrB (k + 1) ++ a := by
  apply bytes_eq
  simp only [ByteArray.data_append, Array.toList_append, zrB, List.replicate_succ]
  rfl
theorem itoa_any (n : Int) (h0 : -9223372036854775808 ≤ n) (h1 : n ≤ 9223372036854775807) (w : World) (ht : TabPow w) :
    Calls Tryd.prog 18 #[.int .i64 n] w fun e w' => e = .returned (.string (itB n)) ∧ Below w.heap.size w w' := by
  refine (Tryd.strconv_Itoa n h0 h1 w ht).mono ?_
  rintro e w' ⟨he, k, os, rfl⟩
  exact ⟨he, Lib.below_grow _ w (Nat.le_refl _) k os⟩
theorem repeatZ (n : Nat) : Lib.repeatL [48] n = List.replicate n (48 : UInt8) := by
  induction n with
  | zero => rfl
  | succ n ih => rw [Lib.repeatL, ih, List.replicate_succ]; rfl
theorem repZ_any (n : Nat) (w : World) (hn : n ≤ 4000000) : Calls Tryd.prog 28 #[.string ⟨#[48]⟩, .int .i64 n] w fun e w' => e = .returned (.string (zrB n)) ∧ Below w.heap.size w w' := by
  have h := Tryd.strings_Repeat ⟨#[48]⟩ n w (by omega) (by show 1 * n ≤ _; omega)
  rw [show (⟨#[48]⟩ : ByteArray).data.toList = [48] from rfl, repeatZ] at h
  exact h
set_option maxHeartbeats 1000000 in
theorem digits_any (n : Int) (l : Nat) (h0 : -1000000000 ≤ n) (h1 : n ≤ 1000000000) (hl : l ≤ 10) (w : World) (ht : TabPow w) :
    Calls Tryd.prog 23 #[.int .i64 n, .int .i64 l] w fun e w' => e = .returned (.string (dgB n l)) ∧ Below w.heap.size w w' := by
  have Ht := Lib.hid ht
  clear ht
  by_cases hn : n < 0
  · have hd : decide (n < 0) = true := decide_eq_true hn
    have hm : max n (-n) = -n := by omega
    have hb := itB_bd (n := -n) (by omega) (by omega)
    have hI := fun W hT => itoa_any (-n) (by omega) (by omega) W hT
    have hg : dgB n l = ⟨#[45]⟩ ++ (zrB (l - (itB (-n)).size) ++ itB (-n)) := by unfold dgB; rw [if_pos hn]
    rw [hg]
    generalize itB (-n) = a at *
    obtain ⟨b0, b1⟩ := hb
    have hr : max ((l : Int) - (a.size : Int)) 0 = ((l - a.size : Nat) : Int) := by omega
    have hz := zrB_size (l - a.size)
    have hR := fun W => repZ_any (l - a.size) W (by omega)
    have hk : l - a.size ≤ 10 := by omega
    generalize l - a.size = k at *
    have hs : (zrB k ++ a).size ≤ 30 := by rw [ByteArray.size_append]; omega
    generalize hZ : zrB k = Z at *
    have HI := Lib.hid hI
    have HR := Lib.hid hR
    clear hg hI hR hZ
    go_enter Tryd.func23, Tryd.ntmps23
    go_wp2_with fail
    go_at_call 18
    refine (HI.out _ Ht.out).mono ?_
    rintro e w1 ⟨rfl, hb1⟩
    go_wp2_with fail
    go_at_call 28
    refine (HR.out _).mono ?_
    rintro e w2 ⟨rfl, hb2⟩
    go_wp2
    go_ret
    exact ⟨rfl, below_then hb1 (Nat.le_refl _) hb2⟩
  · have hd : decide (n < 0) = false := decide_eq_false hn
    have hm : max n (-n) = n := by omega
    have hb := itB_bd (n := n) (by omega) (by omega)
    have hI := fun W hT => itoa_any n (by omega) (by omega) W hT
    have hg : dgB n l = zrB (l - (itB n).size) ++ itB n := by unfold dgB; rw [if_neg hn]
    rw [hg]
    generalize itB n = a at *
    obtain ⟨b0, b1⟩ := hb
    have hr : max ((l : Int) - (a.size : Int)) 0 = ((l - a.size : Nat) : Int) := by omega
    have hz := zrB_size (l - a.size)
    have hR := fun W => repZ_any (l - a.size) W (by omega)
    have hk : l - a.size ≤ 10 := by omega
    generalize l - a.size = k at *
    have hs : (zrB k ++ a).size ≤ 30 := by rw [ByteArray.size_append]; omega
    generalize hZ : zrB k = Z at *
    have HI := Lib.hid hI
    have HR := Lib.hid hR
    clear hg hI hR hZ
    go_enter Tryd.func23, Tryd.ntmps23
    go_wp2_with fail
    go_at_call 18
    refine (HI.out _ Ht.out).mono ?_
    rintro e w1 ⟨rfl, hb1⟩
    go_wp2_with fail
    go_at_call 28
    refine (HR.out _).mono ?_
    rintro e w2 ⟨rfl, hb2⟩
    go_wp2
    go_ret
    exact ⟨rfl, below_then hb1 (Nat.le_refl _) hb2⟩
end Go.Proofs.YtmkcebngobanjaaDoor
