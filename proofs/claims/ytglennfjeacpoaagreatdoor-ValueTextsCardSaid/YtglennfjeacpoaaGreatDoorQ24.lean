/-
  Several texts put together (part 24): what the law and the program call, walked; their contracts.
-/
import Derived.Test.YtglennfjeacpoaaGreatDoorQ23
import Derived.Test.YtglennfjeacpoaaGreatDoorQ9
import Derived.Deep.QuietTactic
import Derived.BigQuiet
import Derived.Lib.TrimByte
namespace Go.Proofs.YtglennfjeacpoaaGreatDoor
open Go.RowKit
set_option linter.unusedVariables false
set_option linter.unusedSimpArgs false
def itB (n : Int) : ByteArray := ⟨(Lib.itoa n).toArray⟩
def zrB (k : Nat) : ByteArray := ⟨(List.replicate k (48 : UInt8)).toArray⟩
def dgB (n : Int) (l : Nat) : ByteArray := if n < 0 then ⟨#[45]⟩ ++ (zrB (l - (itB (-n)).size) ++ itB (-n)) else zrB (l - (itB n).size) ++ itB n
theorem itB_pos {n : Int} (h : 0 ≤ n) : Lib.itoa n = Lib.decDigits n.toNat := by unfold Lib.itoa; rw [if_neg (by omega)]
theorem itB_size {n : Int} (h : 0 ≤ n) : (itB n).size = Lib.nDigits n.toNat := by
  unfold itB
  rw [size_mk, itB_pos h, Lib.decDigits_length]
theorem itB_bd {n : Int} (h : 0 ≤ n) (h1 : n ≤ 1000000000) : 1 ≤ (itB n).size ∧ (itB n).size ≤ 10 := by
  rw [itB_size h]
  exact ⟨Lib.nDigits_pos _, nDigits_le 9 _ (by omega)⟩
theorem zrB_size (k : Nat) : (zrB k).size = k := by unfold zrB; rw [size_mk, List.length_replicate]
theorem zrB_zero (a : ByteArray) : zrB 0 ++ a = a := by
  apply bytes_eq
  rw [ByteArray.data_append, Array.toList_append]
  rfl
theorem zrB_succ (k : Nat) (a : ByteArray) : (⟨#[48]⟩ : ByteArray) ++ (zrB k ++ a) = zrB (k + 1) ++ a := by
  apply bytes_eq
  simp only [ByteArray.data_append, Array.toList_append, zrB, List.replicate_succ]
  rfl
theorem itoa_any (n : Int) (h0 : -9223372036854775808 ≤ n) (h1 : n ≤ 9223372036854775807) (w : World) (ht : TabPow w) :
    Calls Tryz.prog 46 #[.int .i64 n] w fun e w' => e = .returned (.string (itB n)) ∧ Below w.heap.size w w' := by
  refine (Tryz.strconv_Itoa n h0 h1 w ht).mono ?_
  rintro e w' ⟨he, k, os, rfl⟩
  exact ⟨he, Lib.below_grow _ w (Nat.le_refl _) k os⟩
theorem repeatZ (n : Nat) : Lib.repeatL [48] n = List.replicate n (48 : UInt8) := by
  induction n with
  | zero => rfl
  | succ n ih => rw [Lib.repeatL, ih, List.replicate_succ]; rfl
theorem repZ_any (n : Nat) (w : World) (hn : n ≤ 4000000) : Calls Tryz.prog 54 #[.string ⟨#[48]⟩, .int .i64 n] w fun e w' => e = .returned (.string (zrB n)) ∧ Below w.heap.size w w' := by
  have h := Tryz.strings_Repeat ⟨#[48]⟩ n w (by omega) (by show 1 * n ≤ _; omega)
  rw [show (⟨#[48]⟩ : ByteArray).data.toList = [48] from rfl, repeatZ] at h
  exact h
set_option maxHeartbeats 1000000 in
theorem digits_any (n : Int) (l : Nat) (h0 : -1000000000 ≤ n) (h1 : n ≤ 1000000000) (hl : l ≤ 10) (w : World) (ht : TabPow w) :
    Calls Tryz.prog 142 #[.int .i64 n, .int .i64 l] w fun e w' => e = .returned (.string (dgB n l)) ∧ Below w.heap.size w w' := by
  have Ht := Lib.hid ht
  clear ht
  by_cases hn : n < 0
  · have hd : decide (n < 0) = true := decide_eq_true hn
    have hm : max n (-n) = -n := by omega
    have hb := itB_bd (n := -n) (by omega) (by omega)
    have hI := fun W hT => itoa_any (-n) (by omega) (by omega) W hT
    have hg : dgB n l = ⟨#[45]⟩ ++ (zrB (l - (itB (-n)).size) ++ itB (-n)) := by unfold dgB; rw [if_pos hn]
    rw [hg]
    generalize itB (-n) = a at *
    obtain ⟨b0, b1⟩ := hb
    have hr : max ((l : Int) - (a.size : Int)) 0 = ((l - a.size : Nat) : Int) := by omega
    have hz := zrB_size (l - a.size)
    have hR := fun W => repZ_any (l - a.size) W (by omega)
    have hk : l - a.size ≤ 10 := by omega
    generalize l - a.size = k at *
    have hs : (zrB k ++ a).size ≤ 30 := by rw [ByteArray.size_append]; omega
    generalize hZ : zrB k = Z at *
    have HI := Lib.hid hI
    have HR := Lib.hid hR
    clear hg hI hR hZ
    go_enter Tryz.func142, Tryz.ntmps142
    go_wp2_with fail
    go_at_call 46
    refine (HI.out _ Ht.out).mono ?_
    rintro e w1 ⟨rfl, hb1⟩
    go_wp2_with fail
    go_at_call 54
    refine (HR.out _).mono ?_
    rintro e w2 ⟨rfl, hb2⟩
    go_wp2
    go_ret
    exact ⟨rfl, below_then hb1 (Nat.le_refl _) hb2⟩
  · have hd : decide (n < 0) = false := decide_eq_false hn
    have hm : max n (-n) = n := by omega
    have hb := itB_bd (n := n) (by omega) (by omega)
    have hI := fun W hT => itoa_any n (by omega) (by omega) W hT
    have hg : dgB n l = zrB (l - (itB n).size) ++ itB n := by unfold dgB; rw [if_neg hn]
    rw [hg]
    generalize itB n = a at *
    obtain ⟨b0, b1⟩ := hb
    have hr : max ((l : Int) - (a.size : Int)) 0 = ((l - a.size : Nat) : Int) := by omega
    have hz := zrB_size (l - a.size)
    have hR := fun W => repZ_any (l - a.size) W (by omega)
    have hk : l - a.size ≤ 10 := by omega
    generalize l - a.size = k at *
    have hs : (zrB k ++ a).size ≤ 30 := by rw [ByteArray.size_append]; omega
    generalize hZ : zrB k = Z at *
    have HI := Lib.hid hI
    have HR := Lib.hid hR
    clear hg hI hR hZ
    go_enter Tryz.func142, Tryz.ntmps142
    go_wp2_with fail
    go_at_call 46
    refine (HI.out _ Ht.out).mono ?_
    rintro e w1 ⟨rfl, hb1⟩
    go_wp2_with fail
    go_at_call 54
    refine (HR.out _).mono ?_
    rintro e w2 ⟨rfl, hb2⟩
    go_wp2
    go_ret
    exact ⟨rfl, below_then hb1 (Nat.le_refl _) hb2⟩
end Go.Proofs.YtglennfjeacpoaaGreatDoor

namespace Go.Proofs.YtglennfjeacpoaaGreatDoor
open Go.RowKit
set_option linter.unusedVariables false
set_option linter.unusedSimpArgs false
def lkI (x : ByteArray) : Nat :=
  if (x.toList == [101, 110]) = true then 0
  else if (x.toList == [100, 101] || x.toList == [99, 115] || x.toList == [112, 108] || x.toList == [114, 117]) = true then 1
  else if (x.toList == [102, 114] || x.toList == [101, 115]) = true then 2 else 3
inductive LangC : ByteArray → Prop
  | en : LangC ⟨#[101, 110]⟩
  | de : LangC ⟨#[100, 101]⟩
  | cs : LangC ⟨#[99, 115]⟩
  | pl : LangC ⟨#[112, 108]⟩
  | ru : LangC ⟨#[114, 117]⟩
  | fr : LangC ⟨#[102, 114]⟩
  | es : LangC ⟨#[101, 115]⟩
  | no {x : ByteArray} (q0 : (x.toList == [101, 110]) = false) (q1 : (x.toList == [100, 101]) = false) (q2 : (x.toList == [99, 115]) = false) (q3 : (x.toList == [112, 108]) = false) (q4 : (x.toList == [114, 117]) = false) (q5 : (x.toList == [102, 114]) = false) (q6 : (x.toList == [101, 115]) = false) : LangC x
theorem xM_eq {x : ByteArray} {l : List UInt8} (h : (x.toList == l) = true) : x = ⟨l.toArray⟩ := by
  apply bytes_eq
  rw [← Lib.toList_data, beq_iff_eq.1 h]
theorem langC (x : ByteArray) : LangC x := by
  cases q0 : (x.toList == [101, 110])
  case true => rw [xM_eq q0]; exact .en
  cases q1 : (x.toList == [100, 101])
  case true => rw [xM_eq q1]; exact .de
  cases q2 : (x.toList == [99, 115])
  case true => rw [xM_eq q2]; exact .cs
  cases q3 : (x.toList == [112, 108])
  case true => rw [xM_eq q3]; exact .pl
  cases q4 : (x.toList == [114, 117])
  case true => rw [xM_eq q4]; exact .ru
  cases q5 : (x.toList == [102, 114])
  case true => rw [xM_eq q5]; exact .fr
  cases q6 : (x.toList == [101, 115])
  case true => rw [xM_eq q6]; exact .es
  exact .no q0 q1 q2 q3 q4 q5 q6
theorem lk_no {x : ByteArray} (q0 : (x.toList == [101, 110]) = false) (q1 : (x.toList == [100, 101]) = false) (q2 : (x.toList == [99, 115]) = false) (q3 : (x.toList == [112, 108]) = false) (q4 : (x.toList == [114, 117]) = false) (q5 : (x.toList == [102, 114]) = false) (q6 : (x.toList == [101, 115]) = false) : lkI x = 3 := by
  unfold lkI
  rw [q0, q1, q2, q3, q4, q5, q6]
  rfl
theorem lk_en : lkI ⟨#[101, 110]⟩ = 0 := by decide +kernel
theorem lk_de : lkI ⟨#[100, 101]⟩ = 1 := by decide +kernel
theorem lk_cs : lkI ⟨#[99, 115]⟩ = 1 := by decide +kernel
theorem lk_pl : lkI ⟨#[112, 108]⟩ = 1 := by decide +kernel
theorem lk_ru : lkI ⟨#[114, 117]⟩ = 1 := by decide +kernel
theorem lk_fr : lkI ⟨#[102, 114]⟩ = 2 := by decide +kernel
theorem lk_es : lkI ⟨#[101, 115]⟩ = 2 := by decide +kernel
def hrI (h : Int) : Int := (h + 11) % 12 + 1
def halfB (h : Int) : ByteArray := if 12 ≤ h then ⟨#[32, 80, 77]⟩ else ⟨#[32, 65, 77]⟩
def clB (k : Nat) (h mi : Int) : ByteArray := if k = 0 then (dgB (hrI h) 1 ++ (⟨#[58]⟩ ++ dgB mi 2)) ++ halfB h else dgB h 2 ++ (⟨#[58]⟩ ++ dgB mi 2)
def dayB (k : Nat) (y m d : Int) : ByteArray :=
  if k = 0 then (((dgB m 1 ++ ⟨#[47]⟩) ++ dgB d 1) ++ ⟨#[47]⟩) ++ dgB y 4
  else if k = 1 then (((dgB d 2 ++ ⟨#[46]⟩) ++ dgB m 2) ++ ⟨#[46]⟩) ++ dgB y 4
  else if k = 2 then (((dgB d 2 ++ ⟨#[47]⟩) ++ dgB m 2) ++ ⟨#[47]⟩) ++ dgB y 4
  else (((dgB y 4 ++ ⟨#[45]⟩) ++ dgB m 2) ++ ⟨#[45]⟩) ++ dgB d 2
def btB (k : Nat) : ByteArray := if k = 0 then ⟨#[44, 32]⟩ else ⟨#[32]⟩
def fmB (k : Nat) (st : Int) (y m d h mi : Int) : ByteArray := if st = 1 then clB k h mi else if st = 2 then (dayB k y m d ++ btB k) ++ clB k h mi else dayB k y m d
-- sizes
theorem dgB_size {n : Int} (h0 : -1000000000 ≤ n) (h1 : n ≤ 1000000000) (l : Nat) (hl : l ≤ 10) : 1 ≤ (dgB n l).size ∧ (dgB n l).size ≤ 11 := by
  unfold dgB
  split
  · rename_i h
    have := itB_bd (n := -n) (by omega) (by omega)
    rw [ByteArray.size_append, ByteArray.size_append, zrB_size, show (⟨#[45]⟩ : ByteArray).size = 1 from rfl]
    omega
  · rename_i h
    have := itB_bd (n := n) (by omega) (by omega)
    rw [ByteArray.size_append, zrB_size]
    omega
theorem dg2_size {n : Int} (h0 : 0 ≤ n) (h1 : n ≤ 99) : (dgB n 2).size = 2 := by
  unfold dgB
  rw [if_neg (by omega), ByteArray.size_append, zrB_size]
  have h2 := itB_size h0
  have h3 := nDigits_le 1 n.toNat (by omega)
  omega
-- a number's digits tell it
def nvL (l : List UInt8) : Nat := l.foldl (fun a c => 10 * a + (c.toNat - 48)) 0
theorem nvL_snoc (l : List UInt8) (c : UInt8) : nvL (l ++ [c]) = 10 * nvL l + (c.toNat - 48) := by
  unfold nvL; rw [List.foldl_append]; rfl
theorem nvL_digits (u : Nat) : nvL (Lib.decDigits u) = u := by
  induction u using Nat.strongRecOn with
  | _ u ih =>
    rw [Lib.decDigits]
    split
    · rename_i h
      show 10 * 0 + ((UInt8.ofNat (48 + u)).toNat - 48) = _
      have : (UInt8.ofNat (48 + u)).toNat = 48 + u := by rw [UInt8.toNat_ofNat']; omega
      omega
    · rename_i h
      rw [nvL_snoc, ih (u / 10) (by omega)]
      have : (UInt8.ofNat (48 + u % 10)).toNat = 48 + u % 10 := by rw [UInt8.toNat_ofNat']; omega
      omega
theorem nvL_zeros (l : List UInt8) : ∀ k : Nat, nvL (List.replicate k 48 ++ l) = nvL l
  | 0 => rfl
  | k + 1 => by
    rw [List.replicate_succ, List.cons_append]
    exact nvL_zeros l k
theorem dgB_list {n : Int} (h0 : 0 ≤ n) (l : Nat) : (dgB n l).data.toList = List.replicate (l - (itB n).size) 48 ++ Lib.decDigits n.toNat := by
  unfold dgB
  rw [if_neg (by omega), ByteArray.data_append, Array.toList_append]
  unfold zrB itB
  rw [itB_pos h0]
theorem dgB_val {n : Int} (h0 : 0 ≤ n) (l : Nat) : (nvL (dgB n l).data.toList : Int) = n := by
  rw [dgB_list h0, nvL_zeros, nvL_digits]
  omega
theorem dgB_dig {n : Int} (h0 : 0 ≤ n) (l : Nat) : (dgB n l).data.toList.all digB = true := by
  rw [dgB_list h0, List.all_append, decDigits_all, Bool.and_true]
  exact List.all_eq_true.2 fun c hc => by rw [(List.mem_replicate.1 hc).2]; decide
theorem dgB_inj {n n' : Int} (h0 : 0 ≤ n) (h0' : 0 ≤ n') {l : Nat} (h : (dgB n l).data.toList = (dgB n' l).data.toList) : n = n' := by
  rw [← dgB_val h0 l, ← dgB_val h0' l, h]
theorem sep_inj (c : UInt8) (hc : digB c = false) : ∀ (a a' r r' : List UInt8), a.all digB = true → a'.all digB = true → a ++ c :: r = a' ++ c :: r' → a = a' ∧ r = r'
  | [], [], r, r', _, _, h => ⟨rfl, by simpa using h⟩
  | [], x :: a', r, r', _, h', h => by
    have e : c = x := by simpa using congrArg List.head? h
    rw [← e, List.all_cons, hc] at h'
    cases h'
  | x :: a, [], r, r', h', _, h => by
    have e : x = c := by simpa using congrArg List.head? h
    rw [e, List.all_cons, hc] at h'
    cases h'
  | x :: a, y :: a', r, r', h1, h2, h => by
    rw [List.cons_append, List.cons_append, List.cons.injEq] at h
    rw [List.all_cons, Bool.and_eq_true] at h1 h2
    obtain ⟨e1, e2⟩ := sep_inj c hc a a' r r' h1.2 h2.2 h.2
    exact ⟨by rw [h.1, e1], e2⟩
theorem app_data (a b : ByteArray) : (a ++ b).data.toList = a.data.toList ++ b.data.toList := by rw [ByteArray.data_append, Array.toList_append]
theorem day_inj (k : Nat) {y m d y' m' d' : Int} (hm : 1 ≤ m ∧ m ≤ 12) (hd : 1 ≤ d ∧ d ≤ 31) (hm' : 1 ≤ m' ∧ m' ≤ 12) (hd' : 1 ≤ d' ∧ d' ≤ 31) (h : dayB k y m d = dayB k y' m' d') : d = d' := by
  have hs := dg2_size (n := d) (by omega) (by omega)
  have hs' := dg2_size (n := d') (by omega) (by omega)
  have hl : (dgB d 2).data.toList.length = (dgB d' 2).data.toList.length := by rw [size_data, size_data, hs, hs']
  have h := congrArg (fun x : ByteArray => x.data.toList) h
  simp only [dayB] at h
  split at h
  · simp only [app_data, List.append_assoc] at h
    obtain ⟨_, h⟩ := sep_inj 47 (by decide) _ _ _ _ (dgB_dig (by omega) 1) (dgB_dig (by omega) 1) h
    obtain ⟨h, _⟩ := sep_inj 47 (by decide) _ _ _ _ (dgB_dig (by omega) 1) (dgB_dig (by omega) 1) h
    exact dgB_inj (by omega) (by omega) h
  · split at h
    · simp only [app_data, List.append_assoc] at h
      exact dgB_inj (by omega) (by omega) (List.append_inj_left h hl)
    · split at h
      · simp only [app_data, List.append_assoc] at h
        exact dgB_inj (by omega) (by omega) (List.append_inj_left h hl)
      · rw [app_data _ (dgB d 2), app_data _ (dgB d' 2)] at h
        exact dgB_inj (by omega) (by omega) (List.append_inj_right' h hl)
theorem cl_inj (k : Nat) {h mi h' mi' : Int} (hm : 0 ≤ mi ∧ mi ≤ 59) (hm' : 0 ≤ mi' ∧ mi' ≤ 59) (e : clB k h mi = clB k h' mi') : mi = mi' := by
  have hs := dg2_size (n := mi) (by omega) (by omega)
  have hs' := dg2_size (n := mi') (by omega) (by omega)
  have hl : (dgB mi 2).data.toList.length = (dgB mi' 2).data.toList.length := by rw [size_data, size_data, hs, hs']
  have hh : (halfB h).data.toList.length = (halfB h').data.toList.length := by
    unfold halfB
    split <;> split <;> rfl
  have e := congrArg (fun x : ByteArray => x.data.toList) e
  simp only [clB] at e
  split at e
  · rw [app_data _ (halfB h), app_data _ (halfB h')] at e
    have e := List.append_inj_left' e hh
    simp only [app_data] at e
    rw [← List.append_assoc, ← List.append_assoc] at e
    exact dgB_inj (by omega) (by omega) (List.append_inj_right' e hl)
  · simp only [app_data] at e
    rw [← List.append_assoc, ← List.append_assoc] at e
    exact dgB_inj (by omega) (by omega) (List.append_inj_right' e hl)
theorem cl_size (k : Nat) {h mi : Int} (hh : 0 ≤ h ∧ h ≤ 23) (hm : 0 ≤ mi ∧ mi ≤ 59) : 1 ≤ (clB k h mi).size ∧ (clB k h mi).size ≤ 100 := by
  have h1 := dgB_size (n := hrI h) (by unfold hrI; omega) (by unfold hrI; omega) 1 (by omega)
  have h2 := dgB_size (n := h) (by omega) (by omega) 2 (by omega)
  have h3 := dgB_size (n := mi) (by omega) (by omega) 2 (by omega)
  have h4 : (halfB h).size = 3 := by unfold halfB; split <;> rfl
  have h5 : (⟨#[58]⟩ : ByteArray).size = 1 := rfl
  unfold clB
  split
  · simp only [ByteArray.size_append]; omega
  · simp only [ByteArray.size_append]; omega
theorem day_size (k : Nat) {y m d : Int} (hy : -1000000000 ≤ y ∧ y ≤ 1000000000) (hm : 1 ≤ m ∧ m ≤ 12) (hd : 1 ≤ d ∧ d ≤ 31) : (dayB k y m d).size ≤ 100 := by
  have h1 := dgB_size hy.1 hy.2 4 (by omega)
  have h2 := dgB_size (n := m) (by omega) (by omega) 1 (by omega)
  have h3 := dgB_size (n := m) (by omega) (by omega) 2 (by omega)
  have h4 := dgB_size (n := d) (by omega) (by omega) 1 (by omega)
  have h5 := dgB_size (n := d) (by omega) (by omega) 2 (by omega)
  have e1 : (⟨#[47]⟩ : ByteArray).size = 1 := rfl
  have e2 : (⟨#[46]⟩ : ByteArray).size = 1 := rfl
  have e3 : (⟨#[45]⟩ : ByteArray).size = 1 := rfl
  unfold dayB
  repeat' split
  all_goals (simp only [ByteArray.size_append]; omega)
-- the law's own
theorem two_lt {n : Int} (h0 : 0 ≤ n) (h : n < 10) : dgB n 2 = ⟨#[48]⟩ ++ itB n := by
  have h2 := itB_size h0
  rw [Lib.nDigits_small (by omega)] at h2
  unfold dgB
  rw [if_neg (by omega), h2]
  rfl
theorem two_ge {n : Int} (h0 : 10 ≤ n) : dgB n 2 = itB n := by
  have h2 := itB_size (n := n) (by omega)
  rw [Lib.nDigits_big (by omega)] at h2
  have := Lib.nDigits_pos (n.toNat / 10)
  unfold dgB
  rw [if_neg (by omega), show 2 - (itB n).size = 0 by omega, zrB_zero]
theorem one_ge {n : Int} (h0 : 0 ≤ n) : dgB n 1 = itB n := by
  have h2 := itB_size (n := n) (by omega)
  have := Lib.nDigits_pos n.toNat
  unfold dgB
  rw [if_neg (by omega), show 1 - (itB n).size = 0 by omega, zrB_zero]
end Go.Proofs.YtglennfjeacpoaaGreatDoor

namespace Go.Proofs.YtglennfjeacpoaaGreatDoor
open Go.RowKit
set_option linter.unusedVariables false
set_option linter.unusedSimpArgs false
set_option maxHeartbeats 1000000 in
theorem ltwo_any (n : Int) (h0 : 0 ≤ n) (h1 : n ≤ 99) (w : World) (ht : TabPow w) :
    Calls Tryz.prog 45 #[.int .i64 n] w fun e w' => e = .returned (.string (dgB n 2)) ∧ Below w.heap.size w w' := by
  have hI := fun W hT => itoa_any n (by omega) (by omega) W hT
  have hb := itB_bd (n := n) (by omega) (by omega)
  by_cases hn : n < 10
  · rw [two_lt h0 hn]
    have hd : decide (n < 10) = true := decide_eq_true hn
    generalize itB n = a at *
    obtain ⟨b0, b1⟩ := hb
    have HI := Lib.hid hI
    clear hI
    go_enter Tryz.func45, Tryz.ntmps45
    go_wp2_with fail
    go_at_call 46
    refine (HI.out _ ht).mono ?_
    rintro e w1 ⟨rfl, hb1⟩
    go_wp2
    go_ret
    exact ⟨rfl, hb1⟩
  · rw [two_ge (by omega)]
    have hd : decide (n < 10) = false := decide_eq_false hn
    generalize itB n = a at *
    have HI := Lib.hid hI
    clear hI
    go_enter Tryz.func45, Tryz.ntmps45
    go_wp2_with fail
    go_at_call 46
    refine (HI.out _ ht).mono ?_
    rintro e w1 ⟨rfl, hb1⟩
    go_wp2
    go_ret
    exact ⟨rfl, hb1⟩
set_option maxHeartbeats 1000000 in
theorem lfour_pos (n : Int) (h0 : 0 ≤ n) (h1 : n ≤ 1000000000) (w : World) (ht : TabPow w) :
    Calls Tryz.prog 44 #[.int .i64 n] w fun e w' => e = .returned (.string (dgB n 4)) ∧ Below w.heap.size w w' := by
  have hI := fun W hT => itoa_any n (by omega) (by omega) W hT
  have hb := itB_bd (n := n) (by omega) (by omega)
  have hg : dgB n 4 = zrB (4 - (itB n).size) ++ itB n := by unfold dgB; rw [if_neg (by omega)]
  rw [hg]
  have hd : decide (n < 0) = false := decide_eq_false (by omega)
  generalize itB n = a at *
  obtain ⟨b0, b1⟩ := hb
  have HI := Lib.hid hI
  clear hI hg
  go_enter Tryz.func44, Tryz.ntmps44
  go_wp2_with fail
  go_at_call 46
  refine (HI.out _ ht).mono ?_
  rintro e w1 ⟨rfl, hb1⟩
  have HB := Lib.hid hb1
  clear hb1
  go_wp2_with fail
  go_loop [3] (fun v => ∃ k : Nat, v = .string (zrB k ++ a) ∧ k ≤ 4 - a.size) (fun v => 4 - Lib.strSize v)
  case atStart => exact ⟨0, by rw [zrB_zero], by omega⟩
  case round =>
    obtain ⟨k, rfl, hk⟩ := hrel
    have hz : (zrB k ++ a).size = k + a.size := by rw [ByteArray.size_append, zrB_size]
    have hz1 : (zrB (k + 1) ++ a).size = k + 1 + a.size := by rw [ByteArray.size_append, zrB_size]
    have hS := zrB_succ k a
    generalize hX : zrB k ++ a = X at *
    generalize hY : zrB (k + 1) ++ a = Y at *
    by_cases hlt : X.size < 4
    · have hd2 : decide ((X.size : Int) < 4) = true := decide_eq_true (by omega)
      have HY := Lib.hid hY
      have HS := Lib.hid hS
      have HX := Lib.hid hX
      clear hS hX hY
      go_wp2_with fail
      go_round
      case rel => exact ⟨k + 1, by rw [HS.out, HY.out], by omega⟩
      case measure => simp only [Lib.strSize_string, HS.out]; omega
    · have hd2 : decide ((X.size : Int) < 4) = false := decide_eq_false (by omega)
      have hk4 := Lib.hid (show k = 4 - a.size by omega)
      have HX := Lib.hid hX
      clear hS hX hY
      go_wp2
      go_ret
      exact ⟨ret_str (by rw [← HX.out, hk4.out]), HB.out⟩
set_option maxHeartbeats 1000000 in
theorem lfour_any (n : Int) (h0 : -1000000000 ≤ n) (h1 : n ≤ 1000000000) (w : World) (ht : TabPow w) :
    Calls Tryz.prog 44 #[.int .i64 n] w fun e w' => e = .returned (.string (dgB n 4)) ∧ Below w.heap.size w w' := by
  by_cases hn : n < 0
  · have hF := fun W hT => lfour_pos (-n) (by omega) (by omega) W hT
    have hs := dgB_size (n := -n) (by omega) (by omega) 4 (by omega)
    have hg : dgB n 4 = ⟨#[45]⟩ ++ dgB (-n) 4 := by unfold dgB; rw [if_pos hn, if_neg (by omega)]
    have hd : decide (n < 0) = true := decide_eq_true hn
    rw [hg]
    generalize dgB (-n) 4 = a at *
    obtain ⟨b0, b1⟩ := hs
    have HF := Lib.hid hF
    clear hF hg
    go_enter Tryz.func44, Tryz.ntmps44
    go_wp2_with fail
    go_at_call 44
    refine (HF.out _ ht).mono ?_
    rintro e w1 ⟨rfl, hb1⟩
    go_wp2
    go_ret
    exact ⟨rfl, hb1⟩
  · exact lfour_pos n (by omega) h1 w ht
end Go.Proofs.YtglennfjeacpoaaGreatDoor
