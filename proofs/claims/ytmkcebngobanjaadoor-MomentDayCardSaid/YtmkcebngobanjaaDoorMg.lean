/-
  The law's head; MomentFormats, MomentWords, MomentParts.
-/
import Derived.Test.YtmkcebngobanjaaDoorMf
import Derived.Laws.StructEq
namespace Go.Proofs.YtmkcebngobanjaaDoor
open Go.RowKit
set_option linter.unusedVariables false
set_option linter.unusedSimpArgs false

theorem itB1 {n : Nat} (h : n < 10) : itB n = ⟨#[UInt8.ofNat (48 + n)]⟩ := by
  unfold itB
  rw [itB_pos (by omega), Int.toNat_natCast, Lib.decDigits, dif_pos h]
theorem itB_up {n : Nat} (h : ¬ n < 10) : itB n = itB (n / 10 : Nat) ++ ⟨#[UInt8.ofNat (48 + n % 10)]⟩ := by
  apply bytes_eq
  rw [ByteArray.data_append, Array.toList_append]
  unfold itB
  rw [itB_pos (by omega), itB_pos (by omega), Int.toNat_natCast, Int.toNat_natCast]
  show Lib.decDigits n = Lib.decDigits (n / 10) ++ _
  rw [Lib.decDigits, dif_neg h]
theorem it_1970 : itB 1970 = ⟨#[49, 57, 55, 48]⟩ := by
  have h := itB_up (n := 1970) (by omega)
  have h2 := itB_up (n := 197) (by omega)
  have h3 := itB_up (n := 19) (by omega)
  have h4 := itB1 (n := 1) (by omega)
  rw [show (1970 / 10 : Nat) = 197 from rfl, h2, show (197 / 10 : Nat) = 19 from rfl, h3, show (19 / 10 : Nat) = 1 from rfl, h4] at h
  exact h.trans (by decide +kernel)
theorem it_1 : itB 1 = ⟨#[49]⟩ := (itB1 (n := 1) (by omega)).trans (by decide +kernel)
theorem it_0 : itB 0 = ⟨#[48]⟩ := (itB1 (n := 0) (by omega)).trans (by decide +kernel)
theorem it_12 : itB 12 = ⟨#[49, 50]⟩ := by
  have h := itB_up (n := 12) (by omega)
  have h4 := itB1 (n := 1) (by omega)
  rw [show (12 / 10 : Nat) = 1 from rfl, h4] at h
  exact h.trans (by decide +kernel)
theorem dg_1_1 : dgB 1 1 = ⟨#[49]⟩ := by unfold dgB; rw [if_neg (by decide), it_1]; decide +kernel
theorem dg_12_1 : dgB 12 1 = ⟨#[49, 50]⟩ := by unfold dgB; rw [if_neg (by decide), it_12]; decide +kernel
theorem dg_0_2 : dgB 0 2 = ⟨#[48, 48]⟩ := by unfold dgB; rw [if_neg (by decide), it_0]; decide +kernel
theorem dg_1_2 : dgB 1 2 = ⟨#[48, 49]⟩ := by unfold dgB; rw [if_neg (by decide), it_1]; decide +kernel
theorem dg_1970 : dgB 1970 4 = ⟨#[49, 57, 55, 48]⟩ := by unfold dgB; rw [if_neg (by decide), it_1970]; decide +kernel
theorem head_en : fmB (lkI ⟨#[101, 110]⟩) 2 1970 1 1 0 0 = ⟨#[49, 47, 49, 47, 49, 57, 55, 48, 44, 32, 49, 50, 58, 48, 48, 32, 65, 77]⟩ := by
  rw [lk_en]
  show ((((dgB 1 1 ++ ⟨#[47]⟩) ++ dgB 1 1) ++ ⟨#[47]⟩) ++ dgB 1970 4 ++ ⟨#[44, 32]⟩) ++ ((dgB 12 1 ++ (⟨#[58]⟩ ++ dgB 0 2)) ++ ⟨#[32, 65, 77]⟩) = _
  rw [dg_1_1, dg_12_1, dg_0_2, dg_1970]
  decide +kernel
theorem head_de : fmB (lkI ⟨#[100, 101]⟩) 2 1970 1 1 0 0 = ⟨#[48, 49, 46, 48, 49, 46, 49, 57, 55, 48, 32, 48, 48, 58, 48, 48]⟩ := by
  rw [lk_de]
  show ((((dgB 1 2 ++ ⟨#[46]⟩) ++ dgB 1 2) ++ ⟨#[46]⟩) ++ dgB 1970 4 ++ ⟨#[32]⟩) ++ (dgB 0 2 ++ (⟨#[58]⟩ ++ dgB 0 2)) = _
  rw [dg_1_2, dg_0_2, dg_1970]
  decide +kernel
theorem mom00 : Mom (clampS 0) 1970 1 1 0 0 0 4 := by
  refine ⟨⟨?_, ?_, ?_, ?_, ?_⟩, ?_, ?_, ?_, ?_⟩ <;> decide +kernel
def FmTo (x : ByteArray) (sec st : Int) (T : ByteArray) : Prop := ∀ W : World, TabPow W → Calls Tryd.prog 8 #[.string x, .int .i64 sec, .int .i64 st] W fun e w' => e = .returned (.string T) ∧ Below W.heap.size W w'
theorem FmTo.at_ {x : ByteArray} {sec st : Int} {T : ByteArray} (h : FmTo x sec st T) (W : World) (hT : TabPow W) : Calls Tryd.prog 8 #[.string x, .int .i64 sec, .int .i64 st] W fun e w' => e = .returned (.string T) ∧ Below W.heap.size W w' := h W hT
abbrev HdS (w W : World) : Prop := TabPow W ∧ w.heap.size ≤ W.heap.size ∧ Below w.heap.size w W
theorem hdS_later {w W W' : World} (g : Below W.heap.size W W') (h : HdS w W) : HdS w W' := by
  obtain ⟨ht, hz, hB⟩ := h
  have := g.size
  exact ⟨ht.below g, by omega, hB.trans (g.mono hz)⟩
set_option maxHeartbeats 2000000 in
theorem headM_any (w : World) (ht : TabPow w) : Calls Tryd.prog 7 #[] w fun e w' => e = .returned (.bool true) ∧ Below w.heap.size w w' := by
  have hE : FmTo ⟨#[101, 110]⟩ 0 2 ⟨#[49, 47, 49, 47, 49, 57, 55, 48, 44, 32, 49, 50, 58, 48, 48, 32, 65, 77]⟩ := fun W hT => by
    have := format_any ⟨#[101, 110]⟩ 0 2 mom00 W hT
    rw [head_en] at this
    exact this
  have hD : FmTo ⟨#[100, 101]⟩ 0 2 ⟨#[48, 49, 46, 48, 49, 46, 49, 57, 55, 48, 32, 48, 48, 58, 48, 48]⟩ := fun W hT => by
    have := format_any ⟨#[100, 101]⟩ 0 2 mom00 W hT
    rw [head_de] at this
    exact this
  have HE := Lib.hid hE
  have HD := Lib.hid hD
  have Ht := Lib.hid ht
  clear hE hD ht
  go_enter Tryd.func7, Tryd.ntmps7
  go_wp2_with fail
  go_at_call 8
  refine (FmTo.at_ HE.out _ Ht.out).mono ?_
  rintro e w1 ⟨rfl, hb1⟩
  go_wp2_with fail
  go_at_call 8
  refine (FmTo.at_ HD.out _ (Ht.out.below hb1)).mono ?_
  rintro e w2 ⟨rfl, hb2⟩
  go_wp2
  go_ret
  exact ⟨rfl, below_then hb1 (Nat.le_refl _) hb2⟩
set_option maxHeartbeats 2000000 in
theorem lawFormats (x : ByteArray) (sec st : Int) (w : World) (ht : TabPow w) : Calls Tryd.prog 3 #[.string x, .int .i64 sec, .int .i64 st] w fun e w' => e = .returned (.bool true) ∧ Below w.heap.size w w' := by
  obtain ⟨y, m, d, h, mi, se, wd, a⟩ := mom_ex (clampS sec)
  have hF : FmTo x sec st (fmB (lkI x) st y m d h mi) := fun W hT => format_any x sec st a W hT
  have hL := fun W hT => lformat_any x sec st a W hT
  generalize fmB (lkI x) st y m d h mi = T at *
  have HF := Lib.hid hF
  have HL := Lib.hid hL
  have Ht := Lib.hid ht
  clear hF hL ht a
  go_enter Tryd.func3, Tryd.ntmps3
  go_wp2_with fail
  go_at_call 7
  refine (headM_any _ Ht.out).mono ?_
  rintro e w1 ⟨rfl, hb1⟩
  have h1 := hdS_later hb1 ⟨Ht.out, Nat.le_refl _, Below.refl _ _⟩
  obtain ⟨k1, k2, k3⟩ := h1
  clear hb1
  go_wp2_with fail
  go_at_call 8
  refine (FmTo.at_ HF.out _ k1).mono ?_
  rintro e w2 ⟨rfl, hb2⟩
  have h2 := hdS_later hb2 ⟨k1, k2, k3⟩
  obtain ⟨k1', k2', k3'⟩ := h2
  go_wp2_with fail
  go_at_call 9
  refine (HL.out _ k1').mono ?_
  rintro e w3 ⟨rfl, hb3⟩
  go_wp2
  go_ret
  exact ⟨rfl, (hdS_later hb3 ⟨k1', k2', k3'⟩).2.2⟩
theorem parse_any (s : ByteArray) (c : Int) (ok : Bool) (w : World)
    (h : (s.toList = [100, 97, 116, 101] ∧ c = 0 ∧ ok = true) ∨ (s.toList = [116, 105, 109, 101] ∧ c = 1 ∧ ok = true) ∨ (s.toList = [102, 117, 108, 108] ∧ c = 2 ∧ ok = true) ∨ ((s.toList == [100, 97, 116, 101]) = false ∧ (s.toList == [116, 105, 109, 101]) = false ∧ (s.toList == [102, 117, 108, 108]) = false ∧ c = 0 ∧ ok = false)) :
    Calls Tryd.prog 10 #[.string s] w fun e w' => e = .returned (.tuple #[.int .i64 c, .bool ok]) ∧ w' = w := by
  rcases h with ⟨h, rfl, rfl⟩ | ⟨h, rfl, rfl⟩ | ⟨h, rfl, rfl⟩ | ⟨h1, h2, h3, rfl, rfl⟩
  · obtain rfl := xM_eq (by rw [h]; rfl : (s.toList == [100, 97, 116, 101]) = true)
    clear h
    go_enter Tryd.func10, Tryd.ntmps10
    go_wp2
    go_ret2
    exact ⟨rfl, rfl⟩
  · obtain rfl := xM_eq (by rw [h]; rfl : (s.toList == [116, 105, 109, 101]) = true)
    clear h
    go_enter Tryd.func10, Tryd.ntmps10
    go_wp2
    go_ret2
    exact ⟨rfl, rfl⟩
  · obtain rfl := xM_eq (by rw [h]; rfl : (s.toList == [102, 117, 108, 108]) = true)
    clear h
    go_enter Tryd.func10, Tryd.ntmps10
    go_wp2
    go_ret2
    exact ⟨rfl, rfl⟩
  · go_enter Tryd.func10, Tryd.ntmps10
    go_wp2
    go_ret2
    exact ⟨rfl, rfl⟩
theorem lawWords (s : ByteArray) (w : World) (ht : TabPow w) : Calls Tryd.prog 5 #[.string s] w fun e w' => e = .returned (.bool true) ∧ Below w.heap.size w w' := by
  have Ht := Lib.hid ht
  clear ht
  by_cases c1 : (s.toList == [100, 97, 116, 101]) = true
  · obtain rfl := xM_eq c1
    have HP := fun W => parse_any ⟨[100, 97, 116, 101].toArray⟩ 0 true W (.inl ⟨by decide +kernel, rfl, rfl⟩)
    have HP := Lib.hid HP
    clear c1
    go_enter Tryd.func5, Tryd.ntmps5
    go_wp2_with fail
    go_at_call 7
    refine (headM_any _ Ht.out).mono ?_
    rintro e w1 ⟨rfl, hb1⟩
    go_wp2_with fail
    go_at_call 10
    refine (HP.out _).mono ?_
    rintro e w2 ⟨rfl, rfl⟩
    go_wp2
    go_ret
    exact ⟨rfl, hb1⟩
  by_cases c2 : (s.toList == [116, 105, 109, 101]) = true
  · obtain rfl := xM_eq c2
    have HP := fun W => parse_any ⟨[116, 105, 109, 101].toArray⟩ 1 true W (.inr (.inl ⟨by decide +kernel, rfl, rfl⟩))
    have HP := Lib.hid HP
    clear c1 c2
    go_enter Tryd.func5, Tryd.ntmps5
    go_wp2_with fail
    go_at_call 7
    refine (headM_any _ Ht.out).mono ?_
    rintro e w1 ⟨rfl, hb1⟩
    go_wp2_with fail
    go_at_call 10
    refine (HP.out _).mono ?_
    rintro e w2 ⟨rfl, rfl⟩
    go_wp2
    go_ret
    exact ⟨rfl, hb1⟩
  by_cases c3 : (s.toList == [102, 117, 108, 108]) = true
  · obtain rfl := xM_eq c3
    have HP := fun W => parse_any ⟨[102, 117, 108, 108].toArray⟩ 2 true W (.inr (.inr (.inl ⟨by decide +kernel, rfl, rfl⟩)))
    have HP := Lib.hid HP
    clear c1 c2 c3
    go_enter Tryd.func5, Tryd.ntmps5
    go_wp2_with fail
    go_at_call 7
    refine (headM_any _ Ht.out).mono ?_
    rintro e w1 ⟨rfl, hb1⟩
    go_wp2_with fail
    go_at_call 10
    refine (HP.out _).mono ?_
    rintro e w2 ⟨rfl, rfl⟩
    go_wp2
    go_ret
    exact ⟨rfl, hb1⟩
  · have q1 : (s.toList == [100, 97, 116, 101]) = false := by simpa using c1
    have q2 : (s.toList == [116, 105, 109, 101]) = false := by simpa using c2
    have q3 : (s.toList == [102, 117, 108, 108]) = false := by simpa using c3
    have HP := Lib.hid (fun W => parse_any s 0 false W (.inr (.inr (.inr ⟨q1, q2, q3, rfl, rfl⟩))))
    clear c1 c2 c3
    go_enter Tryd.func5, Tryd.ntmps5
    go_wp2_with fail
    go_at_call 7
    refine (headM_any _ Ht.out).mono ?_
    rintro e w1 ⟨rfl, hb1⟩
    go_wp2_with fail
    go_at_call 10
    refine (HP.out _).mono ?_
    rintro e w2 ⟨rfl, rfl⟩
    go_wp2
    go_ret
    exact ⟨rfl, hb1⟩
end Go.Proofs.YtmkcebngobanjaaDoor
