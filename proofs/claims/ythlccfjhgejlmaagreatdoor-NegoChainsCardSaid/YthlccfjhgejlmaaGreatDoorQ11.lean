/-
  Several texts put together (part 11): what the law and the program call, walked; their contracts.
-/
import Derived.Test.YthlccfjhgejlmaaGreatDoorQ3
import Derived.Deep.QuietTactic
import Derived.BigQuiet
namespace Go.Proofs.YthlccfjhgejlmaaGreatDoor
open Go.RowKit
set_option linter.unusedVariables false
set_option linter.unusedSimpArgs false
def letB (c : UInt8) : Bool := (decide (97 ≤ c.toNat) && decide (c.toNat ≤ 122)) || (decide (65 ≤ c.toNat) && decide (c.toNat ≤ 90))
def digTB (c : UInt8) : Bool := decide (48 ≤ c.toNat) && decide (c.toNat ≤ 57)
def letDigB (c : UInt8) : Bool := letB c || digTB c
theorem retB {b b' : Bool} (h : b = b') : Ending.returned (.bool b) = Ending.returned (.bool b') := by rw [h]
theorem isLetter_any (c : UInt8) (w : World) : Calls Tryz.prog 32 #[.int .u8 (c.toNat : Int)] w fun e w' => e = .returned (.bool (letB c)) ∧ w' = w := by
  by_cases h1 : (97 : Int) ≤ (c.toNat : Int) <;> by_cases h2 : (c.toNat : Int) ≤ 122 <;> by_cases h3 : (65 : Int) ≤ (c.toNat : Int) <;> by_cases h4 : (c.toNat : Int) ≤ 90
  all_goals first
    | (exfalso; omega)
    | (go_enter Tryz.func32, Tryz.ntmps32
       go_wp2
       go_ret
       refine ⟨retB ?_, rfl⟩
       rw [Bool.eq_iff_iff]; simp only [letB, Bool.or_eq_true, Bool.and_eq_true, decide_eq_true_eq]
       simp
       omega)
theorem isDigit_any (c : UInt8) (w : World) : Calls Tryz.prog 40 #[.int .u8 (c.toNat : Int)] w fun e w' => e = .returned (.bool (digTB c)) ∧ w' = w := by
  by_cases h1 : (48 : Int) ≤ (c.toNat : Int) <;> by_cases h2 : (c.toNat : Int) ≤ 57
  all_goals first
    | (exfalso; omega)
    | (go_enter Tryz.func40, Tryz.ntmps40
       go_wp2
       go_ret
       refine ⟨retB ?_, rfl⟩
       rw [Bool.eq_iff_iff]; simp only [digTB, Bool.and_eq_true, decide_eq_true_eq]
       simp
       omega)
theorem isLetterOrDigit_any (c : UInt8) (w : World) : Calls Tryz.prog 41 #[.int .u8 (c.toNat : Int)] w fun e w' => e = .returned (.bool (letDigB c)) ∧ w' = w := by
  cases h : letB c
  · have H := Lib.hid h
    clear h
    go_enter Tryz.func41, Tryz.ntmps41
    go_wp2_with (first
      | (go_at_call 32; refine (isLetter_any c _).mono ?_; rw [H.out]; rintro e w' ⟨rfl, rfl⟩)
      | (go_at_call 40; refine (isDigit_any c _).mono ?_; rintro e w' ⟨rfl, rfl⟩))
    go_ret
    exact ⟨retB (by simp [letDigB, H.out]), rfl⟩
  · have H := Lib.hid h
    clear h
    go_enter Tryz.func41, Tryz.ntmps41
    go_wp2_with (first
      | (go_at_call 32; refine (isLetter_any c _).mono ?_; rw [H.out]; rintro e w' ⟨rfl, rfl⟩)
      | (go_at_call 40; refine (isDigit_any c _).mono ?_; rintro e w' ⟨rfl, rfl⟩))
    go_ret
    exact ⟨retB (by simp [letDigB, H.out]), rfl⟩
theorem allB_get {s : ByteArray} (p : UInt8 → Bool) (k : Nat) (h : k < s.size) (hp : p s[k] = false) : s.data.toList.all p = false := by
  cases e : s.data.toList.all p
  · rfl
  · have := List.all_eq_true.1 e s[k] (by have : k < s.data.size := h; exact Array.mem_toList_iff.2 (Array.getElem_mem this))
    rw [hp] at this; cases this
theorem allB_take {s : ByteArray} (p : UInt8 → Bool) (k : Nat) (h : k < s.size) : (s.data.toList.take (k + 1)).all p = ((s.data.toList.take k).all p && p s[k]) := by
  have h' : k < s.data.toList.length := by simpa using h
  rw [List.take_succ_eq_append_getElem h', List.all_append]
  simp
  rfl
theorem allB_end {s : ByteArray} (p : UInt8 → Bool) (h : (s.data.toList.take s.size).all p = true) : s.data.toList.all p = true := by
  rwa [List.take_of_length_le (by simp)] at h
set_option maxHeartbeats 1000000 in
theorem isMadeOf_any (s : ByteArray) (N : FuncId) (p : UInt8 → Bool) (w : World) (hs : s.size ≤ maxLen)
    (he : ∀ (args : Array Value) (w : World), (callFunc N args).run Tryz.prog w = .ok (.enter N args) w)
    (hN : ∀ (c : UInt8) (w : World), Calls Tryz.prog N #[.int .u8 (c.toNat : Int)] w fun e w' => e = .returned (.bool (p c)) ∧ w' = w) :
    Calls Tryz.prog 31 #[.string s, .func (.func N) #[] #[]] w fun e w' => e = .returned (.bool (s.data.toList.all p)) ∧ w' = w := by
  unfold maxLen at hs
  have HN := Lib.hid hN
  clear hN
  go_enter Tryz.func31, Tryz.ntmps31
  go_wp2
  go_loop [8] (fun i => ∃ k : Nat, k ≤ s.size ∧ i = .int .i64 k ∧ (s.data.toList.take k).all p = true) (fun i => s.size - (intOf i).toNat)
  case atStart => exact ⟨0, Nat.zero_le _, rfl, rfl⟩
  case round =>
    obtain ⟨k, hk, rfl, hd⟩ := hrel
    have Hd := Lib.hid hd
    clear hd
    by_cases hlt : k < s.size
    · cases hp : p s[k]
      · have Hp := Lib.hid hp
        have Hq := Lib.hid (allB_get p k hlt hp)
        clear hp
        go_wp2_with fail
        refine (HN.out _ _).mono ?_
        rw [Hp.out]
        rintro e w' ⟨rfl, rfl⟩
        go_wp2
        go_ret
        exact ⟨retB Hq.out.symm, rfl⟩
      · have Hp := Lib.hid hp
        clear hp
        go_wp2_with fail
        refine (HN.out _ _).mono ?_
        rw [Hp.out]
        rintro e w' ⟨rfl, rfl⟩
        go_wp2
        go_round
        case rel => exact ⟨k + 1, by omega, by go_num, by rw [allB_take p k hlt, Hd.out, Hp.out]; rfl⟩
        case measure => simp [intOf]; omega
    · obtain rfl : k = s.size := by omega
      go_wp2
      go_ret
      exact ⟨retB (by rw [← allB_end p Hd.out]; simp), rfl⟩
theorem enters_letter : ∀ (args : Array Value) (w : World), (callFunc 32 args).run Tryz.prog w = .ok (.enter 32 args) w := fun args w => by
  go_simp
theorem enters_digit : ∀ (args : Array Value) (w : World), (callFunc 40 args).run Tryz.prog w = .ok (.enter 40 args) w := fun args w => by
  go_simp
theorem enters_letdig : ∀ (args : Array Value) (w : World), (callFunc 41 args).run Tryz.prog w = .ok (.enter 41 args) w := fun args w => by
  go_simp
def langB (l : List UInt8) : Bool := (l.length == 2 || l.length == 3) && l.all letB
def scriptB (l : List UInt8) : Bool := l.length == 4 && l.all letB
def regionB (l : List UInt8) : Bool := (l.length == 2 && l.all letB) || (l.length == 3 && l.all digTB)
def variantB (l : List UInt8) : Bool := !(l.length == 4 && !digTB (l.headD 0)) && (decide (4 ≤ l.length) && decide (l.length ≤ 8) && l.all letDigB)
theorem isScript_any (s : ByteArray) (w : World) (hs : s.size ≤ maxLen) : Calls Tryz.prog 17 #[.string s] w fun e w' => e = .returned (.bool (scriptB s.data.toList)) ∧ w' = w := by
  have hs' := hs
  unfold maxLen at hs'
  by_cases h : s.size = 4
  all_goals
    have hz : (s.size : Int) = 4 ↔ s.size = 4 := by omega
    go_enter Tryz.func17, Tryz.ntmps17
    go_wp2_with (go_at_call 31; refine (isMadeOf_any s _ letB _ hs enters_letter isLetter_any).mono ?_; rintro e w' ⟨rfl, rfl⟩)
    go_ret
    refine ⟨retB ?_, rfl⟩
    simp [scriptB, h]
theorem isLang_any (s : ByteArray) (w : World) (hs : s.size ≤ maxLen) : Calls Tryz.prog 15 #[.string s] w fun e w' => e = .returned (.bool (langB s.data.toList)) ∧ w' = w := by
  have hs' := hs
  unfold maxLen at hs'
  by_cases h : s.size = 2
  · go_enter Tryz.func15, Tryz.ntmps15
    go_wp2_with (go_at_call 31; refine (isMadeOf_any s _ letB _ hs enters_letter isLetter_any).mono ?_; rintro e w' ⟨rfl, rfl⟩)
    go_ret
    refine ⟨retB ?_, rfl⟩
    simp [langB, h]
  · by_cases h3 : s.size = 3
    · go_enter Tryz.func15, Tryz.ntmps15
      go_wp2_with (go_at_call 31; refine (isMadeOf_any s _ letB _ hs enters_letter isLetter_any).mono ?_; rintro e w' ⟨rfl, rfl⟩)
      go_ret
      refine ⟨retB ?_, rfl⟩
      simp [langB, h3]
    · have n2 : ¬ (s.size : Int) = 2 := by omega
      have n3 : ¬ (s.size : Int) = 3 := by omega
      go_enter Tryz.func15, Tryz.ntmps15
      go_wp2_with (go_at_call 31; refine (isMadeOf_any s _ letB _ hs enters_letter isLetter_any).mono ?_; rintro e w' ⟨rfl, rfl⟩)
      go_ret
      refine ⟨retB ?_, rfl⟩
      simp [langB, h, h3]
end Go.Proofs.YthlccfjhgejlmaaGreatDoor

namespace Go.Proofs.YthlccfjhgejlmaaGreatDoor
open Go.RowKit
set_option linter.unusedVariables false
set_option linter.unusedSimpArgs false
theorem isRegion_any (s : ByteArray) (w : World) (hs : s.size ≤ maxLen) : Calls Tryz.prog 19 #[.string s] w fun e w' => e = .returned (.bool (regionB s.data.toList)) ∧ w' = w := by
  have hs' := hs
  unfold maxLen at hs'
  by_cases h : s.size = 2
  · cases hp : s.data.toList.all letB
    all_goals
      have Hp := Lib.hid hp
      clear hp
      have n3 : ¬ (s.size : Int) = 3 := by omega
      go_enter Tryz.func19, Tryz.ntmps19
      go_wp2_with (go_at_call 31; refine (isMadeOf_any s _ letB _ hs enters_letter isLetter_any).mono ?_; rw [Hp.out]; rintro e w' ⟨rfl, rfl⟩)
      go_ret
      refine ⟨retB ?_, rfl⟩
      simp only [regionB, Hp.out]
      simp [h]
  · by_cases h3 : s.size = 3
    · go_enter Tryz.func19, Tryz.ntmps19
      go_wp2_with (go_at_call 31; refine (isMadeOf_any s _ digTB _ hs enters_digit isDigit_any).mono ?_; rintro e w' ⟨rfl, rfl⟩)
      go_ret
      refine ⟨retB ?_, rfl⟩
      simp [regionB, h3]
    · have n2 : ¬ (s.size : Int) = 2 := by omega
      have n3 : ¬ (s.size : Int) = 3 := by omega
      go_enter Tryz.func19, Tryz.ntmps19
      go_wp2_with fail
      go_ret
      refine ⟨retB ?_, rfl⟩
      simp [regionB, h, h3]
theorem headD_get (s : ByteArray) (h : 0 < s.size) : s.data.toList.headD 0 = s[0] := by
  cases s with | mk d => cases d with | mk l => cases l with
    | nil => simp [ByteArray.size] at h
    | cons a r => rfl
theorem isVariant_any (s : ByteArray) (w : World) (hs : s.size ≤ maxLen) : Calls Tryz.prog 20 #[.string s] w fun e w' => e = .returned (.bool (variantB s.data.toList)) ∧ w' = w := by
  have hs' := hs
  unfold maxLen at hs'
  by_cases h : s.size = 4
  · have h0 : 0 < s.size := by omega
    cases hp : digTB s[0]
    · have Hp := Lib.hid hp
      have Hd := Lib.hid (headD_get s h0)
      clear hp
      go_enter Tryz.func20, Tryz.ntmps20
      go_wp2_with (go_at_call 40; refine (isDigit_any s[0] _).mono ?_; rw [Hp.out]; rintro e w' ⟨rfl, rfl⟩)
      go_ret
      refine ⟨retB ?_, rfl⟩
      simp only [variantB, Hd.out, Hp.out]
      simp [h]
    · have Hp := Lib.hid hp
      have Hd := Lib.hid (headD_get s h0)
      clear hp
      go_enter Tryz.func20, Tryz.ntmps20
      go_wp2_with (first
        | (go_at_call 40; refine (isDigit_any s[0] _).mono ?_; rw [Hp.out]; rintro e w' ⟨rfl, rfl⟩)
        | (go_at_call 31; refine (isMadeOf_any s _ letDigB _ hs enters_letdig isLetterOrDigit_any).mono ?_; rintro e w' ⟨rfl, rfl⟩))
      go_ret
      refine ⟨retB ?_, rfl⟩
      simp only [variantB, Hd.out, Hp.out]
      simp [h]
  · have n4 : ¬ (s.size : Int) = 4 := by omega
    by_cases hlo : 4 ≤ s.size
    · by_cases hhi : s.size ≤ 8
      · go_enter Tryz.func20, Tryz.ntmps20
        go_wp2_with (go_at_call 31; refine (isMadeOf_any s _ letDigB _ hs enters_letdig isLetterOrDigit_any).mono ?_; rintro e w' ⟨rfl, rfl⟩)
        go_ret
        refine ⟨retB ?_, rfl⟩
        simp [variantB, h, hlo, hhi]
      · go_enter Tryz.func20, Tryz.ntmps20
        go_wp2_with fail
        go_ret
        refine ⟨retB ?_, rfl⟩
        simp [variantB, h, hlo, hhi]
    · go_enter Tryz.func20, Tryz.ntmps20
      go_wp2_with fail
      go_ret
      refine ⟨retB ?_, rfl⟩
      simp [variantB, h, hlo]
end Go.Proofs.YthlccfjhgejlmaaGreatDoor
