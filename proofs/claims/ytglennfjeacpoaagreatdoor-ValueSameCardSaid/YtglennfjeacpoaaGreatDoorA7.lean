import Derived.Test.YtglennfjeacpoaaGreatDoorA1
import Derived.Test.YtglennfjeacpoaaGreatDoorShelf
namespace Go.Proofs.YtglennfjeacpoaaGreatDoor
open Go.RowKit

/-- The order of two texts, byte by byte. -/
def cmpS (a b : List UInt8) : Int := if Op.bytesLess a b = true then -1 else if (a == b) = true then 0 else 1
theorem cmpS_cases (a b : List UInt8) : cmpS a b = -1 ∨ cmpS a b = 0 ∨ cmpS a b = 1 := by
  unfold cmpS
  split
  · exact Or.inl rfl
  · split
    · exact Or.inr (Or.inl rfl)
    · exact Or.inr (Or.inr rfl)

set_option maxHeartbeats 400000 in
theorem cmpString_any (a b : ByteArray) (w : World) :
    Calls Tryz.prog 98 #[.string a, .string b] w fun e w' => e = .returned (.int .i64 (cmpS a.data.toList b.data.toList)) ∧ w = w' := by
  go_enter Tryz.func98, Tryz.ntmps98
  go_wp2
  all_goals go_ret
  all_goals refine ⟨ret_int ?_, rfl⟩
  all_goals rw [← Lib.toList_data, ← Lib.toList_data, cmpS]
  · rw [if_pos ‹_›]
  · have h1 : Op.bytesLess a.toList b.toList = false := ‹_›
    have h2 : (!a.toList == b.toList) = true := ‹_›
    rw [h1]
    cases h3 : (a.toList == b.toList)
    · rfl
    · rw [h3] at h2; exact absurd h2 (by decide)
  · have h1 : Op.bytesLess a.toList b.toList = false := ‹_›
    have h2 : (!a.toList == b.toList) = false := ‹_›
    rw [h1]
    cases h3 : (a.toList == b.toList)
    · rw [h3] at h2; exact absurd h2 (by decide)
    · rfl

/-- Are the kept digits raised where the others are left out? -/
def lastOdd (l : List UInt8) : Bool := match l.getLast? with | some c => decide (c.toNat % 2 = 1) | none => false
def upC (kept : List UInt8) (c : Int) : Bool := if c = 0 then lastOdd kept else decide (c = 1)
def upB (kept others : List UInt8) : Bool := upC kept (cmpS (Lib.trimRightB others 48) [53])

def TrimRTo (a c : ByteArray) : Prop := ∀ W : World, Calls Tryz.prog 99 #[.string a, .string ⟨#[48]⟩] W fun e w' => e = .returned (.string c) ∧ W = w'
theorem trimRTo (a : ByteArray) (ha : a.size ≤ 9223372036854775807) : TrimRTo a ⟨(Lib.trimRightB a.data.toList 48).toArray⟩ := by
  intro W
  refine (Tryz.strings_TrimRight_one _ 48 (by decide) _ ha).mono ?_
  rintro e w' ⟨rfl, rfl⟩
  exact ⟨rfl, rfl⟩
def CmpTo (a b : ByteArray) (c : Int) : Prop := ∀ W : World, Calls Tryz.prog 98 #[.string a, .string b] W fun e w' => e = .returned (.int .i64 c) ∧ W = w'

theorem last_data (s : ByteArray) (h : 0 < s.size) : s.data.toList.getLast? = some s[s.size - 1] := by
  rw [List.getLast?_eq_getElem?, List.getElem?_eq_getElem (by simp; omega)]
  simp
  rfl

set_option maxHeartbeats 400000 in
theorem roundsUp_core (a b t : ByteArray) (c : Int) (w : World) (hs : a.size ≤ maxLen) (ht : TrimRTo b t) (hc : CmpTo t ⟨#[53]⟩ c) (h3 : c = -1 ∨ c = 0 ∨ c = 1) :
    Calls Tryz.prog 126 #[.string a, .string b] w fun e w' => e = .returned (.bool (upC a.data.toList c)) ∧ w = w' := by
  unfold maxLen at hs
  rcases h3 with rfl | rfl | rfl
  · go_enter Tryz.func126, Tryz.ntmps126
    go_wp2_with (first | (go_at_call 99; refine (ht _).mono ?_; rintro e w2 ⟨rfl, rfl⟩) | (go_at_call 98; refine (hc _).mono ?_; rintro e w3 ⟨rfl, rfl⟩))
    go_ret
    exact ⟨rfl, rfl⟩
  · rcases Nat.eq_zero_or_pos a.size with h0 | h0
    · have he : a.data.toList = [] := List.eq_nil_of_length_eq_zero (by rw [size_data]; exact h0)
      have ha : a.toList = [] := by rw [Lib.toList_data]; exact he
      have ha2 : (!a.toList.isEmpty) = false := by rw [ha]; rfl
      have He := Lib.hid he
      clear he
      go_enter Tryz.func126, Tryz.ntmps126
      go_wp2_with (first | (go_at_call 99; refine (ht _).mono ?_; rintro e w2 ⟨rfl, rfl⟩) | (go_at_call 98; refine (hc _).mono ?_; rintro e w3 ⟨rfl, rfl⟩))
      go_ret
      exact ⟨ret_bool (by unfold upC lastOdd; rw [He.out]; rfl), rfl⟩
    · have hl := last_data a h0
      have hne : a.toList.isEmpty = false := by
        rw [Lib.toList_data]
        cases h : a.data.toList with
        | nil => rw [h] at hl; cases hl
        | cons x l => rfl
      have Hl := Lib.hid hl
      clear hl
      go_enter Tryz.func126, Tryz.ntmps126
      go_wp2_with (first | (go_at_call 99; refine (ht _).mono ?_; rintro e w2 ⟨rfl, rfl⟩) | (go_at_call 98; refine (hc _).mono ?_; rintro e w3 ⟨rfl, rfl⟩))
      go_ret
      exact ⟨ret_bool (by unfold upC lastOdd; rw [Hl.out]; simp; rw [Bool.eq_iff_iff]; simp; omega), rfl⟩
  · go_enter Tryz.func126, Tryz.ntmps126
    go_wp2_with (first | (go_at_call 99; refine (ht _).mono ?_; rintro e w2 ⟨rfl, rfl⟩) | (go_at_call 98; refine (hc _).mono ?_; rintro e w3 ⟨rfl, rfl⟩))
    go_ret
    exact ⟨rfl, rfl⟩

theorem roundsUp_any (a b : ByteArray) (w : World) (hs : a.size ≤ maxLen) (hb : b.size ≤ maxLen) :
    Calls Tryz.prog 126 #[.string a, .string b] w fun e w' => e = .returned (.bool (upB a.data.toList b.data.toList)) ∧ w = w' :=
  roundsUp_core a b _ _ w hs (trimRTo b (by unfold maxLen at hb; omega)) (fun W => cmpString_any _ _ W) (cmpS_cases _ _)
end Go.Proofs.YtglennfjeacpoaaGreatDoor
