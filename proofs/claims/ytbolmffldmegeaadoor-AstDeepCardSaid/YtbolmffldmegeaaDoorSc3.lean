/-
  Contracts of package scan: Spaces, Blank, Name, Number, Big, IsName.
-/
import Derived.Test.YtbolmffldmegeaaDoorSc2
namespace Go.Proofs.YtbolmffldmegeaaDoor
open Go.RowKit

theorem spaces_any (s : ByteArray) (i : Int) (w : World) (hs : s.size ≤ 9223372036854775807) :
    Calls Tryd.prog 68 #[.string s, .int .i64 i] w fun e w' => e = .returned (.int .i64 (behI spB s.data.toList i)) ∧ w = w' := by
  go_enter Tryd.func68, Tryd.ntmps68
  go_wp2_with (go_at_call 58; refine (behind_sp _ _ _ hs).mono ?_; rintro e w' ⟨rfl, rfl⟩)
  go_ret
  exact ⟨rfl, rfl⟩
theorem blank_any (s : ByteArray) (i : Int) (w : World) (hs : s.size ≤ 9223372036854775807) :
    Calls Tryd.prog 66 #[.string s, .int .i64 i] w fun e w' => e = .returned (.int .i64 (behI blB s.data.toList i)) ∧ w = w' := by
  go_enter Tryd.func66, Tryd.ntmps66
  go_wp2_with (go_at_call 58; refine (behind_bl _ _ _ hs).mono ?_; rintro e w' ⟨rfl, rfl⟩)
  go_ret
  exact ⟨rfl, rfl⟩
/-- The place behind a name. -/
def nameI (l : List UInt8) (i : Int) : Int := if 0 ≤ i ∧ i < l.length ∧ leB (l.getD i.toNat 0) = true then behI naB l i else i
theorem getD_data (s : ByteArray) (j : Nat) (h : j < s.size) : s.data.toList.getD j 0 = s[j] := by
  rw [List.getD_eq_getElem?_getD, List.getElem?_eq_getElem (by rw [size_data]; exact h)]; rfl
set_option maxHeartbeats 1000000 in
theorem name_any (s : ByteArray) (i : Int) (w : World) (hs : s.size ≤ 9223372036854775807) :
    Calls Tryd.prog 39 #[.string s, .int .i64 i] w fun e w' => e = .returned (.int .i64 (nameI s.data.toList i)) ∧ w = w' := by
  by_cases hin : 0 ≤ i ∧ i < s.size
  · obtain ⟨h0, h1⟩ := hin
    obtain ⟨j, rfl⟩ : ∃ j : Nat, i = (j : Int) := ⟨i.toNat, by omega⟩
    have hj : j < s.size := by omega
    cases hl : leB s[j]
    · have e : nameI s.data.toList (j : Int) = j := by
        unfold nameI
        rw [if_neg]
        rintro ⟨_, _, h⟩
        rw [Int.toNat_natCast, getD_data s j hj, hl] at h
        cases h
      have E := Lib.hid e
      have Hl := Lib.hid hl
      clear e hl
      go_enter Tryd.func39, Tryd.ntmps39
      go_wp2_with (first | (go_at_call 56; refine (within_yes _ _ _ h0 h1).mono ?_; rintro e w' ⟨rfl, rfl⟩) | (go_at_call 57; refine (letter_any s[j] _).mono ?_; rw [Hl.out]; rintro e w' ⟨rfl, rfl⟩))
      go_ret
      exact ⟨ret_int E.out.symm, rfl⟩
    · have e : nameI s.data.toList (j : Int) = behI naB s.data.toList j := by
        unfold nameI
        rw [if_pos]
        exact ⟨h0, by rw [size_data]; exact h1, by rw [Int.toNat_natCast, getD_data s j hj, hl]⟩
      have E := Lib.hid e
      have Hl := Lib.hid hl
      clear e hl
      go_enter Tryd.func39, Tryd.ntmps39
      go_wp2_with (first | (go_at_call 56; refine (within_yes _ _ _ h0 h1).mono ?_; rintro e w' ⟨rfl, rfl⟩) | (go_at_call 57; refine (letter_any s[j] _).mono ?_; rw [Hl.out]; rintro e w' ⟨rfl, rfl⟩) | (go_at_call 58; refine (behind_na _ _ _ hs).mono ?_; rintro e w' ⟨rfl, rfl⟩))
      go_ret
      exact ⟨ret_int E.out.symm, rfl⟩
  · have e : nameI s.data.toList i = i := by
      unfold nameI
      rw [if_neg]
      rintro ⟨a, b, _⟩
      rw [size_data] at b
      exact hin ⟨a, b⟩
    have E := Lib.hid e
    clear e
    go_enter Tryd.func39, Tryd.ntmps39
    go_wp2_with (go_at_call 56; refine (within_no _ _ _ (by omega)).mono ?_; rintro e w' ⟨rfl, rfl⟩)
    go_ret
    exact ⟨ret_int E.out.symm, rfl⟩
/-- The place behind a sign that may stand there. -/
def sgnI (l : List UInt8) (c : UInt8) (i : Int) : Int := if 0 ≤ i ∧ i < l.length ∧ l.getD i.toNat 0 = c then i + 1 else i
def numI (l : List UInt8) (i : Int) : Int :=
  if sgnI l 45 i < behI dgB l (sgnI l 45 i) then
    if sgnI l 46 (behI dgB l (sgnI l 45 i)) < behI dgB l (sgnI l 46 (behI dgB l (sgnI l 45 i))) then behI dgB l (sgnI l 46 (behI dgB l (sgnI l 45 i)))
    else behI dgB l (sgnI l 45 i)
  else i
theorem num1_any (s : ByteArray) (c : UInt8) (i : Int) (b : Nat) (w : World) (hs : s.size ≤ 9223372036854775807) (hc : w.cell? ⟨b, 0, none⟩ = some (.string s)) :
    Calls Tryd.prog 102 #[.int .u8 (c.toNat : Int), .int .i64 i, .pointer (some ⟨b, 0, none⟩)] w fun e w' => e = .returned (.tuple #[.int .i64 (behI dgB s.data.toList (sgnI s.data.toList c i)), .bool (decide (sgnI s.data.toList c i < behI dgB s.data.toList (sgnI s.data.toList c i)))]) ∧ w = w' := by
  by_cases hin : 0 ≤ i ∧ i < s.size
  · obtain ⟨h0, h1⟩ := hin
    obtain ⟨j, rfl⟩ : ∃ j : Nat, i = (j : Int) := ⟨i.toNat, by omega⟩
    have hj : j < s.size := by omega
    by_cases hl : s[j] = c
    · have e : sgnI s.data.toList c (j : Int) = j + 1 := by
        unfold sgnI
        rw [if_pos]
        exact ⟨h0, by rw [size_data]; exact h1, by rw [Int.toNat_natCast, getD_data s j hj, hl]⟩
      rw [e]
      clear e
      have hq : ((s[j].toNat : Int) == (c.toNat : Int)) = true := by rw [hl]; simp
      clear hl
      go_enter Tryd.func102, Tryd.ntmps102
      go_wp2_with (first | (go_at_call 56; refine (within_yes _ _ _ h0 h1).mono ?_; rintro e w' ⟨rfl, rfl⟩) | (go_at_call 58; refine (behind_dg _ _ _ hs).mono ?_; rintro e w' ⟨rfl, rfl⟩))
      go_ret2
      exact ⟨rfl, rfl⟩
    · have e : sgnI s.data.toList c (j : Int) = j := by
        unfold sgnI
        rw [if_neg]
        rintro ⟨_, _, h⟩
        rw [Int.toNat_natCast, getD_data s j hj] at h
        exact hl h
      rw [e]
      clear e
      have hq : ((s[j].toNat : Int) == (c.toNat : Int)) = false := by
        apply beq_eq_false_iff_ne.2
        intro h
        exact hl (UInt8.toNat_inj.1 (by omega))
      clear hl
      go_enter Tryd.func102, Tryd.ntmps102
      go_wp2_with (first | (go_at_call 56; refine (within_yes _ _ _ h0 h1).mono ?_; rintro e w' ⟨rfl, rfl⟩) | (go_at_call 58; refine (behind_dg _ _ _ hs).mono ?_; rintro e w' ⟨rfl, rfl⟩))
      go_ret2
      exact ⟨rfl, rfl⟩
  · have e : sgnI s.data.toList c i = i := by
      unfold sgnI
      rw [if_neg]
      rintro ⟨a, b, _⟩
      rw [size_data] at b
      exact hin ⟨a, b⟩
    rw [e]
    clear e
    go_enter Tryd.func102, Tryd.ntmps102
    go_wp2_with (first | (go_at_call 56; refine (within_no _ _ _ (by omega)).mono ?_; rintro e w' ⟨rfl, rfl⟩) | (go_at_call 58; refine (behind_dg _ _ _ hs).mono ?_; rintro e w' ⟨rfl, rfl⟩))
    go_ret2
    exact ⟨rfl, rfl⟩
end Go.Proofs.YtbolmffldmegeaaDoor
