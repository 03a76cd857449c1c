/-
  Contract of package scan: Line; the law's head; ScanLines.
-/
import Derived.Test.YtbolmffldmegeaaDoorSc4
import Derived.Test.YtbolmffldmegeaaDoorShelf
import Derived.Lib.Bytealg
import Derived.Lib.Strings
namespace Go.Proofs.YtbolmffldmegeaaDoor
open Go.RowKit

def nlB (c : UInt8) : Bool := !(c == 10)
/-- Where a line ends. -/
def lineI (l : List UInt8) (i : Int) : Int := if 0 ≤ i ∧ i < l.length then (behN nlB l i.toNat : Int) else i
theorem index_line : ∀ l : List UInt8, (Lib.indexByte l 10 = -1 ∧ (l.takeWhile nlB).length = l.length) ∨ (0 ≤ Lib.indexByte l 10 ∧ Lib.indexByte l 10 = ((l.takeWhile nlB).length : Int))
  | [] => .inl ⟨rfl, rfl⟩
  | c :: l => by
    rw [List.takeWhile_cons, Lib.indexByte]
    by_cases h : c = 10
    · subst h
      right
      exact ⟨by simp, by simp [nlB]⟩
    · have h1 : (c == 10) = false := by simpa using h
      have h2 : nlB c = true := by simp [nlB, h1]
      rw [h1, h2]
      simp only [Bool.false_eq_true, if_false, if_true]
      rcases index_line l with ⟨a, b⟩ | ⟨a, b⟩
      · left
        rw [a]
        exact ⟨by simp, by simp [b]⟩
      · right
        have : (Lib.indexByte l 10 == -1) = false := by simp; omega
        rw [this]
        simp only [Bool.false_eq_true, if_false, List.length_cons]
        omega
set_option maxHeartbeats 1000000 in
theorem line_any (s : ByteArray) (i : Int) (w : World) (hs : s.size ≤ 9223372036854775807) :
    Calls Tryd.prog 67 #[.string s, .int .i64 i] w fun e w' => e = .returned (.int .i64 (lineI s.data.toList i)) ∧ w = w' := by
  by_cases hin : 0 ≤ i ∧ i < s.size
  · obtain ⟨h0, h1⟩ := hin
    obtain ⟨j, rfl⟩ : ∃ j : Nat, i = (j : Int) := ⟨i.toNat, by omega⟩
    have hj : j < s.size := by omega
    have e : lineI s.data.toList (j : Int) = (behN nlB s.data.toList j : Int) := by
      unfold lineI
      rw [if_pos ⟨h0, by rw [size_data]; exact h1⟩, Int.toNat_natCast]
    have hx := index_line (s.data.toList.drop j)
    have hI := fun W => Tryd.strings_IndexByte (s.extract j s.size) 10 W
    rw [extract_drop] at hI
    rw [show (10 : Int).toNat.toUInt8 = 10 from rfl] at hI
    unfold behN at e
    have hlen : (s.data.toList.drop j).length = s.size - j := by rw [List.length_drop, size_data]
    have htl : ((s.data.toList.drop j).takeWhile nlB).length ≤ s.size - j := by rw [← hlen]; exact takeWhile_le _ _
    rw [hlen] at hx
    generalize Lib.indexByte (s.data.toList.drop j) 10 = n at *
    generalize ((s.data.toList.drop j).takeWhile nlB).length = m at *
    have E := Lib.hid e
    have HI := Lib.hid hI
    clear e hI hlen
    rcases hx with ⟨rfl, hm⟩ | ⟨hn, rfl⟩
    · have Hm := Lib.hid hm
      clear hm
      go_enter Tryd.func67, Tryd.ntmps67
      go_wp2_with (first | (go_at_call 56; refine (within_yes _ _ _ h0 h1).mono ?_; rintro e w' ⟨rfl, rfl⟩) | (go_at_call 87; refine (HI.out _).mono ?_; rintro e w' ⟨rfl, rfl⟩))
      go_ret
      exact ⟨ret_int (by rw [E.out, Hm.out]; omega), rfl⟩
    · go_enter Tryd.func67, Tryd.ntmps67
      go_wp2_with (first | (go_at_call 56; refine (within_yes _ _ _ h0 h1).mono ?_; rintro e w' ⟨rfl, rfl⟩) | (go_at_call 87; refine (HI.out _).mono ?_; rintro e w' ⟨rfl, rfl⟩))
      go_ret
      exact ⟨ret_int (by rw [E.out]; omega), rfl⟩
  · have e : lineI s.data.toList i = i := by
      unfold lineI
      rw [if_neg]
      rw [size_data]
      exact hin
    have E := Lib.hid e
    clear e
    go_enter Tryd.func67, Tryd.ntmps67
    go_wp2_with (go_at_call 56; refine (within_no _ _ _ (by omega)).mono ?_; rintro e w' ⟨rfl, rfl⟩)
    go_ret
    exact ⟨ret_int E.out.symm, rfl⟩
end Go.Proofs.YtbolmffldmegeaaDoor
