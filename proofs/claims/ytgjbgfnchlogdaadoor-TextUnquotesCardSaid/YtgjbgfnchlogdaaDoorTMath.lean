import Derived.Test.YtgjbgfnchlogdaaDoorTHead
import Derived.Lib.MapLaws
import Derived.Shelf.Strings.MapAny
namespace Go.Proofs.YtgjbgfnchlogdaaDoor
open Go.RowKit
set_option linter.unusedVariables false
set_option linter.unusedSimpArgs false

/-- What Decode makes of a sign: nothing of a carriage return. -/
def decG (r : Int) : Int := if r = 13 then -1 else r
theorem decodeL_drop (s : ByteArray) (pos : Nat) (h : pos < s.size) : Lib.decodeL (s.data.toList.drop pos) = Utf8.decode s pos := by
  have h1 := Lib.decodeGo_extract s pos h
  rw [← extract_drop s pos]
  have hz : (s.extract pos s.size).size ≠ 0 := by simp; omega
  unfold Lib.decodeGo at h1
  rw [if_neg hz] at h1
  unfold Lib.decodeL
  rw [← h1]
theorem decG_step (r : Nat) : (if 0 ≤ decG (r : Int) then Lib.encodeRune (decG (r : Int)) else []) = if r = 13 then [] else Lib.encodeRune r := by
  unfold decG
  by_cases h : r = 13
  · subst h; rfl
  · have h' : ¬ (r : Int) = 13 := by omega
    rw [if_neg h, if_neg h', if_pos (by omega)]
theorem decFrom_map (s : ByteArray) : ∀ fuel pos, s.size ≤ pos + fuel → decFrom s fuel pos = Lib.mapD decG (s.data.toList.drop pos)
  | 0, pos, h => by
    rw [List.drop_eq_nil_of_le (by rw [size_data]; omega)]
    rfl
  | f + 1, pos, h => by
    by_cases hp : pos < s.size
    · have hne : s.data.toList.drop pos ≠ [] := by
        intro e
        have := congrArg List.length e
        rw [List.length_drop, size_data] at this
        simp at this
        omega
      have hw := width_pos s pos hp
      rw [Lib.mapD_step decG _ hne, decodeL_drop s pos hp, List.drop_drop, ← decFrom_map s f (pos + (Utf8.decode s pos).2) (by omega), decFrom, if_pos hp]
      rw [decG_step]
    · rw [decFrom_end s _ pos hp, List.drop_eq_nil_of_le (by rw [size_data]; omega)]
      rfl
/-- What bytes are decoded to. -/
def decB (l : List UInt8) : List UInt8 := Lib.mapD decG l
theorem decAll_eq (s : ByteArray) : decAll s = decB s.data.toList := by
  unfold decAll decB
  rw [decFrom_map s s.size 0 (by omega), List.drop_zero]

theorem Utf8Tabs.below {g3 g4 : Nat} {w w1 : World} (h : Lib.Utf8Tabs g3 g4 w) (hb : Below w.heap.size w w1) : Lib.Utf8Tabs g3 g4 w1 := by
  have lt : ∀ {b o : Nat} {v : Value}, w.cell? ⟨b, o, none⟩ = some v → b < w.heap.size := fun hc => World.block_lt_of_cell? w _ hc
  obtain ⟨h1, h2⟩ := h
  exact ⟨fun c hc => by rw [(bcell hb).1 _ _ (lt (h1 c hc))]; exact h1 c hc,
    fun i hi => ⟨by rw [(bcell hb).1 _ _ (lt (h2 i hi).1)]; exact (h2 i hi).1, by rw [(bcell hb).1 _ _ (lt (h2 i hi).2)]; exact (h2 i hi).2⟩⟩
def TabU (w : World) : Prop := Lib.Utf8Tabs 0 1 w
theorem TabU.below {w w1 : World} (h : TabU w) (hb : Below w.heap.size w w1) : TabU w1 := Utf8Tabs.below h hb
/-- utf8.DecodeRuneInString, by the list. -/
theorem runeIn_any (s : ByteArray) (w : World) (hT : TabU w) (hs : 0 < s.size) : Calls Tryd.prog 9 #[.string s] w fun e w' => e = .returned (.tuple #[.int .i32 (Lib.decodeL s.data.toList).1, .int .i64 (Lib.decodeL s.data.toList).2]) ∧ Below w.heap.size w w' := by
  have h := Tryd.utf8_DecodeRuneInString s w hT
  have e : Lib.decodeGo s = Lib.decodeL s.data.toList := by
    unfold Lib.decodeGo Lib.decodeL
    rw [if_neg (by omega)]
  rw [e] at h
  exact h
end Go.Proofs.YtgjbgfnchlogdaaDoor
