import Derived.Test.YtgjbgfnchlogdaaDoorTHex
import Derived.Test.YtgjbgfnchlogdaaDoorTDecode
namespace Go.Proofs.YtgjbgfnchlogdaaDoor
open Go.RowKit
set_option linter.unusedVariables false
set_option linter.unusedSimpArgs false

/-- What a \ and what stands behind it tell, and how many bytes these have; 0: nothing. -/
def escV (l : List UInt8) : Int × Nat :=
  if l.length < 2 then (0, 0)
  else if l.getD 1 0 = 34 ∨ l.getD 1 0 = 92 then (((l.getD 1 0).toNat : Int), 2)
  else if l.getD 1 0 = 117 then numV l 4
  else if l.getD 1 0 = 85 then numV l 6
  else (0, 0)
theorem runeOk_range (n : Int) (h0 : 0 ≤ n) (h1 : n < 2147483648) : 0 ≤ runeOk n ∧ runeOk n < 2147483648 := by
  unfold runeOk
  split <;> omega
theorem numV_range (l : List UInt8) (d : Nat) (hd : d ≤ 6) : 0 ≤ (numV l d).1 ∧ (numV l d).1 < 2147483648 ∧ (numV l d).2 ≤ l.length := by
  unfold numV
  split
  · rename_i h
    have hl : ((l.drop 2).take d).length = d := by rw [List.length_take, List.length_drop]; omega
    have hr := hexN_range ((l.drop 2).take d) d (by omega)
    rw [List.take_of_length_le (by omega)] at hr
    have hp : (16 ^ d : Nat) ≤ 16 ^ 6 := Nat.pow_le_pow_right (by decide) hd
    have he : (16 ^ 6 : Nat) = 16777216 := by decide
    have := runeOk_range (hexN ((l.drop 2).take d)) hr.1 (by omega)
    exact ⟨this.1, this.2, h.1⟩
  · exact ⟨Int.le_refl _, by decide, Nat.zero_le _⟩
theorem escV_range (l : List UInt8) : 0 ≤ (escV l).1 ∧ (escV l).1 < 2147483648 ∧ (escV l).2 ≤ l.length := by
  unfold escV
  split
  · exact ⟨Int.le_refl _, by decide, Nat.zero_le _⟩
  · split
    · have := (l.getD 1 0).toNat_lt
      exact ⟨by dsimp only; omega, by dsimp only; omega, by dsimp only; omega⟩
    · split
      · exact numV_range l 4 (by decide)
      · split
        · exact numV_range l 6 (by decide)
        · exact ⟨Int.le_refl _, by decide, Nat.zero_le _⟩

set_option maxHeartbeats 1000000 in
theorem escaped_any (s : ByteArray) (w : World) (hs : s.size ≤ 1000000) : Calls Tryd.prog 22 #[.string s] w fun e w' => e = .returned (.tuple #[.int .i32 (escV s.data.toList).1, .int .i64 (escV s.data.toList).2]) ∧ w = w' := by
  by_cases h2 : s.size < 2
  · have hv : escV s.data.toList = (0, 0) := by unfold escV; rw [if_pos (by rw [size_data]; exact h2)]
    rw [hv]
    go_enter Tryd.func22, Tryd.ntmps22
    go_wp2
    go_ret2
    exact ⟨rfl, rfl⟩
  · have hlt : 1 < s.size := by omega
    have hg : s.data.toList.getD 1 0 = s[1] := by
      rw [List.getD_eq_getElem?_getD, List.getElem?_eq_getElem (by rw [size_data]; exact hlt), Option.getD_some]
      rfl
    have hv : escV s.data.toList = if s[1] = 34 ∨ s[1] = 92 then ((s[1].toNat : Int), 2) else if s[1] = 117 then numV s.data.toList 4 else if s[1] = 85 then numV s.data.toList 6 else (0, 0) := by
      unfold escV
      rw [if_neg (by rw [size_data]; exact h2), hg]
    rw [hv]
    clear hv hg
    have h256 := s[1].toNat_lt
    have inj : ∀ (b : UInt8), (s[1].toNat : Int) = (b.toNat : Int) → s[1] = b := fun b h => UInt8.toNat_inj.mp (by omega)
    by_cases a1 : s[1] = 34
    · have e1 : ((s[1].toNat : Int) == 34) = true := by rw [a1]; rfl
      rw [if_pos (Or.inl a1)]
      clear inj a1
      go_enter Tryd.func22, Tryd.ntmps22
      go_wp2
      go_ret2
      exact ⟨rfl, rfl⟩
    have e1 : ((s[1].toNat : Int) == 34) = false := by
      rw [beq_eq_false_iff_ne]; exact fun h => a1 (inj 34 h)
    by_cases a2 : s[1] = 92
    · have e2 : ((s[1].toNat : Int) == 92) = true := by rw [a2]; rfl
      rw [if_pos (Or.inr a2)]
      clear inj a1 a2
      go_enter Tryd.func22, Tryd.ntmps22
      go_wp2
      go_ret2
      exact ⟨rfl, rfl⟩
    have e2 : ((s[1].toNat : Int) == 92) = false := by
      rw [beq_eq_false_iff_ne]; exact fun h => a2 (inj 92 h)
    rw [if_neg (by rintro (h | h); exact a1 h; exact a2 h)]
    by_cases a3 : s[1] = 117
    · have e3 : ((s[1].toNat : Int) == 117) = true := by rw [a3]; rfl
      rw [if_pos a3]
      clear inj a1 a2 a3
      have hcall := fun W => numbered_any s 4 (by decide) W hs
      generalize numV s.data.toList 4 = r at *
      go_enter Tryd.func22, Tryd.ntmps22
      go_wp2_with fail
      go_at_call 30
      refine (hcall _).mono ?_
      rintro e w2 ⟨rfl, rfl⟩
      go_wp2
      go_ret2
      exact ⟨rfl, rfl⟩
    have e3 : ((s[1].toNat : Int) == 117) = false := by
      rw [beq_eq_false_iff_ne]; exact fun h => a3 (inj 117 h)
    rw [if_neg a3]
    by_cases a4 : s[1] = 85
    · have e4 : ((s[1].toNat : Int) == 85) = true := by rw [a4]; rfl
      rw [if_pos a4]
      clear inj a1 a2 a3 a4
      have hcall := fun W => numbered_any s 6 (by decide) W hs
      generalize numV s.data.toList 6 = r at *
      go_enter Tryd.func22, Tryd.ntmps22
      go_wp2_with fail
      go_at_call 30
      refine (hcall _).mono ?_
      rintro e w2 ⟨rfl, rfl⟩
      go_wp2
      go_ret2
      exact ⟨rfl, rfl⟩
    have e4 : ((s[1].toNat : Int) == 85) = false := by
      rw [beq_eq_false_iff_ne]; exact fun h => a4 (inj 85 h)
    rw [if_neg a4]
    clear inj a1 a2 a3 a4
    go_enter Tryd.func22, Tryd.ntmps22
    go_wp2
    go_ret2
    exact ⟨rfl, rfl⟩

/-- What Unquote reads from a place on. -/
def unqFrom (s : ByteArray) : Nat → Nat → Nat → List UInt8 → Option (List UInt8 × Nat)
  | 0, _, _, _ => none
  | f + 1, pos, next, acc =>
    if pos < s.size then
      if pos < next then unqFrom s f (pos + (Utf8.decode s pos).2) next acc
      else if (Utf8.decode s pos).1 = 34 then some (acc, pos + 1)
      else if (Utf8.decode s pos).1 = 10 then none
      else if (Utf8.decode s pos).1 = 92 then
        if (escV (s.data.toList.drop pos)).2 = 0 then none
        else unqFrom s f (pos + (Utf8.decode s pos).2) (pos + (escV (s.data.toList.drop pos)).2) (acc ++ Lib.encodeRune (escV (s.data.toList.drop pos)).1)
      else unqFrom s f (pos + (Utf8.decode s pos).2) next (acc ++ Lib.encodeRune (Utf8.decode s pos).1)
    else none
def unqAll (s : ByteArray) : Option (List UInt8 × Nat) := if Lib.hasPrefix s.data.toList [34] = true then unqFrom s s.size 0 1 [] else none
def unqVal : Option (List UInt8 × Nat) → Value
  | some (a, n) => .tuple #[.string ⟨a.toArray⟩, .int .i64 n, .bool true]
  | none => .tuple #[.string ⟨#[]⟩, .int .i64 0, .bool false]
end Go.Proofs.YtgjbgfnchlogdaaDoor
