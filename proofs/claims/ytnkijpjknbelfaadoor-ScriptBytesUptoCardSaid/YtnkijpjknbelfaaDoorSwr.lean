/-
  Package script: what the law tells of an argument's value.
-/
import Derived.Test.YtnkijpjknbelfaaDoorSwq
namespace Go.Proofs.YtnkijpjknbelfaaDoor
open Go.RowKit
set_option linter.unusedVariables false
set_option linter.unusedSimpArgs false

theorem mom_end {s : ByteArray} {neg : Bool} {D : List UInt8} {v : Int} (hs : s.data.toList = if neg then 45 :: D else D) (hd : neg = false → D.head? ≠ some 45)
    (h : MomL s v (momOk neg D && (decide (-9007199254740992 ≤ momN neg D) && decide (momN neg D ≤ 9007199254740992)))) (hv : momOk neg D = true → v = momN neg D) :
    ∃ v, (∀ u, wholeS s.data.toList (-9007199254740992) 9007199254740992 = some u → v = u) ∧ MomTo 31 (fun x => #[.string x]) s v (wholeS s.data.toList (-9007199254740992) 9007199254740992).isSome := by
  obtain ⟨m1, m2⟩ := mom_whole neg D hd
  rw [← hs] at m1 m2
  have hsome : (wholeS s.data.toList (-9007199254740992) 9007199254740992).isSome = (momOk neg D && (decide (-9007199254740992 ≤ momN neg D) && decide (momN neg D ≤ 9007199254740992))) := by
    cases hq : wholeS s.data.toList (-9007199254740992) 9007199254740992 with
    | some u =>
      obtain ⟨k1, k2⟩ := m1 u hq
      have hb := (wholeS_iff (by decide) (by decide)).1 hq
      rw [k1, decide_eq_true (by omega), decide_eq_true (by omega)]
      rfl
    | none =>
      by_cases k1 : momOk neg D = true
      · by_cases k2 : -9007199254740992 ≤ momN neg D
        · by_cases k3 : momN neg D ≤ 9007199254740992
          · rw [m2 k1 k2 k3] at hq; cases hq
          · rw [decide_eq_false k3, Bool.and_false, Bool.and_false]; rfl
        · rw [decide_eq_false k2, Bool.false_and, Bool.and_false]; rfl
      · cases hm : momOk neg D
        · rfl
        · exact absurd hm k1
  refine ⟨v, fun u hu => ?_, fun w _ => by rw [hsome]; exact h w⟩
  obtain ⟨k1, k2⟩ := m1 u hu
  rw [hv k1, k2]
theorem moment_any (s : ByteArray) (hs : s.size ≤ 100000) : ∃ v, (∀ u, wholeS s.data.toList (-9007199254740992) 9007199254740992 = some u → v = u) ∧ MomTo 31 (fun x => #[.string x]) s v (wholeS s.data.toList (-9007199254740992) 9007199254740992).isSome := by
  by_cases h0 : s.size = 0
  · obtain ⟨v, h1, h2⟩ := mom_emp s (by omega) h0
    exact mom_end (neg := false) (by simp) (fun _ h => by rw [show s.data.toList = [] from List.eq_nil_of_length_eq_zero (by rw [size_data]; exact h0)] at h; cases h) h1 h2
  · have hp : 0 < s.size := by omega
    have hh := head_data s hp
    by_cases h45 : s[0] = 45
    · obtain ⟨v, h1, h2⟩ := mom_neg s (by omega) hp h45
      refine mom_end (neg := true) ?_ (fun h => by cases h) h1 h2
      rw [if_pos rfl, extract_drop]
      cases hq : s.data.toList with
      | nil => rw [hq] at hh; cases hh
      | cons c r =>
        rw [hq, List.head?_cons] at hh
        rw [Option.some.inj hh, h45]
        rfl
    · obtain ⟨v, h1, h2⟩ := mom_pos s (by omega) hp h45
      exact mom_end (neg := false) (by simp) (fun _ h => by rw [hh] at h; exact h45 (Option.some.inj h)) h1 h2
theorem lval_any {a : SA} (hs : a.text.size ≤ 100000) : ValTo 18 a (valC a) (okA a) :=
  lvalue hs (fun x hx w hE => ref_val x w hx) (fun x hx => moment_any x hx)
end Go.Proofs.YtnkijpjknbelfaaDoor
