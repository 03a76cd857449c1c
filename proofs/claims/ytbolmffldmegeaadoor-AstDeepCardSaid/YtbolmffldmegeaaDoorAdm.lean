/-
  AstDeep's mathematics: a variable within so many nests.
-/
import Derived.Test.YtbolmffldmegeaaDoorAh2
namespace Go.Proofs.YtbolmffldmegeaaDoor
open Go.RowKit
set_option linter.unusedVariables false
set_option linter.unusedSimpArgs false

theorem i64_and31 (n : Int) : bits .and .i64 n 31 = n % 32 := by
  have h31 : (BitVec.ofInt 64 31).toNat = 2 ^ 5 - 1 := by decide
  have key : (BitVec.ofInt 64 n &&& BitVec.ofInt 64 31).toNat = (n % ((2 ^ 64 : Nat) : Int)).toNat % 2 ^ 5 := by
    rw [BitVec.toNat_and, BitVec.toNat_ofInt, h31, Nat.and_two_pow_sub_one_eq_mod]
  show IntKind.i64.wrap ((BitVec.ofInt 64 n &&& BitVec.ofInt 64 31).toNat : Nat) = n % 32
  rw [key, IntKind.wrap_i64]
  omega
def eS : ByteArray := ⟨#[]⟩
def nestE : Nat → EX
  | 0 => .mk 2 ⟨#[]⟩ ⟨#[120]⟩ ⟨#[]⟩ [] none []
  | k + 1 => .mk 6 ⟨#[]⟩ ⟨#[]⟩ ⟨#[]⟩ [] (some (nestE k)) []
theorem nest_nv : ∀ k, nvE (nestE k) = true
  | 0 => by simp [nestE, nvE]; decide
  | k + 1 => by simp [nestE, nvE, nest_nv k]
theorem nest_size : ∀ k, (nestE k).size = k + 2
  | 0 => by rw [nestE, EX.size, sizeAs, sizeO, sizeVs]; rfl
  | k + 1 => by
    rw [nestE, EX.size, sizeAs, sizeO, sizeVs, nest_size k]
    show 1 + 0 + 0 + 0 + 0 + (k + 2) + 0 = _
    omega
theorem nest_ok : ∀ k d, okE .brc (nestE k) d = decide (d + k ≤ 20)
  | 0, d => by
    rw [nestE, okE]
    have h1 : inlP 2 ⟨#[]⟩ ⟨#[120]⟩ ⟨#[]⟩ true true true (argNames [] [] && okAs [] d) (okO .brc none (d + 1)) = true := by
      unfold inlP
      simp only [emp_data]
      kernel_rfl
    simp only [List.isEmpty_nil, Option.isNone_none]
    rw [h1]
    simp
  | k + 1, d => by
    rw [nestE, okE]
    have h1 : inlP 6 ⟨#[]⟩ ⟨#[]⟩ ⟨#[]⟩ true false true (argNames [] [] && okAs [] d) (okO .brc (some (nestE k)) (d + 1)) = okE .brc (nestE k) (d + 1) := by
      unfold inlP
      rw [okO]
      simp [emp_nil]
    simp only [List.isEmpty_nil, Option.isNone_some]
    rw [h1, nest_ok k (d + 1)]
    simp
    by_cases h : d + 1 + k ≤ 20
    · rw [decide_eq_true h, decide_eq_true (by omega : d ≤ 20), decide_eq_true (by omega : d + (k + 1) ≤ 20)]; rfl
    · rw [decide_eq_false h, decide_eq_false (by omega : ¬ d + (k + 1) ≤ 20), Bool.and_false]
/-- The cells of such an expression. -/
def nestC (W : World) (E : Nat) : Nat → C7 → Prop
  | 0, c => c = ⟨.int .i64 2, .string ⟨#[]⟩, .string ⟨#[120]⟩, .string ⟨#[]⟩, .slice none 0 0, .pointer none, .slice none 0 0⟩
  | k + 1, c => ∃ b c', E < b ∧ b < W.heap.size ∧ CellsAt W b 0 c' ∧ nestC W E k c' ∧ c = ⟨.int .i64 6, .string ⟨#[]⟩, .string ⟨#[]⟩, .string ⟨#[]⟩, .slice none 0 0, .pointer (some ⟨b, 0, none⟩), .slice none 0 0⟩
theorem nestC.mono {W W' : World} {E : Nat} (hs : W.heap.size ≤ W'.heap.size) (h : ∀ b o, E < b → b < W.heap.size → W'.cell? ⟨b, o, none⟩ = W.cell? ⟨b, o, none⟩) : ∀ {k : Nat} {c : C7}, nestC W E k c → nestC W' E k c
  | 0, c, hc => hc
  | k + 1, c, hc => by
    obtain ⟨b, c', h1, h2, h3, h4, h5⟩ := hc
    refine ⟨b, c', h1, by omega, ?_, nestC.mono hs h h4, h5⟩
    unfold CellsAt at h3 ⊢
    rw [h b 0 h1 h2, h b (0 + 1) h1 h2, h b (0 + 2) h1 h2, h b (0 + 3) h1 h2, h b (0 + 4) h1 h2, h b (0 + 5) h1 h2, h b (0 + 6) h1 h2]
    exact h3
theorem nestC.ex {W : World} {E : Nat} : ∀ {k : Nat} {c : C7}, nestC W E k c → ExAt W (nestE k) c
  | 0, c, hc => by
    cases hc
    rw [nestE, ExAt]
    exact ⟨rfl, rfl, rfl, rfl, ⟨none, 0, rfl, by simp, by simp, fun h => absurd h (by simp)⟩, by simp only [OAt], ⟨none, 0, rfl, by simp, by simp, fun h => absurd h (by simp)⟩⟩
  | k + 1, c, hc => by
    obtain ⟨b, c', h1, h2, h3, h4, rfl⟩ := hc
    rw [nestE, ExAt]
    refine ⟨rfl, rfl, rfl, rfl, ⟨none, 0, rfl, by simp, by simp, fun h => absurd h (by simp)⟩, ?_, ⟨none, 0, rfl, by simp, by simp, fun h => absurd h (by simp)⟩⟩
    simp only [OAt]
    exact ⟨b, 0, c', rfl, h2, h3, h4.ex⟩
/-- The form of the cells. -/
theorem nestC.form {W : World} {E k : Nat} {c : C7} (h : nestC W E k c) : ∃ kd nm p, c = ⟨.int .i64 kd, .string ⟨#[]⟩, .string nm, .string ⟨#[]⟩, .slice none 0 0, .pointer p, .slice none 0 0⟩ := by
  cases k with
  | zero => cases h; exact ⟨_, _, _, rfl⟩
  | succ k => obtain ⟨b, c', _, _, _, _, rfl⟩ := h; exact ⟨_, _, _, rfl⟩
/-- Messages of one place. -/
theorem deep_x (k : Nat) : msgB 1 0 ⟨#[]⟩ ⟨#[109]⟩ [.mk ⟨#[]⟩ (some (nestE k))] [] = decide (k + 1 ≤ 20) := by
  have h1 : isNameV ⟨#[109]⟩ = true := by kernel_rfl
  have h2 : linesB (linesOf 123 [.mk ⟨#[]⟩ (some (nestE k))]) = true := by
    rw [linesOf, linesOf]
    kernel_rfl
  unfold msgB patB patL
  rw [h1, h2]
  simp only [textsB, okEs, emp_nil]
  rw [nest_ok k (0 + 1)]
  simp
  omega
theorem deep_y (k : Nat) : msgB 1 0 ⟨#[]⟩ ⟨#[109]⟩ [] [.mk ⟨#[97]⟩ [.mk ⟨#[]⟩ (some (nestE k))]] = decide (k + 1 ≤ 20) := by
  have h1 : isNameV ⟨#[109]⟩ = true := by kernel_rfl
  have h0 : isNameV ⟨#[97]⟩ = true := by kernel_rfl
  have h2 : linesB (linesOf 123 [.mk ⟨#[]⟩ (some (nestE k))]) = true := by
    rw [linesOf, linesOf]
    kernel_rfl
  unfold msgB patB patL
  simp only [List.all_cons, List.all_nil, attrOk, patB, patL]
  rw [h1, h0, h2]
  simp only [textsB, okEs, emp_nil]
  rw [nest_ok k (0 + 1)]
  simp
  omega
end Go.Proofs.YtbolmffldmegeaaDoor
