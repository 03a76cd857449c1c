/-
  PluralFar: a whole number and one with more digits ahead of its last two are of one category.
-/
import Derived.Test.YtmkcebngobanjabDoorPlNum
import Derived.Deep.RegionHeld3
namespace Go.Proofs.YtmkcebngobanjabDoor
open Go.RowKit
set_option linter.unusedVariables false

/-- Two boxed numbers in a region: their cells, and that nothing older has turned. -/
abbrev Two (A C B : Nat) (w : World) (a0 a1 a2 c0 c1 c2 : Value) (W : World) : Prop :=
  W.cell? ⟨A, 0, none⟩ = some a0 ∧ W.cell? ⟨A, 1, none⟩ = some a1 ∧ W.cell? ⟨A, 2, none⟩ = some a2 ∧ W.cell? ⟨C, 0, none⟩ = some c0 ∧ W.cell? ⟨C, 1, none⟩ = some c1 ∧ W.cell? ⟨C, 2, none⟩ = some c2 ∧ A + 1 ≤ W.heap.size ∧ C + 1 ≤ W.heap.size ∧ B ≤ W.heap.size ∧ Below B w W
theorem two_later {A C B : Nat} {w W w1 : World} {a0 a1 a2 c0 c1 c2 : Value} (hb1 : Below W.heap.size W w1) (h : Two A C B w a0 a1 a2 c0 c1 c2 W) : Two A C B w a0 a1 a2 c0 c1 c2 w1 := by
  obtain ⟨h0, h1, h2, h3, h4, h5, hA, hC, hB0, hB⟩ := h
  have hz := hb1.size
  exact ⟨(hb1.cell (p := ⟨A, 0, none⟩) hA).trans h0, (hb1.cell (p := ⟨A, 1, none⟩) hA).trans h1, (hb1.cell (p := ⟨A, 2, none⟩) hA).trans h2, (hb1.cell (p := ⟨C, 0, none⟩) hC).trans h3, (hb1.cell (p := ⟨C, 1, none⟩) hC).trans h4, (hb1.cell (p := ⟨C, 2, none⟩) hC).trans h5, by omega, by omega, by omega, hB.trans (hb1.mono hB0)⟩
theorem two_below {A C B : Nat} {w W : World} {a0 a1 a2 c0 c1 c2 : Value} (h : Two A C B w a0 a1 a2 c0 c1 c2 W) : Below B w W := h.2.2.2.2.2.2.2.2.2
/-- What Of and Rank tell of a number, wherever. -/
def OfTo (x : ByteArray) (n : Bool) (s : ByteArray) (k : Int) (c : Int) : Prop := ∀ W : World, Calls Tryd.prog 9 #[.string x, .agg #[.bool n, .string s, .int .i64 k]] W fun e w' => e = .returned (.int .i64 c) ∧ Below W.heap.size W w'
theorem OfTo.at_ {x : ByteArray} {n : Bool} {s : ByteArray} {k : Int} {c : Int} (h : OfTo x n s k c) (W : World) : Calls Tryd.prog 9 #[.string x, .agg #[.bool n, .string s, .int .i64 k]] W fun e w' => e = .returned (.int .i64 c) ∧ Below W.heap.size W w' := h W
def RankTo (x : ByteArray) (n : Bool) (s : ByteArray) (k : Int) (c : Int) : Prop := ∀ W : World, Calls Tryd.prog 11 #[.string x, .agg #[.bool n, .string s, .int .i64 k]] W fun e w' => e = .returned (.int .i64 c) ∧ Below W.heap.size W w'
theorem RankTo.at_ {x : ByteArray} {n : Bool} {s : ByteArray} {k : Int} {c : Int} (h : RankTo x n s k c) (W : World) : Calls Tryd.prog 11 #[.string x, .agg #[.bool n, .string s, .int .i64 k]] W fun e w' => e = .returned (.int .i64 c) ∧ Below W.heap.size W w' := h W
theorem ofTo {x : ByteArray} {F : ByteArray → Nat → Int} (hR : ∀ w, GivesR 19 #[.string x] w F) (n : Bool) {s : ByteArray} {k : Nat} (hg : GoodD s k) : OfTo x n s k (F s k) := fun W => of_gives x F (fun w => (hR w).first) n s k W hg
theorem rankTo {x : ByteArray} {F : ByteArray → Nat → Int} (hR : ∀ w, GivesR 21 #[.string x] w F) (n : Bool) {s : ByteArray} {k : Nat} (hg : GoodD s k) : RankTo x n s k (F s k) := fun W => rank_gives x F (fun w => (hR w).first) n s k W hg
def IntTo (z : Int) (n : Bool) (s : ByteArray) : Prop := ∀ W : World, TabPow W → Calls Tryd.prog 13 #[.int .i64 z] W fun e w' => e = .returned (.agg #[.bool n, .string s, .int .i64 0]) ∧ Below W.heap.size W w'
theorem intTo (u : Nat) (h : u ≤ 1000000000) : IntTo (u : Int) false (dgA u) := fun W hT => by
  have := int_any (u : Int) (by omega) (by omega) W hT
  rw [decide_eq_false (by omega), Int.natAbs_natCast] at this
  exact this
theorem utm (n b : Int) (hb : 0 < b) : 0 ≤ (IntKind.u64.wrap n).tmod b ∧ (IntKind.u64.wrap n).tmod b < b := by
  have h := wrap_u64_nonneg n
  rw [Int.tmod_eq_emod_of_nonneg h]
  exact ⟨Int.emod_nonneg _ (by omega), Int.emod_lt_of_pos _ hb⟩

set_option maxHeartbeats 8000000 in
theorem lawFar (a b : Int) (w : World) (hT : TabPow w) : Calls Tryd.prog 6 #[.int .i64 a, .int .i64 b] w fun e w' => e = .returned (.bool true) ∧ Below w.heap.size w w' := by
  have L := Nat.le_refl w.heap.size
  have hu := utm a 97 (by omega)
  generalize hmm : (IntKind.u64.wrap a).tmod 97 = x at hu
  obtain ⟨x0, x1⟩ := hu
  have hv := utm b 100000 (by omega)
  generalize hvv : (IntKind.u64.wrap b).tmod 100000 = y at hv
  obtain ⟨y0, y1⟩ := hv
  obtain ⟨n, hn⟩ : ∃ n : Nat, (n : Int) = 3 + x := ⟨(3 + x).toNat, by omega⟩
  obtain ⟨m, hm⟩ : ∃ m : Nat, (m : Int) = 1 + y := ⟨(1 + y).toNat, by omega⟩
  have iA : IntTo (3 + x) false (dgA n) := by rw [← hn]; exact intTo n (by omega)
  have iB : IntTo (100 * (1 + y) + (3 + x)) false (dgA (100 * m + n)) := by
    rw [show 100 * (1 + y) + (3 + x) = ((100 * m + n : Nat) : Int) by omega]
    exact intTo _ (by omega)
  have gA := dgA_good n (by omega)
  have gB := dgA_good (100 * m + n) (by omega)
  have ruA : OfTo _ false _ 0 _ := ofTo count_ru false gA
  have ruB : OfTo _ false _ 0 _ := ofTo count_ru false gB
  rw [ru_far m n] at ruB
  have plA : OfTo _ false _ 0 _ := ofTo count_pl false gA
  have plB : OfTo _ false _ 0 _ := ofTo count_pl false gB
  rw [pl_far m n (by omega) (by omega)] at plB
  have arA : OfTo _ false _ 0 _ := ofTo count_ar false gA
  have arB : OfTo _ false _ 0 _ := ofTo count_ar false gB
  rw [ar_far m n (by omega) (by omega)] at arB
  have rkA : RankTo _ false _ 0 _ := rankTo rank_en false gA
  have rkB : RankTo _ false _ 0 _ := rankTo rank_en false gB
  rw [rank_far m n] at rkB
  have enB : OfTo _ false _ 0 _ := ofTo count_en false gB
  rw [en_far m n (by omega) (by omega)] at enB
  generalize cRu (dgA n) 0 = r1 at *
  generalize cPl (dgA n) 0 = r2 at *
  generalize cAr (dgA n) 0 = r3 at *
  generalize rEn (dgA n) 0 = r4 at *
  generalize dgA n = sA at *
  generalize dgA (100 * m + n) = sB at *
  have IA := Lib.hid iA
  have IB := Lib.hid iB
  clear hn hm gA gB iA iB
  have HT := Lib.hid hT
  clear hT
  have Hru := Lib.hid ruA
  go_enter Tryd.func6, Tryd.ntmps6
  go_wp2_with fail
  go_at_call 7
  refine (head_any _).mono ?_
  rintro e w1 ⟨rfl, h1⟩
  have HT1 := Lib.hid (HT.out.below h1)
  go_wp2_with fail
  go_at_call 13
  refine (IA.out _ HT1.out).mono ?_
  rintro e w2 ⟨rfl, h2⟩
  have HT2 := Lib.hid ((HT1.out.below h2).alloc (.cells #[.bool false, .string sA, .int .i64 0] 23))
  have hz2 : w.heap.size ≤ w2.heap.size := Nat.le_trans h1.size h2.size
  go_wp2_with fail
  go_at_call 13
  refine (IB.out _ HT2.out).mono ?_
  rintro e w3 ⟨rfl, h3⟩
  obtain ⟨hc3, hf3⟩ := bcell h3
  have hz3 : w2.heap.size < w3.heap.size := by have := h3.size; simp at this; omega
  have B3 := below_then (below_new (below_then h1 L h2) L (.cells #[.bool false, .string sA, .int .i64 0] 23)) L h3
  go_wp2_with fail
  have start : Two w2.heap.size w3.heap.size w.heap.size w (.bool false) (.string sA) (.int .i64 0) (.bool false) (.string sB) (.int .i64 0) (w3.alloc (.cells #[.bool false, .string sB, .int .i64 0] 23)) := by
    refine two_later (W := w3.alloc (.cells #[.bool false, .string sB, .int .i64 0] 23)) (Below.refl _ _) ⟨?_, ?_, ?_, by simp, by simp, by simp, by simp; omega, by simp, by simp; omega, below_new B3 L _⟩
    all_goals
      rw [World.cell?_alloc_lt _ _ _ hz3, hc3 _ _ (by simp)]
      simp
  clear h1 h2 h3 hc3 hf3 B3
  go_region_held3 (fun w' => w'.cell? ⟨w2.heap.size, 0, none⟩ = some (.bool false) ∧ w'.cell? ⟨w2.heap.size, 1, none⟩ = some (.string sA) ∧ w'.cell? ⟨w2.heap.size, 2, none⟩ = some (.int .i64 0) ∧ w'.cell? ⟨w3.heap.size, 0, none⟩ = some (.bool false) ∧ w'.cell? ⟨w3.heap.size, 1, none⟩ = some (.string sB) ∧ w'.cell? ⟨w3.heap.size, 2, none⟩ = some (.int .i64 0) ∧ w2.heap.size + 1 ≤ w'.heap.size ∧ w3.heap.size + 1 ≤ w'.heap.size ∧ w.heap.size ≤ w'.heap.size ∧ Below w.heap.size w w')
    (first | (exact two_later (by assumption) (by assumption)) | (exact two_later (Below.refl _ _).drew start) | go_keep)
    (first | (go_at_call 9; (with_reducible refine (ruA.at_ _).mono ?_); rintro e w5 ⟨rfl, hb5⟩) | (go_at_call 9; (with_reducible refine (ruB.at_ _).mono ?_); rintro e w5 ⟨rfl, hb5⟩) | (go_at_call 9; (with_reducible refine (plA.at_ _).mono ?_); rintro e w5 ⟨rfl, hb5⟩) | (go_at_call 9; (with_reducible refine (plB.at_ _).mono ?_); rintro e w5 ⟨rfl, hb5⟩) | (go_at_call 9; (with_reducible refine (arA.at_ _).mono ?_); rintro e w5 ⟨rfl, hb5⟩) | (go_at_call 9; (with_reducible refine (arB.at_ _).mono ?_); rintro e w5 ⟨rfl, hb5⟩) | (go_at_call 11; (with_reducible refine (rkA.at_ _).mono ?_); rintro e w5 ⟨rfl, hb5⟩) | (go_at_call 11; (with_reducible refine (rkB.at_ _).mono ?_); rintro e w5 ⟨rfl, hb5⟩) | (go_at_call 9; (with_reducible refine (enB.at_ _).mono ?_); rintro e w5 ⟨rfl, hb5⟩))
  go_wp2
  go_ret
  exact ⟨rfl, two_below (by assumption)⟩
end Go.Proofs.YtmkcebngobanjabDoor
