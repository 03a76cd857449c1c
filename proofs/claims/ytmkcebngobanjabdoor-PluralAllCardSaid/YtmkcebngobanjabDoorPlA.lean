/-
  In whatever language: Of and Rank tell what the law's own tell. PluralOf.
-/
import Derived.Test.YtmkcebngobanjabDoorPlE
import Derived.Test.YtmkcebngobanjabDoorPl5n
import Derived.Deep.RegionHeld3
namespace Go.Proofs.YtmkcebngobanjabDoor
open Go.RowKit
set_option linter.unusedVariables false

def LOfTo (x : ByteArray) (n : Bool) (s : ByteArray) (k : Int) (c : Int) : Prop := ∀ W : World, Calls Tryd.prog 10 #[.string x, .agg #[.bool n, .string s, .int .i64 k]] W fun e w' => e = .returned (.int .i64 c) ∧ Below W.heap.size W w'
theorem LOfTo.at_ {x : ByteArray} {n : Bool} {s : ByteArray} {k : Int} {c : Int} (h : LOfTo x n s k c) (W : World) : Calls Tryd.prog 10 #[.string x, .agg #[.bool n, .string s, .int .i64 k]] W fun e w' => e = .returned (.int .i64 c) ∧ Below W.heap.size W w' := h W
def LRankTo (x : ByteArray) (n : Bool) (s : ByteArray) (k : Int) (c : Int) : Prop := ∀ W : World, Calls Tryd.prog 12 #[.string x, .agg #[.bool n, .string s, .int .i64 k]] W fun e w' => e = .returned (.int .i64 c) ∧ Below W.heap.size W w'
theorem LRankTo.at_ {x : ByteArray} {n : Bool} {s : ByteArray} {k : Int} {c : Int} (h : LRankTo x n s k c) (W : World) : Calls Tryd.prog 12 #[.string x, .agg #[.bool n, .string s, .int .i64 k]] W fun e w' => e = .returned (.int .i64 c) ∧ Below W.heap.size W w' := h W
theorem x_eq {x : ByteArray} {l : List UInt8} (h : (x.toList == l) = true) : x = ⟨l.toArray⟩ := by
  apply bytes_eq
  rw [← Lib.toList_data, beq_iff_eq.1 h]
/-- One language, one number: both tell the same category, whatever the sign. -/
def SameOf (x : ByteArray) (s : ByteArray) (k : Nat) : Prop := ∃ c, (∀ n, OfTo x n s k c) ∧ ∀ n, LOfTo x n s k c
def SameRank (x : ByteArray) (s : ByteArray) (k : Nat) : Prop := ∃ c, (∀ n, RankTo x n s k c) ∧ ∀ n, LRankTo x n s k c
theorem sameOf_of {x : ByteArray} {s : ByteArray} {k : Nat} {F : ByteArray → Nat → Int} {c : Int} (hg : GoodD s k) (hR : ∀ w, GivesR 19 #[.string x] w F) (he : F s k = c) (hL : ∀ n, LOfTo x n s k c) : SameOf x s k := by
  refine ⟨c, fun n => ?_, hL⟩
  rw [← he]
  exact ofTo hR n hg
theorem sameRank_of {x : ByteArray} {s : ByteArray} {k : Nat} {F : ByteArray → Nat → Int} {c : Int} (hg : GoodD s k) (hR : ∀ w, GivesR 21 #[.string x] w F) (he : F s k = c) (hL : ∀ n, LRankTo x n s k c) : SameRank x s k := by
  refine ⟨c, fun n => ?_, hL⟩
  rw [← he]
  exact rankTo hR n hg
theorem same_of (x s : ByteArray) (k : Nat) (hn : Num s.data.toList k) : SameOf x s k := by
  have hg := num_good s k hn
  have hP := num_parts s k hn
  obtain ⟨b0, b1⟩ := nL_bd s k
  cases q0 : (x.toList == [101, 110])
  case true => rw [x_eq q0]; exact sameOf_of hg count_en (eEn s k hn) fun n W => lof_en n s k _ _ _ W (hP n) b0 b1
  cases q1 : (x.toList == [100, 101])
  case true => rw [x_eq q1]; exact sameOf_of hg count_de (eEn s k hn) fun n W => lof_de n s k _ _ _ W (hP n) b0 b1
  cases q2 : (x.toList == [110, 108])
  case true => rw [x_eq q2]; exact sameOf_of hg count_nl (eEn s k hn) fun n W => lof_nl n s k _ _ _ W (hP n) b0 b1
  cases q3 : (x.toList == [115, 118])
  case true => rw [x_eq q3]; exact sameOf_of hg count_sv (eEn s k hn) fun n W => lof_sv n s k _ _ _ W (hP n) b0 b1
  cases q4 : (x.toList == [102, 114])
  case true => rw [x_eq q4]; exact sameOf_of hg count_fr (eFr s k hn) fun n W => lof_fr n s k _ _ _ W (hP n) b0 b1
  cases q5 : (x.toList == [101, 115])
  case true => rw [x_eq q5]; exact sameOf_of hg count_es (eEs s k hn) fun n W => lof_es n s k _ _ _ W (hP n) b0 b1
  cases q6 : (x.toList == [112, 108])
  case true => rw [x_eq q6]; exact sameOf_of hg count_pl (ePl s k hn) fun n W => lof_pl n s k _ _ _ W (hP n) b0 b1
  cases q7 : (x.toList == [114, 117])
  case true => rw [x_eq q7]; exact sameOf_of hg count_ru (eRu s k hn) fun n W => lof_ru n s k _ _ _ W (hP n) b0 b1
  cases q8 : (x.toList == [99, 115])
  case true => rw [x_eq q8]; exact sameOf_of hg count_cs (eCs s k hn) fun n W => lof_cs n s k _ _ _ W (hP n) b0 b1
  cases q9 : (x.toList == [97, 114])
  case true => rw [x_eq q9]; exact sameOf_of hg count_ar (eAr s k hn) fun n W => lof_ar n s k _ _ _ W (hP n) b0 b1
  exact sameOf_of hg (count_no x q0 q1 q2 q3 q4 q5 q6 q7 q8 q9) rfl fun n W => lof_no x n s k _ _ _ W (hP n) b0 b1 q0 q1 q2 q3 q4 q5 q6 q7 q8 q9
theorem same_rank (x s : ByteArray) (k : Nat) (hn : Num s.data.toList k) : SameRank x s k := by
  have hg := num_good s k hn
  have hP := num_parts s k hn
  obtain ⟨b0, b1⟩ := nL_bd s k
  cases q0 : (x.toList == [101, 110])
  case true => rw [x_eq q0]; exact sameRank_of hg rank_en (eREn s k hn) fun n W => lrank_en n s k _ _ _ W (hP n) b0 b1
  cases q4 : (x.toList == [102, 114])
  case true => rw [x_eq q4]; exact sameRank_of hg rank_fr (eRFr s k hn) fun n W => lrank_fr n s k _ _ _ W (hP n) b0 b1
  exact sameRank_of hg (rank_no x q4 q0) rfl fun n W => lrank_no x n s k _ _ _ W (hP n) b0 b1 q4 q0 (by rw [bne, q0]; rfl)

abbrev One (A B : Nat) (w : World) (a0 a1 a2 : Value) (W : World) : Prop :=
  W.cell? ⟨A, 0, none⟩ = some a0 ∧ W.cell? ⟨A, 1, none⟩ = some a1 ∧ W.cell? ⟨A, 2, none⟩ = some a2 ∧ A + 1 ≤ W.heap.size ∧ B ≤ W.heap.size ∧ Below B w W
theorem one_later {A B : Nat} {w W w1 : World} {a0 a1 a2 : Value} (hb1 : Below W.heap.size W w1) (h : One A B w a0 a1 a2 W) : One A B w a0 a1 a2 w1 := by
  obtain ⟨h0, h1, h2, hA, hB0, hB⟩ := h
  have hz := hb1.size
  exact ⟨(hb1.cell (p := ⟨A, 0, none⟩) hA).trans h0, (hb1.cell (p := ⟨A, 1, none⟩) hA).trans h1, (hb1.cell (p := ⟨A, 2, none⟩) hA).trans h2, by omega, by omega, hB.trans (hb1.mono hB0)⟩
theorem one_below {A B : Nat} {w W : World} {a0 a1 a2 : Value} (h : One A B w a0 a1 a2 W) : Below B w W := h.2.2.2.2.2
set_option maxHeartbeats 8000000 in
theorem lawOf (x : ByteArray) (n : Bool) (s : ByteArray) (sc : Int) (w : World) (hs : s.size ≤ 9223372036854775807) (h0 : -9223372036854775808 ≤ sc) (h1 : sc ≤ 9223372036854775807) :
    Calls Tryd.prog 3 #[.string x, .agg #[.bool n, .string s, .int .i64 sc]] w fun e w' => e = .returned (.bool true) ∧ Below w.heap.size w w' := by
  have L := Nat.le_refl w.heap.size
  have hRt := fun W => lawRight_any n s sc W hs h0 h1
  have HRt := Lib.hid hRt
  clear hRt h0 h1 hs
  go_enter Tryd.func3, Tryd.ntmps3
  go_wp2_with fail
  go_at_call 7
  refine (head_any _).mono ?_
  rintro e w1 ⟨rfl, hb1⟩
  obtain ⟨hc1, hf1⟩ := bcell hb1
  go_wp2_with fail
  go_at_call 8
  refine (HRt.out _).mono ?_
  rintro e w2 ⟨hr, hb2⟩
  have B1 := below_box hb1
  have B2 := below_then B1 L hb2
  rcases hr with rfl | ⟨k, rfl, hnum, rfl⟩
  · clear hb2 hb1 HRt
    go_wp2
    go_ret
    exact ⟨rfl, B2⟩
  obtain ⟨c, hof, hlof⟩ := same_of x s k hnum
  obtain ⟨r, hrk, hlrk⟩ := same_rank x s k hnum
  have o1 := hof n
  have o2 := hlof n
  have o3 := hrk n
  have o4 := hlrk n
  have start : One w.heap.size w.heap.size w (.bool n) (.string s) (.int .i64 (k : Int)) w2 := by
    have hz : (w.alloc (.cells #[.bool n, .string s, .int .i64 (k : Int)] 23)).heap.size ≤ w2.heap.size := Nat.le_trans hb1.size hb2.size
    have hz' : w.heap.size < w1.heap.size := by have := hb1.size; simp at this; omega
    refine ⟨?_, ?_, ?_, by simp at hz; omega, B2.size, B2⟩
    all_goals
      rw [hb2.cell (p := ⟨w.heap.size, _, none⟩) hz', hc1 _ _ (by simp)]
      simp
  clear hnum hof hlof hrk hlrk HRt hb1 hb2 B1 B2 hc1 hf1
  have hcell := start
  go_wp2_with fail
  go_region_held3 (fun w' => w'.cell? ⟨w.heap.size, 0, none⟩ = some (.bool n) ∧ w'.cell? ⟨w.heap.size, 1, none⟩ = some (.string s) ∧ w'.cell? ⟨w.heap.size, 2, none⟩ = some (.int .i64 (k : Int)) ∧ w.heap.size + 1 ≤ w'.heap.size ∧ w.heap.size ≤ w'.heap.size ∧ Below w.heap.size w w')
    (first | (exact one_later (by assumption) (by assumption)) | (exact one_later (Below.refl _ _).drew start) | go_keep)
    (first | (go_at_call 9; (with_reducible refine (o1.at_ _).mono ?_); rintro e w5 ⟨rfl, hb5⟩) | (go_at_call 10; (with_reducible refine (o2.at_ _).mono ?_); rintro e w5 ⟨rfl, hb5⟩) | (go_at_call 11; (with_reducible refine (o3.at_ _).mono ?_); rintro e w5 ⟨rfl, hb5⟩) | (go_at_call 12; (with_reducible refine (o4.at_ _).mono ?_); rintro e w5 ⟨rfl, hb5⟩))
  go_wp2
  go_ret
  exact ⟨rfl, one_below (by assumption)⟩
end Go.Proofs.YtmkcebngobanjabDoor
