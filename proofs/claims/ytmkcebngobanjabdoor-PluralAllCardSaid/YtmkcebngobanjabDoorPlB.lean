/-
  PluralAll: whole numbers of three digits in all languages that have rules.
-/
import Derived.Test.YtmkcebngobanjabDoorPlA
namespace Go.Proofs.YtmkcebngobanjabDoor
open Go.RowKit
set_option linter.unusedVariables false

theorem dgA_num (u : Nat) (h : u ≤ 999) : Num (dgA u).data.toList 0 := by
  obtain ⟨c, l, he, hc, h48⟩ := decDigits_head u
  have hg := dgA_good u (by omega)
  have hl : (dgA u).data.toList.length ≤ 20 := by
    rw [dgA_data]
    have := decDigits_le (n := (u : Int)) (by omega) (by omega)
    simpa using this
  refine ⟨hg.dig, by omega, ?_, ?_⟩
  · rw [dgA_data, he]; simp
  · rw [dgA_data, he]
    by_cases e : c = 48
    · right
      rw [h48 e]
      rfl
    · left
      simp [e]
theorem intNeg (u : Nat) (h : u ≤ 999) : IntTo (-(u : Int)) (decide (-(u : Int) < 0)) (dgA u) := fun W hT => by
  have := int_any (-(u : Int)) (by omega) (by omega) W hT
  rw [Int.natAbs_neg, Int.natAbs_natCast] at this
  exact this
def TextTo (n : Bool) (s : ByteArray) (T : ByteArray) : Prop := ∀ W : World, Calls Tryd.prog 14 #[.agg #[.bool n, .string s, .int .i64 0]] W fun e w' => e = .returned (.string T) ∧ Below W.heap.size W w'
theorem textTo (u : Nat) (h : u ≤ 999) : ∃ T, TextTo false (dgA u) T ∧ T.toList.isEmpty = false ∧ ¬ T.toList = [] := by
  have hg := dgA_good u (by omega)
  have hn := (dgA_num u h).lt
  refine ⟨strB false (dgA u) 0, fun W => string_any false (dgA u) 0 W (by unfold maxLen; have := hg.le; omega) (Nat.zero_le _), ?_⟩
  have e : strB false (dgA u) 0 = dgA u := by
    apply bytes_eq
    unfold strB
    simp only [Bool.false_eq_true, if_false, if_true]
    rw [extract_take, Nat.sub_zero, ← size_data, List.take_length]
  rw [e, Lib.toList_data]
  have : (dgA u).data.toList ≠ [] := fun h => by rw [h] at hn; simp at hn
  exact ⟨by simpa using this, this⟩
theorem ja_ne (l : List UInt8) (h : ([106, 97] == l) = false) : ((⟨#[106, 97]⟩ : ByteArray).toList == l) = false := by
  rw [Lib.toList_data]
  exact h
theorem langs_at (W : World) (j : Nat) (h : j < 12) : ∃ X : ByteArray, (W.alloc (.cells #[.string ⟨#[101, 110]⟩, .string ⟨#[100, 101]⟩, .string ⟨#[110, 108]⟩, .string ⟨#[115, 118]⟩, .string ⟨#[102, 114]⟩, .string ⟨#[101, 115]⟩, .string ⟨#[112, 108]⟩, .string ⟨#[114, 117]⟩, .string ⟨#[99, 115]⟩, .string ⟨#[97, 114]⟩, .string ⟨#[106, 97]⟩, .string ⟨#[]⟩] 9)).cell? ⟨W.heap.size, j, none⟩ = some (.string X) := by
  rw [World.cell?_alloc_new]
  have : j = 0 ∨ j = 1 ∨ j = 2 ∨ j = 3 ∨ j = 4 ∨ j = 5 ∨ j = 6 ∨ j = 7 ∨ j = 8 ∨ j = 9 ∨ j = 10 ∨ j = 11 := by omega
  rcases this with rfl | rfl | rfl | rfl | rfl | rfl | rfl | rfl | rfl | rfl | rfl | rfl <;> exact ⟨_, rfl⟩
/-- What a round finds: both numbers in their boxes, the languages in theirs. -/
def RelW (A C : Nat) (w : World) (sA : ByteArray) (ng : Bool) (W : World) : Prop :=
  Two A C w.heap.size w (.bool false) (.string sA) (.int .i64 0) (.bool ng) (.string sA) (.int .i64 0) W ∧ (∀ j, j < 12 → ∃ X : ByteArray, W.cell? ⟨C + 1, j, none⟩ = some (.string X)) ∧ C + 1 < W.heap.size
theorem RelW.later {A C : Nat} {w W W1 : World} {sA : ByteArray} {ng : Bool} (h : RelW A C w sA ng W) (hb : Below W.heap.size W W1) : RelW A C w sA ng W1 := by
  obtain ⟨h1, h2, h3⟩ := h
  refine ⟨two_later hb h1, fun j hj => ?_, Nat.lt_of_lt_of_le h3 hb.size⟩
  obtain ⟨X, hX⟩ := h2 j hj
  exact ⟨X, (hb.cell (p := ⟨C + 1, j, none⟩) h3).trans hX⟩
set_option maxHeartbeats 16000000 in
set_option maxRecDepth 100000 in
theorem lawAll (a : Int) (w : World) (hT : TabPow w) : Calls Tryd.prog 4 #[.int .i64 a] w fun e w' => e = .returned (.bool true) ∧ Below w.heap.size w w' := by
  have L := Nat.le_refl w.heap.size
  have hu := utm a 1000 (by omega)
  generalize hmm : (IntKind.u64.wrap a).tmod 1000 = x at hu
  obtain ⟨x0, x1⟩ := hu
  obtain ⟨u, rfl⟩ : ∃ u : Nat, x = (u : Int) := ⟨x.toNat, by omega⟩
  have hu9 : u ≤ 999 := by omega
  have hnum := dgA_num u hu9
  have sOf := fun X => same_of X (dgA u) 0 hnum
  have sRk := fun X => same_rank X (dgA u) 0 hnum
  have iA := intTo u (by omega)
  have iB := intNeg u hu9
  obtain ⟨T, tT, tE, tN⟩ := textTo u hu9
  have oja : OfTo ⟨#[106, 97]⟩ false (dgA u) 0 0 := ofTo (F := fun _ _ => 0) (count_no ⟨#[106, 97]⟩ (ja_ne _ (by decide)) (ja_ne _ (by decide)) (ja_ne _ (by decide)) (ja_ne _ (by decide)) (ja_ne _ (by decide)) (ja_ne _ (by decide)) (ja_ne _ (by decide)) (ja_ne _ (by decide)) (ja_ne _ (by decide)) (ja_ne _ (by decide))) false (dgA_good u (by omega))
  generalize dgA u = sA at *
  generalize hng : decide (-(u : Int) < 0) = ng at *
  have IA := Lib.hid iA
  have IB := Lib.hid iB
  have HT := Lib.hid hT
  have SO := Lib.hid sOf
  have SR := Lib.hid sRk
  have TT := Lib.hid tT
  have OJ := Lib.hid oja
  clear iA iB hT sOf sRk hnum hng tT oja
  go_enter Tryd.func4, Tryd.ntmps4
  go_wp2_with fail
  go_at_call 7
  refine (head_any _).mono ?_
  rintro e w1 ⟨rfl, h1⟩
  have HT1 := Lib.hid (HT.out.below h1)
  go_wp2_with fail
  go_at_call 13
  refine (IA.out _ HT1.out).mono ?_
  rintro e w2 ⟨rfl, h2⟩
  have HT2 := Lib.hid ((HT1.out.below h2).alloc (.cells #[.bool false, .string sA, .int .i64 0] 23))
  have hz2 : w.heap.size ≤ w2.heap.size := Nat.le_trans h1.size h2.size
  go_wp2_with fail
  go_at_call 13
  refine (IB.out _ HT2.out).mono ?_
  rintro e w3 ⟨rfl, h3⟩
  obtain ⟨hc3, hf3⟩ := bcell h3
  have hz3 : w2.heap.size < w3.heap.size := by have := h3.size; simp at this; omega
  have B3 := below_then (below_new (below_then h1 L h2) L (.cells #[.bool false, .string sA, .int .i64 0] 23)) L h3
  go_wp2_with fail
  have hstart : RelW w2.heap.size w3.heap.size w sA ng ((w3.alloc (.cells #[.bool ng, .string sA, .int .i64 0] 23)).alloc (.cells #[.string ⟨#[101, 110]⟩, .string ⟨#[100, 101]⟩, .string ⟨#[110, 108]⟩, .string ⟨#[115, 118]⟩, .string ⟨#[102, 114]⟩, .string ⟨#[101, 115]⟩, .string ⟨#[112, 108]⟩, .string ⟨#[114, 117]⟩, .string ⟨#[99, 115]⟩, .string ⟨#[97, 114]⟩, .string ⟨#[106, 97]⟩, .string ⟨#[]⟩] 9)) := by
    refine ⟨two_later (W := w3.alloc (.cells #[.bool ng, .string sA, .int .i64 0] 23)) ((Below.refl _ _).alloc (Nat.le_refl _) _) ⟨?_, ?_, ?_, by simp, by simp, by simp, by simp; omega, by simp, by simp; omega, below_new B3 L _⟩, fun j hj => ?_, by simp⟩
    · rw [World.cell?_alloc_lt _ _ _ hz3, hc3 _ _ (by simp)]
      simp
    · rw [World.cell?_alloc_lt _ _ _ hz3, hc3 _ _ (by simp)]
      simp
    · rw [World.cell?_alloc_lt _ _ _ hz3, hc3 _ _ (by simp)]
      simp
    · have := langs_at (w3.alloc (.cells #[.bool ng, .string sA, .int .i64 0] 23)) j hj
      rw [World.size_alloc] at this
      exact this
  have Hst := Lib.hid hstart
  clear hstart h1 h2 h3 hc3 hf3 B3
  go_loopw [6, 20] (fun _ t wr => ∃ j : Nat, t = .int .i64 j ∧ j ≤ 12 ∧ Hid (RelW w2.heap.size w3.heap.size w sA ng wr)) (fun _ t _ => 12 - (intOf t).toNat)
  case atStart => exact ⟨0, rfl, by omega, Hst⟩
  case round =>
    obtain ⟨j, rfl, hj, hr⟩ := hrel
    obtain ⟨⟨c0, c1, c2, c3, c4, c5, zA, zC, zB, hB⟩, hlang, hlz⟩ := hr.out
    by_cases hlt : j < 12
    · obtain ⟨X, hX⟩ := hlang j hlt
      obtain ⟨c, hof, hlof⟩ := SO.out X
      obtain ⟨r, hrk, hlrk⟩ := SR.out X
      have o1 : OfTo X false sA 0 c := hof false
      have o2 : LOfTo X false sA 0 c := hlof false
      have o3 : OfTo X ng sA 0 c := hof ng
      have r1 : RankTo X false sA 0 r := hrk false
      have r2 : LRankTo X false sA 0 r := hlrk false
      have r3 : RankTo X ng sA 0 r := hrk ng
      have start : Two w2.heap.size w3.heap.size wr.heap.size wr (.bool false) (.string sA) (.int .i64 0) (.bool ng) (.string sA) (.int .i64 0) wr := ⟨c0, c1, c2, c3, c4, c5, zA, zC, Nat.le_refl _, Below.refl _ _⟩
      clear hlang hof hlof hrk hlrk hB
      go_wp2_with fail
      go_region_held3 (fun w' => w'.cell? ⟨w2.heap.size, 0, none⟩ = some (.bool false) ∧ w'.cell? ⟨w2.heap.size, 1, none⟩ = some (.string sA) ∧ w'.cell? ⟨w2.heap.size, 2, none⟩ = some (.int .i64 0) ∧ w'.cell? ⟨w3.heap.size, 0, none⟩ = some (.bool ng) ∧ w'.cell? ⟨w3.heap.size, 1, none⟩ = some (.string sA) ∧ w'.cell? ⟨w3.heap.size, 2, none⟩ = some (.int .i64 0) ∧ w2.heap.size + 1 ≤ w'.heap.size ∧ w3.heap.size + 1 ≤ w'.heap.size ∧ wr.heap.size ≤ w'.heap.size ∧ Below wr.heap.size wr w')
        (first | (exact two_later (by assumption) (by assumption)) | (exact two_later (Below.refl _ _).drew start) | go_keep)
        (first | (go_at_call 9; (with_reducible refine (o1.at_ _).mono ?_); rintro e w5 ⟨rfl, hb5⟩) | (go_at_call 9; (with_reducible refine (o3.at_ _).mono ?_); rintro e w5 ⟨rfl, hb5⟩) | (go_at_call 10; (with_reducible refine (o2.at_ _).mono ?_); rintro e w5 ⟨rfl, hb5⟩) | (go_at_call 11; (with_reducible refine (r1.at_ _).mono ?_); rintro e w5 ⟨rfl, hb5⟩) | (go_at_call 11; (with_reducible refine (r3.at_ _).mono ?_); rintro e w5 ⟨rfl, hb5⟩) | (go_at_call 12; (with_reducible refine (r2.at_ _).mono ?_); rintro e w5 ⟨rfl, hb5⟩))
      go_wp2
      go_roundw
      case rel => exact ⟨j + 1, by go_num, by omega, Lib.hid (hr.out.later (two_below (by assumption)))⟩
      case measure => simp [intOf]; omega
    · obtain rfl : j = 12 := by omega
      have HBw := Lib.hid hB
      clear hlang hB
      go_wp2_with fail
      go_at_call 9
      refine (OJ.out _).mono ?_
      rintro e w5 ⟨rfl, h5⟩
      obtain ⟨hc5, hf5⟩ := bcell h5
      have H5 := Lib.hid (below_then HBw.out L h5)
      have zA' : w2.heap.size < wr.heap.size := zA
      go_wp2_with fail
      go_at_call 14
      refine (TT.out _).mono ?_
      rintro e w6 ⟨rfl, h6⟩
      go_wp2
      go_ret
      exact ⟨ret_bool (by simp), below_then H5.out L h6⟩
end Go.Proofs.YtmkcebngobanjabDoor
