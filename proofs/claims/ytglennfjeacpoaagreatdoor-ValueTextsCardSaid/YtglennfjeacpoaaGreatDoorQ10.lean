/-
  Several texts put together (part 10): what the law and the program call, walked; their contracts.
-/
import Derived.Test.YtglennfjeacpoaaGreatDoorQ8
import Derived.Test.YtglennfjeacpoaaGreatDoorQ9
import Derived.Lib.RabinKarpLaws
import Derived.Test.YtglennfjeacpoaaGreatDoorQ3
import Derived.ChangeAgain
import Derived.Lib.SmallJoins
import Derived.Deep.RegionHeld3
namespace Go.Proofs.YtglennfjeacpoaaGreatDoor
open Go.RowKit
set_option maxHeartbeats 400000 in
theorem zero_any (neg : Bool) (s : ByteArray) (sc : Int) (w : World) (hs : s.size ≤ maxLen) :
    Calls Tryz.prog 39 #[.agg #[.bool neg, .string s, .int .i64 sc]] w fun e w' => e = .returned (.bool (Lib.trimB s.data.toList 48).isEmpty) ∧ Below w.heap.size w w' := by
  unfold maxLen at hs
  go_enter Tryz.func39, Tryz.ntmps39
  go_wp2_with (go_at_call 80; refine (Tryz.strings_Trim_one s 48 (by decide) _ (by omega)).mono ?_; rintro e w1 ⟨rfl, hw1⟩)
  go_ret
  refine ⟨ret_bool ?_, ?_⟩
  · simp
  · rcases hw1 with rfl | rfl
    · exact (Below.refl _ _).alloc (Nat.le_refl _) _
    · exact ((Below.refl _ _).alloc (Nat.le_refl _) _).drew
end Go.Proofs.YtglennfjeacpoaaGreatDoor

namespace Go.Proofs.YtglennfjeacpoaaGreatDoor
open Go.RowKit
theorem shp_below {w w1 : World} (h : w.ShapedOpen Tryz.prog) (hb : Below w.heap.size w w1) : w1.ShapedOpen Tryz.prog :=
  h.keptBut (hb.frame (fun _ => False)) (fun _ h => h.elim)
theorem shp_alloc {w : World} (h : w.ShapedOpen Tryz.prog) (o : Obj) : (w.alloc o).ShapedOpen Tryz.prog :=
  shp_below h ((Below.refl _ _).alloc (Nat.le_refl _) o)
def parseL (l : List UInt8) : Option (Bool × List UInt8 × Nat) :=
  let b := Lib.trimPrefix l [45]
  let c := Lib.cut b [46]
  if digsB c.1 = true ∧ (c.2.2 = true → digsB c.2.1 = true) ∧ c.1.length + c.2.1.length ≤ 40 then
    some (Lib.hasPrefix l [45], Lib.trimLeftB (c.1.take (c.1.length - 1)) 48 ++ c.1.drop (c.1.length - 1) ++ c.2.1, c.2.1.length)
  else none
def ParseEnd (l : List UInt8) (e : Ending) : Prop :=
  match parseL l with
  | some (n, d, k) => e = .returned (.tuple #[.agg #[.bool n, .string ⟨d.toArray⟩, .int .i64 k], .bool true])
  | none => e = .returned (.tuple #[.agg #[.bool false, .string ⟨#[]⟩, .int .i64 0], .bool false])
theorem cut_le (l p : List UInt8) : (Lib.cut l p).1.length + (Lib.cut l p).2.1.length ≤ l.length := by
  unfold Lib.cut
  split
  · simp only [List.length_take, List.length_drop]; omega
  · simp
theorem trimPrefix_le (l p : List UInt8) : (Lib.trimPrefix l p).length ≤ l.length := by
  unfold Lib.trimPrefix
  split
  · simp
  · exact Nat.le_refl _
def CutTo (t : List UInt8) (a b : ByteArray) (h : Bool) : Prop := ∀ W : World, W.ShapedOpen Tryz.prog →
  Calls Tryz.prog 91 #[.string ⟨t.toArray⟩, .string ⟨#[46]⟩] W fun e w' => e = .returned (.tuple #[.string a, .string b, .bool h]) ∧ Below W.heap.size W w'
theorem below_drewN {B : Nat} {a w : World} (h : Below B a w) (n : Nat) : Below B a (w.drewN n) := ⟨h.os, h.tape, h.output, h.size, h.block⟩
theorem cutTo (t : List UInt8) (ht : t.length < 4294967281) : CutTo t ⟨(Lib.cut t [46]).1.toArray⟩ ⟨(Lib.cut t [46]).2.1.toArray⟩ (Lib.cut t [46]).2.2 := by
  intro W hW
  refine (Tryz.strings_Cut_shaped _ _ _ hW (by rw [size_mk]; exact ht)).mono ?_
  rintro e w' ⟨rfl, n, rfl⟩
  exact ⟨rfl, below_drewN (Below.refl _ _) n⟩
def PrefTo (s : ByteArray) (t : List UInt8) (n : Bool) : Prop := ∀ W : World,
  Calls Tryz.prog 90 #[.string s, .string ⟨#[45]⟩] W fun e w' => e = .returned (.tuple #[.string ⟨t.toArray⟩, .bool n]) ∧ W = w'
theorem prefTo (s : ByteArray) : PrefTo s (Lib.trimPrefix s.data.toList [45]) (Lib.hasPrefix s.data.toList [45]) := by
  intro W
  refine (Tryz.strings_CutPrefix _ _ _).mono ?_
  rintro e w' ⟨rfl, rfl⟩
  exact ⟨rfl, rfl⟩
set_option maxHeartbeats 1000000 in
theorem parse_no (s a b : ByteArray) (t : List UInt8) (n h : Bool) (w : World) (hsh : w.ShapedOpen Tryz.prog) (hab : a.size + b.size < 4294967281)
    (hpre : PrefTo s t n) (hcut : CutTo t a b h) (hno : digsB a.data.toList = false ∨ (digsB a.data.toList = true ∧ h = true ∧ digsB b.data.toList = false) ∨ (digsB a.data.toList = true ∧ (h = true → digsB b.data.toList = true) ∧ 40 < a.size + b.size)) :
    Calls Tryz.prog 49 #[.string s] w fun e w' => e = .returned (.tuple #[.agg #[.bool false, .string ⟨#[]⟩, .int .i64 0], .bool false]) ∧ Below w.heap.size w w' := by
  have hma : a.size ≤ maxLen := by unfold maxLen; omega
  have hmb : b.size ≤ maxLen := by unfold maxLen; omega
  rcases hno with hd | ⟨hd, hh, hb⟩ | ⟨hd, hb, hl⟩
  · go_enter Tryz.func49, Tryz.ntmps49
    go_wp2_with (first | (go_at_call 90; refine (hpre _).mono ?_; rintro e w2 ⟨rfl, rfl⟩) | (go_at_call 91; refine (hcut _ (shp_alloc hsh _)).mono ?_; rintro e w3 ⟨rfl, hb3⟩; obtain ⟨hc3, hf3⟩ := bcell hb3) | (go_at_call 92; refine (areDigits_any _ _ (by assumption)).mono ?_; rintro e w4 ⟨rfl, rfl⟩))
    exact bodyPost_ret (v := .tuple #[.agg #[.bool false, .string ⟨#[]⟩, .int .i64 0], .bool false]) (by simp [results, Tryz.results49, go_sem, hc3]) rfl ⟨rfl, Below.set3 (below_box hb3) (Nat.le_refl _) _ _ _⟩
  · subst hh
    go_enter Tryz.func49, Tryz.ntmps49
    go_wp2_with (first | (go_at_call 90; refine (hpre _).mono ?_; rintro e w2 ⟨rfl, rfl⟩) | (go_at_call 91; refine (hcut _ (shp_alloc hsh _)).mono ?_; rintro e w3 ⟨rfl, hb3⟩; obtain ⟨hc3, hf3⟩ := bcell hb3) | (go_at_call 92; refine (areDigits_any _ _ (by assumption)).mono ?_; rintro e w4 ⟨rfl, rfl⟩))
    exact bodyPost_ret (v := .tuple #[.agg #[.bool false, .string ⟨#[]⟩, .int .i64 0], .bool false]) (by simp [results, Tryz.results49, go_sem, hc3]) rfl ⟨rfl, Below.set3 (below_box hb3) (Nat.le_refl _) _ _ _⟩
  · cases h
    · clear hb
      go_enter Tryz.func49, Tryz.ntmps49
      go_wp2_with (first | (go_at_call 90; refine (hpre _).mono ?_; rintro e w2 ⟨rfl, rfl⟩) | (go_at_call 91; refine (hcut _ (shp_alloc hsh _)).mono ?_; rintro e w3 ⟨rfl, hb3⟩; obtain ⟨hc3, hf3⟩ := bcell hb3) | (go_at_call 92; refine (areDigits_any _ _ (by assumption)).mono ?_; rintro e w4 ⟨rfl, rfl⟩))
      exact bodyPost_ret (v := .tuple #[.agg #[.bool false, .string ⟨#[]⟩, .int .i64 0], .bool false]) (by simp [results, Tryz.results49, go_sem, hc3]) rfl ⟨rfl, Below.set3 (below_box hb3) (Nat.le_refl _) _ _ _⟩
    · have hb := hb rfl
      go_enter Tryz.func49, Tryz.ntmps49
      go_wp2_with (first | (go_at_call 90; refine (hpre _).mono ?_; rintro e w2 ⟨rfl, rfl⟩) | (go_at_call 91; refine (hcut _ (shp_alloc hsh _)).mono ?_; rintro e w3 ⟨rfl, hb3⟩; obtain ⟨hc3, hf3⟩ := bcell hb3) | (go_at_call 92; refine (areDigits_any _ _ (by assumption)).mono ?_; rintro e w4 ⟨rfl, rfl⟩))
      exact bodyPost_ret (v := .tuple #[.agg #[.bool false, .string ⟨#[]⟩, .int .i64 0], .bool false]) (by simp [results, Tryz.results49, go_sem, hc3]) rfl ⟨rfl, Below.set3 (below_box hb3) (Nat.le_refl _) _ _ _⟩
theorem digsB_pos {l : List UInt8} (h : digsB l = true) : 0 < l.length := by
  cases l with
  | nil => exact absurd h (by decide)
  | cons c l => simp
def TrimTo (a c : ByteArray) : Prop := ∀ W : World, Calls Tryz.prog 93 #[.string a, .string ⟨#[48]⟩] W fun e w' => e = .returned (.string c) ∧ W = w'
theorem trimTo (a : ByteArray) : TrimTo a ⟨(Lib.trimLeftB a.data.toList 48).toArray⟩ := by
  intro W
  refine (Tryz.strings_TrimLeft_one _ 48 (by decide) _).mono ?_
  rintro e w' ⟨rfl, rfl⟩
  exact ⟨rfl, rfl⟩
set_option maxHeartbeats 1000000 in
theorem parse_yes (s a b c : ByteArray) (t : List UInt8) (n h : Bool) (w : World) (hsh : w.ShapedOpen Tryz.prog)
    (hpre : PrefTo s t n) (hcut : CutTo t a b h) (hd : digsB a.data.toList = true) (hb : h = true → digsB b.data.toList = true) (hl : a.size + b.size ≤ 40) (htrim : TrimTo (a.extract 0 (a.size - 1)) c) (hcl : c.size ≤ a.size) :
    Calls Tryz.prog 49 #[.string s] w fun e w' => e = .returned (.tuple #[.agg #[.bool n, .string (c ++ a.extract (a.size - 1) a.size ++ b), .int .i64 b.size], .bool true]) ∧ Below w.heap.size w w' := by
  have hma : a.size ≤ maxLen := by unfold maxLen; omega
  have hmb : b.size ≤ maxLen := by unfold maxLen; omega
  have hpos := digsB_pos hd
  rw [size_data] at hpos
  have hi0 : (0 : Int) ≤ (a.size : Int) - 1 := by omega
  have hi1 : (a.size : Int) - 1 ≤ a.size := by omega
  have hi2 : (1 : Int) ≤ (a.size : Int) := by omega
  have hi3 : ((a.size : Int) - 1).toNat = a.size - 1 := by omega
  have hcat : ¬ 9223372036854775807 < c.size + (a.size - (a.size - 1)) := by omega
  cases h
  · clear hb
    go_enter Tryz.func49, Tryz.ntmps49
    go_wp2_with (first | (go_at_call 90; refine (hpre _).mono ?_; rintro e w2 ⟨rfl, rfl⟩) | (go_at_call 91; refine (hcut _ (shp_alloc hsh _)).mono ?_; rintro e w3 ⟨rfl, hb3⟩; obtain ⟨hc3, hf3⟩ := bcell hb3) | (go_at_call 92; refine (areDigits_any _ _ (by assumption)).mono ?_; rintro e w4 ⟨rfl, rfl⟩))
    go_region_held3 (fun w' => Below w3.heap.size w3 w') (first | assumption | (exact (Below.refl _ _).drew)) (first | (go_at_call 93; refine (htrim _).mono ?_; rintro e w5 ⟨rfl, rfl⟩))
    go_wp2
    exact bodyPost_ret (v := .tuple #[.agg #[.bool n, .string (c ++ a.extract (a.size - 1) a.size ++ b), .int .i64 b.size], .bool true]) (by simp [results, Tryz.results49, go_sem, hc3]) rfl ⟨rfl, Below.set3 (below_box hb3).drew (Nat.le_refl _) _ _ _⟩
  · have hb := hb rfl
    go_enter Tryz.func49, Tryz.ntmps49
    go_wp2_with (first | (go_at_call 90; refine (hpre _).mono ?_; rintro e w2 ⟨rfl, rfl⟩) | (go_at_call 91; refine (hcut _ (shp_alloc hsh _)).mono ?_; rintro e w3 ⟨rfl, hb3⟩; obtain ⟨hc3, hf3⟩ := bcell hb3) | (go_at_call 92; refine (areDigits_any _ _ (by assumption)).mono ?_; rintro e w4 ⟨rfl, rfl⟩))
    go_region_held3 (fun w' => Below w3.heap.size w3 w') (first | assumption | (exact (Below.refl _ _).drew)) (first | (go_at_call 93; refine (htrim _).mono ?_; rintro e w5 ⟨rfl, rfl⟩))
    go_wp2
    exact bodyPost_ret (v := .tuple #[.agg #[.bool n, .string (c ++ a.extract (a.size - 1) a.size ++ b), .int .i64 b.size], .bool true]) (by simp [results, Tryz.results49, go_sem, hc3]) rfl ⟨rfl, Below.set3 (below_box hb3).drew (Nat.le_refl _) _ _ _⟩
theorem parse_any (s : ByteArray) (w : World) (hsh : w.ShapedOpen Tryz.prog) (hs : s.size < 4294967281) :
    Calls Tryz.prog 49 #[.string s] w fun e w' => ParseEnd s.data.toList e ∧ Below w.heap.size w w' := by
  have hle := cut_le (Lib.trimPrefix s.data.toList [45]) [46]
  have htl := trimPrefix_le s.data.toList [45]
  rw [size_data] at htl
  have hpre := prefTo s
  have hcut := cutTo (Lib.trimPrefix s.data.toList [45]) (by omega)
  by_cases hy : digsB (Lib.cut (Lib.trimPrefix s.data.toList [45]) [46]).1 = true ∧ ((Lib.cut (Lib.trimPrefix s.data.toList [45]) [46]).2.2 = true → digsB (Lib.cut (Lib.trimPrefix s.data.toList [45]) [46]).2.1 = true) ∧ (Lib.cut (Lib.trimPrefix s.data.toList [45]) [46]).1.length + (Lib.cut (Lib.trimPrefix s.data.toList [45]) [46]).2.1.length ≤ 40
  · have hp : parseL s.data.toList = some (Lib.hasPrefix s.data.toList [45], Lib.trimLeftB ((Lib.cut (Lib.trimPrefix s.data.toList [45]) [46]).1.take ((Lib.cut (Lib.trimPrefix s.data.toList [45]) [46]).1.length - 1)) 48 ++ (Lib.cut (Lib.trimPrefix s.data.toList [45]) [46]).1.drop ((Lib.cut (Lib.trimPrefix s.data.toList [45]) [46]).1.length - 1) ++ (Lib.cut (Lib.trimPrefix s.data.toList [45]) [46]).2.1, (Lib.cut (Lib.trimPrefix s.data.toList [45]) [46]).2.1.length) := by
      unfold parseL; rw [if_pos hy]
    obtain ⟨h1, h2, h3⟩ := hy
    generalize hc : Lib.cut (Lib.trimPrefix s.data.toList [45]) [46] = c at *
    obtain ⟨a, b, h⟩ := c
    refine (parse_yes s ⟨a.toArray⟩ ⟨b.toArray⟩ _ _ _ h w hsh hpre hcut h1 h2 (by rw [size_mk, size_mk]; exact h3) (trimTo _) ?_).mono ?_
    · rw [size_mk, size_mk]
      unfold Lib.trimLeftB
      refine Nat.le_trans (dropWhile_le _ _) ?_
      rw [extract_take]
      simp
    · rintro e w' ⟨rfl, hb⟩
      refine ⟨?_, hb⟩
      unfold ParseEnd
      rw [hp]
      have e1 : (⟨(Lib.trimLeftB ((⟨a.toArray⟩ : ByteArray).extract 0 ((⟨a.toArray⟩ : ByteArray).size - 1)).data.toList 48).toArray⟩ ++ (⟨a.toArray⟩ : ByteArray).extract ((⟨a.toArray⟩ : ByteArray).size - 1) (⟨a.toArray⟩ : ByteArray).size ++ ⟨b.toArray⟩ : ByteArray) = ⟨(Lib.trimLeftB (a.take (a.length - 1)) 48 ++ a.drop (a.length - 1) ++ b).toArray⟩ := by
        apply bytes_eq
        rw [Joins.data_append, Joins.data_append, extract_take, Lib.extract_data, size_mk]
        simp
        rw [List.take_of_length_le (by simp)]
      rw [e1, size_mk]
  · have hp : parseL s.data.toList = none := by
      unfold parseL; rw [if_neg hy]
    refine (parse_no s _ _ _ _ _ w hsh ?_ hpre hcut ?_).mono ?_
    · rw [size_mk, size_mk]; omega
    · rw [size_mk, size_mk]
      show digsB (Lib.cut (Lib.trimPrefix s.data.toList [45]) [46]).1 = false ∨ (digsB (Lib.cut (Lib.trimPrefix s.data.toList [45]) [46]).1 = true ∧ (Lib.cut (Lib.trimPrefix s.data.toList [45]) [46]).2.2 = true ∧ digsB (Lib.cut (Lib.trimPrefix s.data.toList [45]) [46]).2.1 = false) ∨ _
      generalize Lib.cut (Lib.trimPrefix s.data.toList [45]) [46] = c at hy
      obtain ⟨a, b, h⟩ := c
      simp only at hy ⊢
      cases hd : digsB a
      · exact Or.inl rfl
      · cases h
        · exact Or.inr (Or.inr ⟨rfl, (fun h => by cases h), by
            rcases Nat.lt_or_ge 40 (a.length + b.length) with h | h
            · exact h
            · exact absurd ⟨hd, (fun h => by cases h), h⟩ hy⟩)
        · cases hd2 : digsB b
          · exact Or.inr (Or.inl ⟨rfl, rfl, rfl⟩)
          · exact Or.inr (Or.inr ⟨rfl, fun _ => rfl, by
              rcases Nat.lt_or_ge 40 (a.length + b.length) with h | h
              · exact h
              · exact absurd ⟨hd, (fun _ => hd2), h⟩ hy⟩)
    · rintro e w' ⟨rfl, hb⟩
      refine ⟨?_, hb⟩
      unfold ParseEnd
      rw [hp]
end Go.Proofs.YtglennfjeacpoaaGreatDoor

namespace Go.Proofs.YtglennfjeacpoaaGreatDoor
open Go.RowKit
def strB (neg : Bool) (s : ByteArray) (sc : Nat) : ByteArray :=
  let a := if neg then ⟨#[45]⟩ ++ s.extract 0 (s.size - sc) else s.extract 0 (s.size - sc)
  if sc = 0 then a else a ++ (⟨#[46]⟩ ++ s.extract (s.size - sc) s.size)
set_option maxHeartbeats 400000 in
theorem string_any (neg : Bool) (s : ByteArray) (sc : Nat) (w : World) (hs : s.size + 2 ≤ maxLen) (hsc : sc ≤ s.size) :
    Calls Tryz.prog 19 #[.agg #[.bool neg, .string s, .int .i64 sc]] w fun e w' => e = .returned (.string (strB neg s sc)) ∧ Below w.heap.size w w' := by
  have hm : s.size ≤ maxLen := by omega
  unfold maxLen at hs
  rcases Nat.eq_zero_or_pos sc with h0 | h0
  · subst h0
    cases neg <;>
    · go_enter Tryz.func19, Tryz.ntmps19
      go_wp2_with (go_at_call 37; refine (whole_any _ s _ _ hm (by omega)).mono ?_; rintro e w1 ⟨rfl, hb1⟩; obtain ⟨hc1, hf1⟩ := bcell hb1)
      go_ret
      exact ⟨ret_str (by simp [strB]), below_box hb1⟩
  · have hne : ¬ sc = 0 := by omega
    have Hne := Lib.hid hne
    clear hne
    cases neg <;>
    · go_enter Tryz.func19, Tryz.ntmps19
      go_wp2_with (first | (go_at_call 37; refine (whole_any _ s _ _ hm (by omega)).mono ?_; rintro e w1 ⟨rfl, hb1⟩; obtain ⟨hc1, hf1⟩ := bcell hb1) | (go_at_call 40; refine (part_any _ s _ _ hm (by omega)).mono ?_; rintro e w2 ⟨rfl, hb2⟩; obtain ⟨hc2, hf2⟩ := bcell hb2))
      go_ret
      exact ⟨ret_str (by simp [strB, Hne.out]), below_then (below_box hb1) (Nat.le_refl _) hb2⟩
end Go.Proofs.YtglennfjeacpoaaGreatDoor

namespace Go.Proofs.YtglennfjeacpoaaGreatDoor
open Go.RowKit
def decRightB (l : List UInt8) (sc : Int) : Bool := digsB l && decide (0 ≤ sc) && decide (sc < l.length) && (!(l.head? == some 48) || decide ((l.length : Int) - sc = 1))
theorem right_digs {l : List UInt8} {sc : Int} (h : ¬ digsB l = true) : decRightB l sc = false := by simp [decRightB, h]
theorem right_neg {l : List UInt8} {sc : Int} (h : sc < 0) : decRightB l sc = false := by
  have : ¬ 0 ≤ sc := by omega
  simp [decRightB, this]
theorem right_big {s : ByteArray} {sc : Int} (h0 : 0 ≤ sc) (h : sc < 0 ∨ (s.size : Int) ≤ sc) : decRightB s.data.toList sc = false := by
  have h' : ¬ sc < (s.data.toList.length : Int) := by rw [size_data]; omega
  simp only [decRightB, h', decide_false, Bool.and_false, Bool.false_and]
theorem right_full {s : ByteArray} {sc : Int} (hd : digsB s.data.toList = true) (h : 0 ≤ sc ∧ sc < (s.size : Int)) (h0 : 0 < s.size) (h48 : ¬ (s[0].toNat : Int) = 48) : decRightB s.data.toList sc = true := by
  have h1 : sc < (s.data.toList.length : Int) := by rw [size_data]; omega
  have h2 : (s[0] == (48 : UInt8)) = false := by
    rw [beq_eq_false_iff_ne]
    intro e
    exact h48 (by rw [e]; rfl)
  simp only [decRightB, hd, h.1, h1, head_data s h0, decide_true, Bool.and_self, Bool.true_and]
  simp [h2]
theorem right_nought {s : ByteArray} {sc : Int} (hd : digsB s.data.toList = true) (h : 0 ≤ sc ∧ sc < (s.size : Int)) (h0 : 0 < s.size) (h48 : (s[0].toNat : Int) = 48) : decRightB s.data.toList sc = decide ((s.size : Int) - sc = 1) := by
  have h1 : sc < (s.data.toList.length : Int) := by rw [size_data]; omega
  have h2 : s[0] = 48 := by
    apply UInt8.toNat_inj.mp
    have : s[0].toNat = 48 := by omega
    rw [this]; rfl
  have h3 : decide (sc < (s.data.toList.length : Int)) = true := by rw [decide_eq_true_eq]; exact h1
  simp only [decRightB, hd, h.1, h3, head_data s h0, h2, decide_true, Bool.and_self, Bool.true_and]
  simp
end Go.Proofs.YtglennfjeacpoaaGreatDoor

namespace Go.Proofs.YtglennfjeacpoaaGreatDoor
open Go.RowKit
theorem index_not (c : UInt8) : ∀ l : List UInt8, (∀ x ∈ l, x ≠ c) → Lib.index l [c] = -1
  | [], _ => rfl
  | b :: l, h => by
    have hb : (c == b) = false := by rw [beq_eq_false_iff_ne]; exact fun e => h b (List.mem_cons_self ..) e.symm
    have ih := index_not c l (fun x hx => h x (List.mem_cons_of_mem _ hx))
    simp [Lib.index, List.isPrefixOf, hb, ih]
theorem index_mid (c : UInt8) (y : List UInt8) : ∀ x : List UInt8, (∀ b ∈ x, b ≠ c) → Lib.index (x ++ c :: y) [c] = x.length
  | [], _ => by simp [Lib.index, List.isPrefixOf]
  | b :: x, h => by
    have hb : (c == b) = false := by rw [beq_eq_false_iff_ne]; exact fun e => h b (List.mem_cons_self ..) e.symm
    have ih := index_mid c y x (fun z hz => h z (List.mem_cons_of_mem _ hz))
    rw [List.cons_append]
    have e : ((x.length : Int) == -1) = false := by rw [beq_eq_false_iff_ne]; omega
    simp [Lib.index, List.isPrefixOf, hb, ih, e]
theorem cut_none (c : UInt8) (l : List UInt8) (h : ∀ x ∈ l, x ≠ c) : Lib.cut l [c] = (l, [], false) := by
  unfold Lib.cut
  rw [index_not c l h]
  rfl
theorem cut_mid (c : UInt8) (x y : List UInt8) (h : ∀ b ∈ x, b ≠ c) : Lib.cut (x ++ c :: y) [c] = (x, y, true) := by
  unfold Lib.cut
  rw [index_mid c y x h, if_pos (by omega)]
  simp
theorem dig_not46 {c : UInt8} (h : digB c = true) : c ≠ 46 := by
  intro e; rw [e] at h; exact absurd h (by decide)
theorem all_not46 {l : List UInt8} (h : l.all digB = true) : ∀ x ∈ l, x ≠ 46 := fun x hx => dig_not46 (List.all_eq_true.1 h x hx)
def bodyL (b : List UInt8) : Option (List UInt8 × Nat) :=
  let c := Lib.cut b [46]
  if digsB c.1 = true ∧ (c.2.2 = true → digsB c.2.1 = true) ∧ c.1.length + c.2.1.length ≤ 40 then
    some (Lib.trimLeftB (c.1.take (c.1.length - 1)) 48 ++ c.1.drop (c.1.length - 1) ++ c.2.1, c.2.1.length)
  else none
theorem parseL_body (l : List UInt8) : parseL l = (bodyL (Lib.trimPrefix l [45])).map fun x => (Lib.hasPrefix l [45], x.1, x.2) := by
  unfold parseL bodyL
  simp only
  split <;> rfl
def stripL (k : Nat) : List UInt8 → List UInt8
  | [] => []
  | c :: l => if k < l.length + 1 ∧ c = 48 then stripL k l else c :: l
theorem strip_whole (part : List UInt8) : ∀ w : List UInt8, w ≠ [] → stripL (part.length + 1) (w ++ part) = Lib.trimLeftB (w.take (w.length - 1)) 48 ++ w.drop (w.length - 1) ++ part
  | [], h => absurd rfl h
  | [c], _ => by simp [stripL, Lib.trimLeftB]
  | c :: d :: w, _ => by
    have ih := strip_whole part (d :: w) (by simp)
    have hk : part.length + 1 < ((d :: w) ++ part).length + 1 := by simp; omega
    have e1 : (c :: d :: w).length - 1 = (d :: w).length - 1 + 1 := by simp
    rw [e1, List.take_succ_cons, List.drop_succ_cons]
    by_cases h : c = 48
    · subst h
      rw [List.cons_append, stripL, if_pos ⟨hk, rfl⟩, ih]
      simp [Lib.trimLeftB]
    · rw [List.cons_append, stripL, if_neg (fun x => h x.2)]
      have h' : (c == 48) = false := by rw [beq_eq_false_iff_ne]; exact h
      unfold Lib.trimLeftB
      rw [List.dropWhile_cons, h']
      simp only [Bool.false_eq_true, if_false]
      rw [List.cons_append, List.cons_append]
      have := List.take_append_drop ((d :: w).length - 1) (d :: w)
      rw [this]
      rfl
theorem bodyL_plain {b : List UInt8} (h : b.all digB = true) : bodyL b = if b ≠ [] ∧ b.length ≤ 40 then some (stripL 1 b, 0) else none := by
  unfold bodyL
  rw [cut_none 46 b (all_not46 h)]
  by_cases hb : b = []
  · subst hb; simp [digsB]
  · have hd : digsB b = true := by
      unfold digsB; rw [h]; cases b with
      | nil => exact absurd rfl hb
      | cons => rfl
    have hs := strip_whole [] b hb
    simp only [List.append_nil, List.length_nil, Nat.zero_add] at hs
    by_cases hl : b.length ≤ 40
    · rw [if_pos ⟨hd, fun h => (by cases h), by simpa using hl⟩, if_pos ⟨hb, hl⟩, hs]
      simp
    · rw [if_neg (fun x => hl (by simpa using x.2.2)), if_neg (fun x => hl x.2)]
theorem bodyL_point {x y : List UInt8} (hx : x.all digB = true) (hy : y.all digB = true) (hx0 : x ≠ []) (hy0 : y ≠ []) : bodyL (x ++ 46 :: y) = if (x ++ y).length ≤ 40 then some (stripL (y.length + 1) (x ++ y), y.length) else none := by
  have hd : ∀ {l : List UInt8}, l.all digB = true → l ≠ [] → digsB l = true := by
    intro l h h0
    unfold digsB; rw [h]
    cases l with
    | nil => exact absurd rfl h0
    | cons => rfl
  unfold bodyL
  rw [cut_mid 46 x y (all_not46 hx), strip_whole y x hx0]
  by_cases hl : (x ++ y).length ≤ 40
  · rw [if_pos ⟨hd hx hx0, fun _ => hd hy hy0, by simpa using hl⟩, if_pos hl]
  · rw [if_neg (fun z => hl (by simpa using z.2.2)), if_neg hl]
theorem not_digs_of {l : List UInt8} {c : UInt8} (hc : c ∈ l) (h : digB c = false) : digsB l = false := by
  have : l.all digB = false := by
    rw [List.all_eq_false]; exact ⟨c, hc, by rw [h]; decide⟩
  unfold digsB; rw [this]; rfl
theorem bodyL_bad {x y : List UInt8} {c : UInt8} (hx : x.all digB = true) (hc : digB c = false) (h46 : c ≠ 46) : bodyL (x ++ c :: y) = none := by
  unfold bodyL
  have key : digsB (Lib.cut (x ++ c :: y) [46]).1 = false := by
    by_cases hy : ∃ u v, y = u ++ 46 :: v ∧ ∀ b ∈ u, b ≠ 46
    · obtain ⟨u, v, rfl, hu⟩ := hy
      have e : x ++ c :: (u ++ 46 :: v) = (x ++ c :: u) ++ 46 :: v := by simp
      rw [e, cut_mid 46 (x ++ c :: u) v (by
        intro b hb
        rcases List.mem_append.1 hb with h | h
        · exact all_not46 hx b h
        · rcases List.mem_cons.1 h with h | h
          · rw [h]; exact h46
          · exact hu b h)]
      exact not_digs_of (c := c) (by simp) hc
    · have hno : ∀ b ∈ y, b ≠ 46 := by
        intro b hb e
        subst e
        obtain ⟨u, v, e, hu⟩ : ∃ u v, y = u ++ 46 :: v ∧ ∀ b ∈ u, b ≠ 46 := by
          clear hy
          induction y with
          | nil => cases hb
          | cons d y ih =>
            by_cases hd : d = 46
            · exact ⟨[], y, by rw [hd]; rfl, fun _ h => by cases h⟩
            · rcases List.mem_cons.1 hb with h | h
              · exact absurd h.symm hd
              · obtain ⟨u, v, e, hu⟩ := ih h
                exact ⟨d :: u, v, by rw [e]; rfl, fun b hb => by
                  rcases List.mem_cons.1 hb with h | h
                  · rw [h]; exact hd
                  · exact hu b h⟩
        exact hy ⟨u, v, e, hu⟩
      rw [cut_none 46 _ (by
        intro b hb
        rcases List.mem_append.1 hb with h | h
        · exact all_not46 hx b h
        · rcases List.mem_cons.1 h with h | h
          · rw [h]; exact h46
          · exact hno b h)]
      exact not_digs_of (c := c) (by simp) hc
  simp only
  rw [if_neg (fun z => by rw [key] at z; exact absurd z.1 (by decide))]
theorem bodyL_first {y : List UInt8} : bodyL (46 :: y) = none := by
  unfold bodyL
  have := cut_mid 46 [] y (fun _ h => by cases h)
  rw [List.nil_append] at this
  rw [this]
  rfl
theorem bodyL_last {x : List UInt8} (hx : x.all digB = true) : bodyL (x ++ [46]) = none := by
  unfold bodyL
  rw [cut_mid 46 x [] (all_not46 hx)]
  simp only
  rw [if_neg (fun z => absurd (z.2.1 trivial) (by decide))]
theorem bodyL_behind {x z y : List UInt8} {c : UInt8} (hx : x.all digB = true) (hc : digB c = false) : bodyL (x ++ 46 :: (z ++ c :: y)) = none := by
  unfold bodyL
  rw [cut_mid 46 x _ (all_not46 hx)]
  simp only
  rw [if_neg (fun w => by
    have := w.2.1 trivial
    rw [not_digs_of (c := c) (by simp) hc] at this
    exact absurd this (by decide))]
def St (b : List UInt8) (i : Nat) (D : List UInt8) (p : Int) : Prop :=
  D.all digB = true ∧ ((p = -1 ∧ D = b.take i) ∨ ∃ q : Nat, p = q ∧ 0 < q ∧ q < i ∧ q + 1 < b.length ∧ b[q]? = some 46 ∧ D = b.take q ++ (b.take i).drop (q + 1))
theorem St_start (b : List UInt8) : St b 0 [] (-1) := ⟨rfl, Or.inl ⟨rfl, rfl⟩⟩
theorem St_len {b D : List UInt8} {i : Nat} {p : Int} (h : St b i D p) (hi : i ≤ b.length) : D.length ≤ i ∧ -1 ≤ p ∧ p < i := by
  obtain ⟨_, ⟨rfl, rfl⟩ | ⟨q, rfl, h0, h1, h2, h3, rfl⟩⟩ := h
  · simp; omega
  · simp; omega
theorem St_digit {b D : List UInt8} {i : Nat} {p : Int} (h : St b i D p) (hi : i < b.length) (hd : digB b[i] = true) : St b (i + 1) (D ++ [b[i]]) p := by
  obtain ⟨hall, h⟩ := h
  refine ⟨by rw [List.all_append, hall]; simp [hd], ?_⟩
  rcases h with ⟨rfl, rfl⟩ | ⟨q, rfl, h0, h1, h2, h3, rfl⟩
  · exact Or.inl ⟨rfl, by rw [List.take_succ_eq_append_getElem hi]⟩
  · refine Or.inr ⟨q, rfl, h0, by omega, h2, h3, ?_⟩
    rw [List.take_succ_eq_append_getElem hi, List.drop_append_of_le_length (by simp; omega), List.append_assoc]
theorem St_point {b D : List UInt8} {i : Nat} (h : St b i D (-1)) (hi : i + 1 < b.length) (h46 : b[i]'(by omega) = 46) (h0 : 0 < i) : St b (i + 1) D i := by
  obtain ⟨hall, h⟩ := h
  refine ⟨hall, ?_⟩
  rcases h with ⟨_, rfl⟩ | ⟨q, hq, _⟩
  · refine Or.inr ⟨i, rfl, h0, by omega, hi, by rw [List.getElem?_eq_getElem (by omega), h46], ?_⟩
    rw [List.drop_of_length_le (by rw [List.length_take]; omega), List.append_nil]
  · omega
theorem split_mid {b : List UInt8} {q : Nat} {c : UInt8} (h : b[q]? = some c) : b = b.take q ++ c :: b.drop (q + 1) := by
  obtain ⟨hq, e⟩ := List.getElem?_eq_some_iff.1 h
  conv => lhs; rw [← List.take_append_drop q b, List.drop_eq_getElem_cons hq, e]
theorem St_bad {b D : List UInt8} {i : Nat} {p : Int} (h : St b i D p) (hi : i < b.length) (hd : digB b[i] = false) (hp : ¬ (b[i] = 46 ∧ p < 0 ∧ 0 < i ∧ i + 1 < b.length)) : bodyL b = none := by
  obtain ⟨hall, h⟩ := h
  have hs := split_mid (List.getElem?_eq_getElem hi)
  rcases h with ⟨rfl, rfl⟩ | ⟨q, rfl, h0, h1, h2, h3, rfl⟩
  · by_cases h46 : b[i] = 46
    · rw [h46] at hs
      rcases Nat.eq_zero_or_pos i with h0 | h0
      · subst h0
        rw [hs]
        exact bodyL_first
      · have : b.length ≤ i + 1 := by
          rcases Nat.lt_or_ge (i + 1) b.length with h | h
          · exact absurd ⟨h46, by omega, h0, h⟩ hp
          · exact h
        rw [List.drop_of_length_le this] at hs
        rw [hs]
        exact bodyL_last hall
    · rw [hs]
      exact bodyL_bad hall hd h46
  · have hx : (b.take q).all digB = true := by rw [List.all_append, Bool.and_eq_true] at hall; exact hall.1
    have e1 := split_mid h3
    have e2 : b.drop (q + 1) = (b.drop (q + 1)).take (i - (q + 1)) ++ b[i] :: (b.drop (q + 1)).drop (i - (q + 1) + 1) := by
      apply split_mid
      rw [List.getElem?_drop, show q + 1 + (i - (q + 1)) = i by omega, List.getElem?_eq_getElem hi]
    rw [e1, e2]
    exact bodyL_behind hx hd
theorem St_end {b D : List UInt8} {p : Int} (h : St b b.length D p) (sc : Nat) (hsc : (sc : Int) = if 0 ≤ p then (b.length : Int) - 1 - p else 0) : bodyL b = if D ≠ [] ∧ D.length ≤ 40 then some (stripL (sc + 1) D, sc) else none := by
  obtain ⟨hall, h⟩ := h
  rcases h with ⟨rfl, rfl⟩ | ⟨q, rfl, h0, h1, h2, h3, rfl⟩
  · rw [List.take_length] at hall ⊢
    rw [if_neg (by omega)] at hsc
    have : sc = 0 := by omega
    subst this
    exact bodyL_plain hall
  · rw [List.take_length] at hall ⊢
    rw [List.all_append, Bool.and_eq_true] at hall
    rw [if_pos (by omega)] at hsc
    have e1 := split_mid h3
    have hx0 : b.take q ≠ [] := by intro e; have := congrArg List.length e; rw [List.length_take, List.length_nil] at this; omega
    have hy0 : b.drop (q + 1) ≠ [] := by intro e; have := congrArg List.length e; rw [List.length_drop, List.length_nil] at this; omega
    have hl : (b.drop (q + 1)).length = sc := by simp; omega
    have := bodyL_point hall.1 hall.2 hx0 hy0
    rw [← e1, hl] at this
    rw [this]
    have hne : b.take q ++ b.drop (q + 1) ≠ [] := by intro e; exact hx0 (List.append_eq_nil_iff.1 e).1
    by_cases h40 : (b.take q ++ b.drop (q + 1)).length ≤ 40
    · rw [if_pos h40, if_pos ⟨hne, h40⟩]
    · rw [if_neg h40, if_neg (fun x => h40 x.2)]
theorem St_sc {b D : List UInt8} {p : Int} (h : St b b.length D p) (hp : 0 ≤ p) : (b.length : Int) - 1 - p + 1 ≤ D.length ∧ 0 ≤ (b.length : Int) - 1 - p := by
  obtain ⟨_, ⟨rfl, rfl⟩ | ⟨q, rfl, h0, h1, h2, h3, rfl⟩⟩ := h
  · omega
  · simp; omega
end Go.Proofs.YtglennfjeacpoaaGreatDoor
