import Derived.Test.YtgdkpamlkpncgabGreatDoorA1
import Derived.Test.YtgdkpamlkpncgabGreatDoorA1d
import Derived.Test.YtgdkpamlkpncgabGreatDoorShelf
import Derived.ChangeAgain
import Derived.Lib.SmallJoins
import Derived.Deep.RegionHeld3
import Derived.Test.YtgdkpamlkpncgabGreatDoorA6t
namespace Go.Proofs.YtgdkpamlkpncgabGreatDoor
open Go.RowKit

theorem shp_below {w w1 : World} (h : w.ShapedOpen Tryz.prog) (hb : Below w.heap.size w w1) : w1.ShapedOpen Tryz.prog :=
  h.keptBut (hb.frame (fun _ => False)) (fun _ h => h.elim)
theorem shp_alloc {w : World} (h : w.ShapedOpen Tryz.prog) (o : Obj) : (w.alloc o).ShapedOpen Tryz.prog :=
  shp_below h ((Below.refl _ _).alloc (Nat.le_refl _) o)

/-- The number that a text tells: its sign, its digits, how many stand behind the point. -/
def parseL (l : List UInt8) : Option (Bool × List UInt8 × Nat) :=
  let b := Lib.trimPrefix l [45]
  let c := Lib.cut b [46]
  if digsB c.1 = true ∧ (c.2.2 = true → digsB c.2.1 = true) ∧ c.1.length + c.2.1.length ≤ 40 then
    some (Lib.hasPrefix l [45], Lib.trimLeftB (c.1.take (c.1.length - 1)) 48 ++ c.1.drop (c.1.length - 1) ++ c.2.1, c.2.1.length)
  else none

def ParseEnd (l : List UInt8) (e : Ending) : Prop :=
  match parseL l with
  | some (n, d, k) => e = .returned (.tuple #[.agg #[.bool n, .string ⟨d.toArray⟩, .int .i64 k], .bool true])
  | none => e = .returned (.tuple #[.agg #[.bool false, .string ⟨#[]⟩, .int .i64 0], .bool false])

theorem cut_le (l p : List UInt8) : (Lib.cut l p).1.length + (Lib.cut l p).2.1.length ≤ l.length := by
  unfold Lib.cut
  split
  · simp only [List.length_take, List.length_drop]; omega
  · simp
theorem trimPrefix_le (l p : List UInt8) : (Lib.trimPrefix l p).length ≤ l.length := by
  unfold Lib.trimPrefix
  split
  · simp
  · exact Nat.le_refl _

def CutTo (t : List UInt8) (a b : ByteArray) (h : Bool) : Prop := ∀ W : World, W.ShapedOpen Tryz.prog →
  Calls Tryz.prog 31 #[.string ⟨t.toArray⟩, .string ⟨#[46]⟩] W fun e w' => e = .returned (.tuple #[.string a, .string b, .bool h]) ∧ Below W.heap.size W w'
theorem below_drewN {B : Nat} {a w : World} (h : Below B a w) (n : Nat) : Below B a (w.drewN n) := ⟨h.os, h.tape, h.output, h.size, h.block⟩
theorem cutTo (t : List UInt8) (ht : t.length < 4294967281) : CutTo t ⟨(Lib.cut t [46]).1.toArray⟩ ⟨(Lib.cut t [46]).2.1.toArray⟩ (Lib.cut t [46]).2.2 := by
  intro W hW
  refine (Tryz.strings_Cut_shaped _ _ _ hW (by rw [size_mk]; exact ht)).mono ?_
  rintro e w' ⟨rfl, n, rfl⟩
  exact ⟨rfl, below_drewN (Below.refl _ _) n⟩

def PrefTo (s : ByteArray) (t : List UInt8) (n : Bool) : Prop := ∀ W : World,
  Calls Tryz.prog 79 #[.string s, .string ⟨#[45]⟩] W fun e w' => e = .returned (.tuple #[.string ⟨t.toArray⟩, .bool n]) ∧ W = w'
theorem prefTo (s : ByteArray) : PrefTo s (Lib.trimPrefix s.data.toList [45]) (Lib.hasPrefix s.data.toList [45]) := by
  intro W
  refine (Tryz.strings_CutPrefix _ _ _).mono ?_
  rintro e w' ⟨rfl, rfl⟩
  exact ⟨rfl, rfl⟩

set_option maxHeartbeats 1000000 in
theorem parse_no (s a b : ByteArray) (t : List UInt8) (n h : Bool) (w : World) (hsh : w.ShapedOpen Tryz.prog) (hab : a.size + b.size < 4294967281)
    (hpre : PrefTo s t n) (hcut : CutTo t a b h) (hno : digsB a.data.toList = false ∨ (digsB a.data.toList = true ∧ h = true ∧ digsB b.data.toList = false) ∨ (digsB a.data.toList = true ∧ (h = true → digsB b.data.toList = true) ∧ 40 < a.size + b.size)) :
    Calls Tryz.prog 46 #[.string s] w fun e w' => e = .returned (.tuple #[.agg #[.bool false, .string ⟨#[]⟩, .int .i64 0], .bool false]) ∧ Below w.heap.size w w' := by
  have hma : a.size ≤ maxLen := by unfold maxLen; omega
  have hmb : b.size ≤ maxLen := by unfold maxLen; omega
  rcases hno with hd | ⟨hd, hh, hb⟩ | ⟨hd, hb, hl⟩
  · go_enter Tryz.func46, Tryz.ntmps46
    go_wp2_with (first | (go_at_call 79; refine (hpre _).mono ?_; rintro e w2 ⟨rfl, rfl⟩) | (go_at_call 31; refine (hcut _ (shp_alloc hsh _)).mono ?_; rintro e w3 ⟨rfl, hb3⟩; obtain ⟨hc3, hf3⟩ := bcell hb3) | (go_at_call 80; refine (areDigits_any _ _ (by assumption)).mono ?_; rintro e w4 ⟨rfl, rfl⟩))
    exact bodyPost_ret (v := .tuple #[.agg #[.bool false, .string ⟨#[]⟩, .int .i64 0], .bool false]) (by simp [results, Tryz.results46, go_sem, hc3]) rfl ⟨rfl, Below.set3 (below_box hb3) (Nat.le_refl _) _ _ _⟩
  · subst hh
    go_enter Tryz.func46, Tryz.ntmps46
    go_wp2_with (first | (go_at_call 79; refine (hpre _).mono ?_; rintro e w2 ⟨rfl, rfl⟩) | (go_at_call 31; refine (hcut _ (shp_alloc hsh _)).mono ?_; rintro e w3 ⟨rfl, hb3⟩; obtain ⟨hc3, hf3⟩ := bcell hb3) | (go_at_call 80; refine (areDigits_any _ _ (by assumption)).mono ?_; rintro e w4 ⟨rfl, rfl⟩))
    exact bodyPost_ret (v := .tuple #[.agg #[.bool false, .string ⟨#[]⟩, .int .i64 0], .bool false]) (by simp [results, Tryz.results46, go_sem, hc3]) rfl ⟨rfl, Below.set3 (below_box hb3) (Nat.le_refl _) _ _ _⟩
  · cases h
    · clear hb
      go_enter Tryz.func46, Tryz.ntmps46
      go_wp2_with (first | (go_at_call 79; refine (hpre _).mono ?_; rintro e w2 ⟨rfl, rfl⟩) | (go_at_call 31; refine (hcut _ (shp_alloc hsh _)).mono ?_; rintro e w3 ⟨rfl, hb3⟩; obtain ⟨hc3, hf3⟩ := bcell hb3) | (go_at_call 80; refine (areDigits_any _ _ (by assumption)).mono ?_; rintro e w4 ⟨rfl, rfl⟩))
      exact bodyPost_ret (v := .tuple #[.agg #[.bool false, .string ⟨#[]⟩, .int .i64 0], .bool false]) (by simp [results, Tryz.results46, go_sem, hc3]) rfl ⟨rfl, Below.set3 (below_box hb3) (Nat.le_refl _) _ _ _⟩
    · have hb := hb rfl
      go_enter Tryz.func46, Tryz.ntmps46
      go_wp2_with (first | (go_at_call 79; refine (hpre _).mono ?_; rintro e w2 ⟨rfl, rfl⟩) | (go_at_call 31; refine (hcut _ (shp_alloc hsh _)).mono ?_; rintro e w3 ⟨rfl, hb3⟩; obtain ⟨hc3, hf3⟩ := bcell hb3) | (go_at_call 80; refine (areDigits_any _ _ (by assumption)).mono ?_; rintro e w4 ⟨rfl, rfl⟩))
      exact bodyPost_ret (v := .tuple #[.agg #[.bool false, .string ⟨#[]⟩, .int .i64 0], .bool false]) (by simp [results, Tryz.results46, go_sem, hc3]) rfl ⟨rfl, Below.set3 (below_box hb3) (Nat.le_refl _) _ _ _⟩

theorem digsB_pos {l : List UInt8} (h : digsB l = true) : 0 < l.length := by
  cases l with
  | nil => exact absurd h (by decide)
  | cons c l => simp

set_option maxHeartbeats 1000000 in
theorem parse_yes (s a b c : ByteArray) (t : List UInt8) (n h : Bool) (w : World) (hsh : w.ShapedOpen Tryz.prog)
    (hpre : PrefTo s t n) (hcut : CutTo t a b h) (hd : digsB a.data.toList = true) (hb : h = true → digsB b.data.toList = true) (hl : a.size + b.size ≤ 40) (htrim : TrimTo (a.extract 0 (a.size - 1)) c) (hcl : c.size ≤ a.size) :
    Calls Tryz.prog 46 #[.string s] w fun e w' => e = .returned (.tuple #[.agg #[.bool n, .string (c ++ a.extract (a.size - 1) a.size ++ b), .int .i64 b.size], .bool true]) ∧ Below w.heap.size w w' := by
  have hma : a.size ≤ maxLen := by unfold maxLen; omega
  have hmb : b.size ≤ maxLen := by unfold maxLen; omega
  have hpos := digsB_pos hd
  rw [size_data] at hpos
  have hi0 : (0 : Int) ≤ (a.size : Int) - 1 := by omega
  have hi1 : (a.size : Int) - 1 ≤ a.size := by omega
  have hi2 : (1 : Int) ≤ (a.size : Int) := by omega
  have hi3 : ((a.size : Int) - 1).toNat = a.size - 1 := by omega
  have hcat : ¬ 9223372036854775807 < c.size + (a.size - (a.size - 1)) := by omega
  cases h
  · clear hb
    go_enter Tryz.func46, Tryz.ntmps46
    go_wp2_with (first | (go_at_call 79; refine (hpre _).mono ?_; rintro e w2 ⟨rfl, rfl⟩) | (go_at_call 31; refine (hcut _ (shp_alloc hsh _)).mono ?_; rintro e w3 ⟨rfl, hb3⟩; obtain ⟨hc3, hf3⟩ := bcell hb3) | (go_at_call 80; refine (areDigits_any _ _ (by assumption)).mono ?_; rintro e w4 ⟨rfl, rfl⟩))
    go_region_held3 (fun w' => Below w3.heap.size w3 w') (first | assumption | (exact (Below.refl _ _).drew)) (first | (go_at_call 81; refine (htrim _).mono ?_; rintro e w5 ⟨rfl, rfl⟩))
    go_wp2
    exact bodyPost_ret (v := .tuple #[.agg #[.bool n, .string (c ++ a.extract (a.size - 1) a.size ++ b), .int .i64 b.size], .bool true]) (by simp [results, Tryz.results46, go_sem, hc3]) rfl ⟨rfl, Below.set3 (below_box hb3).drew (Nat.le_refl _) _ _ _⟩
  · have hb := hb rfl
    go_enter Tryz.func46, Tryz.ntmps46
    go_wp2_with (first | (go_at_call 79; refine (hpre _).mono ?_; rintro e w2 ⟨rfl, rfl⟩) | (go_at_call 31; refine (hcut _ (shp_alloc hsh _)).mono ?_; rintro e w3 ⟨rfl, hb3⟩; obtain ⟨hc3, hf3⟩ := bcell hb3) | (go_at_call 80; refine (areDigits_any _ _ (by assumption)).mono ?_; rintro e w4 ⟨rfl, rfl⟩))
    go_region_held3 (fun w' => Below w3.heap.size w3 w') (first | assumption | (exact (Below.refl _ _).drew)) (first | (go_at_call 81; refine (htrim _).mono ?_; rintro e w5 ⟨rfl, rfl⟩))
    go_wp2
    exact bodyPost_ret (v := .tuple #[.agg #[.bool n, .string (c ++ a.extract (a.size - 1) a.size ++ b), .int .i64 b.size], .bool true]) (by simp [results, Tryz.results46, go_sem, hc3]) rfl ⟨rfl, Below.set3 (below_box hb3).drew (Nat.le_refl _) _ _ _⟩

theorem parse_any (s : ByteArray) (w : World) (hsh : w.ShapedOpen Tryz.prog) (hs : s.size < 4294967281) :
    Calls Tryz.prog 46 #[.string s] w fun e w' => ParseEnd s.data.toList e ∧ Below w.heap.size w w' := by
  have hle := cut_le (Lib.trimPrefix s.data.toList [45]) [46]
  have htl := trimPrefix_le s.data.toList [45]
  rw [size_data] at htl
  have hpre := prefTo s
  have hcut := cutTo (Lib.trimPrefix s.data.toList [45]) (by omega)
  by_cases hy : digsB (Lib.cut (Lib.trimPrefix s.data.toList [45]) [46]).1 = true ∧ ((Lib.cut (Lib.trimPrefix s.data.toList [45]) [46]).2.2 = true → digsB (Lib.cut (Lib.trimPrefix s.data.toList [45]) [46]).2.1 = true) ∧ (Lib.cut (Lib.trimPrefix s.data.toList [45]) [46]).1.length + (Lib.cut (Lib.trimPrefix s.data.toList [45]) [46]).2.1.length ≤ 40
  · have hp : parseL s.data.toList = some (Lib.hasPrefix s.data.toList [45], Lib.trimLeftB ((Lib.cut (Lib.trimPrefix s.data.toList [45]) [46]).1.take ((Lib.cut (Lib.trimPrefix s.data.toList [45]) [46]).1.length - 1)) 48 ++ (Lib.cut (Lib.trimPrefix s.data.toList [45]) [46]).1.drop ((Lib.cut (Lib.trimPrefix s.data.toList [45]) [46]).1.length - 1) ++ (Lib.cut (Lib.trimPrefix s.data.toList [45]) [46]).2.1, (Lib.cut (Lib.trimPrefix s.data.toList [45]) [46]).2.1.length) := by
      unfold parseL; rw [if_pos hy]
    obtain ⟨h1, h2, h3⟩ := hy
    generalize hc : Lib.cut (Lib.trimPrefix s.data.toList [45]) [46] = c at *
    obtain ⟨a, b, h⟩ := c
    refine (parse_yes s ⟨a.toArray⟩ ⟨b.toArray⟩ _ _ _ h w hsh hpre hcut h1 h2 (by rw [size_mk, size_mk]; exact h3) (trimTo _) ?_).mono ?_
    · rw [size_mk, size_mk]
      unfold Lib.trimLeftB
      refine Nat.le_trans (dropWhile_le _ _) ?_
      rw [extract_take]
      simp
    · rintro e w' ⟨rfl, hb⟩
      refine ⟨?_, hb⟩
      unfold ParseEnd
      rw [hp]
      have e1 : (⟨(Lib.trimLeftB ((⟨a.toArray⟩ : ByteArray).extract 0 ((⟨a.toArray⟩ : ByteArray).size - 1)).data.toList 48).toArray⟩ ++ (⟨a.toArray⟩ : ByteArray).extract ((⟨a.toArray⟩ : ByteArray).size - 1) (⟨a.toArray⟩ : ByteArray).size ++ ⟨b.toArray⟩ : ByteArray) = ⟨(Lib.trimLeftB (a.take (a.length - 1)) 48 ++ a.drop (a.length - 1) ++ b).toArray⟩ := by
        apply bytes_eq
        rw [Joins.data_append, Joins.data_append, extract_take, Lib.extract_data, size_mk]
        simp
        rw [List.take_of_length_le (by simp)]
      rw [e1, size_mk]
  · have hp : parseL s.data.toList = none := by
      unfold parseL; rw [if_neg hy]
    refine (parse_no s _ _ _ _ _ w hsh ?_ hpre hcut ?_).mono ?_
    · rw [size_mk, size_mk]; omega
    · rw [size_mk, size_mk]
      show digsB (Lib.cut (Lib.trimPrefix s.data.toList [45]) [46]).1 = false ∨ (digsB (Lib.cut (Lib.trimPrefix s.data.toList [45]) [46]).1 = true ∧ (Lib.cut (Lib.trimPrefix s.data.toList [45]) [46]).2.2 = true ∧ digsB (Lib.cut (Lib.trimPrefix s.data.toList [45]) [46]).2.1 = false) ∨ _
      generalize Lib.cut (Lib.trimPrefix s.data.toList [45]) [46] = c at hy
      obtain ⟨a, b, h⟩ := c
      simp only at hy ⊢
      cases hd : digsB a
      · exact Or.inl rfl
      · cases h
        · exact Or.inr (Or.inr ⟨rfl, (fun h => by cases h), by
            rcases Nat.lt_or_ge 40 (a.length + b.length) with h | h
            · exact h
            · exact absurd ⟨hd, (fun h => by cases h), h⟩ hy⟩)
        · cases hd2 : digsB b
          · exact Or.inr (Or.inl ⟨rfl, rfl, rfl⟩)
          · exact Or.inr (Or.inr ⟨rfl, fun _ => rfl, by
              rcases Nat.lt_or_ge 40 (a.length + b.length) with h | h
              · exact h
              · exact absurd ⟨hd, (fun _ => hd2), h⟩ hy⟩)
    · rintro e w' ⟨rfl, hb⟩
      refine ⟨?_, hb⟩
      unfold ParseEnd
      rw [hp]
end Go.Proofs.YtgdkpamlkpncgabGreatDoor
