/-
  Several texts put together (part 3): what the law and the program call, walked; their contracts.
-/
import Derived.Test.YtjdpmdheapmanaaGreatDoorProg
import Derived.Lib.SmallJoins
import Derived.WalkKit
import Derived.WalkSpells
import Derived.WalkLawsBesides
import Derived.OpenShut
import Derived.Outline
import Derived.Lib.Hide
import Derived.Below
import Derived.Lib.Strings
namespace Go.Proofs.YtjdpmdheapmanaaGreatDoor
open Go.RowKit
theorem size_data (s : ByteArray) : s.data.toList.length = s.size := by simp
theorem head_data (s : ByteArray) (h : 0 < s.size) : s.data.toList.head? = some s[0] := by
  rw [List.head?_eq_getElem?]
  rw [List.getElem?_eq_getElem (by simpa using h)]; rfl
theorem size_mk (l : List UInt8) : (⟨l.toArray⟩ : ByteArray).size = l.length := by show l.toArray.size = _; simp
theorem bcell {W w1 : World} (hb : Below W.heap.size W w1) : (∀ b o, b < W.heap.size → w1.cell? ⟨b, o, none⟩ = W.cell? ⟨b, o, none⟩) ∧ (∀ b o, b < W.heap.size → w1.frozen? ⟨b, o, none⟩ = W.frozen? ⟨b, o, none⟩) :=
  ⟨fun b o h => hb.cell (p := ⟨b, o, none⟩) h, fun b o h => hb.frozen (p := ⟨b, o, none⟩) h⟩
theorem dropWhile_le {α : Type} (p : α → Bool) : ∀ l : List α, (l.dropWhile p).length ≤ l.length
  | [] => by simp
  | x :: l => by
    rw [List.dropWhile_cons]
    split
    · have := dropWhile_le p l; simp only [List.length_cons]; omega
    · exact Nat.le_refl _
theorem extract_take (a : ByteArray) (k : Nat) : (a.extract 0 k).data.toList = a.data.toList.take k := by
  rw [Lib.extract_data]; simp
theorem bytes_eq {a b : ByteArray} (h : a.data.toList = b.data.toList) : a = b := by
  cases a; cases b; simp at h; rw [h]
theorem extract_drop (a : ByteArray) (k : Nat) : (a.extract k a.size).data.toList = a.data.toList.drop k := by
  rw [Lib.extract_data, ← size_data a, List.take_of_length_le (by simp)]
theorem Below.set3 {B : Nat} {a w : World} (h : Below B a w) {b : Nat} (hb : B ≤ b) (x y z : Value) : Below B a (((w.setCell ⟨b, 0, none⟩ x).setCell ⟨b, 1, none⟩ y).setCell ⟨b, 2, none⟩ z) :=
  ((h.setCell (p := ⟨b, 0, none⟩) hb _).setCell (p := ⟨b, 1, none⟩) hb _).setCell (p := ⟨b, 2, none⟩) hb _
theorem below_box {w w1 : World} {o : Obj} (h : Below (w.alloc o).heap.size (w.alloc o) w1) : Below w.heap.size w w1 :=
  ((Below.refl _ _).alloc (Nat.le_refl _) _).trans (h.mono (by simp))
theorem below_box2 {w w1 : World} {o o' : Obj} (h : Below ((w.alloc o).alloc o').heap.size ((w.alloc o).alloc o') w1) : Below w.heap.size w w1 :=
  (((Below.refl _ _).alloc (Nat.le_refl _) _).alloc (by simp) _).trans (h.mono (by simp; omega))
theorem below_new {B : Nat} {w W : World} (h : Below B w W) (hB : B ≤ w.heap.size) (o : Obj) : Below B w (W.alloc o) := h.alloc (Nat.le_trans hB h.size) o
theorem below_then {B : Nat} {w w1 w2 : World} (h : Below B w w1) (hB : B ≤ w.heap.size) (h2 : Below w1.heap.size w1 w2) : Below B w w2 :=
  h.trans (h2.mono (Nat.le_trans hB h.size))
theorem ret_bool {a b : Bool} (h : a = b) : Ending.returned (.bool a) = .returned (.bool b) := by rw [h]
theorem ret_int {k : IntKind} {a b : Int} (h : a = b) : Ending.returned (.int k a) = .returned (.int k b) := by rw [h]
theorem ret_str {a b : ByteArray} (h : a = b) : Ending.returned (.string a) = .returned (.string b) := by rw [h]
theorem take_succ (s : ByteArray) (k : Nat) (h : k < s.size) : s.data.toList.take (k + 1) = s.data.toList.take k ++ [s[k]] := by
  rw [List.take_succ_eq_append_getElem (by simpa using h)]; rfl
end Go.Proofs.YtjdpmdheapmanaaGreatDoor

namespace Go.Proofs.YtjdpmdheapmanaaGreatDoor
open Go.RowKit
def digB (c : UInt8) : Bool := decide (48 ≤ c.toNat) && decide (c.toNat ≤ 57)
def digsB (l : List UInt8) : Bool := l.all digB && !l.isEmpty
theorem all_take_succ (s : ByteArray) (k : Nat) (h : k < s.size) : (s.data.toList.take (k + 1)).all digB = ((s.data.toList.take k).all digB && digB s[k]) := by
  rw [take_succ s k h, List.all_append]; simp
theorem digsB_false_of (s : ByteArray) (k : Nat) (h : k < s.size) (hd : digB s[k] = false) : digsB s.data.toList = false := by
  have : s.data.toList.all digB = false := by
    rw [List.all_eq_false]
    exact ⟨s[k], by simp [ByteArray.getElem_eq_getElem_data], by simp [hd]⟩
  simp [digsB, this]
theorem digsB_end (s : ByteArray) (h : (s.data.toList.take s.size).all digB = true) : digsB s.data.toList = !s.toList.isEmpty := by
  rw [Lib.toList_data]
  have e : s.data.toList.take s.size = s.data.toList := List.take_of_length_le (Nat.le_of_eq (by simp))
  rw [e] at h
  simp [digsB, h]
theorem dig_le {c : UInt8} (h : digB c = true) : 48 ≤ c.toNat ∧ c.toNat ≤ 57 := by
  simpa [digB] using h
theorem all_take {l : List UInt8} (h : l.all digB = true) (n : Nat) : (l.take n).all digB = true :=
  List.all_eq_true.2 fun c hc => List.all_eq_true.1 h c (List.mem_of_mem_take hc)
end Go.Proofs.YtjdpmdheapmanaaGreatDoor

namespace Go.Proofs.YtjdpmdheapmanaaGreatDoor
open Go.RowKit
def DigF (A : Nat → Int) : Prop := ∀ p, 0 ≤ A p ∧ A p ≤ 9
def eqF (A B : Nat → Int) (n : Nat) : Bool := (List.range n).all fun p => A p == B p
def fixJ (l : List UInt8) (k j p : Nat) : Int := if 100 - (l.length - k) ≤ p ∧ p < 100 - (l.length - k) + j then ((l.getD (p - (100 - (l.length - k))) 48).toNat : Int) - 48 else 0
def fixF (l : List UInt8) (k : Nat) : Nat → Int := fixJ l k l.length
theorem fixJ_zero (l : List UInt8) (k p : Nat) : fixJ l k 0 p = 0 := by
  unfold fixJ
  rw [if_neg (by omega)]
theorem fixF_digs (l : List UInt8) (k : Nat) (h : l.all digB = true) : DigF (fixF l k) := by
  intro p
  unfold fixF fixJ
  by_cases hc : 100 - (l.length - k) ≤ p ∧ p < 100 - (l.length - k) + l.length
  · rw [if_pos hc]
    have hlt : p - (100 - (l.length - k)) < l.length := by omega
    have hm := List.all_eq_true.1 h (l[p - (100 - (l.length - k))]) (List.getElem_mem hlt)
    have := dig_le hm
    rw [List.getD_eq_getElem?_getD, List.getElem?_eq_getElem hlt, Option.getD_some]
    omega
  · rw [if_neg hc]; omega
end Go.Proofs.YtjdpmdheapmanaaGreatDoor

namespace Go.Proofs.YtjdpmdheapmanaaGreatDoor
open Go.RowKit
theorem lawDigit_any (c : UInt8) (w : World) : Calls Tryz.prog 21 #[.int .u8 (c.toNat : Int)] w fun e w' => e = .returned (.bool (digB c)) ∧ w = w' := by
  by_cases h1 : (48 : Int) ≤ (c.toNat : Int)
  · go_enter Tryz.func21, Tryz.ntmps21
    go_wp2
    go_ret
    refine ⟨ret_bool ?_, rfl⟩
    rw [Bool.eq_iff_iff]
    simp [digB]
    omega
  · go_enter Tryz.func21, Tryz.ntmps21
    go_wp2
    go_ret
    refine ⟨ret_bool ?_, rfl⟩
    rw [Bool.eq_iff_iff]
    simp [digB]
    omega
structure Num (l : List UInt8) (k : Nat) : Prop where
  digs : l.all digB = true
  le : l.length ≤ 60
  lt : k < l.length
  head : l.head? ≠ some 48 ∨ l.length = k + 1
def RightEnd (l : List UInt8) (sc : Int) (e : Ending) : Prop := e = .returned (.bool false) ∨ ∃ k : Nat, sc = k ∧ Num l k ∧ e = .returned (.bool true)
set_option maxHeartbeats 1000000 in
set_option maxRecDepth 100000 in
theorem lawRight_any (n : Bool) (s : ByteArray) (sc : Int) (w : World) (hs : s.size ≤ 9223372036854775807) (h0 : -9223372036854775808 ≤ sc) (h1 : sc ≤ 9223372036854775807) :
    Calls Tryz.prog 10 #[.agg #[.bool n, .string s, .int .i64 sc]] w fun e w' => RightEnd s.data.toList sc e ∧ Below w.heap.size w w' := by
  by_cases hn : sc < 0
  · go_enter Tryz.func10, Tryz.ntmps10
    go_wp2
    go_ret
    exact ⟨Or.inl rfl, (Below.refl _ _).alloc (Nat.le_refl _) _⟩
  by_cases hb : (s.size : Int) ≤ sc
  · go_enter Tryz.func10, Tryz.ntmps10
    go_wp2
    go_ret
    exact ⟨Or.inl rfl, (Below.refl _ _).alloc (Nat.le_refl _) _⟩
  by_cases h60 : (60 : Int) < s.size
  · go_enter Tryz.func10, Tryz.ntmps10
    go_wp2
    go_ret
    exact ⟨Or.inl rfl, (Below.refl _ _).alloc (Nat.le_refl _) _⟩
  obtain ⟨k, rfl⟩ : ∃ k : Nat, sc = k := ⟨sc.toNat, by omega⟩
  have hpos : 0 < s.size := by omega
  go_enter Tryz.func10, Tryz.ntmps10
  go_wp2
  go_loop [3] (fun i => ∃ j : Nat, j ≤ s.size ∧ i = .int .i64 j ∧ Hid ((s.data.toList.take j).all digB = true)) (fun i => s.size - (intOf i).toNat)
  case atStart => exact ⟨0, Nat.zero_le _, rfl, rfl⟩
  case round =>
    obtain ⟨j, hj, rfl, hd⟩ := hrel
    by_cases hlt : j < s.size
    · cases hdj : digB s[j]
      · go_wp2_with (go_at_call 21; refine (lawDigit_any s[j] _).mono ?_; rintro e w2 ⟨rfl, rfl⟩)
        go_ret
        exact ⟨Or.inl rfl, (Below.refl _ _).alloc (Nat.le_refl _) _⟩
      · have Hn : Hid ((s.data.toList.take (j + 1)).all digB = true) := by
          show _ = _
          rw [all_take_succ s j hlt, hd, hdj]; rfl
        go_wp2_with (go_at_call 21; refine (lawDigit_any s[j] _).mono ?_; rintro e w2 ⟨rfl, rfl⟩)
        go_round
        case rel => exact ⟨j + 1, by omega, by go_num, Hn⟩
        case measure => simp [intOf]; omega
    · obtain rfl : j = s.size := by omega
      have hall : Hid (s.data.toList.all digB = true) := by
        have := hd.out
        rw [← size_data, List.take_length] at this
        exact this
      have hhead := head_data s hpos
      have Hhead := Lib.hid hhead
      clear hd hhead
      by_cases h48 : s[0] = 48
      · have hb48 : ((s[0].toNat : Int) != 48) = false := by rw [h48]; rfl
        have H48 := Lib.hid h48
        clear h48
        by_cases hk : s.size = k + 1
        · have hkb : ((s.size : Int) == (k : Int) + 1) = true := by rw [beq_iff_eq]; omega
          have Hk := Lib.hid hk
          clear hk
          go_wp2
          go_ret
          exact ⟨Or.inr ⟨k, rfl, ⟨hall, by rw [size_data]; omega, by rw [size_data]; omega, Or.inr (by rw [size_data]; exact Hk.out)⟩, rfl⟩, (Below.refl _ _).alloc (Nat.le_refl _) _⟩
        · have hkb : ((s.size : Int) == (k : Int) + 1) = false := by rw [beq_eq_false_iff_ne]; omega
          clear hk
          go_wp2
          go_ret
          exact ⟨Or.inl rfl, (Below.refl _ _).alloc (Nat.le_refl _) _⟩
      · have hb48 : ((s[0].toNat : Int) != 48) = true := by
          rw [bne_iff_ne]; intro e; exact h48 (UInt8.toNat_inj.mp (by show s[0].toNat = 48; omega))
        have H48 := Lib.hid h48
        clear h48
        go_wp2
        go_ret
        exact ⟨Or.inr ⟨k, rfl, ⟨hall, by rw [size_data]; omega, by rw [size_data]; omega, Or.inl (by rw [Hhead.out]; intro e; exact H48.out (Option.some.inj e))⟩, rfl⟩, (Below.refl _ _).alloc (Nat.le_refl _) _⟩
end Go.Proofs.YtjdpmdheapmanaaGreatDoor
