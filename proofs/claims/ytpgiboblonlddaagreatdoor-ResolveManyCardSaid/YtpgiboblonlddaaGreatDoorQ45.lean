/-
  Several texts put together (part 45): what the law and the program call, walked; their contracts.
-/
import Derived.Test.YtpgiboblonlddaaGreatDoorQ4
import Derived.Lib.SlBytesRow
import Derived.Lib.ConvBytes
namespace Go.Proofs.YtpgiboblonlddaaGreatDoor
open Go.RowKit
def RowB (w : World) (b : Nat) (L : List UInt8) : Prop := ∀ j, j < L.length → w.cell? ⟨b, j, none⟩ = some (.int .u8 ((L.getD j 0).toNat : Int)) ∧ w.frozen? ⟨b, j, none⟩ = false
theorem RowB.set {w : World} {b : Nat} {L : List UInt8} (h : RowB w b L) (i : Nat) (c : UInt8) : RowB (w.setCell ⟨b, i, none⟩ (.int .u8 (c.toNat : Int))) b (L.set i c) := by
  intro j hj
  rw [List.length_set] at hj
  obtain ⟨h1, h2⟩ := h j hj
  refine ⟨?_, by rw [World.frozen?_setCell]; exact h2⟩
  by_cases e : i = j
  · subst e
    rw [World.cell?_setCell_same _ _ _ h1, List.getD_eq_getElem?_getD, List.getElem?_set_self hj]; rfl
  · rw [World.cell?_setCell_other _ _ _ _ (by intro e'; injection e' with _ e'; exact e e'), h1, List.getD_eq_getElem?_getD, List.getD_eq_getElem?_getD, List.getElem?_set_ne e]
theorem RowB.bytes {w : World} {b : Nat} {L : List UInt8} (h : RowB w b L) : Lib.Bytes w b 0 ⟨L.toArray⟩ := by
  intro i hi
  rw [size_mk] at hi
  rw [Nat.zero_add, (h i hi).1, List.getD_eq_getElem?_getD, List.getElem?_eq_getElem hi]
  rfl
theorem RowB.new (w : World) (e : TypeId) (s : ByteArray) : RowB (Lib.bytesWorld w e s) w.heap.size s.data.toList := by
  intro j hj
  rw [size_data] at hj
  refine ⟨Lib.bytesWorld_cell w e s j hj, ?_⟩
  have hn := Lib.bytesWorld_at_new w e s
  have hsz : s.size ≤ (Lib.bytesCells w e s).size := by
    simp [Lib.bytesCells]
  have hlt : j < (Lib.bytesCells w e s).size := by omega
  simp [World.frozen?, hn]
  omega
theorem below_bytesWorld {B : Nat} {w : World} (hB : B ≤ w.heap.size) (e : TypeId) (s : ByteArray) : Below B w (Lib.bytesWorld w e s) :=
  ⟨rfl, rfl, rfl, by rw [Lib.bytesWorld_size]; omega, fun k hk => Lib.bytesWorld_at_old w e s k (by omega)⟩
def incR : List UInt8 → List UInt8
  | [] => [49]
  | c :: r => if c = 57 then 48 :: incR r else (c + 1) :: r
def incL (l : List UInt8) : List UInt8 := (incR l.reverse).reverse
theorem incR_nines (k : Nat) (r : List UInt8) : incR (List.replicate k 57 ++ r) = List.replicate k 48 ++ incR r := by
  induction k with
  | zero => rfl
  | succ k ih => rw [List.replicate_succ, List.cons_append, incR, if_pos rfl, ih, List.replicate_succ, List.cons_append]
theorem incL_stop (a : List UInt8) (c : UInt8) (k : Nat) (hc : c ≠ 57) : incL (a ++ c :: List.replicate k 57) = a ++ (c + 1) :: List.replicate k 48 := by
  have e : (a ++ c :: List.replicate k 57).reverse = List.replicate k 57 ++ c :: a.reverse := by simp
  unfold incL
  rw [e, incR_nines, incR, if_neg hc]
  simp
theorem incL_over (k : Nat) : incL (List.replicate k 57) = 49 :: List.replicate k 48 := by
  have e : (List.replicate k (57 : UInt8)).reverse = List.replicate k 57 ++ [] := by simp
  unfold incL
  rw [e, incR_nines, incR]
  simp
def nines (l : List UInt8) (k : Nat) : Prop := l.drop (l.length - k) = List.replicate k 57
def upTo (l : List UInt8) (k : Nat) : List UInt8 := l.take (l.length - k) ++ List.replicate k 48
theorem upTo_length (l : List UInt8) (k : Nat) (h : k ≤ l.length) : (upTo l k).length = l.length := by
  simp [upTo]; omega
theorem getD_get (l : List UInt8) (i : Nat) (h : i < l.length) : l.getD i 0 = l[i] := by
  rw [List.getD_eq_getElem?_getD, List.getElem?_eq_getElem h]; rfl
theorem upTo_at (l : List UInt8) (k : Nat) (h : k < l.length) : (upTo l k).getD (l.length - 1 - k) 0 = l.getD (l.length - 1 - k) 0 := by
  unfold upTo
  rw [List.getD_eq_getElem?_getD, List.getD_eq_getElem?_getD, List.getElem?_append_left (by simp; omega), List.getElem?_take_of_lt (by omega)]
theorem split_at (l : List UInt8) (k : Nat) (h : k < l.length) : l.take (l.length - k) = l.take (l.length - 1 - k) ++ [l.getD (l.length - 1 - k) 0] := by
  have e : l.length - k = (l.length - 1 - k) + 1 := by omega
  rw [e, List.take_succ_eq_append_getElem (by omega), getD_get l _ (by omega)]
theorem set_mid (x c : UInt8) (r : List UInt8) : ∀ a : List UInt8, (a ++ x :: r).set a.length c = a ++ c :: r
  | [] => rfl
  | y :: a => by
    show y :: (a ++ x :: r).set a.length c = _
    rw [set_mid x c r a]; rfl
theorem drop_split {l a r : List UInt8} (h : l = a ++ r) {n : Nat} (hn : a.length = n) : l.drop n = r := by
  subst h; subst hn; simp
theorem upTo_set (l : List UInt8) (k : Nat) (c : UInt8) (h : k < l.length) : (upTo l k).set (l.length - 1 - k) c = l.take (l.length - 1 - k) ++ c :: List.replicate k 48 := by
  have e : (l.take (l.length - 1 - k)).length = l.length - 1 - k := by rw [List.length_take]; omega
  have := set_mid (l.getD (l.length - 1 - k) 0) c (List.replicate k 48) (l.take (l.length - 1 - k))
  rw [e] at this
  rw [← this]
  unfold upTo
  rw [split_at l k h, List.append_assoc]; rfl
theorem upTo_succ (l : List UInt8) (k : Nat) (h : k < l.length) : (upTo l k).set (l.length - 1 - k) 48 = upTo l (k + 1) := by
  rw [upTo_set l k 48 h]
  unfold upTo
  rw [show l.length - (k + 1) = l.length - 1 - k by omega, List.replicate_succ]
theorem nines_split (l : List UInt8) (k : Nat) (h : k < l.length) (hn : nines l k) : l = l.take (l.length - 1 - k) ++ l.getD (l.length - 1 - k) 0 :: List.replicate k 57 := by
  conv => lhs; rw [← List.take_append_drop (l.length - k) l, hn, split_at l k h]
  simp
theorem nines_succ (l : List UInt8) (k : Nat) (h : k < l.length) (hn : nines l k) (h57 : l.getD (l.length - 1 - k) 0 = 57) : nines l (k + 1) := by
  unfold nines
  have e := nines_split l k h hn
  rw [h57, ← List.replicate_succ] at e
  exact drop_split e (by rw [List.length_take]; omega)
theorem nines_all (l : List UInt8) (hn : nines l l.length) : l = List.replicate l.length 57 := by
  unfold nines at hn
  rw [Nat.sub_self, List.drop_zero] at hn
  exact hn
theorem upTo_all (l : List UInt8) : upTo l l.length = List.replicate l.length 48 := by
  unfold upTo; rw [Nat.sub_self]; rfl
theorem inc_add {c : UInt8} (h : digB c = true) : ((c + 1).toNat : Int) = (c.toNat : Int) + 1 := by
  simp only [digB, Bool.and_eq_true, decide_eq_true_eq] at h
  have : (c + 1).toNat = (c.toNat + 1) % 256 := by rw [UInt8.toNat_add]; rfl
  omega
theorem dig_at {l : List UInt8} (h : l.all digB = true) (i : Nat) (hi : i < l.length) : digB (l.getD i 0) = true := by
  rw [getD_get l i hi]
  exact List.all_eq_true.1 h _ (List.getElem_mem hi)
theorem conv_row {w : World} {b : Nat} {L : List UInt8} (h : RowB w b L) (n cap : Nat) (hn : L.length = n) :
    (convert 24 9 (.slice (some ⟨b, 0, none⟩) n cap)).run Tryz.prog w = .ok (.string ⟨L.toArray⟩) w := by
  have := Lib.run_convert_whole (P := Tryz.prog) w 24 5 9 Tryz.underlying24 Tryz.underlying5 Tryz.underlying9 b 0 ⟨L.toArray⟩ h.bytes cap
  rw [size_mk, hn] at this
  exact this
set_option maxHeartbeats 1000000 in
set_option maxRecDepth 100000 in
theorem plusOne_any (s : ByteArray) (w : World) (hs : s.size ≤ 1000000) (hd : s.data.toList.all digB = true) :
    Calls Tryz.prog 124 #[.string s] w fun e w' => e = .returned (.string ⟨(incL s.data.toList).toArray⟩) ∧ Below w.heap.size w w' := by
  have kb := fun W => Lib.run_convert_string_bytes (P := Tryz.prog) W 9 24 5 s Tryz.underlying9 Tryz.underlying24 Tryz.underlying5
  have Hd := Lib.hid hd
  clear hd
  have hbn := RowB.new w 5 s
  have hbb := below_bytesWorld (w := w) (Nat.le_refl _) 5 s
  have hbz := Lib.bytesWorld_size w 5 s
  go_enter Tryz.func124, Tryz.ntmps124
  go_wp2
  generalize Lib.bytesWorld w 5 s = w0 at *
  have Hbz := Lib.hid hbz
  clear hbz
  go_loopw [10] (fun i wr => ∃ k : Nat, k ≤ s.size ∧ i = .int .i64 k ∧ nines s.data.toList k ∧ RowB wr w.heap.size (upTo s.data.toList k) ∧ Below w.heap.size w wr) (fun i _ => s.size - (intOf i).toNat)
  case atStart => exact ⟨0, Nat.zero_le _, rfl, by simp [nines], by rw [show upTo s.data.toList 0 = s.data.toList from by simp [upTo, List.take_of_length_le]]; exact hbn, hbb⟩
  case round =>
    obtain ⟨k, hk, rfl, hn, hr, hbw⟩ := hrel
    clear hbn hbb
    by_cases hlt : k < s.size
    · have hlt' : k < s.data.toList.length := by rw [size_data]; exact hlt
      have hl : (upTo s.data.toList k).length = s.size := by rw [upTo_length _ _ (by omega), size_data]
      have hcell := (hr (s.size - 1 - k) (by omega)).1
      have hfz := (hr (s.size - 1 - k) (by omega)).2
      have hat := upTo_at s.data.toList k hlt'
      have hsp := nines_split s.data.toList k hlt' hn
      have hdg := dig_at Hd.out (s.size - 1 - k) (by rw [size_data]; omega)
      rw [size_data] at hat hsp
      rw [hat] at hcell
      generalize hc : s.data.toList.getD (s.size - 1 - k) 0 = c at *
      have Hat := Lib.hid hat
      have Hl := Lib.hid hl
      have Hsp := Lib.hid hsp
      have Hc := Lib.hid hc
      have Hdg := Lib.hid hdg
      have hi0 : (0 : Int) ≤ (s.size : Int) - 1 - k := by omega
      have hi1 : (s.size : Int) - 1 - k < s.size := by omega
      have hi2 : ((s.size : Int) - 1 - k).toNat = s.size - 1 - k := by omega
      clear hat hl hsp hc hdg
      by_cases h57 : (c.toNat : Int) = 57
      · have e57 : c = 57 := UInt8.toNat_inj.mp (by show c.toNat = 57; omega)
        have Hn := Lib.hid (nines_succ s.data.toList k hlt' hn (by rw [size_data, Hc.out, e57]))
        have hset := hr.set (s.size - 1 - k) 48
        rw [← size_data s, upTo_succ _ _ hlt', size_data] at hset
        clear hn hr
        go_wp2
        go_roundw
        case rel => exact ⟨k + 1, by omega, by go_num, Hn.out, hset, hbw.setCell (p := ⟨w.heap.size, s.size - 1 - k, none⟩) (Nat.le_refl _) _⟩
        case measure => simp [intOf]; omega
      · have hb := Hdg.out
        simp only [digB, Bool.and_eq_true, decide_eq_true_eq] at hb
        obtain ⟨hb1, hb2⟩ := hb
        have hcu : (c.toNat : Int) ≤ 56 := by omega
        have hset := hr.set (s.size - 1 - k) (c + 1)
        rw [inc_add Hdg.out, ← size_data s, upTo_set _ _ _ hlt', size_data] at hset
        have hcv := conv_row hset s.size (grownCap w s.size 0 5) (by have := congrArg List.length Hsp.out; simp at this ⊢; omega)
        have Hset := Lib.hid hset
        clear hset
        go_wp2
        go_ret
        refine ⟨ret_str ?_, hbw.setCell (p := ⟨w.heap.size, s.size - 1 - k, none⟩) (Nat.le_refl _) _⟩
        have e := incL_stop (s.data.toList.take (s.size - 1 - k)) c k (by intro e; rw [e] at h57; exact h57 rfl)
        rw [← Hsp.out] at e
        rw [e]
    · obtain rfl : k = s.size := by omega
      have hall := nines_all s.data.toList (by rw [size_data]; exact hn)
      have hua := upTo_all s.data.toList
      rw [size_data] at hall hua
      rw [hua] at hr
      have hcv := conv_row hr s.size (grownCap w s.size 0 5) (by simp)
      have Hall := Lib.hid hall
      clear hn hr hua hall
      go_wp2
      go_ret
      refine ⟨ret_str ?_, hbw⟩
      have e := incL_over s.size
      rw [← Hall.out] at e
      rw [e]
      apply ByteArray.ext
      rw [ByteArray.data_append]
      simp
end Go.Proofs.YtpgiboblonlddaaGreatDoor
