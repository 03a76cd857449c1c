/-
  Package plural: lastIn's function; isWhole.
-/
import Derived.Test.YtglennfjeacpoaaGreatDoorPl1
import Derived.Lib.OthersKept
import Derived.Laws.RangeString
namespace Go.Proofs.YtglennfjeacpoaaGreatDoor
open Go.RowKit
set_option linter.unusedVariables false

/-- The number that digits tell. -/
def valL (l : List UInt8) : Int := l.foldl (fun a c => 10 * a + ((c.toNat : Int) - 48)) 0
theorem valL_snoc (l : List UInt8) (c : UInt8) : valL (l ++ [c]) = 10 * valL l + ((c.toNat : Int) - 48) := by
  unfold valL; rw [List.foldl_append]; rfl
theorem valL_bd : ∀ (n : Nat) (l : List UInt8), l.length = n → l.all digB = true → 0 ≤ valL l ∧ valL l < ((10 ^ n : Nat) : Int)
  | 0, l, h, _ => by
    rw [List.eq_nil_of_length_eq_zero h]
    exact ⟨by decide, by decide⟩
  | n + 1, l, h, hd => by
    have hne : l ≠ [] := fun e => by rw [e] at h; cases h
    obtain ⟨m, c, rfl⟩ : ∃ m c, l = m ++ [c] := ⟨l.dropLast, l.getLast hne, (List.dropLast_concat_getLast hne).symm⟩
    rw [List.all_append, Bool.and_eq_true] at hd
    have ih := valL_bd n m (by simpa using h) hd.1
    have hc : digB c = true := by simpa using hd.2
    have := dig_le hc
    rw [valL_snoc, Nat.pow_succ]
    omega
/-- The last digits ahead of the point: so many, or as many as there are. -/
def lastL (c : Nat) (l : List UInt8) : List UInt8 := l.drop (l.length - c)
def pLast (c : Nat) (lo hi : Int) (s : ByteArray) (k : Nat) : Bool := decide (lo ≤ valL (lastL c (whB s k).data.toList)) && decide (valL (lastL c (whB s k).data.toList) ≤ hi)
theorem enters_last : Enters 219 := fun args w => by
  go_simp
theorem iter_step (T : ByteArray) (pos : Nat) (hlt : pos < T.size) (hd : T.data.toList.all digB = true) : digB T[pos] = true := by
  have h3 := all_take_succ T pos hlt
  rw [all_take hd, all_take hd, Bool.true_and] at h3
  exact h3.symm
set_option maxHeartbeats 2000000 in
theorem lastIn1_any (c : Nat) (lo hi : Int) (b1 b2 b3 : Nat) (W : World) (hc0 : 1 ≤ c) (hc2 : c ≤ 2) (h1 : W.cell? ⟨b1, 0, none⟩ = some (.int .i64 c)) (h2 : W.cell? ⟨b2, 0, none⟩ = some (.int .i64 lo)) (h3 : W.cell? ⟨b3, 0, none⟩ = some (.int .i64 hi))
    (k1 : b1 < W.heap.size) (k2 : b2 < W.heap.size) (k3 : b3 < W.heap.size) :
    CondC 219 #[.pointer (some ⟨b1, 0, none⟩), .pointer (some ⟨b2, 0, none⟩), .pointer (some ⟨b3, 0, none⟩)] W (pLast c lo hi) := by
  intro W1 hb1 n s k hg
  have q1 : W1.cell? ⟨b1, 0, none⟩ = some (.int .i64 c) := (hb1.cell (p := ⟨b1, 0, none⟩) k1).trans h1
  have q2 : W1.cell? ⟨b2, 0, none⟩ = some (.int .i64 lo) := (hb1.cell (p := ⟨b2, 0, none⟩) k2).trans h2
  have q3 : W1.cell? ⟨b3, 0, none⟩ = some (.int .i64 hi) := (hb1.cell (p := ⟨b3, 0, none⟩) k3).trans h3
  have l1 : b1 < W1.heap.size := Nat.lt_of_lt_of_le k1 hb1.size
  have l2 : b2 < W1.heap.size := Nat.lt_of_lt_of_le k2 hb1.size
  have l3 : b3 < W1.heap.size := Nat.lt_of_lt_of_le k3 hb1.size
  clear h1 h2 h3 k1 k2 k3 hb1
  have hWh := fun W => whole_to n s k W hg
  have hsz := whB_size s k
  have hall := whB_all (s := s) (k := k) hg.dig
  have := hg.le
  have hle : (whB s k).size ≤ 100 := by omega
  obtain ⟨H, hH⟩ : ∃ H, whB s k = H := ⟨_, rfl⟩
  have hp : pLast c lo hi s k = (decide (lo ≤ valL (lastL c H.data.toList)) && decide (valL (lastL c H.data.toList) ≤ hi)) := by unfold pLast; rw [hH]
  rw [hp]
  rw [hH] at hWh hle hall
  have HW := Lib.hid hWh
  clear hsz hH hp hWh hg
  obtain ⟨a, ha⟩ : ∃ a, a = H.size - c := ⟨_, rfl⟩
  obtain ⟨T, hT⟩ : ∃ T, H.extract a H.size = T := ⟨_, rfl⟩
  have hTs : T.size ≤ 2 := by rw [← hT, ByteArray.size_extract]; omega
  have hTl : lastL c H.data.toList = T.data.toList := by unfold lastL; rw [← hT, extract_drop, size_data, ha]
  have hTd : T.data.toList.all digB = true := by rw [← hT, extract_drop]; exact List.all_eq_true.2 fun x hx => List.all_eq_true.1 hall x (List.mem_of_mem_drop hx)
  rw [hTl]
  have HTd := Lib.hid hTd
  have HT := Lib.hid hT
  clear hTl hTd hall
  show Calls Tryz.prog 219 #[dv n s k, .pointer (some ⟨b1, 0, none⟩), .pointer (some ⟨b2, 0, none⟩), .pointer (some ⟨b3, 0, none⟩)] W1 _
  have hex : H.extract (max ((H.size : Int) - (c : Int)) 0).toNat H.size = T := by
    rw [show (max ((H.size : Int) - (c : Int)) 0).toNat = a by omega]
    exact HT.out
  have hm0 : (0 : Int) ≤ max ((H.size : Int) - (c : Int)) 0 := by omega
  have hm1 : max ((H.size : Int) - (c : Int)) 0 ≤ (H.size : Int) := by omega
  clear hT ha HT
  unfold dv
  go_enter Tryz.func219, Tryz.ntmps219
  go_wp2_with fail
  go_at_call 37
  refine (HW.out _).mono ?_
  rintro e w2 ⟨rfl, hw2⟩
  obtain ⟨hcc, hff⟩ := bcell hw2
  have hz2 := below_box hw2
  have Hz2 := Lib.hid hz2
  have hsz2 := hz2.size
  have lz1 : b1 < W1.heap.size + 1 := by omega
  have q1' : w2.cell? ⟨b1, 0, none⟩ = some (.int .i64 c) := (hz2.cell (p := ⟨b1, 0, none⟩) l1).trans q1
  have q2' : w2.cell? ⟨b2, 0, none⟩ = some (.int .i64 lo) := (hz2.cell (p := ⟨b2, 0, none⟩) l2).trans q2
  have q3' : w2.cell? ⟨b3, 0, none⟩ = some (.int .i64 hi) := (hz2.cell (p := ⟨b3, 0, none⟩) l3).trans q3
  clear hz2 hw2
  go_wp2_with fail
  go_loopw [7, 9] (fun v _ wr => ∃ pos : Nat, v = .int .i64 (valL (T.data.toList.take pos)) ∧ pos ≤ T.size ∧ wr.heap[w2.heap.size]? = some (.stringIter T pos) ∧ Hid (Below w2.heap.size w2 wr)) (fun _ _ wr => T.size - wr.iterPos w2.heap.size)
  case atStart =>
    exact ⟨0, rfl, Nat.zero_le _, World.iter_heap w2 T 0, Lib.hid ((Below.refl _ w2).alloc (Nat.le_refl _) _)⟩
  case round =>
    obtain ⟨pos, rfl, hpos, hit, hbw⟩ := hrel
    have hsz : w2.heap.size < wr.heap.size := (Array.getElem?_eq_some_iff.1 hit).1
    have hvb := valL_bd pos (T.data.toList.take pos) (by rw [List.length_take, size_data]; omega) (all_take HTd.out pos)
    by_cases hp : pos < T.size
    · have hdg := dig_le (iter_step T pos hp HTd.out)
      have hnx : ∀ ty, (Instr.next (.pointer (some ⟨w2.heap.size, 0, none⟩)) true ty).run Tryz.prog wr = _ := fun ty => Lib.run_next_ascii_at wr w2.heap.size T pos ty hit hp (by omega)
      have hit2 := Lib.iterAt_heap wr w2.heap.size T pos (pos + 1) hit
      have hbw2 := Lib.hid (Lib.below_iterAt hbw.out (k := w2.heap.size) (by omega) T (pos + 1))
      have hv9 : valL (T.data.toList.take pos) ≤ 9 := by
        have h1 : pos = 0 ∨ pos = 1 := by omega
        rcases h1 with rfl | rfl
        · have := hvb.2; simp at this; omega
        · have := hvb.2; simp at this; omega
      have hv0 := hvb.1
      have hsn := valL_snoc (T.data.toList.take pos) T[pos]
      rw [← take_succ T pos hp] at hsn
      have Hsn := Lib.hid hsn
      have Hit := Lib.hid hit
      have d0 : (48 : Int) ≤ (T[pos].toNat : Int) := by omega
      have d1 : (T[pos].toNat : Int) ≤ 57 := by omega
      clear hsn hvb hdg hit
      go_wp2
      go_roundw
      case rel => exact ⟨pos + 1, by rw [Hsn.out], by omega, hit2, hbw2⟩
      case measure =>
        simp only [World.iterPos, hit2, Hit.out]
        omega
    · obtain rfl : pos = T.size := by omega
      have hnx : ∀ ty, (Instr.next (.pointer (some ⟨w2.heap.size, 0, none⟩)) true ty).run Tryz.prog wr = _ := fun ty => Lib.run_next_end_at wr w2.heap.size T T.size ty hit hp
      have e0 : T.data.toList.take T.size = T.data.toList := by rw [← size_data, List.take_length]
      rw [e0]
      have hB := hbw.out
      have q2'' : wr.cell? ⟨b2, 0, none⟩ = some (.int .i64 lo) := (hB.cell (p := ⟨b2, 0, none⟩) (Nat.lt_of_lt_of_le l2 hsz2)).trans q2'
      have q3'' : wr.cell? ⟨b3, 0, none⟩ = some (.int .i64 hi) := (hB.cell (p := ⟨b3, 0, none⟩) (Nat.lt_of_lt_of_le l3 hsz2)).trans q3'
      generalize hV : valL T.data.toList = V at *
      have HV := Lib.hid hV
      clear hB e0 hvb hV
      by_cases hlo : lo ≤ V
      · have h1 : decide (lo ≤ V) = true := decide_eq_true hlo
        go_wp2
        go_ret
        exact ⟨ret_bool (by rw [HV.out]; simp [hlo]), Hz2.out.trans (hbw.out.mono hsz2)⟩
      · have h1 : decide (lo ≤ V) = false := decide_eq_false hlo
        go_wp2
        go_ret
        exact ⟨ret_bool (by rw [HV.out]; simp; omega), Hz2.out.trans (hbw.out.mono hsz2)⟩

/-- Noughts alone behind the point. -/
def pWhole (s : ByteArray) (k : Nat) : Bool := (Lib.trimB (s.data.toList.drop (s.size - k)) 48).isEmpty
theorem isWhole_any (n : Bool) (s : ByteArray) (k : Nat) (w : World) (hg : GoodD s k) : Calls Tryz.prog 183 #[dv n s k] w fun e w' => e = .returned (.bool (pWhole s k)) ∧ Below w.heap.size w w' := by
  have := hg.le
  have hP := fun W => part_any n s k W (by unfold maxLen; omega) hg.k
  have hsz : (s.extract (s.size - k) s.size).size ≤ 100 := by rw [ByteArray.size_extract]; omega
  have hd : (s.extract (s.size - k) s.size).data.toList = s.data.toList.drop (s.size - k) := extract_drop _ _
  generalize s.extract (s.size - k) s.size = Q at *
  have HP := Lib.hid hP
  have Hd := Lib.hid hd
  clear hP hd hg
  unfold dv
  go_enter Tryz.func183, Tryz.ntmps183
  go_wp2_with fail
  go_at_call 40
  refine (HP.out _).mono ?_
  rintro e w2 ⟨rfl, hw2⟩
  go_wp2_with (go_at_call 80; refine (Tryz.strings_Trim_one Q 48 (by decide) _ (by omega)).mono ?_; rintro e w1 ⟨rfl, hw1⟩)
  go_ret
  refine ⟨ret_bool ?_, ?_⟩
  · unfold pWhole
    rw [← Hd.out]
  · rcases hw1 with rfl | rfl
    · exact below_box hw2
    · exact (below_box hw2).drew
end Go.Proofs.YtglennfjeacpoaaGreatDoor
