/-
  Several texts put together (part 7): what the law and the program call, walked; their contracts.
-/
import Derived.Test.YtjdpmdheapmanaaGreatDoorQ3
import Derived.Test.YtjdpmdheapmanaaGreatDoorQ5
import Derived.Lib.TrimByte
import Derived.Shelf.Strings.BuilderF
import Derived.Lib.FrozenHead2
import Derived.Lib.OthersKept
namespace Go.Proofs.YtjdpmdheapmanaaGreatDoor
open Go.RowKit
def TrimTo (a c : ByteArray) : Prop := ∀ W : World, Calls Tryz.prog 88 #[.string a, .string ⟨#[48]⟩] W fun e w' => e = .returned (.string c) ∧ W = w'
theorem trimTo (a : ByteArray) : TrimTo a ⟨(Lib.trimLeftB a.data.toList 48).toArray⟩ := by
  intro W
  refine (Tryz.strings_TrimLeft_one _ 48 (by decide) _).mono ?_
  rintro e w' ⟨rfl, rfl⟩
  exact ⟨rfl, rfl⟩
end Go.Proofs.YtjdpmdheapmanaaGreatDoor

namespace Go.Proofs.YtjdpmdheapmanaaGreatDoor
open Go.RowKit
def cmpS (a b : List UInt8) : Int := if Op.bytesLess a b = true then -1 else if (a == b) = true then 0 else 1
theorem cmpS_cases (a b : List UInt8) : cmpS a b = -1 ∨ cmpS a b = 0 ∨ cmpS a b = 1 := by
  unfold cmpS
  split
  · exact Or.inl rfl
  · split
    · exact Or.inr (Or.inl rfl)
    · exact Or.inr (Or.inr rfl)
set_option maxHeartbeats 400000 in
theorem cmpString_any (a b : ByteArray) (w : World) :
    Calls Tryz.prog 39 #[.string a, .string b] w fun e w' => e = .returned (.int .i64 (cmpS a.data.toList b.data.toList)) ∧ w = w' := by
  go_enter Tryz.func39, Tryz.ntmps39
  go_wp2
  all_goals go_ret
  all_goals refine ⟨ret_int ?_, rfl⟩
  all_goals rw [← Lib.toList_data, ← Lib.toList_data, cmpS]
  · rw [if_pos ‹_›]
  · have h1 : Op.bytesLess a.toList b.toList = false := ‹_›
    have h2 : (!a.toList == b.toList) = true := ‹_›
    rw [h1]
    cases h3 : (a.toList == b.toList)
    · rfl
    · rw [h3] at h2; exact absurd h2 (by decide)
  · have h1 : Op.bytesLess a.toList b.toList = false := ‹_›
    have h2 : (!a.toList == b.toList) = false := ‹_›
    rw [h1]
    cases h3 : (a.toList == b.toList)
    · rw [h3] at h2; exact absurd h2 (by decide)
    · rfl
def lastOdd (l : List UInt8) : Bool := match l.getLast? with | some c => decide (c.toNat % 2 = 1) | none => false
def upC (kept : List UInt8) (c : Int) : Bool := if c = 0 then lastOdd kept else decide (c = 1)
def upB (kept others : List UInt8) : Bool := upC kept (cmpS (Lib.trimRightB others 48) [53])
def TrimRTo (a c : ByteArray) : Prop := ∀ W : World, Calls Tryz.prog 40 #[.string a, .string ⟨#[48]⟩] W fun e w' => e = .returned (.string c) ∧ W = w'
theorem trimRTo (a : ByteArray) (ha : a.size ≤ 9223372036854775807) : TrimRTo a ⟨(Lib.trimRightB a.data.toList 48).toArray⟩ := by
  intro W
  refine (Tryz.strings_TrimRight_one _ 48 (by decide) _ ha).mono ?_
  rintro e w' ⟨rfl, rfl⟩
  exact ⟨rfl, rfl⟩
def CmpTo (a b : ByteArray) (c : Int) : Prop := ∀ W : World, Calls Tryz.prog 39 #[.string a, .string b] W fun e w' => e = .returned (.int .i64 c) ∧ W = w'
theorem last_data (s : ByteArray) (h : 0 < s.size) : s.data.toList.getLast? = some s[s.size - 1] := by
  rw [List.getLast?_eq_getElem?, List.getElem?_eq_getElem (by simp; omega)]
  simp
  rfl
set_option maxHeartbeats 400000 in
theorem roundsUp_core (a b t : ByteArray) (c : Int) (w : World) (hs : a.size ≤ maxLen) (ht : TrimRTo b t) (hc : CmpTo t ⟨#[53]⟩ c) (h3 : c = -1 ∨ c = 0 ∨ c = 1) :
    Calls Tryz.prog 26 #[.string a, .string b] w fun e w' => e = .returned (.bool (upC a.data.toList c)) ∧ w = w' := by
  unfold maxLen at hs
  rcases h3 with rfl | rfl | rfl
  · go_enter Tryz.func26, Tryz.ntmps26
    go_wp2_with (first | (go_at_call 40; refine (ht _).mono ?_; rintro e w2 ⟨rfl, rfl⟩) | (go_at_call 39; refine (hc _).mono ?_; rintro e w3 ⟨rfl, rfl⟩))
    go_ret
    exact ⟨rfl, rfl⟩
  · rcases Nat.eq_zero_or_pos a.size with h0 | h0
    · have he : a.data.toList = [] := List.eq_nil_of_length_eq_zero (by rw [size_data]; exact h0)
      have ha : a.toList = [] := by rw [Lib.toList_data]; exact he
      have ha2 : (!a.toList.isEmpty) = false := by rw [ha]; rfl
      have He := Lib.hid he
      clear he
      go_enter Tryz.func26, Tryz.ntmps26
      go_wp2_with (first | (go_at_call 40; refine (ht _).mono ?_; rintro e w2 ⟨rfl, rfl⟩) | (go_at_call 39; refine (hc _).mono ?_; rintro e w3 ⟨rfl, rfl⟩))
      go_ret
      exact ⟨ret_bool (by unfold upC lastOdd; rw [He.out]; rfl), rfl⟩
    · have hl := last_data a h0
      have hne : a.toList.isEmpty = false := by
        rw [Lib.toList_data]
        cases h : a.data.toList with
        | nil => rw [h] at hl; cases hl
        | cons x l => rfl
      have Hl := Lib.hid hl
      clear hl
      go_enter Tryz.func26, Tryz.ntmps26
      go_wp2_with (first | (go_at_call 40; refine (ht _).mono ?_; rintro e w2 ⟨rfl, rfl⟩) | (go_at_call 39; refine (hc _).mono ?_; rintro e w3 ⟨rfl, rfl⟩))
      go_ret
      exact ⟨ret_bool (by unfold upC lastOdd; rw [Hl.out]; simp; rw [Bool.eq_iff_iff]; simp; omega), rfl⟩
  · go_enter Tryz.func26, Tryz.ntmps26
    go_wp2_with (first | (go_at_call 40; refine (ht _).mono ?_; rintro e w2 ⟨rfl, rfl⟩) | (go_at_call 39; refine (hc _).mono ?_; rintro e w3 ⟨rfl, rfl⟩))
    go_ret
    exact ⟨rfl, rfl⟩
theorem roundsUp_any (a b : ByteArray) (w : World) (hs : a.size ≤ maxLen) (hb : b.size ≤ maxLen) :
    Calls Tryz.prog 26 #[.string a, .string b] w fun e w' => e = .returned (.bool (upB a.data.toList b.data.toList)) ∧ w = w' :=
  roundsUp_core a b _ _ w hs (trimRTo b (by unfold maxLen at hb; omega)) (fun W => cmpString_any _ _ W) (cmpS_cases _ _)
end Go.Proofs.YtjdpmdheapmanaaGreatDoor

namespace Go.Proofs.YtjdpmdheapmanaaGreatDoor
open Go.RowKit
theorem sizeBld : (Tryz.prog.info? 94).map (·.size) = some 2 := by kernel_rfl
theorem liesBld : liesAt Tryz.prog Tryz.prog.depth 94 (2 / Tryz.prog.cellsOf 94) 0 94 1 = true := by kernel_rfl
theorem infoByte : (Tryz.prog.info? 5).map (fun i => (i.zero, i.size, i.bytes)) = some (some (.int .u8 0), 1, 1) := by kernel_rfl
set_option maxHeartbeats 1000000 in
set_option maxRecDepth 100000 in
theorem bld_copyCheck_used (b : Nat) (w : World) (h0 : w.cell? ⟨b, 0, none⟩ = some (.pointer (some ⟨b, 0, none⟩))) :
    Calls Tryz.prog 65 #[.pointer (some ⟨b, 0, none⟩)] w fun e w' => e = .returned (.tuple #[]) ∧ w = w' := by
  obtain ⟨j, hj, _⟩ := Option.map_eq_some_iff.1 sizeBld
  go_enter Tryz.func65, Tryz.ntmps65
  go_wp2
  rw [Lib.run_neq_ptr_same w _ Tryz.underlying92 hj]
  go_wp2
  go_end0
  exact ⟨rfl, rfl⟩
set_option maxHeartbeats 1000000 in
set_option maxRecDepth 100000 in
theorem bld_copyCheck_fresh (b : Nat) (w : World) (h0 : w.cell? ⟨b, 0, none⟩ = some (.pointer none)) (hsh : w.shape? b = some (94, 2)) (hfz : w.frozen? ⟨b, 0, none⟩ = false) :
    Calls Tryz.prog 65 #[.pointer (some ⟨b, 0, none⟩)] w fun e w' => e = .returned (.tuple #[]) ∧ w' = w.setCell ⟨b, 0, none⟩ (.pointer (some ⟨b, 0, none⟩)) := by
  obtain ⟨j, hj, hjs⟩ := Option.map_eq_some_iff.1 sizeBld
  go_enter Tryz.func65, Tryz.ntmps65
  go_wp2
  rw [Lib.run_to_unsafe w ⟨b, 0, none⟩ Tryz.underlying92 Tryz.underlying135 hj (by rw [hjs]; decide) hsh (Nat.zero_lt_succ 1)]
  simp only [Result.andThen]
  rw [Oper.upon_value]
  go_wp2
  rw [run_callFunc_extern Tryz.func86 (by kernel_rfl) (by kernel_rfl) (by kernel_rfl) (e := Extern.AbiNoEscape.same) (by kernel_rfl)]
  rw [Lib.run_noEscape]
  simp only [Result.andThen]
  rw [Oper.upon_value]
  go_wp2
  rw [Lib.run_from_unsafe w ⟨b, 0, none⟩ Tryz.underlying135 Tryz.underlying92 hj hsh liesBld]
  simp only [Result.andThen]
  rw [Oper.upon_value]
  go_wp2
  go_end0
  exact ⟨rfl, rfl⟩
theorem bld_copyCheck (B b : Nat) (bs : List Value) (w : World) (h : Lib.IsBuilderF 94 5 B b bs w) :
    Calls Tryz.prog 65 #[.pointer (some ⟨b, 0, none⟩)] w fun e w' => e = .returned (.tuple #[]) ∧ (Lib.BuilderAtF 94 5 B b (.pointer (some ⟨b, 0, none⟩)) bs w' ∧ Below B w w' ∧ Lib.OthersKept 5 (some b) w w') := by
  rcases h with h | h
  · refine (bld_copyCheck_fresh b w h.cell0 h.shape h.frozen0).mono ?_
    rintro e w' ⟨rfl, rfl⟩
    exact ⟨rfl, h.used _, (Below.refl B w).setCell (p := ⟨b, 0, none⟩) h.1 _, (Lib.OthersKept.refl _ _ w).setCell ⟨b, 0, none⟩ rfl _⟩
  · refine (bld_copyCheck_used b w h.cell0).mono ?_
    rintro e w' ⟨rfl, rfl⟩
    exact ⟨rfl, h, Below.refl B _, Lib.OthersKept.refl _ _ _⟩
set_option maxHeartbeats 2000000 in
set_option maxRecDepth 100000 in
theorem bld_WriteString (B b : Nat) (bs : List Value) (s : ByteArray) (w : World) (h : Lib.IsBuilderF 94 5 B b bs w) (hlen : bs.length + s.size ≤ 140737488355328) (hBw : B ≤ w.heap.size) :
    Calls Tryz.prog 44 #[.pointer (some ⟨b, 0, none⟩), .string s] w fun e w' => e = .returned (.tuple #[.int .i64 s.size, .nilIface]) ∧ (Lib.BuilderAtF 94 5 B b (.pointer (some ⟨b, 0, none⟩)) (bs ++ Lib.strCells s) w' ∧ Below B w w' ∧ Lib.OthersKept 5 (some b) w w') := by
  obtain ⟨i0, hi, hz0, hz1, hz2⟩ := info_parts infoByte
  go_enter Tryz.func44, Tryz.ntmps44
  go_wp2_with (go_at_call 65; refine (bld_copyCheck B b bs _ h).mono ?_)
  rintro e w1 ⟨rfl, h1, hb1, hk1⟩
  obtain ⟨hB, v, hbk, hown, hne⟩ := h1
  have c0 : w1.cell? ⟨b, 0, none⟩ = some (.pointer (some ⟨b, 0, none⟩)) := by rw [Lib.cell_of_heap hbk]; rfl
  have c1 : w1.cell? ⟨b, 1, none⟩ = some v := by rw [Lib.cell_of_heap hbk]; rfl
  go_wp2_with (at_builtin; refine Lib.wpList_append_own_stringF _ rfl _ _ 87 9 rfl B 5 i0 Tryz.underlying87 Tryz.underlying9 hi hz0 hz1 hz2 _ _ _ rfl hown s rfl ?c3 ?c4 ?c5 ?_)
  case c3 => unfold maxLen; omega
  case c4 => omega
  case c5 => have := hb1.size; omega
  intro v' w2 hown' hgrow _
  have hlt : b < w1.heap.size := by
    rcases Nat.lt_or_ge b w1.heap.size with h' | h'
    · exact h'
    · simp [Array.getElem?_eq_none h'] at hbk
  have hb2 : w2.heap[b]? = some (.cells #[.pointer (some ⟨b, 0, none⟩), v] 94 (0, 0)) := by
    rw [hgrow.block b hlt (fun e => hne e.symm)]
    exact hbk
  have d0 : w2.cell? ⟨b, 0, none⟩ = some (.pointer (some ⟨b, 0, none⟩)) := by rw [Lib.cell_of_heap hb2]; rfl
  have d1 : w2.cell? ⟨b, 1, none⟩ = some v := by rw [Lib.cell_of_heap hb2]; rfl
  have f1 : w2.frozen? ⟨b, 1, none⟩ = false := Lib.frozen_of_heap hb2 1
  obtain ⟨ao, n', cap, rfl⟩ : ∃ ao n' cap, v' = .slice ao n' cap := by
    rcases hown'.2 with ⟨hv, _⟩ | ⟨g, cap, cur, fz, hv, _⟩
    · exact ⟨_, _, _, hv⟩
    · exact ⟨_, _, _, hv⟩
  go_wp2
  go_ret2
  refine ⟨rfl, ?_, ?_, (hk1.grown hgrow (Lib.ownsRowF_kind hown)).setCell ⟨b, 1, none⟩ rfl _⟩
  · exact Lib.BuilderAtF.put (T := 94) (e := 5) hB hb2 (bs' := bs ++ Lib.strCells s) (by simpa [Lib.strCells_length] using hown') (by decide)
  · exact (hb1.grown hgrow (by have := hb1.size; omega) (fun k hk => (hown.lt k hk).1)).setCell (p := ⟨b, 1, none⟩) hB _
end Go.Proofs.YtjdpmdheapmanaaGreatDoor

namespace Go.Proofs.YtjdpmdheapmanaaGreatDoor
open Go.RowKit
set_option maxHeartbeats 2000000 in
set_option maxRecDepth 100000 in
theorem bld_WriteByte (B b : Nat) (bs : List Value) (c : Int) (w : World) (h : Lib.IsBuilderF 94 5 B b bs w) (hlen : bs.length + 1 ≤ 140737488355328) (hBw : B ≤ w.heap.size) :
    Calls Tryz.prog 45 #[.pointer (some ⟨b, 0, none⟩), .int .u8 c] w fun e w' => e = .returned .nilIface ∧ (Lib.BuilderAtF 94 5 B b (.pointer (some ⟨b, 0, none⟩)) (bs ++ [.int .u8 c]) w' ∧ Below B w w' ∧ Lib.OthersKept 5 (some b) w w') := by
  obtain ⟨i0, hi, hz0, hz1, hz2⟩ := info_parts infoByte
  go_enter Tryz.func45, Tryz.ntmps45
  go_wp2_with (go_at_call 65; refine (bld_copyCheck B b bs _ h).mono ?_)
  rintro e w1 ⟨rfl, h1, hb1, hk1⟩
  obtain ⟨hB, v, hbk, hown, hne⟩ := h1
  have c0 : w1.cell? ⟨b, 0, none⟩ = some (.pointer (some ⟨b, 0, none⟩)) := by rw [Lib.cell_of_heap hbk]; rfl
  have c1 : w1.cell? ⟨b, 1, none⟩ = some v := by rw [Lib.cell_of_heap hbk]; rfl
  go_wp2_with (at_builtin; refine wpList_append_ownF _ rfl _ _ 87 rfl B 5 i0 (.int .u8 0) 1 1 Tryz.underlying87 hi hz0 hz1 hz2 rfl (by decide) _ _ _ rfl (hown.alloc _) ⟨w1.heap.size, 0, none⟩ 1 1 [.int .u8 c] rfl rfl ?c1 ?c2 ?c3 ?c4 ?c5 ?_)
  case c1 =>
    intro j u hj
    match j, hj with
    | 0, hj => simp at hj; subst hj; simp [Addr.add]
  case c2 => intro u hu; simp at hu; subst hu; rfl
  case c3 => unfold maxLen; omega
  case c4 => omega
  case c5 => have := hb1.size; simp; omega
  intro v' w2 hown' hgrow _
  have hlt : b < w1.heap.size := by
    rcases Nat.lt_or_ge b w1.heap.size with h' | h'
    · exact h'
    · simp [Array.getElem?_eq_none h'] at hbk
  have hb2 : w2.heap[b]? = some (.cells #[.pointer (some ⟨b, 0, none⟩), v] 94 (0, 0)) := by
    rw [hgrow.block b (by simp; omega) (fun e => hne e.symm), Lib.alloc_old w1 _ b hlt]
    exact hbk
  have d0 : w2.cell? ⟨b, 0, none⟩ = some (.pointer (some ⟨b, 0, none⟩)) := by rw [Lib.cell_of_heap hb2]; rfl
  have d1 : w2.cell? ⟨b, 1, none⟩ = some v := by rw [Lib.cell_of_heap hb2]; rfl
  have f1 : w2.frozen? ⟨b, 1, none⟩ = false := Lib.frozen_of_heap hb2 1
  obtain ⟨g, cap, rfl⟩ : ∃ g cap, v' = .slice (some ⟨g, 0, none⟩) (bs.length + 1) cap := by
    rcases hown'.2 with ⟨_, h0⟩ | ⟨g, cap, cur, fz, hv, _⟩
    · omega
    · exact ⟨g, cap, hv⟩
  go_wp2
  go_ret
  refine ⟨rfl, ?_, ?_, ((hk1.alloc _).grown hgrow (Lib.ownsRowF_kind (hown.alloc _))).setCell ⟨b, 1, none⟩ rfl _⟩
  · exact Lib.BuilderAtF.put (T := 94) (e := 5) hB hb2 (bs' := bs ++ [.int .u8 c]) (by simpa using hown') (by decide)
  · exact ((hb1.alloc (by have := hb1.size; omega) _).grown hgrow (by have := hb1.size; simp; omega) (fun k hk => (hown.lt k hk).1)).setCell (p := ⟨b, 1, none⟩) hB _
end Go.Proofs.YtjdpmdheapmanaaGreatDoor

namespace Go.Proofs.YtjdpmdheapmanaaGreatDoor
open Go.RowKit
def grpTo (l btw : List UInt8) : Nat → List UInt8
  | 0 => []
  | k + 1 => grpTo l btw k ++ (if 0 < k ∧ (l.length - k) % 3 = 0 then btw else []) ++ [l.getD k 0]
theorem grpTo_length (l btw : List UInt8) : ∀ k, (grpTo l btw k).length ≤ k * (btw.length + 1)
  | 0 => by simp [grpTo]
  | k + 1 => by
    have := grpTo_length l btw k
    simp only [grpTo, List.length_append, List.length_singleton]
    rw [Nat.succ_mul]
    split <;> simp <;> omega
theorem grpTo_yes (l btw : List UInt8) (k : Nat) (h0 : 0 < k) (h3 : (l.length - k) % 3 = 0) : grpTo l btw (k + 1) = (grpTo l btw k ++ btw) ++ [l.getD k 0] := by
  simp only [grpTo]; rw [if_pos ⟨h0, h3⟩]
theorem grpTo_no (l btw : List UInt8) (k : Nat) (h : ¬ (0 < k ∧ (l.length - k) % 3 = 0)) : grpTo l btw (k + 1) = grpTo l btw k ++ [l.getD k 0] := by
  simp only [grpTo]; rw [if_neg h, List.append_nil]
theorem byte_cell (s : ByteArray) (k : Nat) (h : k < s.size) : Lib.byteCells [s.data.toList.getD k 0] = [.int .u8 s[k].toNat] := by
  have : s.data.toList.getD k 0 = s[k] := by
    rw [List.getD_eq_getElem?_getD, List.getElem?_eq_getElem (by simpa using h)]; rfl
  rw [this]; rfl
set_option maxHeartbeats 1000000 in
set_option maxRecDepth 100000 in
theorem group_any (s t : ByteArray) (w : World) (hs : s.size * (t.size + 1) ≤ 140737488355328) :
    Calls Tryz.prog 32 #[.string s, .string t] w fun e w' => e = .returned (.string ⟨(grpTo s.data.toList t.data.toList s.size).toArray⟩) ∧ Below w.heap.size w w' := by
  have hb : s.size ≤ 140737488355328 := Nat.le_trans (Nat.le_mul_of_pos_right _ (by omega)) hs
  go_enter Tryz.func32, Tryz.ntmps32
  go_wp2
  go_loopw [9] (fun i wr => ∃ k : Nat, k ≤ s.size ∧ i = .int .i64 k ∧ Lib.IsBuilderF 94 5 w.heap.size w.heap.size (Lib.byteCells (grpTo s.data.toList t.data.toList k)) wr ∧ Below w.heap.size w wr) (fun i _ => s.size - (intOf i).toNat)
  case atStart => exact ⟨0, Nat.zero_le _, rfl, Lib.IsBuilderF.of (Lib.fresh_isBuilder 94 5 w), (Below.refl _ w).alloc (Nat.le_refl _) _⟩
  case round =>
    obtain ⟨k, hk, rfl, hI, hbw⟩ := hrel
    have hlen := grpTo_length s.data.toList t.data.toList k
    rw [size_data t] at hlen
    have hsz := hbw.size
    by_cases hlt : k < s.size
    · have hmul : (k + 1) * (t.size + 1) ≤ s.size * (t.size + 1) := Nat.mul_le_mul_right _ hlt
      rw [Nat.succ_mul] at hmul
      have hbc := byte_cell s k hlt
      by_cases h0 : 0 < k
      · by_cases h3 : ((s.size : Int) - k) % 3 = 0
        · have hy := grpTo_yes s.data.toList t.data.toList k h0 (by rw [size_data]; omega)
          have Hy := Lib.hid hy
          have Hbc := Lib.hid hbc
          have Hmul := Lib.hid hmul
          have Hlen := Lib.hid hlen
          clear hy hbc hmul hlen
          go_wp2_with (go_at_call 44; refine (bld_WriteString w.heap.size w.heap.size _ t _ hI (by have := Hlen.out; have := Hmul.out; rw [Lib.byteCells_length]; omega) hsz).mono ?_)
          rintro e W1 ⟨rfl, h1, b1, k1⟩
          have hsz1 := b1.size
          go_wp2_with (go_at_call 45; refine (bld_WriteByte w.heap.size w.heap.size _ _ _ (Or.inr h1) (by have := Hlen.out; have := Hmul.out; simp [Lib.byteCells_length, Lib.strCells_length]; omega) (by omega)).mono ?_)
          rintro e W2 ⟨rfl, h2, b2, k2⟩
          go_wp2
          go_roundw
          case rel =>
            refine ⟨k + 1, by omega, by go_num, Or.inr ?_, (hbw.trans b1).trans b2⟩
            rw [Hy.out, Lib.byteCells_append, Lib.byteCells_append, Hbc.out]
            exact h2
          case measure => simp [intOf]; omega
        · have hy := grpTo_no s.data.toList t.data.toList k (by rw [size_data]; omega)
          have Hy := Lib.hid hy
          have Hbc := Lib.hid hbc
          have Hmul := Lib.hid hmul
          have Hlen := Lib.hid hlen
          clear hy hbc hmul hlen
          go_wp2_with (go_at_call 45; refine (bld_WriteByte w.heap.size w.heap.size _ _ _ hI (by have := Hlen.out; have := Hmul.out; rw [Lib.byteCells_length]; omega) hsz).mono ?_)
          rintro e W1 ⟨rfl, h1, b1, k1⟩
          go_wp2
          go_roundw
          case rel =>
            refine ⟨k + 1, by omega, by go_num, Or.inr ?_, hbw.trans b1⟩
            rw [Hy.out, Lib.byteCells_append, Hbc.out]
            exact h1
          case measure => simp [intOf]; omega
      · have hy := grpTo_no s.data.toList t.data.toList k (by rw [size_data]; omega)
        have Hy := Lib.hid hy
        have Hbc := Lib.hid hbc
        have Hmul := Lib.hid hmul
        have Hlen := Lib.hid hlen
        clear hy hbc hmul hlen
        go_wp2_with (go_at_call 45; refine (bld_WriteByte w.heap.size w.heap.size _ _ _ hI (by have := Hlen.out; have := Hmul.out; rw [Lib.byteCells_length]; omega) hsz).mono ?_)
        rintro e W1 ⟨rfl, h1, b1, k1⟩
        go_wp2
        go_roundw
        case rel =>
          refine ⟨k + 1, by omega, by go_num, Or.inr ?_, hbw.trans b1⟩
          rw [Hy.out, Lib.byteCells_append, Hbc.out]
          exact h1
        case measure => simp [intOf]; omega
    · obtain rfl : k = s.size := by omega
      clear hlen
      go_wp2_with (go_at_call 46; refine (Tryz.Builder_String_any_k w.heap.size w.heap.size _ _ hI hsz).mono ?_)
      rintro e W1 ⟨rfl, _, b1, _⟩
      go_wp2
      go_ret
      exact ⟨rfl, hbw.trans b1⟩
end Go.Proofs.YtjdpmdheapmanaaGreatDoor
