/-
  Several texts put together (part 18): what the law and the program call, walked; their contracts.
-/
import Derived.Test.YtjdpmdheapmanaaGreatDoorQ17
import Derived.Test.YtjdpmdheapmanaaGreatDoorQ13
import Derived.Test.YtjdpmdheapmanaaGreatDoorQ5
import Derived.Test.YtjdpmdheapmanaaGreatDoorQ6
namespace Go.Proofs.YtjdpmdheapmanaaGreatDoor
open Go.RowKit
set_option linter.unusedVariables false
set_option linter.unusedSimpArgs false
def allS (A : Nat → Int) (m : Nat) : Bool := (List.range m).all fun p => !(decide (0 < A p) && (decide (p < 98) || decide (99 < p)))
theorem allS_iff (A : Nat → Int) (m : Nat) : allS A m = true ↔ ∀ p, p < m → (p < 98 ∨ 99 < p) → A p ≤ 0 := by
  unfold allS
  rw [List.all_eq_true]
  constructor
  · intro h p hp hq
    have := h p (List.mem_range.2 hp)
    simp only [Bool.not_eq_true', Bool.and_eq_false_iff, Bool.or_eq_false_iff, decide_eq_false_iff_not] at this
    omega
  · intro h p hp
    have := h p (List.mem_range.1 hp)
    simp only [Bool.not_eq_true', Bool.and_eq_false_iff, Bool.or_eq_false_iff, decide_eq_false_iff_not]
    omega
theorem allS_succ (A : Nat → Int) (m : Nat) : allS A (m + 1) = (allS A m && !(decide (0 < A m) && (decide (m < 98) || decide (99 < m)))) := by
  unfold allS
  rw [List.range_succ, List.all_append]
  simp
def whV (n : Bool) (A : Nat → Int) : Int := if allS A 200 then (if n && decide (0 < 10 * A 98 + A 99) then -1 else 10 * A 98 + A 99) else -1
theorem hor_two {A : Nat → Int} (hA : DigF A) (h : allS A 200 = true) : hor A 200 = (10 * A 98 + A 99) * ((10 ^ 100 : Nat) : Int) := by
  have h := (allS_iff A 200).1 h
  have z : ∀ p, p < 200 → (p < 98 ∨ 99 < p) → A p = 0 := fun p hp hq => by
    have a := h p hp hq
    have b := (hA p).1
    omega
  have h98 := hor_zero A 98 fun p hp => z p (by omega) (Or.inl hp)
  have h99 : hor A 99 = 10 * hor A 98 + A 98 := rfl
  have h100 : hor A 100 = 10 * hor A 99 + A 99 := rfl
  have hb := hor_behind A 100 100 fun p h1 h2 => z p (by omega) (Or.inr (by omega))
  have e : hor A 100 = 10 * A 98 + A 99 := by omega
  rw [e] at hb
  exact hb
theorem cntK_iff {l : List UInt8} {k : Nat} (hk : k ≤ l.length) (hd : l.all digB = true) : cntK l k = 0 ↔ numL (l.drop (l.length - k)) = 0 := by
  unfold cntK
  split
  · rename_i hk0
    unfold trimZ
    rw [Nat.add_zero, Nat.sub_zero]
    have hdd : (l.drop (l.length - k)).all digB = true := List.all_eq_true.2 fun c hc => List.all_eq_true.1 hd c (List.mem_of_mem_drop hc)
    have hlen : (l.drop (l.length - k)).length = k := by rw [List.length_drop]; omega
    generalize l.drop (l.length - k) = d at *
    obtain ⟨j, hj⟩ := trimR_split d
    have hl := congrArg List.length hj
    rw [List.length_append, List.length_replicate] at hl
    have hn : numL d = numL (Lib.trimRightB d 48) * 10 ^ j := by
      have := congrArg numL hj
      rw [numL_append, numL_noughts, List.length_replicate, Nat.add_zero] at this
      exact this
    constructor
    · intro h
      have : Lib.trimRightB d 48 = [] := List.eq_nil_of_length_eq_zero (by omega)
      rw [hn, this]
      simp [numL]
    · intro h
      rw [h] at hn
      have h0 : numL (Lib.trimRightB d 48) = 0 := by
        rcases Nat.mul_eq_zero.1 hn.symm with e | e
        · exact e
        · exact absurd e (Nat.pos_iff_ne_zero.1 (ten_pos j))
      have : Lib.trimRightB d 48 = [] := by
        apply Classical.byContradiction
        intro hne
        have := numL_pos _ (trimR_digs hdd) (trimR_ends d) hne
        omega
      rw [this]
      simp
  · rename_i hk0
    have : k = 0 := by omega
    subst this
    rw [Nat.sub_zero, List.drop_length]
    simp [numL]
theorem cntOk_iff {n : Bool} {l : List UInt8} {k : Nat} (hN : Num l k) : cntOk n l k = true ↔ ∃ c, numL l = c * 10 ^ k ∧ c ≤ 20 ∧ (n = true → c = 0) := by
  have hlt := hN.lt
  have hcut := numL_cut l k (by omega)
  have hp := ten_pos k
  have hdr : numL (l.drop (l.length - k)) < 10 ^ k := by
    have := numL_lt (l.drop (l.length - k)) (List.all_eq_true.2 fun c hc => List.all_eq_true.1 hN.digs c (List.mem_of_mem_drop hc))
    rw [List.length_drop, show l.length - (l.length - k) = k by omega] at this
    exact this
  have hK := cntK_iff (l := l) (k := k) (by omega) hN.digs
  unfold cntOk
  rw [decC_num n false l [48] k 0 hN.digs (by decide) (by omega) (by decide), decC_num n false l [50, 48] k 0 hN.digs twenty_digs (by omega) (by decide)]
  rw [show numL [48] = 0 by decide, show numL [50, 48] = 20 by decide, Nat.pow_zero, Nat.mul_one, Nat.zero_mul]
  rw [Bool.and_eq_true, Bool.and_eq_true, decide_eq_true_iff, decide_eq_true_iff, Bool.not_eq_true', decide_eq_false_iff_not, hK]
  have hneg : ∀ x : Nat, (¬ cmpZ (sv n x) (sv false 0) < 0) ↔ (n = true → x = 0) := by
    intro x
    unfold cmpZ sv
    cases n
    · simp only [Bool.false_eq_true, if_false]
      split
      · omega
      · split <;> simp
    · simp only [if_true, Bool.false_eq_true, if_false]
      split
      · simp; omega
      · split <;> simp <;> omega
  rw [hneg]
  have hgr : (¬ 0 < cmpZ (sv n (numL l)) (sv false (20 * 10 ^ k))) ↔ (n = false → numL l ≤ 20 * 10 ^ k) := by
    generalize 20 * 10 ^ k = y
    generalize numL l = x
    unfold cmpZ sv
    cases n
    · simp only [Bool.false_eq_true, if_false]
      split
      · simp; omega
      · split <;> simp <;> omega
    · simp only [if_true, Bool.false_eq_true, if_false]
      split
      · simp
      · split <;> simp <;> omega
  rw [hgr]
  constructor
  · rintro ⟨h1, h2, h3⟩
    refine ⟨numL (l.take (l.length - k)), by omega, ?_, ?_⟩
    · cases n
      · have := h3 rfl
        exact Nat.le_of_mul_le_mul_right (by omega : numL (l.take (l.length - k)) * 10 ^ k ≤ 20 * 10 ^ k) hp
      · have := h2 rfl
        have e : numL (l.take (l.length - k)) * 10 ^ k = 0 := by omega
        rcases Nat.mul_eq_zero.1 e with e | e <;> omega
    · intro hn
      have := h2 hn
      have e : numL (l.take (l.length - k)) * 10 ^ k = 0 := by omega
      rcases Nat.mul_eq_zero.1 e with e | e <;> omega
  · rintro ⟨c, hc, hle, hz⟩
    have hmul : c * 10 ^ k ≤ 20 * 10 ^ k := Nat.mul_le_mul_right _ hle
    refine ⟨?_, ?_, ?_⟩
    · have e := congrArg (· % 10 ^ k) (hcut.symm.trans hc)
      simp only [Nat.mul_add_mod_self_right, Nat.mul_mod_left] at e
      rw [Nat.mod_eq_of_lt hdr] at e
      exact e
    · intro hn
      rw [hc, hz hn, Nat.zero_mul]
    · intro _
      omega
theorem cntC_of {n : Bool} {l : List UInt8} {k c : Nat} (hN : Num l k) (h : cntOk n l k = true) (hc : numL l = c * 10 ^ k) : cntC n l k = (c : Int) := by
  have hlt := hN.lt
  have hcut := numL_cut l k (by omega)
  have hdr : numL (l.drop (l.length - k)) < 10 ^ k := by
    have := numL_lt (l.drop (l.length - k)) (List.all_eq_true.2 fun c hc => List.all_eq_true.1 hN.digs c (List.mem_of_mem_drop hc))
    rw [List.length_drop, show l.length - (l.length - k) = k by omega] at this
    exact this
  have e := congrArg (· % 10 ^ k) (hcut.symm.trans hc)
  simp only [Nat.mul_add_mod_self_right, Nat.mul_mod_left] at e
  rw [Nat.mod_eq_of_lt hdr] at e
  have : numL (l.take (l.length - k)) * 10 ^ k = c * 10 ^ k := by omega
  have := Nat.eq_of_mul_eq_mul_right (ten_pos k) this
  unfold cntC
  rw [if_pos h, this]
theorem wh_yes {n : Bool} {l : List UInt8} {k : Nat} (hN : Num l k) (h : cntOk n l k = true) : whV n (fixF l k) = cntC n l k := by
  obtain ⟨c, hc, hle, hz⟩ := (cntOk_iff hN).1 h
  rw [cntC_of hN h hc]
  have hlt := hN.lt
  have hl := hN.le
  have hF := hor_fixF l k hN.digs (by omega) (by omega) (by omega)
  rw [hc, Nat.mul_assoc, ← Nat.pow_add, show k + (100 - k) = 100 by omega] at hF
  have hA := fixF_digs l k hN.digs
  have hB : DigF fun p => if p = 98 then ((c / 10 : Nat) : Int) else if p = 99 then ((c % 10 : Nat) : Int) else 0 := by
    intro p
    try dsimp only
    split
    · omega
    · split <;> omega
  have hS : allS (fun p => if p = 98 then ((c / 10 : Nat) : Int) else if p = 99 then ((c % 10 : Nat) : Int) else 0) 200 = true := by
    rw [allS_iff]
    intro p _ hq
    try dsimp only
    rw [if_neg (by omega), if_neg (by omega)]
    exact Int.le_refl _
  have h2 := hor_two hB hS
  try dsimp only at h2
  rw [if_pos rfl, if_neg (by decide), if_pos rfl, show 10 * ((c / 10 : Nat) : Int) + ((c % 10 : Nat) : Int) = (c : Int) by omega] at h2
  have e := hor_inj hA hB 200 (by rw [h2, hF]; exact Int.natCast_mul c (10 ^ 100))
  have e98 : fixF l k 98 = ((c / 10 : Nat) : Int) := by have := e 98 (by decide); simpa using this
  have e99 : fixF l k 99 = ((c % 10 : Nat) : Int) := by have := e 99 (by decide); simpa using this
  have hall : allS (fixF l k) 200 = true := by
    rw [allS_iff]
    intro p hp hq
    have := e p hp
    try dsimp only at this
    rw [if_neg (by omega), if_neg (by omega)] at this
    omega
  unfold whV
  rw [if_pos hall, e98, e99]
  cases n
  · simp only [Bool.false_and, Bool.false_eq_true, if_false]
    omega
  · have := hz rfl
    subst this
    simp
theorem wh_no {n : Bool} {l : List UInt8} {k : Nat} (hN : Num l k) (h : cntOk n l k = false) : whV n (fixF l k) < 0 ∨ 20 < whV n (fixF l k) := by
  apply Classical.byContradiction
  intro hcon
  have hlt := hN.lt
  have hl := hN.le
  have hF := hor_fixF l k hN.digs (by omega) (by omega) (by omega)
  have hA := fixF_digs l k hN.digs
  unfold whV at hcon
  split at hcon
  · rename_i hS
    have h2 := hor_two hA hS
    rw [hF] at h2
    have a98 := hA 98
    have a99 := hA 99
    obtain ⟨m, hm⟩ : ∃ m : Nat, 10 * fixF l k 98 + fixF l k 99 = (m : Int) := ⟨(10 * fixF l k 98 + fixF l k 99).toNat, by omega⟩
    rw [hm] at h2 hcon
    have h3 : numL l * 10 ^ (100 - k) = m * 10 ^ 100 := by
      apply Int.ofNat.inj
      exact h2.trans (Int.natCast_mul m (10 ^ 100)).symm
    rw [show (100 : Nat) = k + (100 - k) by omega, Nat.pow_add, ← Nat.mul_assoc, show k + (100 - k) - k = 100 - k by omega] at h3
    have h4 := Nat.eq_of_mul_eq_mul_right (ten_pos (100 - k)) h3
    have hy : cntOk n l k = true := by
      rw [cntOk_iff hN]
      refine ⟨m, h4, ?_, ?_⟩
      · split at hcon <;> omega
      · intro hn
        subst hn
        simp only [Bool.true_and, decide_eq_true_eq] at hcon
        split at hcon <;> omega
    rw [hy] at h
    cases h
  · omega
end Go.Proofs.YtjdpmdheapmanaaGreatDoor

namespace Go.Proofs.YtjdpmdheapmanaaGreatDoor
open Go.RowKit
set_option linter.unusedVariables false
set_option linter.unusedSimpArgs false
theorem intAgg (w : World) : (isAgg 3).run Tryz.prog w = .ok false w := by kernel_rfl
theorem run_index_row (w : World) (A : Nat → Int) (j : Nat) (hj : j < 200) : (Instr.index 42 (.agg (row 200 A)) (.int .i64 j)).run Tryz.prog w = .ok (.int .i64 (A j)) w := by
  have hin : (0 : Int) ≤ (j : Int) ∧ (j : Int) < ((200 : Nat) : Int) := by omega
  have hge : ¬ 200 ≤ j := by omega
  simp [Instr.index, asIntOf, run_underlying fixUnder, Sem.run_bind, run_part_row w _ 200 A j hj (intAgg w), hin, hge, Result.andThen_ok]
theorem wh_neg {n : Bool} {A : Nat → Int} {j : Nat} (h : j < 200) (hq : j < 98 ∨ 99 < j) (hx : 0 < A j) : whV n A = -1 := by
  unfold whV
  rw [if_neg]
  rw [allS_iff]
  intro h'
  have := h' j h hq
  omega
theorem wh_val {n : Bool} {A : Nat → Int} (h : allS A 200 = true) : whV n A = if n && decide (0 < 10 * A 98 + A 99) then -1 else 10 * A 98 + A 99 := by
  unfold whV
  rw [if_pos h]
set_option maxHeartbeats 4000000 in
set_option maxRecDepth 100000 in
theorem lwhole_any (n : Bool) (s : ByteArray) (k : Nat) (w : World) (hk : k ≤ s.size) (h1 : s.size - k ≤ 100) (h2 : k ≤ 100) (hd : s.data.toList.all digB = true) :
    Calls Tryz.prog 20 #[.agg #[.bool n, .string s, .int .i64 k]] w fun e w' => e = .returned (.int .i64 (whV n (fixF s.data.toList k))) ∧ Below w.heap.size w w' := by
  have hO := fun W => fof_any n s k W hk h1 h2 hd
  have hA := fixF_digs s.data.toList k hd
  generalize fixF s.data.toList k = A at *
  have HO := Lib.hid hO
  have HA := Lib.hid hA
  clear hO hA hd
  have hrs := row_size 200
  have hz := fixZero
  go_enter Tryz.func20, Tryz.ntmps20
  go_wp2_with fail
  go_at_call 14
  refine (HO.out _).mono ?_
  rintro e w1 ⟨rfl, hb1⟩
  have b0 := (BoxAt.new w #[.bool n, .string s, .int .i64 k] 29).later hb1
  have zb := b0.lt
  have y0 := b0.cell 0
  simp only [List.getElem?_toArray, List.getElem?_cons_zero, List.getElem?_cons_succ] at y0
  clear b0
  go_wp2_with fail
  rw [fix_storeNew _ _ _ _ _ (by simp)]
  simp only [Result.andThen]
  rw [Oper.upon_skip]
  have hrow := RowF.new w1 A 42
  have HB := Lib.hid (below_new (below_box hb1) (Nat.le_refl _) (.cells (row 200 A) 42))
  clear hb1
  go_wp2_with fail
  refine wp_fix_load _ rfl _ rfl _ hrow ?_
  go_wp2_with fail
  have Hrow := Lib.hid hrow
  clear hrow
  go_loop [5, 6, 10] (fun _ _ t => ∃ (j : Nat), t = .int .i64 j ∧ j ≤ 200 ∧ Hid (allS A j = true)) (fun _ _ t => 200 - (intOf t).toNat)
  case atStart => exact ⟨0, rfl, by omega, Lib.hid rfl⟩
  case round =>
    obtain ⟨j, rfl, hj, hS⟩ := hrel
    by_cases hlt : j < 200
    · have hix := fun w => run_index_row w A j hlt
      have Hn := Lib.hid (fun hq => wh_neg (n := n) (A := A) hlt hq)
      have HS1 := Lib.hid (allS_succ A j)
      obtain ⟨x, hx⟩ : ∃ x, A j = x := ⟨_, rfl⟩
      rw [hx] at hix
      have Hx := Lib.hid hx
      clear hx
      by_cases h0 : 0 < x
      · have d1 : decide (0 < x) = true := decide_eq_true h0
        have d1' : decide (x > 0) = true := decide_eq_true h0
        by_cases h98 : j < 98
        · have e1 : decide ((j : Int) < 98) = true := decide_eq_true (by omega)
          go_wp2
          go_ret
          exact ⟨by rw [Hn.out (Or.inl h98) (by rw [Hx.out]; exact h0)]; rfl, HB.out⟩
        · have e1 : decide ((j : Int) < 98) = false := decide_eq_false (by omega)
          by_cases h99 : 99 < j
          · have e2 : decide ((99 : Int) < j) = true := decide_eq_true (by omega)
            have e2' : decide ((j : Int) > 99) = true := decide_eq_true (by omega)
            go_wp2
            go_ret
            exact ⟨by rw [Hn.out (Or.inr h99) (by rw [Hx.out]; exact h0)]; rfl, HB.out⟩
          · have e2 : decide ((99 : Int) < j) = false := decide_eq_false (by omega)
            have e2' : decide ((j : Int) > 99) = false := decide_eq_false (by omega)
            go_wp2
            go_round
            case rel => exact ⟨j + 1, by go_num, by omega, Lib.hid (by rw [HS1.out, hS.out, Hx.out]; simp [h98, h99])⟩
            case measure => simp [intOf]; omega
      · have d1 : decide (0 < x) = false := decide_eq_false h0
        have d1' : decide (x > 0) = false := decide_eq_false h0
        go_wp2
        go_round
        case rel => exact ⟨j + 1, by go_num, by omega, Lib.hid (by rw [HS1.out, hS.out, Hx.out]; simp [h0])⟩
        case measure => simp [intOf]; omega
    · obtain rfl : j = 200 := by omega
      have q98 := (Hrow.out 98 (by omega)).1
      have q99 := (Hrow.out 99 (by omega)).1
      have p98 := HA.out 98
      have p99 := HA.out 99
      have hv := wh_val (n := n) hS.out
      have Hv := Lib.hid hv
      clear hv
      by_cases h0 : 0 < 10 * A 98 + A 99
      · have d1 : decide (0 < 10 * A 98 + A 99) = true := decide_eq_true h0
        have d1' : decide (10 * A 98 + A 99 > 0) = true := decide_eq_true h0
        cases n
        · go_wp2
          go_ret
          exact ⟨by rw [Hv.out]; rfl, HB.out⟩
        · go_wp2
          go_ret
          exact ⟨by rw [Hv.out, d1]; rfl, HB.out⟩
      · have d1 : decide (0 < 10 * A 98 + A 99) = false := decide_eq_false h0
        have d1' : decide (10 * A 98 + A 99 > 0) = false := decide_eq_false h0
        cases n
        · go_wp2
          go_ret
          exact ⟨by rw [Hv.out]; rfl, HB.out⟩
        · go_wp2
          go_ret
          exact ⟨by rw [Hv.out, d1]; rfl, HB.out⟩
end Go.Proofs.YtjdpmdheapmanaaGreatDoor

namespace Go.Proofs.YtjdpmdheapmanaaGreatDoor
open Go.RowKit
set_option linter.unusedVariables false
set_option linter.unusedSimpArgs false
theorem xW_eq {x : ByteArray} {l : List UInt8} (h : (x.toList == l) = true) : x = ⟨l.toArray⟩ := by
  apply bytes_eq
  rw [← Lib.toList_data, beq_iff_eq.1 h]
def txtOk (nm tx : ByteArray) : Bool :=
  if (nm.toList == [117, 115, 101, 71, 114, 111, 117, 112, 105, 110, 103]) = true then (tx.toList == [102, 97, 108, 115, 101]) || (tx.toList == [116, 114, 117, 101])
  else if (nm.toList == [116, 121, 112, 101]) = true then (tx.toList == [111, 114, 100, 105, 110, 97, 108]) || (tx.toList == [99, 97, 114, 100, 105, 110, 97, 108]) else false
def txtPl (nm tx : ByteArray) (pl : Bool) : Bool := if (nm.toList == [117, 115, 101, 71, 114, 111, 117, 112, 105, 110, 103]) = true then (tx.toList == [102, 97, 108, 115, 101]) else pl
def txtRk (nm tx : ByteArray) (rk : Bool) : Bool := if (nm.toList == [116, 121, 112, 101]) = true then (tx.toList == [111, 114, 100, 105, 110, 97, 108]) else rk
def numOk (nm : ByteArray) (ok : Bool) (c : Int) : Bool :=
  ok && (if (nm.toList == [109, 105, 110, 105, 109, 117, 109, 73, 110, 116, 101, 103, 101, 114, 68, 105, 103, 105, 116, 115]) = true then c != 0 else (nm.toList == [109, 105, 110, 105, 109, 117, 109, 70, 114, 97, 99, 116, 105, 111, 110, 68, 105, 103, 105, 116, 115]) || (nm.toList == [109, 97, 120, 105, 109, 117, 109, 70, 114, 97, 99, 116, 105, 111, 110, 68, 105, 103, 105, 116, 115]))
def numMi (nm : ByteArray) (ok : Bool) (c mi : Int) : Int := if (ok && (nm.toList == [109, 105, 110, 105, 109, 117, 109, 73, 110, 116, 101, 103, 101, 114, 68, 105, 103, 105, 116, 115])) = true then c else mi
def numMf (nm : ByteArray) (ok : Bool) (c mf : Int) : Int := if (ok && (nm.toList == [109, 105, 110, 105, 109, 117, 109, 70, 114, 97, 99, 116, 105, 111, 110, 68, 105, 103, 105, 116, 115])) = true then c else if (ok && (nm.toList == [109, 97, 120, 105, 109, 117, 109, 70, 114, 97, 99, 116, 105, 111, 110, 68, 105, 103, 105, 116, 115])) = true then min c mf else mf
def numXf (nm : ByteArray) (ok : Bool) (c xf : Int) : Int := if (ok && (nm.toList == [109, 105, 110, 105, 109, 117, 109, 70, 114, 97, 99, 116, 105, 111, 110, 68, 105, 103, 105, 116, 115])) = true then max c xf else if (ok && (nm.toList == [109, 97, 120, 105, 109, 117, 109, 70, 114, 97, 99, 116, 105, 111, 110, 68, 105, 103, 105, 116, 115])) = true then c else xf
theorem Kp.set1 {rb : Nat} {a w : World} (h : Kp rb a w) (o : Nat) (v : Value) : Kp rb a (w.setCell ⟨rb, o, none⟩ v) := h.setCell o v
set_option maxHeartbeats 2000000 in
theorem setText_any (b : Nat) (mi mf xf : Int) (pl rk : Bool) (nm tx : ByteArray) (w : World) (hB : BoxAt w b #[.int .i64 mi, .int .i64 mf, .int .i64 xf, .bool pl, .bool rk] 26) :
    Calls Tryz.prog 18 #[.pointer (some ⟨b, 0, none⟩), .string nm, .string tx] w
      fun e w' => e = .returned (.bool (txtOk nm tx)) ∧ BoxAt w' b #[.int .i64 mi, .int .i64 mf, .int .i64 xf, .bool (txtPl nm tx pl), .bool (txtRk nm tx rk)] 26 ∧ Kp b w w' := by
  have c3 := hB.cell 3
  have c4 := hB.cell 4
  have z3 := hB.z 3
  have z4 := hB.z 4
  have zlt := hB.lt
  simp only [List.getElem?_toArray, List.getElem?_cons_zero, List.getElem?_cons_succ] at c3 c4
  have HB := Lib.hid hB
  clear hB
  cases q0 : (nm.toList == [117, 115, 101, 71, 114, 111, 117, 112, 105, 110, 103])
  case true =>
    obtain rfl := xW_eq q0
    have eRk : txtRk ⟨([117, 115, 101, 71, 114, 111, 117, 112, 105, 110, 103] : List UInt8).toArray⟩ tx rk = rk := by unfold txtRk; exact if_neg (by decide +kernel)
    have ePl : txtPl ⟨([117, 115, 101, 71, 114, 111, 117, 112, 105, 110, 103] : List UInt8).toArray⟩ tx pl = (tx.toList == [102, 97, 108, 115, 101]) := by unfold txtPl; exact if_pos q0
    have eOk : txtOk ⟨([117, 115, 101, 71, 114, 111, 117, 112, 105, 110, 103] : List UInt8).toArray⟩ tx = ((tx.toList == [102, 97, 108, 115, 101]) || (tx.toList == [116, 114, 117, 101])) := by unfold txtOk; exact if_pos q0
    rw [eRk, ePl, eOk]
    clear eRk ePl eOk q0
    cases q1 : (tx.toList == [102, 97, 108, 115, 101])
    case true =>
      obtain rfl := xW_eq q1
      clear q1
      go_enter Tryz.func18, Tryz.ntmps18
      go_wp2
      go_ret
      exact ⟨rfl, HB.out.set 3 _, (Kp.refl b w).setCell 3 _⟩
    case false =>
      cases q2 : (tx.toList == [116, 114, 117, 101])
      all_goals
        go_enter Tryz.func18, Tryz.ntmps18
        go_wp2
        go_ret
        exact ⟨rfl, HB.out.set 3 _, (Kp.refl b w).setCell 3 _⟩
  case false =>
    cases q3 : (nm.toList == [116, 121, 112, 101])
    case true =>
      obtain rfl := xW_eq q3
      have ePl : txtPl ⟨([116, 121, 112, 101] : List UInt8).toArray⟩ tx pl = pl := by unfold txtPl; exact if_neg (by decide +kernel)
      have eRk : txtRk ⟨([116, 121, 112, 101] : List UInt8).toArray⟩ tx rk = (tx.toList == [111, 114, 100, 105, 110, 97, 108]) := by unfold txtRk; exact if_pos q3
      have eOk : txtOk ⟨([116, 121, 112, 101] : List UInt8).toArray⟩ tx = ((tx.toList == [111, 114, 100, 105, 110, 97, 108]) || (tx.toList == [99, 97, 114, 100, 105, 110, 97, 108])) := by unfold txtOk; rw [if_neg (by decide +kernel)]; exact if_pos q3
      rw [eRk, ePl, eOk]
      clear eRk ePl eOk q3 q0
      cases q1 : (tx.toList == [111, 114, 100, 105, 110, 97, 108])
      case true =>
        obtain rfl := xW_eq q1
        clear q1
        go_enter Tryz.func18, Tryz.ntmps18
        go_wp2
        go_ret
        exact ⟨rfl, HB.out.set 4 _, (Kp.refl b w).setCell 4 _⟩
      case false =>
        cases q2 : (tx.toList == [99, 97, 114, 100, 105, 110, 97, 108])
        all_goals
          go_enter Tryz.func18, Tryz.ntmps18
          go_wp2
          go_ret
          exact ⟨rfl, HB.out.set 4 _, (Kp.refl b w).setCell 4 _⟩
    case false =>
      have ePl : txtPl nm tx pl = pl := by unfold txtPl; rw [q0]; rfl
      have eRk : txtRk nm tx rk = rk := by unfold txtRk; rw [q3]; rfl
      have eOk : txtOk nm tx = false := by unfold txtOk; rw [q0, q3]; rfl
      rw [eRk, ePl, eOk]
      clear eRk ePl eOk
      go_enter Tryz.func18, Tryz.ntmps18
      go_wp2
      go_ret
      exact ⟨rfl, HB.out, Kp.refl b w⟩
set_option maxHeartbeats 4000000 in
set_option maxRecDepth 1000000 in
theorem setNumber_any (b : Nat) (mi mf xf c : Int) (pl rk ok : Bool) (nm : ByteArray) (n : Bool) (s : ByteArray) (k : Int) (w : World) (hB : BoxAt w b #[.int .i64 mi, .int .i64 mf, .int .i64 xf, .bool pl, .bool rk] 26)
    (hC : ∀ W : World, Calls Tryz.prog 35 #[.agg #[.bool n, .string s, .int .i64 k]] W fun e w' => e = .returned (.tuple #[.int .i64 c, .bool ok]) ∧ Below W.heap.size W w') :
    Calls Tryz.prog 19 #[.pointer (some ⟨b, 0, none⟩), .string nm, .agg #[.bool n, .string s, .int .i64 k]] w
      fun e w' => e = .returned (.bool (numOk nm ok c)) ∧ BoxAt w' b #[.int .i64 (numMi nm ok c mi), .int .i64 (numMf nm ok c mf), .int .i64 (numXf nm ok c xf), .bool pl, .bool rk] 26 ∧ Kp b w w' := by
  have HC := Lib.hid hC
  have HB := Lib.hid hB
  have zlt := hB.lt
  clear hC hB
  obtain ⟨r0, hr0⟩ : ∃ r, numOk nm ok c = r := ⟨_, rfl⟩
  obtain ⟨r1, hr1⟩ : ∃ r, numMi nm ok c mi = r := ⟨_, rfl⟩
  obtain ⟨r2, hr2⟩ : ∃ r, numMf nm ok c mf = r := ⟨_, rfl⟩
  obtain ⟨r3, hr3⟩ : ∃ r, numXf nm ok c xf = r := ⟨_, rfl⟩
  rw [hr0, hr1, hr2, hr3]
  unfold numOk at hr0
  unfold numMi at hr1
  unfold numMf at hr2
  unfold numXf at hr3
  cases ok
  case false =>
    simp only [Bool.false_and, Bool.false_eq_true, if_false] at hr0 hr1 hr2 hr3
    subst hr0 hr1 hr2 hr3
    go_enter Tryz.func19, Tryz.ntmps19
    go_wp2_with fail
    go_at_call 35
    refine (HC.out _).mono ?_
    rintro e w1 ⟨rfl, hb1⟩
    have B1 := (HB.out.alloc (.cells #[.bool n, .string s, .int .i64 k] 29)).later hb1
    have K1 := Lib.hid (Kp.of_below (rb := b) (below_box hb1) (by omega))
    have y0 := B1.cell 0
    have y1 := B1.cell 1
    have y2 := B1.cell 2
    have u0 := B1.z 0
    have u1 := B1.z 1
    have u2 := B1.z 2
    have zl1 := B1.lt
    have HB1 := Lib.hid B1
    simp only [List.getElem?_toArray, List.getElem?_cons_zero, List.getElem?_cons_succ] at y0 y1 y2
    clear hb1 B1
    go_wp2
    go_ret
    exact ⟨rfl, HB1.out, K1.out⟩
  case true =>
    simp only [Bool.true_and] at hr0 hr1 hr2 hr3
    cases q0 : (nm.toList == [109, 105, 110, 105, 109, 117, 109, 73, 110, 116, 101, 103, 101, 114, 68, 105, 103, 105, 116, 115])
    case true =>
      obtain rfl := xW_eq q0
      have f1 : ((⟨([109, 105, 110, 105, 109, 117, 109, 73, 110, 116, 101, 103, 101, 114, 68, 105, 103, 105, 116, 115] : List UInt8).toArray⟩ : ByteArray).toList == [109, 105, 110, 105, 109, 117, 109, 70, 114, 97, 99, 116, 105, 111, 110, 68, 105, 103, 105, 116, 115]) = false := by decide +kernel
      have f2 : ((⟨([109, 105, 110, 105, 109, 117, 109, 73, 110, 116, 101, 103, 101, 114, 68, 105, 103, 105, 116, 115] : List UInt8).toArray⟩ : ByteArray).toList == [109, 97, 120, 105, 109, 117, 109, 70, 114, 97, 99, 116, 105, 111, 110, 68, 105, 103, 105, 116, 115]) = false := by decide +kernel
      simp only [q0, f1, f2, if_true, Bool.false_eq_true, if_false] at hr0 hr1 hr2 hr3
      subst hr1 hr2 hr3
      clear f1 f2 q0
      have Hr0 := Lib.hid hr0
      cases r0
      all_goals
        have e0 := Hr0.out
        clear hr0
        as_aux_lemma =>
          go_enter Tryz.func19, Tryz.ntmps19
          go_wp2_with fail
          go_at_call 35
          refine (HC.out _).mono ?_
          rintro e w1 ⟨rfl, hb1⟩
          have B1 := (HB.out.alloc (.cells #[.bool n, .string s, .int .i64 k] 29)).later hb1
          have K1 := Lib.hid (Kp.of_below (rb := b) (below_box hb1) (by omega))
          have y0 := B1.cell 0
          have y1 := B1.cell 1
          have y2 := B1.cell 2
          have u0 := B1.z 0
          have u1 := B1.z 1
          have u2 := B1.z 2
          have zl1 := B1.lt
          have HB1 := Lib.hid B1
          simp only [List.getElem?_toArray, List.getElem?_cons_zero, List.getElem?_cons_succ] at y0 y1 y2
          clear hb1 B1
          go_wp2
          go_ret
          exact ⟨ret_bool (by first | rfl | exact e0 | exact Hr0.out), (HB1.out.set 0 _), (K1.out.setCell 0 _)⟩
    case false =>
      cases q1 : (nm.toList == [109, 105, 110, 105, 109, 117, 109, 70, 114, 97, 99, 116, 105, 111, 110, 68, 105, 103, 105, 116, 115])
      case true =>
        obtain rfl := xW_eq q1
        simp only [q0, q1, if_true, Bool.false_eq_true, if_false, Bool.true_or] at hr0 hr1 hr2 hr3
        subst hr0 hr1 hr2
        have Hr3 := Lib.hid hr3
        clear hr3 q0 q1
        as_aux_lemma =>
          go_enter Tryz.func19, Tryz.ntmps19
          go_wp2_with fail
          go_at_call 35
          refine (HC.out _).mono ?_
          rintro e w1 ⟨rfl, hb1⟩
          have B1 := (HB.out.alloc (.cells #[.bool n, .string s, .int .i64 k] 29)).later hb1
          have K1 := Lib.hid (Kp.of_below (rb := b) (below_box hb1) (by omega))
          have y0 := B1.cell 0
          have y1 := B1.cell 1
          have y2 := B1.cell 2
          have u0 := B1.z 0
          have u1 := B1.z 1
          have u2 := B1.z 2
          have zl1 := B1.lt
          have HB1 := Lib.hid B1
          simp only [List.getElem?_toArray, List.getElem?_cons_zero, List.getElem?_cons_succ] at y0 y1 y2
          clear hb1 B1
          go_wp2
          go_ret
          rw [← Hr3.out]
          exact ⟨rfl, ((HB1.out.set 1 _).set 2 _), ((K1.out.setCell 1 _).setCell 2 _)⟩
      case false =>
        cases q2 : (nm.toList == [109, 97, 120, 105, 109, 117, 109, 70, 114, 97, 99, 116, 105, 111, 110, 68, 105, 103, 105, 116, 115])
        case true =>
          obtain rfl := xW_eq q2
          simp only [q0, q1, q2, if_true, Bool.false_eq_true, if_false, Bool.or_true, Bool.true_or] at hr0 hr1 hr2 hr3
          subst hr0 hr1 hr3
          have Hr2 := Lib.hid hr2
          clear hr2 q0 q1 q2
          as_aux_lemma =>
            go_enter Tryz.func19, Tryz.ntmps19
            go_wp2_with fail
            go_at_call 35
            refine (HC.out _).mono ?_
            rintro e w1 ⟨rfl, hb1⟩
            have B1 := (HB.out.alloc (.cells #[.bool n, .string s, .int .i64 k] 29)).later hb1
            have K1 := Lib.hid (Kp.of_below (rb := b) (below_box hb1) (by omega))
            have y0 := B1.cell 0
            have y1 := B1.cell 1
            have y2 := B1.cell 2
            have u0 := B1.z 0
            have u1 := B1.z 1
            have u2 := B1.z 2
            have zl1 := B1.lt
            have HB1 := Lib.hid B1
            simp only [List.getElem?_toArray, List.getElem?_cons_zero, List.getElem?_cons_succ] at y0 y1 y2
            clear hb1 B1
            go_wp2
            go_ret
            rw [← Hr2.out]
            exact ⟨rfl, ((HB1.out.set 1 _).set 2 _), ((K1.out.setCell 1 _).setCell 2 _)⟩
        case false =>
          simp only [q0, q1, q2, Bool.false_eq_true, if_false, Bool.or_false, Bool.false_or] at hr0 hr1 hr2 hr3
          subst hr0 hr1 hr2 hr3
          as_aux_lemma =>
            go_enter Tryz.func19, Tryz.ntmps19
            go_wp2_with fail
            go_at_call 35
            refine (HC.out _).mono ?_
            rintro e w1 ⟨rfl, hb1⟩
            have B1 := (HB.out.alloc (.cells #[.bool n, .string s, .int .i64 k] 29)).later hb1
            have K1 := Lib.hid (Kp.of_below (rb := b) (below_box hb1) (by omega))
            have y0 := B1.cell 0
            have y1 := B1.cell 1
            have y2 := B1.cell 2
            have u0 := B1.z 0
            have u1 := B1.z 1
            have u2 := B1.z 2
            have zl1 := B1.lt
            have HB1 := Lib.hid B1
            simp only [List.getElem?_toArray, List.getElem?_cons_zero, List.getElem?_cons_succ] at y0 y1 y2
            clear hb1 B1
            go_wp2
            go_ret
            exact ⟨rfl, HB1.out, K1.out⟩
end Go.Proofs.YtjdpmdheapmanaaGreatDoor
