/-
  Several texts put together (part 31): what the law and the program call, walked; their contracts.
-/
import Derived.Test.YtglennfjeacpoaaGreatDoorQ28
import Derived.Test.YtglennfjeacpoaaGreatDoorQ3
import Derived.Test.YtglennfjeacpoaaGreatDoorQ29
import Derived.Lib.SmallJoins
import Derived.Test.YtglennfjeacpoaaGreatDoorQ30
import Derived.Test.YtglennfjeacpoaaGreatDoorQ5
import Derived.Laws.StructEq
namespace Go.Proofs.YtglennfjeacpoaaGreatDoor
open Go.RowKit
set_option linter.unusedVariables false
set_option linter.unusedSimpArgs false
theorem dec0 : Lib.decDigits 0 = [48] := by rw [Lib.decDigits, dif_pos (by decide)]; rfl
theorem dec20 : Lib.decDigits 20 = [50, 48] := by
  rw [Lib.decDigits, dif_neg (by decide), Lib.decDigits, dif_pos (by decide)]
  rfl
def cntK (l : List UInt8) (k : Nat) : Nat := if 0 < k then k - trimZ l k 0 else k
def cntOk (n : Bool) (l : List UInt8) (k : Nat) : Bool := decide (cntK l k = 0) && (!decide (decC n l k false [48] 0 < 0) && decide (¬ 0 < decC n l k false [50, 48] 0))
def cntC (n : Bool) (l : List UInt8) (k : Nat) : Int := if cntOk n l k then (numL (l.take (l.length - k)) : Int) else 0
theorem twenty_digs : ([50, 48] : List UInt8).all digB = true := by decide
theorem cnt_le {n : Bool} {l : List UInt8} {k : Nat} (hN : Num l k) (h : cntOk n l k = true) : numL (l.take (l.length - k)) ≤ 20 := by
  unfold cntOk at h
  rw [Bool.and_eq_true, Bool.and_eq_true] at h
  obtain ⟨_, h1, h2⟩ := h
  have hlt := hN.lt
  rw [decC_num n false l [48] k 0 hN.digs (by decide) (by omega) (by decide)] at h1
  rw [decC_num n false l [50, 48] k 0 hN.digs twenty_digs (by omega) (by decide)] at h2
  have e1 : numL [48] = 0 := by decide
  have e2 : numL [50, 48] = 20 := by decide
  rw [e1] at h1
  rw [e2] at h2
  have h2 := of_decide_eq_true h2
  have h1 : ¬ cmpZ (sv n (numL l * 10 ^ 0)) (sv false (0 * 10 ^ k)) < 0 := by simpa using h1
  rw [Nat.pow_zero, Nat.mul_one] at h1 h2
  have h3 : sv n (numL l) ≤ sv false (20 * 10 ^ k) := by
    rw [← cmpZ_le]
    omega
  have h4 : ¬ sv n (numL l) < sv false (0 * 10 ^ k) := by
    intro hlt
    apply h1
    unfold cmpZ
    rw [if_pos hlt]
    decide
  rw [Nat.zero_mul] at h4
  have h5 : numL l ≤ 20 * 10 ^ k := by
    unfold sv at h3 h4
    cases n
    · simp only [Bool.false_eq_true, if_false] at h3
      exact Int.ofNat_le.1 h3
    · simp at h4
      omega
  have hc := numL_cut l k (by omega)
  have h6 : numL (l.take (l.length - k)) * 10 ^ k ≤ 20 * 10 ^ k := by omega
  exact Nat.le_of_mul_le_mul_right h6 (ten_pos k)
theorem cnt_short {n : Bool} {l : List UInt8} {k : Nat} (hN : Num l k) (h : cntOk n l k = true) : (l.take (l.length - k)).length ≤ 18 ∧ l.take (l.length - k) ≠ [] := by
  have hlt := hN.lt
  have hle := cnt_le hN h
  have hlen : (l.take (l.length - k)).length = l.length - k := by rw [List.length_take]; omega
  have hne : l.take (l.length - k) ≠ [] := by intro e; rw [e] at hlen; simp at hlen; omega
  refine ⟨?_, hne⟩
  rcases hN.head with hh | hh
  · have hp := head_pow (l := l.take (l.length - k)) (List.all_eq_true.2 fun c hc => List.all_eq_true.1 hN.digs c (List.mem_of_mem_take hc)) (by
      intro e
      apply hh
      cases l with
      | nil => simp at hlt
      | cons c r =>
        rw [show (c :: r).length - k = ((c :: r).length - k - 1) + 1 by omega, List.take_succ_cons] at e
        exact e) hne
    apply Nat.le_of_not_lt
    intro hgt
    have h1 : (10 : Nat) ^ 2 ≤ 10 ^ ((l.take (l.length - k)).length - 1) := Nat.pow_le_pow_right (by decide) (by omega)
    have h2 : (10 : Nat) ^ 2 = 100 := by decide
    omega
  · rw [hlen]; omega
theorem cntC_bd {n : Bool} {l : List UInt8} {k : Nat} (hN : Num l k) : 0 ≤ cntC n l k ∧ cntC n l k ≤ 20 := by
  unfold cntC
  split
  · rename_i h
    have := cnt_le hN h
    omega
  · omega
theorem atoi_any {s : ByteArray} (h : s.data.toList.all digB = true) (hne : s.data.toList ≠ []) (hl : s.size ≤ 18) (W : World) : Calls Tryz.prog 175 #[.string s] W fun e w' => e = .returned (.tuple #[.int .i64 (numL s.data.toList : Int), .nilIface]) ∧ Below W.heap.size W w' := by
  refine (Tryz.strconv_Atoi s (numL s.data.toList : Int) hl (atoi_num h hne) W).mono ?_
  rintro e w' ⟨h, x, rfl⟩
  exact ⟨h, Joins.below_bytesWorld _ _ _ _ (Nat.le_refl _)⟩
theorem count_any (n : Bool) (s : ByteArray) (k : Nat) (w : World) (hN : Num s.data.toList k) :
    Calls Tryz.prog 136 #[.agg #[.bool n, .string s, .int .i64 (k : Int)]] w fun e w' => e = .returned (.tuple #[.int .i64 (cntC n s.data.toList k), .bool (cntOk n s.data.toList k)]) ∧ Below w.heap.size w w' := by
  have hlt := hN.lt
  have hle := hN.le
  rw [size_data] at hlt hle
  have hT0 := fun W => trim_any n s k 0 0 W (by omega) (by omega) (by decide)
  have hI0 : ∀ W : World, Calls Tryz.prog 174 #[.int .i64 0] W fun e w' => e = .returned (.agg #[.bool false, .string ⟨#[48]⟩, .int .i64 0]) ∧ Below W.heap.size W w' := fun W => by
    have h := int_small 0 (by decide) W
    rw [dec0] at h
    exact h
  have hI1 : ∀ W : World, Calls Tryz.prog 174 #[.int .i64 20] W fun e w' => e = .returned (.agg #[.bool false, .string ⟨#[50, 48]⟩, .int .i64 0]) ∧ Below W.heap.size W w' := fun W => by
    have h := int_small 20 (by decide) W
    rw [dec20] at h
    exact h
  have hC0 := fun W => compare_any n false s ⟨#[48]⟩ k 0 W (by unfold maxLen; omega) (by decide) (by omega) (by decide)
  have hC1 := fun W => compare_any n false s ⟨#[50, 48]⟩ k 0 W (by unfold maxLen; omega) (by decide) (by omega) (by decide)
  have hT : ∃ s', (∀ W : World, Calls Tryz.prog 75 #[.agg #[.bool n, .string s, .int .i64 (k : Int)], .int .i64 0] W fun e w' => e = .returned (.agg #[.bool n, .string s', .int .i64 (cntK s.data.toList k : Nat)]) ∧ Below W.heap.size W w') ∧ (cntK s.data.toList k = 0 → s'.data.toList = s.data.toList.take (s.data.toList.length - k)) := by
    by_cases h0 : 0 < k
    · refine ⟨s.extract 0 (s.size - trimZ s.data.toList k 0), fun W => ?_, fun h => ?_⟩
      · have h := hT0 W
        rw [if_pos h0] at h
        unfold cntK
        rw [if_pos h0]
        exact h
      · unfold cntK at h
        rw [if_pos h0] at h
        have := trimZ_le s.data.toList k 0
        rw [extract_take, size_data, show trimZ s.data.toList k 0 = k by omega]
    · refine ⟨s, fun W => ?_, fun h => ?_⟩
      · have h := hT0 W
        rw [if_neg h0] at h
        unfold cntK
        rw [if_neg h0]
        exact h
      · rw [show k = 0 by omega, Nat.sub_zero, List.take_length]
  obtain ⟨s', hT1, hT2⟩ := hT
  by_cases hk : cntK s.data.toList k = 0
  · have hs := hT2 hk
    rw [hk] at hT1
    have h0 : decide (cntK s.data.toList k = 0) = true := decide_eq_true hk
    by_cases hc0 : decC n s.data.toList k false [48] 0 < 0
    · have e : cntOk n s.data.toList k = false := by unfold cntOk; rw [decide_eq_true hc0]; simp
      have e2 : cntC n s.data.toList k = 0 := by unfold cntC; rw [e]; rfl
      rw [e, e2]
      exact count_b n s s' ⟨#[48]⟩ (k : Int) _ w hT1 hI0 hC0 hc0
    · have e : cntOk n s.data.toList k = decide (¬ 0 < decC n s.data.toList k false [50, 48] 0) := by unfold cntOk; rw [decide_eq_false hc0, h0]; rfl
      have hA : cntOk n s.data.toList k = true → ∀ W : World, Calls Tryz.prog 175 #[.string s'] W fun e w' => e = .returned (.tuple #[.int .i64 (numL (s.data.toList.take (s.data.toList.length - k)) : Int), .nilIface]) ∧ Below W.heap.size W w' := fun h W => by
        obtain ⟨g1, g2⟩ := cnt_short hN h
        rw [← hs] at g1 g2 ⊢
        exact atoi_any (by rw [hs]; exact List.all_eq_true.2 fun c hc => List.all_eq_true.1 hN.digs c (List.mem_of_mem_take hc)) g2 (by rw [← size_data]; exact g1) W
      have h := count_c n s s' ⟨#[48]⟩ ⟨#[50, 48]⟩ (k : Int) _ _ _ _ w hT1 hI0 hC0 hc0 hI1 hC1 e hA
      unfold cntC
      exact h
  · have e : cntOk n s.data.toList k = false := by unfold cntOk; rw [decide_eq_false hk]; rfl
    have e2 : cntC n s.data.toList k = 0 := by unfold cntC; rw [e]; rfl
    rw [e, e2]
    exact count_a n s s' (k : Int) _ w hT1 (by omega)
end Go.Proofs.YtglennfjeacpoaaGreatDoor

namespace Go.Proofs.YtglennfjeacpoaaGreatDoor
open Go.RowKit
set_option linter.unusedVariables false
set_option linter.unusedSimpArgs false
theorem xW_eq {x : ByteArray} {l : List UInt8} (h : (x.toList == l) = true) : x = ⟨l.toArray⟩ := by
  apply bytes_eq
  rw [← Lib.toList_data, beq_iff_eq.1 h]
def txtOk (nm tx : ByteArray) : Bool :=
  if (nm.toList == [117, 115, 101, 71, 114, 111, 117, 112, 105, 110, 103]) = true then (tx.toList == [102, 97, 108, 115, 101]) || (tx.toList == [116, 114, 117, 101])
  else if (nm.toList == [116, 121, 112, 101]) = true then (tx.toList == [111, 114, 100, 105, 110, 97, 108]) || (tx.toList == [99, 97, 114, 100, 105, 110, 97, 108]) else false
def txtPl (nm tx : ByteArray) (pl : Bool) : Bool := if (nm.toList == [117, 115, 101, 71, 114, 111, 117, 112, 105, 110, 103]) = true then (tx.toList == [102, 97, 108, 115, 101]) else pl
def txtRk (nm tx : ByteArray) (rk : Bool) : Bool := if (nm.toList == [116, 121, 112, 101]) = true then (tx.toList == [111, 114, 100, 105, 110, 97, 108]) else rk
def numOk (nm : ByteArray) (ok : Bool) (c : Int) : Bool :=
  ok && (if (nm.toList == [109, 105, 110, 105, 109, 117, 109, 73, 110, 116, 101, 103, 101, 114, 68, 105, 103, 105, 116, 115]) = true then c != 0 else (nm.toList == [109, 105, 110, 105, 109, 117, 109, 70, 114, 97, 99, 116, 105, 111, 110, 68, 105, 103, 105, 116, 115]) || (nm.toList == [109, 97, 120, 105, 109, 117, 109, 70, 114, 97, 99, 116, 105, 111, 110, 68, 105, 103, 105, 116, 115]))
def numMi (nm : ByteArray) (ok : Bool) (c mi : Int) : Int := if (ok && (nm.toList == [109, 105, 110, 105, 109, 117, 109, 73, 110, 116, 101, 103, 101, 114, 68, 105, 103, 105, 116, 115])) = true then c else mi
def numMf (nm : ByteArray) (ok : Bool) (c mf : Int) : Int := if (ok && (nm.toList == [109, 105, 110, 105, 109, 117, 109, 70, 114, 97, 99, 116, 105, 111, 110, 68, 105, 103, 105, 116, 115])) = true then c else if (ok && (nm.toList == [109, 97, 120, 105, 109, 117, 109, 70, 114, 97, 99, 116, 105, 111, 110, 68, 105, 103, 105, 116, 115])) = true then min c mf else mf
def numXf (nm : ByteArray) (ok : Bool) (c xf : Int) : Int := if (ok && (nm.toList == [109, 105, 110, 105, 109, 117, 109, 70, 114, 97, 99, 116, 105, 111, 110, 68, 105, 103, 105, 116, 115])) = true then max c xf else if (ok && (nm.toList == [109, 97, 120, 105, 109, 117, 109, 70, 114, 97, 99, 116, 105, 111, 110, 68, 105, 103, 105, 116, 115])) = true then c else xf
theorem Kp.set1 {rb : Nat} {a w : World} (h : Kp rb a w) (o : Nat) (v : Value) : Kp rb a (w.setCell ⟨rb, o, none⟩ v) := h.setCell o v
set_option maxHeartbeats 2000000 in
theorem setText_any (b : Nat) (mi mf xf : Int) (pl rk : Bool) (nm tx : ByteArray) (w : World) (hB : BoxAt w b #[.int .i64 mi, .int .i64 mf, .int .i64 xf, .bool pl, .bool rk] 30) :
    Calls Tryz.prog 81 #[.pointer (some ⟨b, 0, none⟩), .string nm, .string tx] w
      fun e w' => e = .returned (.bool (txtOk nm tx)) ∧ BoxAt w' b #[.int .i64 mi, .int .i64 mf, .int .i64 xf, .bool (txtPl nm tx pl), .bool (txtRk nm tx rk)] 30 ∧ Kp b w w' := by
  have c3 := hB.cell 3
  have c4 := hB.cell 4
  have z3 := hB.z 3
  have z4 := hB.z 4
  have zlt := hB.lt
  simp only [List.getElem?_toArray, List.getElem?_cons_zero, List.getElem?_cons_succ] at c3 c4
  have HB := Lib.hid hB
  clear hB
  cases q0 : (nm.toList == [117, 115, 101, 71, 114, 111, 117, 112, 105, 110, 103])
  case true =>
    obtain rfl := xW_eq q0
    have eRk : txtRk ⟨([117, 115, 101, 71, 114, 111, 117, 112, 105, 110, 103] : List UInt8).toArray⟩ tx rk = rk := by unfold txtRk; exact if_neg (by decide +kernel)
    have ePl : txtPl ⟨([117, 115, 101, 71, 114, 111, 117, 112, 105, 110, 103] : List UInt8).toArray⟩ tx pl = (tx.toList == [102, 97, 108, 115, 101]) := by unfold txtPl; exact if_pos q0
    have eOk : txtOk ⟨([117, 115, 101, 71, 114, 111, 117, 112, 105, 110, 103] : List UInt8).toArray⟩ tx = ((tx.toList == [102, 97, 108, 115, 101]) || (tx.toList == [116, 114, 117, 101])) := by unfold txtOk; exact if_pos q0
    rw [eRk, ePl, eOk]
    clear eRk ePl eOk q0
    cases q1 : (tx.toList == [102, 97, 108, 115, 101])
    case true =>
      obtain rfl := xW_eq q1
      clear q1
      go_enter Tryz.func81, Tryz.ntmps81
      go_wp2
      go_ret
      exact ⟨rfl, HB.out.set 3 _, (Kp.refl b w).setCell 3 _⟩
    case false =>
      cases q2 : (tx.toList == [116, 114, 117, 101])
      all_goals
        go_enter Tryz.func81, Tryz.ntmps81
        go_wp2
        go_ret
        exact ⟨rfl, HB.out.set 3 _, (Kp.refl b w).setCell 3 _⟩
  case false =>
    cases q3 : (nm.toList == [116, 121, 112, 101])
    case true =>
      obtain rfl := xW_eq q3
      have ePl : txtPl ⟨([116, 121, 112, 101] : List UInt8).toArray⟩ tx pl = pl := by unfold txtPl; exact if_neg (by decide +kernel)
      have eRk : txtRk ⟨([116, 121, 112, 101] : List UInt8).toArray⟩ tx rk = (tx.toList == [111, 114, 100, 105, 110, 97, 108]) := by unfold txtRk; exact if_pos q3
      have eOk : txtOk ⟨([116, 121, 112, 101] : List UInt8).toArray⟩ tx = ((tx.toList == [111, 114, 100, 105, 110, 97, 108]) || (tx.toList == [99, 97, 114, 100, 105, 110, 97, 108])) := by unfold txtOk; rw [if_neg (by decide +kernel)]; exact if_pos q3
      rw [eRk, ePl, eOk]
      clear eRk ePl eOk q3 q0
      cases q1 : (tx.toList == [111, 114, 100, 105, 110, 97, 108])
      case true =>
        obtain rfl := xW_eq q1
        clear q1
        go_enter Tryz.func81, Tryz.ntmps81
        go_wp2
        go_ret
        exact ⟨rfl, HB.out.set 4 _, (Kp.refl b w).setCell 4 _⟩
      case false =>
        cases q2 : (tx.toList == [99, 97, 114, 100, 105, 110, 97, 108])
        all_goals
          go_enter Tryz.func81, Tryz.ntmps81
          go_wp2
          go_ret
          exact ⟨rfl, HB.out.set 4 _, (Kp.refl b w).setCell 4 _⟩
    case false =>
      have ePl : txtPl nm tx pl = pl := by unfold txtPl; rw [q0]; rfl
      have eRk : txtRk nm tx rk = rk := by unfold txtRk; rw [q3]; rfl
      have eOk : txtOk nm tx = false := by unfold txtOk; rw [q0, q3]; rfl
      rw [eRk, ePl, eOk]
      clear eRk ePl eOk
      go_enter Tryz.func81, Tryz.ntmps81
      go_wp2
      go_ret
      exact ⟨rfl, HB.out, Kp.refl b w⟩
set_option maxHeartbeats 4000000 in
set_option maxRecDepth 1000000 in
theorem setNumber_any (b : Nat) (mi mf xf c : Int) (pl rk ok : Bool) (nm : ByteArray) (n : Bool) (s : ByteArray) (k : Int) (w : World) (hB : BoxAt w b #[.int .i64 mi, .int .i64 mf, .int .i64 xf, .bool pl, .bool rk] 30)
    (hC : ∀ W : World, Calls Tryz.prog 136 #[.agg #[.bool n, .string s, .int .i64 k]] W fun e w' => e = .returned (.tuple #[.int .i64 c, .bool ok]) ∧ Below W.heap.size W w') :
    Calls Tryz.prog 82 #[.pointer (some ⟨b, 0, none⟩), .string nm, .agg #[.bool n, .string s, .int .i64 k]] w
      fun e w' => e = .returned (.bool (numOk nm ok c)) ∧ BoxAt w' b #[.int .i64 (numMi nm ok c mi), .int .i64 (numMf nm ok c mf), .int .i64 (numXf nm ok c xf), .bool pl, .bool rk] 30 ∧ Kp b w w' := by
  have HC := Lib.hid hC
  have HB := Lib.hid hB
  have zlt := hB.lt
  clear hC hB
  obtain ⟨r0, hr0⟩ : ∃ r, numOk nm ok c = r := ⟨_, rfl⟩
  obtain ⟨r1, hr1⟩ : ∃ r, numMi nm ok c mi = r := ⟨_, rfl⟩
  obtain ⟨r2, hr2⟩ : ∃ r, numMf nm ok c mf = r := ⟨_, rfl⟩
  obtain ⟨r3, hr3⟩ : ∃ r, numXf nm ok c xf = r := ⟨_, rfl⟩
  rw [hr0, hr1, hr2, hr3]
  unfold numOk at hr0
  unfold numMi at hr1
  unfold numMf at hr2
  unfold numXf at hr3
  cases ok
  case false =>
    simp only [Bool.false_and, Bool.false_eq_true, if_false] at hr0 hr1 hr2 hr3
    subst hr0 hr1 hr2 hr3
    go_enter Tryz.func82, Tryz.ntmps82
    go_wp2_with fail
    go_at_call 136
    refine (HC.out _).mono ?_
    rintro e w1 ⟨rfl, hb1⟩
    have B1 := (HB.out.alloc (.cells #[.bool n, .string s, .int .i64 k] 23)).later hb1
    have K1 := Lib.hid (Kp.of_below (rb := b) (below_box hb1) (by omega))
    have y0 := B1.cell 0
    have y1 := B1.cell 1
    have y2 := B1.cell 2
    have u0 := B1.z 0
    have u1 := B1.z 1
    have u2 := B1.z 2
    have zl1 := B1.lt
    have HB1 := Lib.hid B1
    simp only [List.getElem?_toArray, List.getElem?_cons_zero, List.getElem?_cons_succ] at y0 y1 y2
    clear hb1 B1
    go_wp2
    go_ret
    exact ⟨rfl, HB1.out, K1.out⟩
  case true =>
    simp only [Bool.true_and] at hr0 hr1 hr2 hr3
    cases q0 : (nm.toList == [109, 105, 110, 105, 109, 117, 109, 73, 110, 116, 101, 103, 101, 114, 68, 105, 103, 105, 116, 115])
    case true =>
      obtain rfl := xW_eq q0
      have f1 : ((⟨([109, 105, 110, 105, 109, 117, 109, 73, 110, 116, 101, 103, 101, 114, 68, 105, 103, 105, 116, 115] : List UInt8).toArray⟩ : ByteArray).toList == [109, 105, 110, 105, 109, 117, 109, 70, 114, 97, 99, 116, 105, 111, 110, 68, 105, 103, 105, 116, 115]) = false := by decide +kernel
      have f2 : ((⟨([109, 105, 110, 105, 109, 117, 109, 73, 110, 116, 101, 103, 101, 114, 68, 105, 103, 105, 116, 115] : List UInt8).toArray⟩ : ByteArray).toList == [109, 97, 120, 105, 109, 117, 109, 70, 114, 97, 99, 116, 105, 111, 110, 68, 105, 103, 105, 116, 115]) = false := by decide +kernel
      simp only [q0, f1, f2, if_true, Bool.false_eq_true, if_false] at hr0 hr1 hr2 hr3
      subst hr1 hr2 hr3
      clear f1 f2 q0
      have Hr0 := Lib.hid hr0
      cases r0
      all_goals
        have e0 := Hr0.out
        clear hr0
        as_aux_lemma =>
          go_enter Tryz.func82, Tryz.ntmps82
          go_wp2_with fail
          go_at_call 136
          refine (HC.out _).mono ?_
          rintro e w1 ⟨rfl, hb1⟩
          have B1 := (HB.out.alloc (.cells #[.bool n, .string s, .int .i64 k] 23)).later hb1
          have K1 := Lib.hid (Kp.of_below (rb := b) (below_box hb1) (by omega))
          have y0 := B1.cell 0
          have y1 := B1.cell 1
          have y2 := B1.cell 2
          have u0 := B1.z 0
          have u1 := B1.z 1
          have u2 := B1.z 2
          have zl1 := B1.lt
          have HB1 := Lib.hid B1
          simp only [List.getElem?_toArray, List.getElem?_cons_zero, List.getElem?_cons_succ] at y0 y1 y2
          clear hb1 B1
          go_wp2
          go_ret
          exact ⟨ret_bool (by first | rfl | exact e0 | exact Hr0.out), (HB1.out.set 0 _), (K1.out.setCell 0 _)⟩
    case false =>
      cases q1 : (nm.toList == [109, 105, 110, 105, 109, 117, 109, 70, 114, 97, 99, 116, 105, 111, 110, 68, 105, 103, 105, 116, 115])
      case true =>
        obtain rfl := xW_eq q1
        simp only [q0, q1, if_true, Bool.false_eq_true, if_false, Bool.true_or] at hr0 hr1 hr2 hr3
        subst hr0 hr1 hr2
        have Hr3 := Lib.hid hr3
        clear hr3 q0 q1
        as_aux_lemma =>
          go_enter Tryz.func82, Tryz.ntmps82
          go_wp2_with fail
          go_at_call 136
          refine (HC.out _).mono ?_
          rintro e w1 ⟨rfl, hb1⟩
          have B1 := (HB.out.alloc (.cells #[.bool n, .string s, .int .i64 k] 23)).later hb1
          have K1 := Lib.hid (Kp.of_below (rb := b) (below_box hb1) (by omega))
          have y0 := B1.cell 0
          have y1 := B1.cell 1
          have y2 := B1.cell 2
          have u0 := B1.z 0
          have u1 := B1.z 1
          have u2 := B1.z 2
          have zl1 := B1.lt
          have HB1 := Lib.hid B1
          simp only [List.getElem?_toArray, List.getElem?_cons_zero, List.getElem?_cons_succ] at y0 y1 y2
          clear hb1 B1
          go_wp2
          go_ret
          rw [← Hr3.out]
          exact ⟨rfl, ((HB1.out.set 1 _).set 2 _), ((K1.out.setCell 1 _).setCell 2 _)⟩
      case false =>
        cases q2 : (nm.toList == [109, 97, 120, 105, 109, 117, 109, 70, 114, 97, 99, 116, 105, 111, 110, 68, 105, 103, 105, 116, 115])
        case true =>
          obtain rfl := xW_eq q2
          simp only [q0, q1, q2, if_true, Bool.false_eq_true, if_false, Bool.or_true, Bool.true_or] at hr0 hr1 hr2 hr3
          subst hr0 hr1 hr3
          have Hr2 := Lib.hid hr2
          clear hr2 q0 q1 q2
          as_aux_lemma =>
            go_enter Tryz.func82, Tryz.ntmps82
            go_wp2_with fail
            go_at_call 136
            refine (HC.out _).mono ?_
            rintro e w1 ⟨rfl, hb1⟩
            have B1 := (HB.out.alloc (.cells #[.bool n, .string s, .int .i64 k] 23)).later hb1
            have K1 := Lib.hid (Kp.of_below (rb := b) (below_box hb1) (by omega))
            have y0 := B1.cell 0
            have y1 := B1.cell 1
            have y2 := B1.cell 2
            have u0 := B1.z 0
            have u1 := B1.z 1
            have u2 := B1.z 2
            have zl1 := B1.lt
            have HB1 := Lib.hid B1
            simp only [List.getElem?_toArray, List.getElem?_cons_zero, List.getElem?_cons_succ] at y0 y1 y2
            clear hb1 B1
            go_wp2
            go_ret
            rw [← Hr2.out]
            exact ⟨rfl, ((HB1.out.set 1 _).set 2 _), ((K1.out.setCell 1 _).setCell 2 _)⟩
        case false =>
          simp only [q0, q1, q2, Bool.false_eq_true, if_false, Bool.or_false, Bool.false_or] at hr0 hr1 hr2 hr3
          subst hr0 hr1 hr2 hr3
          as_aux_lemma =>
            go_enter Tryz.func82, Tryz.ntmps82
            go_wp2_with fail
            go_at_call 136
            refine (HC.out _).mono ?_
            rintro e w1 ⟨rfl, hb1⟩
            have B1 := (HB.out.alloc (.cells #[.bool n, .string s, .int .i64 k] 23)).later hb1
            have K1 := Lib.hid (Kp.of_below (rb := b) (below_box hb1) (by omega))
            have y0 := B1.cell 0
            have y1 := B1.cell 1
            have y2 := B1.cell 2
            have u0 := B1.z 0
            have u1 := B1.z 1
            have u2 := B1.z 2
            have zl1 := B1.lt
            have HB1 := Lib.hid B1
            simp only [List.getElem?_toArray, List.getElem?_cons_zero, List.getElem?_cons_succ] at y0 y1 y2
            clear hb1 B1
            go_wp2
            go_ret
            exact ⟨rfl, HB1.out, K1.out⟩
end Go.Proofs.YtglennfjeacpoaaGreatDoor

namespace Go.Proofs.YtglennfjeacpoaaGreatDoor
open Go.RowKit
set_option linter.unusedVariables false
set_option linter.unusedSimpArgs false
theorem bs1 {B : Nat} {a w : World} {b : Nat} (h : Below B a w) (hb : B ≤ b) (o : Nat) (x : Value) : Below B a (w.setCell ⟨b, o, none⟩ x) := h.setCell (p := ⟨b, o, none⟩) hb _
structure OP where
  mi : Int
  mf : Int
  xf : Int
  pl : Bool
  rk : Bool
def okO (p : OPT) : Bool := if p.it then txtOk p.nm p.tx else numOk p.nm (cntOk p.n p.s.data.toList p.k.toNat) (cntC p.n p.s.data.toList p.k.toNat)
def turnO (p : OPT) (o : OP) : OP :=
  if p.it then ⟨o.mi, o.mf, o.xf, txtPl p.nm p.tx o.pl, txtRk p.nm p.tx o.rk⟩
  else ⟨numMi p.nm (cntOk p.n p.s.data.toList p.k.toNat) (cntC p.n p.s.data.toList p.k.toNat) o.mi, numMf p.nm (cntOk p.n p.s.data.toList p.k.toNat) (cntC p.n p.s.data.toList p.k.toNat) o.mf, numXf p.nm (cntOk p.n p.s.data.toList p.k.toNat) (cntC p.n p.s.data.toList p.k.toNat) o.xf, o.pl, o.rk⟩
def setO (p : OPT) (o : OP) : OP := if okO p then turnO p o else o
def optsF : List OPT → OP → OP
  | [], o => o
  | p :: l, o => optsF l (setO p o)
def BdP (o : OP) : Prop := (0 ≤ o.mi ∧ o.mi ≤ 20) ∧ (0 ≤ o.mf ∧ o.mf ≤ 20) ∧ (0 ≤ o.xf ∧ o.xf ≤ 20)
theorem turn_bd {p : OPT} {o : OP} (hp : OkO p) (h : BdP o) : BdP (turnO p o) := by
  obtain ⟨kk, hk, hN⟩ := hp
  have hc := cntC_bd (n := p.n) hN
  obtain ⟨h1, h2, h3⟩ := h
  unfold turnO
  split
  · exact ⟨h1, h2, h3⟩
  · rw [hk, Int.toNat_natCast]
    generalize cntC p.n p.s.data.toList kk = c at *
    generalize cntOk p.n p.s.data.toList kk = q at *
    refine ⟨?_, ?_, ?_⟩
    · show 0 ≤ numMi p.nm q c o.mi ∧ numMi p.nm q c o.mi ≤ 20
      unfold numMi
      split
      · exact hc
      · exact h1
    · show 0 ≤ numMf p.nm q c o.mf ∧ numMf p.nm q c o.mf ≤ 20
      unfold numMf
      split
      · exact hc
      · split <;> omega
    · show 0 ≤ numXf p.nm q c o.xf ∧ numXf p.nm q c o.xf ≤ 20
      unfold numXf
      split
      · omega
      · split <;> omega
theorem set_bd {p : OPT} {o : OP} (hp : OkO p) (h : BdP o) : BdP (setO p o) := by
  unfold setO
  split
  · exact turn_bd hp h
  · exact h
set_option maxHeartbeats 4000000 in
set_option maxRecDepth 100000 in
theorem set_core (nm tx : ByteArray) (n : Bool) (s : ByteArray) (k : Int) (it ok : Bool) (mi mf xf mi2 mf2 xf2 : Int) (pl rk pl2 rk2 : Bool) (w : World)
    (hT : it = true → ∀ (b : Nat) (W : World), BoxAt W b #[.int .i64 mi, .int .i64 mf, .int .i64 xf, .bool pl, .bool rk] 30 → Calls Tryz.prog 81 #[.pointer (some ⟨b, 0, none⟩), .string nm, .string tx] W fun e w' => e = .returned (.bool ok) ∧ BoxAt w' b #[.int .i64 mi2, .int .i64 mf2, .int .i64 xf2, .bool pl2, .bool rk2] 30 ∧ Kp b W w')
    (hN : it = false → ∀ (b : Nat) (W : World), BoxAt W b #[.int .i64 mi, .int .i64 mf, .int .i64 xf, .bool pl, .bool rk] 30 → Calls Tryz.prog 82 #[.pointer (some ⟨b, 0, none⟩), .string nm, .agg #[.bool n, .string s, .int .i64 k]] W fun e w' => e = .returned (.bool ok) ∧ BoxAt w' b #[.int .i64 mi2, .int .i64 mf2, .int .i64 xf2, .bool pl2, .bool rk2] 30 ∧ Kp b W w') :
    Calls Tryz.prog 42 #[.agg #[.int .i64 mi, .int .i64 mf, .int .i64 xf, .bool pl, .bool rk], .string nm, .string tx, .agg #[.bool n, .string s, .int .i64 k], .bool it] w
      fun e w' => e = .returned (if ok then .tuple #[.agg #[.int .i64 mi2, .int .i64 mf2, .int .i64 xf2, .bool pl2, .bool rk2], .int .i64 0] else .tuple #[.agg #[.int .i64 0, .int .i64 0, .int .i64 0, .bool false, .bool false], .int .i64 1]) ∧ Below w.heap.size w w' := by
  have B0 := Lib.hid (((BoxAt.new w #[.int .i64 mi, .int .i64 mf, .int .i64 xf, .bool pl, .bool rk] 30).alloc (.cells #[.bool n, .string s, .int .i64 k] 23)).alloc (.cells #[.int .i64 0, .int .i64 0, .int .i64 0, .bool false, .bool false] 30))
  have D0 := Lib.hid ((BoxAt.new' (w.alloc (.cells #[.int .i64 mi, .int .i64 mf, .int .i64 xf, .bool pl, .bool rk] 30)) (w.heap.size + 1) #[.bool n, .string s, .int .i64 k] 23 (by simp)).alloc (.cells #[.int .i64 0, .int .i64 0, .int .i64 0, .bool false, .bool false] 30))
  have R0 := Lib.hid (BoxAt.new' ((w.alloc (.cells #[.int .i64 mi, .int .i64 mf, .int .i64 xf, .bool pl, .bool rk] 30)).alloc (.cells #[.bool n, .string s, .int .i64 k] 23)) (w.heap.size + 1 + 1) #[.int .i64 0, .int .i64 0, .int .i64 0, .bool false, .bool false] 30 (by simp))
  have K0 := Lib.hid ((((Kp.refl w.heap.size w).alloc (Nat.le_refl _) (.cells #[.int .i64 mi, .int .i64 mf, .int .i64 xf, .bool pl, .bool rk] 30)).alloc (by simp) (.cells #[.bool n, .string s, .int .i64 k] 23)).alloc (by simp; omega) (.cells #[.int .i64 0, .int .i64 0, .int .i64 0, .bool false, .bool false] 30))
  cases it
  all_goals
    first | have HT := Lib.hid (hT rfl) | have HT := Lib.hid (hN rfl)
    clear hT hN
    go_enter Tryz.func42, Tryz.ntmps42
    go_wp2_with fail
    first | go_at_call 81 | go_at_call 82
    refine (HT.out _ _ B0.out).mono ?_
    rintro e w2 ⟨rfl, hb2, hk2⟩
    have R2 := R0.out.kp hk2 (by omega)
    have K2 := Lib.hid (K0.out.trans hk2)
    have zb := hb2.lt
    have zr := R2.lt
    have y0 := hb2.cell 0
    have y1 := hb2.cell 1
    have y2 := hb2.cell 2
    have y3 := hb2.cell 3
    have y4 := hb2.cell 4
    simp only [List.getElem?_toArray, List.getElem?_cons_zero, List.getElem?_cons_succ] at y0 y1 y2 y3 y4
    have v0 := R2.cell 0
    have v1 := R2.cell 1
    have v2 := R2.cell 2
    have v3 := R2.cell 3
    have v4 := R2.cell 4
    simp only [List.getElem?_toArray, List.getElem?_cons_zero, List.getElem?_cons_succ] at v0 v1 v2 v3 v4
    have f0 := R2.z 0
    have f1 := R2.z 1
    have f2 := R2.z 2
    have f3 := R2.z 3
    have f4 := R2.z 4
    have HR2 := Lib.hid R2
    clear hb2 hk2 R2
    cases ok
    case false =>
      go_wp2
      have hK := Lib.hid (show Below w.heap.size w (((((w2.setCell ⟨w.heap.size + 1 + 1, 0, none⟩ (.int .i64 0)).setCell ⟨w.heap.size + 1 + 1, 1, none⟩ (.int .i64 0)).setCell ⟨w.heap.size + 1 + 1, 2, none⟩ (.int .i64 0)).setCell ⟨w.heap.size + 1 + 1, 3, none⟩ (.bool false)).setCell ⟨w.heap.size + 1 + 1, 4, none⟩ (.bool false)) from (bs1 (bs1 (bs1 (bs1 (bs1 K2.out.below (by omega : w.heap.size ≤ w.heap.size + 1 + 1) 0 (.int .i64 0)) (by omega : w.heap.size ≤ w.heap.size + 1 + 1) 1 (.int .i64 0)) (by omega : w.heap.size ≤ w.heap.size + 1 + 1) 2 (.int .i64 0)) (by omega : w.heap.size ≤ w.heap.size + 1 + 1) 3 (.bool false)) (by omega : w.heap.size ≤ w.heap.size + 1 + 1) 4 (.bool false)))
      have R3 := (((((HR2.out.set 0 (.int .i64 0)).set 1 (.int .i64 0)).set 2 (.int .i64 0)).set 3 (.bool false)).set 4 (.bool false))
      clear v0 y0 f0 v1 y1 f1 v2 y2 f2 v3 y3 f3 v4 y4 f4
      have v0 := R3.cell 0
      have v1 := R3.cell 1
      have v2 := R3.cell 2
      have v3 := R3.cell 3
      have v4 := R3.cell 4
      simp only [List.getElem?_toArray, List.getElem?_cons_zero, List.getElem?_cons_succ, List.setIfInBounds_toArray, List.set_cons_zero, List.set_cons_succ] at v0 v1 v2 v3 v4
      clear R3 HR2 K2
      generalize (((((w2.setCell ⟨w.heap.size + 1 + 1, 0, none⟩ (.int .i64 0)).setCell ⟨w.heap.size + 1 + 1, 1, none⟩ (.int .i64 0)).setCell ⟨w.heap.size + 1 + 1, 2, none⟩ (.int .i64 0)).setCell ⟨w.heap.size + 1 + 1, 3, none⟩ (.bool false)).setCell ⟨w.heap.size + 1 + 1, 4, none⟩ (.bool false)) = W at *
      exact bodyPost_ret (v := .tuple #[.agg #[.int .i64 0, .int .i64 0, .int .i64 0, .bool false, .bool false], .int .i64 1]) (by simp [results, Tryz.results42, go_sem, v0, v1, v2, v3, v4]) rfl ⟨rfl, hK.out⟩
    case true =>
      go_wp2
      have hK := Lib.hid (show Below w.heap.size w (((((w2.setCell ⟨w.heap.size + 1 + 1, 0, none⟩ (.int .i64 mi2)).setCell ⟨w.heap.size + 1 + 1, 1, none⟩ (.int .i64 mf2)).setCell ⟨w.heap.size + 1 + 1, 2, none⟩ (.int .i64 xf2)).setCell ⟨w.heap.size + 1 + 1, 3, none⟩ (.bool pl2)).setCell ⟨w.heap.size + 1 + 1, 4, none⟩ (.bool rk2)) from (bs1 (bs1 (bs1 (bs1 (bs1 K2.out.below (by omega : w.heap.size ≤ w.heap.size + 1 + 1) 0 (.int .i64 mi2)) (by omega : w.heap.size ≤ w.heap.size + 1 + 1) 1 (.int .i64 mf2)) (by omega : w.heap.size ≤ w.heap.size + 1 + 1) 2 (.int .i64 xf2)) (by omega : w.heap.size ≤ w.heap.size + 1 + 1) 3 (.bool pl2)) (by omega : w.heap.size ≤ w.heap.size + 1 + 1) 4 (.bool rk2)))
      have R3 := (((((HR2.out.set 0 (.int .i64 mi2)).set 1 (.int .i64 mf2)).set 2 (.int .i64 xf2)).set 3 (.bool pl2)).set 4 (.bool rk2))
      clear v0 y0 f0 v1 y1 f1 v2 y2 f2 v3 y3 f3 v4 y4 f4
      have v0 := R3.cell 0
      have v1 := R3.cell 1
      have v2 := R3.cell 2
      have v3 := R3.cell 3
      have v4 := R3.cell 4
      simp only [List.getElem?_toArray, List.getElem?_cons_zero, List.getElem?_cons_succ, List.setIfInBounds_toArray, List.set_cons_zero, List.set_cons_succ] at v0 v1 v2 v3 v4
      clear R3 HR2 K2
      generalize (((((w2.setCell ⟨w.heap.size + 1 + 1, 0, none⟩ (.int .i64 mi2)).setCell ⟨w.heap.size + 1 + 1, 1, none⟩ (.int .i64 mf2)).setCell ⟨w.heap.size + 1 + 1, 2, none⟩ (.int .i64 xf2)).setCell ⟨w.heap.size + 1 + 1, 3, none⟩ (.bool pl2)).setCell ⟨w.heap.size + 1 + 1, 4, none⟩ (.bool rk2)) = W at *
      exact bodyPost_ret (v := .tuple #[.agg #[.int .i64 mi2, .int .i64 mf2, .int .i64 xf2, .bool pl2, .bool rk2], .int .i64 0]) (by simp [results, Tryz.results42, go_sem, v0, v1, v2, v3, v4]) rfl ⟨rfl, hK.out⟩
theorem set_any (p : OPT) (o : OP) (w : World) (hp : OkO p) :
    Calls Tryz.prog 42 #[.agg #[.int .i64 o.mi, .int .i64 o.mf, .int .i64 o.xf, .bool o.pl, .bool o.rk], .string p.nm, .string p.tx, .agg #[.bool p.n, .string p.s, .int .i64 p.k], .bool p.it] w
      fun e w' => e = .returned (if okO p then .tuple #[.agg #[.int .i64 (turnO p o).mi, .int .i64 (turnO p o).mf, .int .i64 (turnO p o).xf, .bool (turnO p o).pl, .bool (turnO p o).rk], .int .i64 0] else .tuple #[.agg #[.int .i64 0, .int .i64 0, .int .i64 0, .bool false, .bool false], .int .i64 1]) ∧ Below w.heap.size w w' := by
  obtain ⟨kk, hk, hN⟩ := hp
  obtain ⟨nm, tx, n, s, k, it⟩ := p
  dsimp only at *
  subst hk
  refine set_core nm tx n s (kk : Int) it _ o.mi o.mf o.xf _ _ _ o.pl o.rk _ _ w (fun h b W hB => ?_) (fun h b W hB => ?_)
  · subst h
    exact setText_any b o.mi o.mf o.xf o.pl o.rk nm tx W hB
  · subst h
    have := setNumber_any b o.mi o.mf o.xf (cntC n s.data.toList kk) o.pl o.rk (cntOk n s.data.toList kk) nm n s (kk : Int) W hB (fun W => count_any n s kk W hN)
    simp only [okO, turnO, Int.toNat_natCast, Bool.false_eq_true, if_false]
    exact this
end Go.Proofs.YtglennfjeacpoaaGreatDoor

namespace Go.Proofs.YtglennfjeacpoaaGreatDoor
open Go.RowKit
set_option linter.unusedVariables false
set_option linter.unusedSimpArgs false
def dflO : OP := ⟨1, 0, 3, false, false⟩
theorem opts_bd : ∀ (l : List OPT) (o : OP), (∀ p ∈ l, OkO p) → BdP o → BdP (optsF l o)
  | [], o, _, h => h
  | p :: l, o, hl, h => opts_bd l (setO p o) (fun q hq => hl q (List.mem_cons_of_mem _ hq)) (set_bd (hl p (List.mem_cons_self ..)) h)
theorem dfl_bd : BdP dflO := ⟨⟨by decide, by decide⟩, ⟨by decide, by decide⟩, ⟨by decide, by decide⟩⟩
set_option maxHeartbeats 8000000 in
set_option maxRecDepth 100000 in
theorem opts_any (l : List OPT) (A : Option Addr) (c : Nat) (w : World) (hl : ListO w l A c) (hOk : ∀ p ∈ l, OkO p) :
    Calls Tryz.prog 11 #[.slice A l.length c] w
      fun e w' => e = .returned (.agg #[.int .i64 (optsF l dflO).mi, .int .i64 (optsF l dflO).mf, .int .i64 (optsF l dflO).xf, .bool (optsF l dflO).pl, .bool (optsF l dflO).rk]) ∧ Below w.heap.size w w' := by
  obtain ⟨R, hR⟩ : ∃ R, optsF l dflO = R := ⟨_, rfl⟩
  rw [hR]
  have hbig := len_big hl
  have HL := Lib.hid hl
  have HOk := Lib.hid hOk
  have HR := Lib.hid hR
  clear hl hOk hR
  generalize hL : l.length = L at *
  have HLL := Lib.hid hL
  clear hL
  have Z0 := Lib.hid ((Below.refl w.heap.size w).alloc (Nat.le_refl _) (.cells #[.int .i64 0, .int .i64 0, .int .i64 0, .bool false, .bool false] 30))
  have X0 := Lib.hid (BoxAt.new w #[.int .i64 0, .int .i64 0, .int .i64 0, .bool false, .bool false] 30)
  go_enter Tryz.func11, Tryz.ntmps11
  go_wp2_with fail
  go_at_call 41
  refine (default_any _).mono ?_
  rintro e w1 ⟨rfl, hb1⟩
  have Z1 := Lib.hid (below_new (below_then Z0.out (Nat.le_refl _) hb1) (Nat.le_refl _) (.cells #[.int .i64 1, .int .i64 0, .int .i64 3, .bool false, .bool false] 30))
  have X1 := Lib.hid ((X0.out.later hb1).alloc (.cells #[.int .i64 1, .int .i64 0, .int .i64 3, .bool false, .bool false] 30))
  have Y1 := Lib.hid (BoxAt.new w1 #[.int .i64 1, .int .i64 0, .int .i64 3, .bool false, .bool false] 30)
  have zw1 : w.heap.size < w1.heap.size := (X0.out.later hb1).lt
  clear hb1
  go_wp2_with fail
  go_loopw [11] (fun t wr => ∃ (i : Nat) (mi mf xf : Int) (pl rk : Bool), t = .int .i64 (i : Int) ∧ i ≤ L ∧ Hid (optsF (l.drop i) ⟨mi, mf, xf, pl, rk⟩ = R) ∧ Hid (Below w.heap.size w wr) ∧ Hid (BoxAt wr w1.heap.size #[.int .i64 mi, .int .i64 mf, .int .i64 xf, .bool pl, .bool rk] 30) ∧ Hid (BoxAt wr w.heap.size #[.int .i64 0, .int .i64 0, .int .i64 0, .bool false, .bool false] 30)) (fun t _ => L - (intOf t).toNat)
  case atStart => exact ⟨0, 1, 0, 3, false, false, rfl, Nat.zero_le _, HR, Z1, Y1, X1⟩
  case round =>
    obtain ⟨i, mi, mf, xf, pl, rk, rfl, hi, hF, hB, hY, hX⟩ := hrel
    by_cases hlt : i < L
    · have f1 : decide ((i : Int) < (L : Int)) = true := decide_eq_true (by omega)
      have hil : i < l.length := by rw [HLL.out]; exact hlt
      obtain ⟨q1, q2, q3⟩ := HL.out.later hB.out
      obtain ⟨b, o, rfl, hbz, hp⟩ := q3 (by omega)
      obtain ⟨⟨c0, c1, c2, c3, c4, c5⟩, hd1, hd2, hd3⟩ := hp i l[i] (List.getElem?_eq_getElem hil)
      have hSt := fun W => set_any l[i] ⟨mi, mf, xf, pl, rk⟩ W (HOk.out _ (List.getElem_mem hil))
      have hdr : l.drop i = l[i] :: l.drop (i + 1) := List.drop_eq_getElem_cons hil
      have hF2 := hF.out
      rw [hdr] at hF2
      have hF3 : optsF (l.drop (i + 1)) (setO l[i] ⟨mi, mf, xf, pl, rk⟩) = R := hF2
      unfold setO at hF3
      generalize okO l[i] = ok at *
      generalize turnO l[i] ⟨mi, mf, xf, pl, rk⟩ = o2 at *
      obtain ⟨mi2, mf2, xf2, pl2, rk2⟩ := o2
      generalize l[i] = p at *
      obtain ⟨nm, tx, n, s, k, it⟩ := p
      dsimp only at *
      have HSt := Lib.hid hSt
      have HF3 := Lib.hid hF3
      have y := hY.out
      have zy := y.lt
      have y0 := y.cell 0
      have y1 := y.cell 1
      have y2 := y.cell 2
      have y3 := y.cell 3
      have y4 := y.cell 4
      simp only [List.getElem?_toArray, List.getElem?_cons_zero, List.getElem?_cons_succ] at y0 y1 y2 y3 y4
      have Hy := Lib.hid y
      clear hSt hF2 hF3 hF hdr hp q1 q2 q3 hd1 hd2 hd3 y
      go_wp2_with fail
      go_at_call 42
      refine (HSt.out _).mono ?_
      rintro e w2 ⟨rfl, hb2⟩
      have hB2 := Lib.hid (hB.out.trans ((below_box hb2).mono hB.out.size))
      have hX2 := Lib.hid (hX.out.later (below_box hb2))
      have y := hY.out.later (below_box hb2)
      clear hb2 c0 c1 c2 c3 c4 c5 zy y0 y1 y2 y3 y4 Hy
      have zy := y.lt
      have y0 := y.cell 0
      have y1 := y.cell 1
      have y2 := y.cell 2
      have y3 := y.cell 3
      have y4 := y.cell 4
      simp only [List.getElem?_toArray, List.getElem?_cons_zero, List.getElem?_cons_succ] at y0 y1 y2 y3 y4
      have f0 := y.z 0
      have f1 := y.z 1
      have f2 := y.z 2
      have f3 := y.z 3
      have f4 := y.z 4
      have hY2 := Lib.hid y
      clear y
      cases ok
      case false =>
        as_aux_lemma =>
          simp only [Bool.false_eq_true, if_false]
          go_wp2_with fail
          go_roundw
          case rel => exact ⟨i + 1, mi, mf, xf, pl, rk, by go_num, by omega, by have := HF3.out; simp only [Bool.false_eq_true, if_false] at this; exact Lib.hid this, Lib.hid (below_new hB2.out (Nat.le_refl _) _), Lib.hid (hY2.out.alloc _), Lib.hid (hX2.out.alloc _)⟩
          case measure => simp [intOf]; omega
      case true =>
        as_aux_lemma =>
          simp only [if_true]
          go_wp2_with fail
          go_roundw
          case rel => exact ⟨i + 1, mi2, mf2, xf2, pl2, rk2, by go_num, by omega, by have := HF3.out; simp only [if_true] at this; exact Lib.hid this, Lib.hid (below_new ((bs1 (bs1 (bs1 (bs1 (bs1 hB2.out (by omega : w.heap.size ≤ w1.heap.size) 0 (.int .i64 mi2)) (by omega : w.heap.size ≤ w1.heap.size) 1 (.int .i64 mf2)) (by omega : w.heap.size ≤ w1.heap.size) 2 (.int .i64 xf2)) (by omega : w.heap.size ≤ w1.heap.size) 3 (.bool pl2)) (by omega : w.heap.size ≤ w1.heap.size) 4 (.bool rk2))) (Nat.le_refl _) _), Lib.hid (((((((hY2.out.set 0 (.int .i64 mi2)).set 1 (.int .i64 mf2)).set 2 (.int .i64 xf2)).set 3 (.bool pl2)).set 4 (.bool rk2))).alloc _), Lib.hid (BoxAt.alloc ((BoxAt.setOther (BoxAt.setOther (BoxAt.setOther (BoxAt.setOther (BoxAt.setOther hX2.out ⟨w1.heap.size, 0, none⟩ (.int .i64 mi2) (Nat.ne_of_lt zw1)) ⟨w1.heap.size, 1, none⟩ (.int .i64 mf2) (Nat.ne_of_lt zw1)) ⟨w1.heap.size, 2, none⟩ (.int .i64 xf2) (Nat.ne_of_lt zw1)) ⟨w1.heap.size, 3, none⟩ (.bool pl2) (Nat.ne_of_lt zw1)) ⟨w1.heap.size, 4, none⟩ (.bool rk2) (Nat.ne_of_lt zw1))) _)⟩
          case measure => simp [intOf]; omega
    · obtain rfl : i = L := by omega
      have f1 : decide ((i : Int) < (i : Int)) = false := decide_eq_false (by omega)
      have hnil : l.drop i = [] := List.drop_eq_nil_of_le (by rw [HLL.out]; exact Nat.le_refl _)
      have hF2 := hF.out
      rw [hnil] at hF2
      have hF3 : (⟨mi, mf, xf, pl, rk⟩ : OP) = R := hF2
      subst hF3
      clear hnil hF2 hF
      have y := hY.out
      have x := hX.out
      have zy := y.lt
      have zx := x.lt
      have y0 := y.cell 0
      have y1 := y.cell 1
      have y2 := y.cell 2
      have y3 := y.cell 3
      have y4 := y.cell 4
      simp only [List.getElem?_toArray, List.getElem?_cons_zero, List.getElem?_cons_succ] at y0 y1 y2 y3 y4
      have v0 := x.cell 0
      have v1 := x.cell 1
      have v2 := x.cell 2
      have v3 := x.cell 3
      have v4 := x.cell 4
      simp only [List.getElem?_toArray, List.getElem?_cons_zero, List.getElem?_cons_succ] at v0 v1 v2 v3 v4
      have f0 := x.z 0
      have f1 := x.z 1
      have f2 := x.z 2
      have f3 := x.z 3
      have f4 := x.z 4
      clear y x
      go_wp2
      have hK := Lib.hid (show Below w.heap.size w (((((wr.setCell ⟨w.heap.size, 0, none⟩ (.int .i64 mi)).setCell ⟨w.heap.size, 1, none⟩ (.int .i64 mf)).setCell ⟨w.heap.size, 2, none⟩ (.int .i64 xf)).setCell ⟨w.heap.size, 3, none⟩ (.bool pl)).setCell ⟨w.heap.size, 4, none⟩ (.bool rk)) from (bs1 (bs1 (bs1 (bs1 (bs1 hB.out (Nat.le_refl _) 0 (.int .i64 mi)) (Nat.le_refl _) 1 (.int .i64 mf)) (Nat.le_refl _) 2 (.int .i64 xf)) (Nat.le_refl _) 3 (.bool pl)) (Nat.le_refl _) 4 (.bool rk)))
      have R3 := (((((hX.out.set 0 (.int .i64 mi)).set 1 (.int .i64 mf)).set 2 (.int .i64 xf)).set 3 (.bool pl)).set 4 (.bool rk))
      clear v0 y0 f0 v1 y1 f1 v2 y2 f2 v3 y3 f3 v4 y4 f4
      have v0 := R3.cell 0
      have v1 := R3.cell 1
      have v2 := R3.cell 2
      have v3 := R3.cell 3
      have v4 := R3.cell 4
      simp only [List.getElem?_toArray, List.getElem?_cons_zero, List.getElem?_cons_succ, List.setIfInBounds_toArray, List.set_cons_zero, List.set_cons_succ] at v0 v1 v2 v3 v4
      clear R3
      generalize (((((wr.setCell ⟨w.heap.size, 0, none⟩ (.int .i64 mi)).setCell ⟨w.heap.size, 1, none⟩ (.int .i64 mf)).setCell ⟨w.heap.size, 2, none⟩ (.int .i64 xf)).setCell ⟨w.heap.size, 3, none⟩ (.bool pl)).setCell ⟨w.heap.size, 4, none⟩ (.bool rk)) = W at *
      exact bodyPost_ret (v := .agg #[.int .i64 mi, .int .i64 mf, .int .i64 xf, .bool pl, .bool rk]) (by simp [results, Tryz.results11, go_sem, v0, v1, v2, v3, v4]) rfl ⟨rfl, hK.out⟩
end Go.Proofs.YtglennfjeacpoaaGreatDoor
