/-
  Package script: the law's moment.
-/
import Derived.Test.YtnkijpjknbelfaaDoorSwh
import Derived.IntWalk
namespace Go.Proofs.YtnkijpjknbelfaaDoor
open Go.RowKit
set_option linter.unusedVariables false
set_option linter.unusedSimpArgs false

theorem numA_acc : ∀ (l : List UInt8) (a : Nat), numA a l = a * 10 ^ l.length + numA 0 l
  | [], a => by rw [numA_nil, numA_nil]; simp
  | c :: l, a => by
    rw [numA_cons, numA_cons, numA_acc l (a * 10 + (c.toNat - 48)), numA_acc l (0 * 10 + (c.toNat - 48)), List.length_cons, Nat.pow_succ, Nat.zero_mul, Nat.zero_add, Nat.add_mul]
    have : a * 10 * 10 ^ l.length = a * (10 ^ l.length * 10) := by rw [Nat.mul_assoc, Nat.mul_comm 10]
    omega
theorem numA_lt : ∀ (l : List UInt8), l.all dgB = true → numA 0 l < 10 ^ l.length
  | [], _ => by rw [numA_nil]; simp
  | c :: l, h => by
    rw [List.all_cons, Bool.and_eq_true, dgB_iff] at h
    have ih := numA_lt l h.2
    rw [numA_cons, numA_acc, List.length_cons, Nat.pow_succ, Nat.zero_mul, Nat.zero_add]
    have h9 : c.toNat - 48 ≤ 9 := by omega
    have := Nat.mul_le_mul_right (10 ^ l.length) h9
    omega
/-- What the law tells of the digits: whether they may be. -/
def momOk (neg : Bool) (D : List UInt8) : Bool := decide (D ≠ []) && decide (D.length ≤ 16) && !(decide (1 < D.length) && decide (D.head? = some 48)) && D.all dgB && !(neg && decide (D = [48]))
def momN (neg : Bool) (D : List UInt8) : Int := if neg then -(numA 0 D : Int) else numA 0 D
theorem mom_whole (neg : Bool) (D : List UInt8) (hd : neg = false → D.head? ≠ some 45) :
    (∀ v, wholeS (if neg then 45 :: D else D) (-9007199254740992) 9007199254740992 = some v → momOk neg D = true ∧ v = momN neg D) ∧
    (momOk neg D = true → -9007199254740992 ≤ momN neg D → momN neg D ≤ 9007199254740992 → wholeS (if neg then 45 :: D else D) (-9007199254740992) 9007199254740992 = some (momN neg D)) := by
  constructor
  · intro v hv
    obtain ⟨h0, h1, h2⟩ := (wholeS_iff (by decide) (by decide)).1 hv
    have key : ∀ u : Nat, D = Lib.decDigits u → u ≤ 9007199254740992 → (neg = true → u ≠ 0) → momOk neg D = true ∧ (numA 0 D : Int) = u := by
      intro u e hu hz
      have hall := dec_all u
      have hne := dec_ne u
      have hn := dec_num u
      have hl : (Lib.decDigits u).length ≤ 16 := by
        rw [Lib.decDigits_length]
        exact nDigits_le 15 u (by omega)
      rw [← e] at hall hne hn hl
      refine ⟨?_, by rw [hn]⟩
      unfold momOk
      rw [decide_eq_true hne, decide_eq_true hl, hall]
      have a1 : (decide (1 < D.length) && decide (D.head? = some 48)) = false := by
        by_cases h48 : D.head? = some 48
        · by_cases hu0 : u = 0
          · rw [e, hu0, Lib.decDigits_one (by decide)]; rfl
          · rw [e] at h48; exact absurd h48 (dec_head hu0)
        · rw [decide_eq_false h48, Bool.and_false]
      have a2 : (neg && decide (D = [48])) = false := by
        cases hng : neg
        · rfl
        · rw [Bool.true_and]
          refine decide_eq_false fun h => hz hng ?_
          rw [h] at hn
          rw [← hn]
          rfl
      rw [a1, a2]
      rfl
    cases neg with
    | false =>
      rw [if_neg (by simp)] at h2
      unfold Lib.itoa at h2
      split at h2
      · rw [← h2] at hd; exact absurd rfl (hd rfl)
      · obtain ⟨k1, k2⟩ := key v.toNat h2.symm (by omega) (fun h => by cases h)
        refine ⟨k1, ?_⟩
        unfold momN
        rw [if_neg (by simp), k2]
        omega
    | true =>
      rw [if_pos rfl] at h2
      unfold Lib.itoa at h2
      split at h2
      · next hneg =>
        injection h2 with _ h3
        obtain ⟨k1, k2⟩ := key v.natAbs h3.symm (by omega) (fun _ => by omega)
        refine ⟨k1, ?_⟩
        unfold momN
        rw [if_pos rfl, k2]
        omega
      · obtain ⟨c, r, e, hc⟩ := dec_cons v.toNat
        rw [e] at h2
        injection h2 with h3 _
        rw [h3] at hc
        exact absurd hc (by decide)
  · intro hok h0 h1
    unfold momOk at hok
    simp only [Bool.and_eq_true, decide_eq_true_iff, Bool.not_eq_true', Bool.and_eq_false_iff, decide_eq_false_iff_not] at hok
    obtain ⟨⟨⟨⟨k1, k2⟩, k3⟩, k4⟩, k5⟩ := hok
    have hnd : Lib.decDigits (numA 0 D) = D := num_dec D.length D (Nat.le_refl _) k4 k1 (by
      rcases k3 with h | h
      · left
        have := List.length_pos_iff.2 k1
        omega
      · exact .inr h)
    refine (wholeS_iff (by decide) (by decide)).2 ⟨h0, h1, ?_⟩
    cases neg with
    | false =>
      rw [if_neg (by simp)]
      unfold momN
      rw [if_neg (by simp), itoa_nat, hnd]
    | true =>
      rw [if_pos rfl]
      unfold momN
      rw [if_pos rfl]
      have hz : numA 0 D ≠ 0 := by
        intro hz
        rw [hz, Lib.decDigits_one (by decide)] at hnd
        rcases k5 with h | h
        · cases h
        · exact h hnd.symm
      rw [Lib.itoa_neg _ (by omega), hnd]
theorem at_get (d : ByteArray) (i : Nat) (h : i < d.size) : d.data.toList[i]? = some d[i] := by
  rw [List.getElem?_eq_getElem (by rw [size_data]; exact h)]; rfl
theorem len0_empty (l : List UInt8) : l.isEmpty = decide (l.length = 0) := by cases l <;> simp
theorem tl_iff (d : ByteArray) : d.toList.isEmpty = decide (d.size = 0) := by
  rw [Lib.toList_data, len0_empty, size_data]
def MomL (s : ByteArray) (v : Int) (b : Bool) : Prop := ∀ w : World, Calls Tryd.prog 31 #[.string s] w fun e w' => e = .returned (.tuple #[.int .i64 v, .bool b]) ∧ Below w.heap.size w w'
set_option maxHeartbeats 8000000 in
set_option maxRecDepth 100000 in
theorem mom_emp (s : ByteArray) (hs : s.size ≤ 4000000) (h0 : s.size = 0) : ∃ v, MomL s v (momOk false s.data.toList && (decide (-9007199254740992 ≤ momN false s.data.toList) && decide (momN false s.data.toList ≤ 9007199254740992))) ∧
    (momOk false s.data.toList = true → v = momN false s.data.toList) := by
  have p1 : s.toList.isEmpty = true := by rw [tl_iff, decide_eq_true h0]
  have hm : momOk false s.data.toList = false := by
    unfold momOk
    rw [decide_eq_false (by rw [ne_eq, Classical.not_not]; exact List.eq_nil_of_length_eq_zero (by rw [size_data]; exact h0))]
    simp
  rw [hm]
  refine ⟨0, fun w => ?_, fun h => by cases h⟩
  rw [Bool.false_and]
  clear h0 hm
  go_enter Tryd.func31, Tryd.ntmps31
  go_wp2
  go_ret2
  exact ⟨rfl, Below.refl _ _⟩
set_option maxHeartbeats 8000000 in
set_option maxRecDepth 100000 in
theorem mom_neg (s : ByteArray) (hs : s.size ≤ 4000000) (h0 : 0 < s.size) (h45 : s[0] = 45) : ∃ v, MomL s v (momOk true (s.extract 1 s.size).data.toList && (decide (-9007199254740992 ≤ momN true (s.extract 1 s.size).data.toList) && decide (momN true (s.extract 1 s.size).data.toList ≤ 9007199254740992))) ∧
    (momOk true (s.extract 1 s.size).data.toList = true → v = momN true (s.extract 1 s.size).data.toList) := by
  have p1 : s.toList.isEmpty = false := by rw [tl_iff, decide_eq_false (by omega)]
  have p2 : ((s[0].toNat : Nat) : Int) = 45 := by rw [h45]; rfl
  have p3 : (0 : Int) < (s.size : Int) := by omega
  have p4 : (1 : Int) ≤ (s.size : Int) := by omega
  have hss : (s.size : Int) ≤ 4000000 := by omega
  obtain ⟨D, hD⟩ : ∃ D, s.extract 1 s.size = D := ⟨_, rfl⟩
  have hDs : D.size = s.size - 1 := by rw [← hD]; simp
  rw [hD]
  have q0 : (D.toList == s.toList) = false := by
    rw [beq_eq_false_iff_ne]
    intro h
    have := congrArg List.length h
    rw [Lib.toList_data, Lib.toList_data, size_data, size_data] at this
    omega
  have q0b : (D.toList != s.toList) = true := by rw [bne, q0]; rfl
  by_cases h48 : D.data.toList = [48]
  · have hm : momOk true D.data.toList = false := by
      unfold momOk
      rw [decide_eq_true h48]
      simp
    rw [hm]
    refine ⟨0, fun w => ?_, fun h => by cases h⟩
    rw [Bool.false_and]
    have hDe : D = ⟨#[48]⟩ := bytes_eq h48
    clear hDs q0 q0b h48 hm
    subst hDe
    go_enter Tryd.func31, Tryd.ntmps31
    go_wp2
    go_ret2
    exact ⟨rfl, Below.refl _ _⟩
  have p6 : (D.toList == [48]) = false := by rw [Lib.toList_data, beq_eq_false_iff_ne]; exact h48
  have hds : (D.size : Int) ≤ 4000000 := by omega
  by_cases c1 : D.size = 0
  · have hm : momOk true D.data.toList = false := by
      unfold momOk
      rw [decide_eq_false (by rw [ne_eq, Classical.not_not]; exact List.eq_nil_of_length_eq_zero (by rw [size_data]; exact c1))]
      simp
    rw [hm]
    refine ⟨0, fun w => ?_, fun h => by cases h⟩
    rw [Bool.false_and]
    skip
    clear hm
    have r1 : D.toList.isEmpty = true := by rw [tl_iff, decide_eq_true c1]
    clear c1 hDs
    go_enter Tryd.func31, Tryd.ntmps31
    go_wp2
    go_ret2
    exact ⟨rfl, Below.refl _ _⟩
  have r1 : D.toList.isEmpty = false := by rw [tl_iff, decide_eq_false c1]
  have r1b : (0 : Int) < (D.size : Int) := by omega
  have hp0 : 0 < D.size := by omega
  by_cases c2 : 16 < D.size
  · have hm : momOk true D.data.toList = false := by
      unfold momOk
      rw [decide_eq_false (show ¬ D.data.toList.length ≤ 16 by rw [size_data]; omega)]
      simp
    rw [hm]
    refine ⟨0, fun w => ?_, fun h => by cases h⟩
    rw [Bool.false_and]
    skip
    clear hm
    have r2 : decide ((16 : Int) < (D.size : Int)) = true := decide_eq_true (by omega)
    have r2b : (16 : Int) < (D.size : Int) := by omega
    clear c1 c2 hDs
    go_enter Tryd.func31, Tryd.ntmps31
    go_wp2
    go_ret2
    exact ⟨rfl, Below.refl _ _⟩
  have r2 : decide ((16 : Int) < (D.size : Int)) = false := decide_eq_false (by omega)
  have r2b : ¬ (16 : Int) < (D.size : Int) := by omega
  have hhd : D.data.toList.head? = some (D[0]'hp0) := head_data D hp0
  by_cases c3 : 1 < D.size ∧ D.data.toList.head? = some 48
  · have hm : momOk true D.data.toList = false := by
      unfold momOk
      rw [decide_eq_true (show 1 < D.data.toList.length by rw [size_data]; exact c3.1), decide_eq_true c3.2]
      simp
    rw [hm]
    refine ⟨0, fun w => ?_, fun h => by cases h⟩
    rw [Bool.false_and]
    skip
    clear hm
    have r3 : decide ((1 : Int) < (D.size : Int)) = true := decide_eq_true (by omega)
    have r3b : (1 : Int) < (D.size : Int) := by omega
    have h8 : D[0]'hp0 = 48 := by have := c3.2; rw [hhd] at this; exact Option.some.inj this
    have r4 : (((D[0]'hp0).toNat : Nat) : Int) = 48 := by rw [h8]; rfl
    clear c1 c2 c3 h8 hhd hDs
    go_enter Tryd.func31, Tryd.ntmps31
    go_wp2
    go_ret2
    exact ⟨rfl, Below.refl _ _⟩
  have r4 : decide ((1 : Int) < (D.size : Int)) = false ∨ (decide ((1 : Int) < (D.size : Int)) = true ∧ ((((D[0]'hp0).toNat : Nat) : Int) == 48) = false) := by
    by_cases h1 : 1 < D.size
    · refine .inr ⟨decide_eq_true (by omega), ?_⟩
      rw [beq_eq_false_iff_ne]
      intro h
      refine c3 ⟨h1, ?_⟩
      rw [hhd]
      congr 1
      exact UInt8.toNat_inj.1 (by show (D[0]'hp0).toNat = 48; omega)
    · exact .inl (decide_eq_false (by omega))
  have hd16 : D.size ≤ 16 := by omega
  by_cases hall : D.data.toList.all dgB = true
  · have hm : momOk true D.data.toList = true := by
      unfold momOk
      rw [hall, decide_eq_true (by intro h; rw [h] at hhd; cases hhd), decide_eq_true (show D.data.toList.length ≤ 16 by rw [size_data]; omega)]
      have : (decide (1 < D.data.toList.length) && decide (D.data.toList.head? = some 48)) = false := by
        by_cases h1 : 1 < D.size
        · rw [decide_eq_false (fun h => c3 ⟨h1, h⟩), Bool.and_false]
        · rw [decide_eq_false (show ¬ 1 < D.data.toList.length by rw [size_data]; exact h1), Bool.false_and]
      rw [this]
      rw [decide_eq_false h48]; rfl
    rw [hm, Bool.true_and]
    obtain ⟨NV, hNV⟩ : ∃ v, momN true D.data.toList = v := ⟨_, rfl⟩
    rw [hNV]
    refine ⟨NV, fun w => ?_, fun _ => rfl⟩
    skip
    have Hall := Lib.hid hall
    have HNV := Lib.hid hNV
    clear c1 c2 c3 hhd hm hall hNV hDs
    rcases r4 with r5 | ⟨r5, r6⟩
    · go_enter Tryd.func31, Tryd.ntmps31
      go_wp2_with fail
      go_loopw [5, 6] (fun t5 t6 wr => ∃ (i : Nat) (nn : Int), t6 = .int .i64 i ∧ t5 = .int .i64 nn ∧ i ≤ D.size ∧ Hid (nn = (numA 0 (D.data.toList.take i) : Int)) ∧ Hid ((D.data.toList.take i).all dgB = true) ∧ Hid (Below w.heap.size w wr)) (fun _ t6 _ => D.size - (intOf t6).toNat)
      case atStart => exact ⟨0, 0, rfl, rfl, Nat.zero_le _, Lib.hid rfl, Lib.hid rfl, Lib.hid (Below.refl _ _)⟩
      case round =>
        obtain ⟨i, nn, rfl, rfl, hi, HN, HA, HB⟩ := hrel
        have hi0 : (i : Int) ≤ 4000000 := by omega
        by_cases hlt : i < D.size
        · have f1 : decide ((i : Int) < (D.size : Int)) = true := decide_eq_true (by omega)
          have f2 : (i : Int) < (D.size : Int) := by omega
          have f3 : (0 : Int) ≤ (i : Int) := by omega
          have hg := at_get D i hlt
          have htk := take_snoc D.data.toList i _ hg
          have hbn := numA_lt _ HA.out
          have hlen : (D.data.toList.take i).length ≤ 15 := by rw [List.length_take, size_data]; omega
          have hpow : 10 ^ (D.data.toList.take i).length ≤ 10 ^ 15 := Nat.pow_le_pow_right (by decide) hlen
          have hnn := HN.out
          have hx8 : (D[i]).toNat < 256 := (D[i]).toNat_lt
          obtain ⟨x, hx⟩ : ∃ x : Int, (((D[i]).toNat : Nat) : Int) = x := ⟨_, rfl⟩
          have hx0 : 0 ≤ x ∧ x ≤ 255 := by omega
          by_cases hdg : dgB D[i] = true
          · have hdd := dgB_iff.1 hdg
            have g1 : decide (x < 48) = false := decide_eq_false (by omega)
            have g2 : decide (57 < x) = false := decide_eq_false (by omega)
            have g3 : ¬ x < 48 := by omega
            have g4 : ¬ 57 < x := by omega
            have w1 : IntKind.u8.wrap (x - 48) = x - 48 := IntWalk.u8_in _ (by omega)
            have hb10 : nn < 1000000000000000 := by omega
            have w2 : IntKind.i64.wrap (10 * nn) = 10 * nn := IntWalk.i64_in _ (by omega)
            have w3 : IntKind.i64.wrap (x - 48) = x - 48 := IntWalk.i64_in _ (by omega)
            have w4 : IntKind.i64.wrap (10 * nn + (x - 48)) = 10 * nn + (x - 48) := IntWalk.i64_in _ (by omega)
            have HN2 := Lib.hid (show 10 * nn + (x - 48) = (numA 0 (D.data.toList.take (i + 1)) : Int) by rw [htk, numA_snoc]; omega)
            have HA2 := Lib.hid (show (D.data.toList.take (i + 1)).all dgB = true by rw [htk, List.all_append, HA.out, List.all_cons, hdg]; rfl)
            clear hg htk hbn hlen hpow hnn hx8 hdg hdd hb10
            go_wp2
            go_roundw
            case rel => exact ⟨i + 1, _, by go_num, rfl, by omega, HN2, HA2, HB⟩
            case measure => simp [intOf]; omega
          · exfalso
            have hq := Hall.out
            exact hdg (List.all_eq_true.1 hq _ (List.mem_of_getElem? hg))
        · have f1 : decide ((i : Int) < (D.size : Int)) = false := decide_eq_false (by omega)
          have f2 : ¬ (i : Int) < (D.size : Int) := by omega
          have hnn := HN.out
          rw [List.take_of_length_le (by rw [size_data]; omega)] at hnn
          have hbn := numA_lt _ Hall.out
          have hpow : 10 ^ D.data.toList.length ≤ 10 ^ 16 := Nat.pow_le_pow_right (by decide) (by rw [size_data]; omega)
          have hnv : NV = -nn := by rw [← HNV.out, hnn]; unfold momN; rw [if_pos rfl]
          obtain ⟨mm, hmm⟩ : ∃ m, m = -nn := ⟨_, rfl⟩
          have w1 : IntKind.i64.wrap (-nn) = mm := by rw [hmm]; exact IntWalk.i64_in _ (by omega)
          rw [← hmm] at hnv
          clear hnn hbn hpow
          clear HNV
          skip
          obtain ⟨q, hq⟩ : ∃ q, decide (-9007199254740992 ≤ mm) = q := ⟨_, rfl⟩
          obtain ⟨r, hr⟩ : ∃ q, decide (mm ≤ 9007199254740992) = q := ⟨_, rfl⟩
          have HNv := Lib.hid hnv
          clear hnv hmm
          cases q
          · go_wp2
            go_ret2
            exact ⟨by rw [HNv.out, hq]; rfl, HB.out⟩
          · go_wp2
            go_ret2
            exact ⟨by rw [HNv.out, hq, hr]; rfl, HB.out⟩
    · go_enter Tryd.func31, Tryd.ntmps31
      go_wp2_with fail
      go_loopw [5, 6] (fun t5 t6 wr => ∃ (i : Nat) (nn : Int), t6 = .int .i64 i ∧ t5 = .int .i64 nn ∧ i ≤ D.size ∧ Hid (nn = (numA 0 (D.data.toList.take i) : Int)) ∧ Hid ((D.data.toList.take i).all dgB = true) ∧ Hid (Below w.heap.size w wr)) (fun _ t6 _ => D.size - (intOf t6).toNat)
      case atStart => exact ⟨0, 0, rfl, rfl, Nat.zero_le _, Lib.hid rfl, Lib.hid rfl, Lib.hid (Below.refl _ _)⟩
      case round =>
        obtain ⟨i, nn, rfl, rfl, hi, HN, HA, HB⟩ := hrel
        have hi0 : (i : Int) ≤ 4000000 := by omega
        by_cases hlt : i < D.size
        · have f1 : decide ((i : Int) < (D.size : Int)) = true := decide_eq_true (by omega)
          have f2 : (i : Int) < (D.size : Int) := by omega
          have f3 : (0 : Int) ≤ (i : Int) := by omega
          have hg := at_get D i hlt
          have htk := take_snoc D.data.toList i _ hg
          have hbn := numA_lt _ HA.out
          have hlen : (D.data.toList.take i).length ≤ 15 := by rw [List.length_take, size_data]; omega
          have hpow : 10 ^ (D.data.toList.take i).length ≤ 10 ^ 15 := Nat.pow_le_pow_right (by decide) hlen
          have hnn := HN.out
          have hx8 : (D[i]).toNat < 256 := (D[i]).toNat_lt
          obtain ⟨x, hx⟩ : ∃ x : Int, (((D[i]).toNat : Nat) : Int) = x := ⟨_, rfl⟩
          have hx0 : 0 ≤ x ∧ x ≤ 255 := by omega
          by_cases hdg : dgB D[i] = true
          · have hdd := dgB_iff.1 hdg
            have g1 : decide (x < 48) = false := decide_eq_false (by omega)
            have g2 : decide (57 < x) = false := decide_eq_false (by omega)
            have g3 : ¬ x < 48 := by omega
            have g4 : ¬ 57 < x := by omega
            have w1 : IntKind.u8.wrap (x - 48) = x - 48 := IntWalk.u8_in _ (by omega)
            have hb10 : nn < 1000000000000000 := by omega
            have w2 : IntKind.i64.wrap (10 * nn) = 10 * nn := IntWalk.i64_in _ (by omega)
            have w3 : IntKind.i64.wrap (x - 48) = x - 48 := IntWalk.i64_in _ (by omega)
            have w4 : IntKind.i64.wrap (10 * nn + (x - 48)) = 10 * nn + (x - 48) := IntWalk.i64_in _ (by omega)
            have HN2 := Lib.hid (show 10 * nn + (x - 48) = (numA 0 (D.data.toList.take (i + 1)) : Int) by rw [htk, numA_snoc]; omega)
            have HA2 := Lib.hid (show (D.data.toList.take (i + 1)).all dgB = true by rw [htk, List.all_append, HA.out, List.all_cons, hdg]; rfl)
            clear hg htk hbn hlen hpow hnn hx8 hdg hdd hb10
            go_wp2
            go_roundw
            case rel => exact ⟨i + 1, _, by go_num, rfl, by omega, HN2, HA2, HB⟩
            case measure => simp [intOf]; omega
          · exfalso
            have hq := Hall.out
            exact hdg (List.all_eq_true.1 hq _ (List.mem_of_getElem? hg))
        · have f1 : decide ((i : Int) < (D.size : Int)) = false := decide_eq_false (by omega)
          have f2 : ¬ (i : Int) < (D.size : Int) := by omega
          have hnn := HN.out
          rw [List.take_of_length_le (by rw [size_data]; omega)] at hnn
          have hbn := numA_lt _ Hall.out
          have hpow : 10 ^ D.data.toList.length ≤ 10 ^ 16 := Nat.pow_le_pow_right (by decide) (by rw [size_data]; omega)
          have hnv : NV = -nn := by rw [← HNV.out, hnn]; unfold momN; rw [if_pos rfl]
          obtain ⟨mm, hmm⟩ : ∃ m, m = -nn := ⟨_, rfl⟩
          have w1 : IntKind.i64.wrap (-nn) = mm := by rw [hmm]; exact IntWalk.i64_in _ (by omega)
          rw [← hmm] at hnv
          clear hnn hbn hpow
          clear HNV
          skip
          obtain ⟨q, hq⟩ : ∃ q, decide (-9007199254740992 ≤ mm) = q := ⟨_, rfl⟩
          obtain ⟨r, hr⟩ : ∃ q, decide (mm ≤ 9007199254740992) = q := ⟨_, rfl⟩
          have HNv := Lib.hid hnv
          clear hnv hmm
          cases q
          · go_wp2
            go_ret2
            exact ⟨by rw [HNv.out, hq]; rfl, HB.out⟩
          · go_wp2
            go_ret2
            exact ⟨by rw [HNv.out, hq, hr]; rfl, HB.out⟩
  · have hm : momOk true D.data.toList = false := by
      unfold momOk
      cases hq : D.data.toList.all dgB
      · simp
      · exact absurd hq hall
    rw [hm]
    refine ⟨0, fun w => ?_, fun h => by cases h⟩
    rw [Bool.false_and]
    skip
    have Hall := Lib.hid hall
    skip
    clear c1 c2 c3 hhd hm hall  hDs
    rcases r4 with r5 | ⟨r5, r6⟩
    · go_enter Tryd.func31, Tryd.ntmps31
      go_wp2_with fail
      go_loopw [5, 6] (fun t5 t6 wr => ∃ (i : Nat) (nn : Int), t6 = .int .i64 i ∧ t5 = .int .i64 nn ∧ i ≤ D.size ∧ Hid (nn = (numA 0 (D.data.toList.take i) : Int)) ∧ Hid ((D.data.toList.take i).all dgB = true) ∧ Hid (Below w.heap.size w wr)) (fun _ t6 _ => D.size - (intOf t6).toNat)
      case atStart => exact ⟨0, 0, rfl, rfl, Nat.zero_le _, Lib.hid rfl, Lib.hid rfl, Lib.hid (Below.refl _ _)⟩
      case round =>
        obtain ⟨i, nn, rfl, rfl, hi, HN, HA, HB⟩ := hrel
        have hi0 : (i : Int) ≤ 4000000 := by omega
        by_cases hlt : i < D.size
        · have f1 : decide ((i : Int) < (D.size : Int)) = true := decide_eq_true (by omega)
          have f2 : (i : Int) < (D.size : Int) := by omega
          have f3 : (0 : Int) ≤ (i : Int) := by omega
          have hg := at_get D i hlt
          have htk := take_snoc D.data.toList i _ hg
          have hbn := numA_lt _ HA.out
          have hlen : (D.data.toList.take i).length ≤ 15 := by rw [List.length_take, size_data]; omega
          have hpow : 10 ^ (D.data.toList.take i).length ≤ 10 ^ 15 := Nat.pow_le_pow_right (by decide) hlen
          have hnn := HN.out
          have hx8 : (D[i]).toNat < 256 := (D[i]).toNat_lt
          obtain ⟨x, hx⟩ : ∃ x : Int, (((D[i]).toNat : Nat) : Int) = x := ⟨_, rfl⟩
          have hx0 : 0 ≤ x ∧ x ≤ 255 := by omega
          by_cases hdg : dgB D[i] = true
          · have hdd := dgB_iff.1 hdg
            have g1 : decide (x < 48) = false := decide_eq_false (by omega)
            have g2 : decide (57 < x) = false := decide_eq_false (by omega)
            have g3 : ¬ x < 48 := by omega
            have g4 : ¬ 57 < x := by omega
            have w1 : IntKind.u8.wrap (x - 48) = x - 48 := IntWalk.u8_in _ (by omega)
            have hb10 : nn < 1000000000000000 := by omega
            have w2 : IntKind.i64.wrap (10 * nn) = 10 * nn := IntWalk.i64_in _ (by omega)
            have w3 : IntKind.i64.wrap (x - 48) = x - 48 := IntWalk.i64_in _ (by omega)
            have w4 : IntKind.i64.wrap (10 * nn + (x - 48)) = 10 * nn + (x - 48) := IntWalk.i64_in _ (by omega)
            have HN2 := Lib.hid (show 10 * nn + (x - 48) = (numA 0 (D.data.toList.take (i + 1)) : Int) by rw [htk, numA_snoc]; omega)
            have HA2 := Lib.hid (show (D.data.toList.take (i + 1)).all dgB = true by rw [htk, List.all_append, HA.out, List.all_cons, hdg]; rfl)
            clear hg htk hbn hlen hpow hnn hx8 hdg hdd hb10
            go_wp2
            go_roundw
            case rel => exact ⟨i + 1, _, by go_num, rfl, by omega, HN2, HA2, HB⟩
            case measure => simp [intOf]; omega
          · have hor : x < 48 ∨ (¬ x < 48 ∧ 57 < x) := by
              rcases Classical.em (x < 48) with h | h
              · exact .inl h
              · refine .inr ⟨h, ?_⟩
                rcases Classical.em (57 < x) with h' | h'
                · exact h'
                · exact absurd (dgB_iff.2 ⟨by omega, by omega⟩) hdg
            clear hg htk hbn hlen hpow hnn hx8 hdg
            rcases hor with g3 | ⟨g3, g4⟩
            · have g1 : decide (x < 48) = true := decide_eq_true g3
              go_wp2
              go_ret2
              exact ⟨rfl, HB.out⟩
            · have g1 : decide (x < 48) = false := decide_eq_false g3
              have g2 : decide (57 < x) = true := decide_eq_true g4
              go_wp2
              go_ret2
              exact ⟨rfl, HB.out⟩
        · exfalso
          have hq := HA.out
          rw [List.take_of_length_le (by rw [size_data]; omega)] at hq
          exact Hall.out hq
    · go_enter Tryd.func31, Tryd.ntmps31
      go_wp2_with fail
      go_loopw [5, 6] (fun t5 t6 wr => ∃ (i : Nat) (nn : Int), t6 = .int .i64 i ∧ t5 = .int .i64 nn ∧ i ≤ D.size ∧ Hid (nn = (numA 0 (D.data.toList.take i) : Int)) ∧ Hid ((D.data.toList.take i).all dgB = true) ∧ Hid (Below w.heap.size w wr)) (fun _ t6 _ => D.size - (intOf t6).toNat)
      case atStart => exact ⟨0, 0, rfl, rfl, Nat.zero_le _, Lib.hid rfl, Lib.hid rfl, Lib.hid (Below.refl _ _)⟩
      case round =>
        obtain ⟨i, nn, rfl, rfl, hi, HN, HA, HB⟩ := hrel
        have hi0 : (i : Int) ≤ 4000000 := by omega
        by_cases hlt : i < D.size
        · have f1 : decide ((i : Int) < (D.size : Int)) = true := decide_eq_true (by omega)
          have f2 : (i : Int) < (D.size : Int) := by omega
          have f3 : (0 : Int) ≤ (i : Int) := by omega
          have hg := at_get D i hlt
          have htk := take_snoc D.data.toList i _ hg
          have hbn := numA_lt _ HA.out
          have hlen : (D.data.toList.take i).length ≤ 15 := by rw [List.length_take, size_data]; omega
          have hpow : 10 ^ (D.data.toList.take i).length ≤ 10 ^ 15 := Nat.pow_le_pow_right (by decide) hlen
          have hnn := HN.out
          have hx8 : (D[i]).toNat < 256 := (D[i]).toNat_lt
          obtain ⟨x, hx⟩ : ∃ x : Int, (((D[i]).toNat : Nat) : Int) = x := ⟨_, rfl⟩
          have hx0 : 0 ≤ x ∧ x ≤ 255 := by omega
          by_cases hdg : dgB D[i] = true
          · have hdd := dgB_iff.1 hdg
            have g1 : decide (x < 48) = false := decide_eq_false (by omega)
            have g2 : decide (57 < x) = false := decide_eq_false (by omega)
            have g3 : ¬ x < 48 := by omega
            have g4 : ¬ 57 < x := by omega
            have w1 : IntKind.u8.wrap (x - 48) = x - 48 := IntWalk.u8_in _ (by omega)
            have hb10 : nn < 1000000000000000 := by omega
            have w2 : IntKind.i64.wrap (10 * nn) = 10 * nn := IntWalk.i64_in _ (by omega)
            have w3 : IntKind.i64.wrap (x - 48) = x - 48 := IntWalk.i64_in _ (by omega)
            have w4 : IntKind.i64.wrap (10 * nn + (x - 48)) = 10 * nn + (x - 48) := IntWalk.i64_in _ (by omega)
            have HN2 := Lib.hid (show 10 * nn + (x - 48) = (numA 0 (D.data.toList.take (i + 1)) : Int) by rw [htk, numA_snoc]; omega)
            have HA2 := Lib.hid (show (D.data.toList.take (i + 1)).all dgB = true by rw [htk, List.all_append, HA.out, List.all_cons, hdg]; rfl)
            clear hg htk hbn hlen hpow hnn hx8 hdg hdd hb10
            go_wp2
            go_roundw
            case rel => exact ⟨i + 1, _, by go_num, rfl, by omega, HN2, HA2, HB⟩
            case measure => simp [intOf]; omega
          · have hor : x < 48 ∨ (¬ x < 48 ∧ 57 < x) := by
              rcases Classical.em (x < 48) with h | h
              · exact .inl h
              · refine .inr ⟨h, ?_⟩
                rcases Classical.em (57 < x) with h' | h'
                · exact h'
                · exact absurd (dgB_iff.2 ⟨by omega, by omega⟩) hdg
            clear hg htk hbn hlen hpow hnn hx8 hdg
            rcases hor with g3 | ⟨g3, g4⟩
            · have g1 : decide (x < 48) = true := decide_eq_true g3
              go_wp2
              go_ret2
              exact ⟨rfl, HB.out⟩
            · have g1 : decide (x < 48) = false := decide_eq_false g3
              have g2 : decide (57 < x) = true := decide_eq_true g4
              go_wp2
              go_ret2
              exact ⟨rfl, HB.out⟩
        · exfalso
          have hq := HA.out
          rw [List.take_of_length_le (by rw [size_data]; omega)] at hq
          exact Hall.out hq
set_option maxHeartbeats 8000000 in
set_option maxRecDepth 100000 in
theorem mom_pos (s : ByteArray) (hs : s.size ≤ 4000000) (h0 : 0 < s.size) (h45 : s[0] ≠ 45) : ∃ v, MomL s v (momOk false s.data.toList && (decide (-9007199254740992 ≤ momN false s.data.toList) && decide (momN false s.data.toList ≤ 9007199254740992))) ∧
    (momOk false s.data.toList = true → v = momN false s.data.toList) := by
  have p1 : s.toList.isEmpty = false := by rw [tl_iff, decide_eq_false (by omega)]
  have p2 : (((s[0].toNat : Nat) : Int) == 45) = false := by
    rw [beq_eq_false_iff_ne]
    intro h
    exact h45 (UInt8.toNat_inj.1 (by show s[0].toNat = 45; omega))
  have p2b : ¬ ((s[0].toNat : Nat) : Int) = 45 := by rw [beq_eq_false_iff_ne] at p2; exact p2
  have p3 : (0 : Int) < (s.size : Int) := by omega
  have hss : (s.size : Int) ≤ 4000000 := by omega
  obtain ⟨D, hD⟩ : ∃ D, s = D := ⟨_, rfl⟩
  subst hD
  have hDs : s.size = s.size := rfl
  have hds : (s.size : Int) ≤ 4000000 := by omega
  by_cases c1 : s.size = 0
  · exact absurd c1 (by omega)
  have r1 : s.toList.isEmpty = false := by rw [tl_iff, decide_eq_false c1]
  have r1b : (0 : Int) < (s.size : Int) := by omega
  have hp0 : 0 < s.size := by omega
  by_cases c2 : 16 < s.size
  · have hm : momOk false s.data.toList = false := by
      unfold momOk
      rw [decide_eq_false (show ¬ s.data.toList.length ≤ 16 by rw [size_data]; omega)]
      simp
    rw [hm]
    refine ⟨0, fun w => ?_, fun h => by cases h⟩
    rw [Bool.false_and]
    skip
    clear hm
    have r2 : decide ((16 : Int) < (s.size : Int)) = true := decide_eq_true (by omega)
    have r2b : (16 : Int) < (s.size : Int) := by omega
    clear c1 c2 
    go_enter Tryd.func31, Tryd.ntmps31
    go_wp2
    go_ret2
    exact ⟨rfl, Below.refl _ _⟩
  have r2 : decide ((16 : Int) < (s.size : Int)) = false := decide_eq_false (by omega)
  have r2b : ¬ (16 : Int) < (s.size : Int) := by omega
  have hhd : s.data.toList.head? = some (s[0]'hp0) := head_data s hp0
  by_cases c3 : 1 < s.size ∧ s.data.toList.head? = some 48
  · have hm : momOk false s.data.toList = false := by
      unfold momOk
      rw [decide_eq_true (show 1 < s.data.toList.length by rw [size_data]; exact c3.1), decide_eq_true c3.2]
      simp
    rw [hm]
    refine ⟨0, fun w => ?_, fun h => by cases h⟩
    rw [Bool.false_and]
    skip
    clear hm
    have r3 : decide ((1 : Int) < (s.size : Int)) = true := decide_eq_true (by omega)
    have r3b : (1 : Int) < (s.size : Int) := by omega
    have h8 : s[0]'hp0 = 48 := by have := c3.2; rw [hhd] at this; exact Option.some.inj this
    have r4 : (((s[0]'hp0).toNat : Nat) : Int) = 48 := by rw [h8]; rfl
    clear c1 c2 c3 h8 hhd 
    go_enter Tryd.func31, Tryd.ntmps31
    go_wp2
    go_ret2
    exact ⟨rfl, Below.refl _ _⟩
  have r4 : decide ((1 : Int) < (s.size : Int)) = false ∨ (decide ((1 : Int) < (s.size : Int)) = true ∧ ((((s[0]'hp0).toNat : Nat) : Int) == 48) = false) := by
    by_cases h1 : 1 < s.size
    · refine .inr ⟨decide_eq_true (by omega), ?_⟩
      rw [beq_eq_false_iff_ne]
      intro h
      refine c3 ⟨h1, ?_⟩
      rw [hhd]
      congr 1
      exact UInt8.toNat_inj.1 (by show (s[0]'hp0).toNat = 48; omega)
    · exact .inl (decide_eq_false (by omega))
  have hd16 : s.size ≤ 16 := by omega
  by_cases hall : s.data.toList.all dgB = true
  · have hm : momOk false s.data.toList = true := by
      unfold momOk
      rw [hall, decide_eq_true (by intro h; rw [h] at hhd; cases hhd), decide_eq_true (show s.data.toList.length ≤ 16 by rw [size_data]; omega)]
      have : (decide (1 < s.data.toList.length) && decide (s.data.toList.head? = some 48)) = false := by
        by_cases h1 : 1 < s.size
        · rw [decide_eq_false (fun h => c3 ⟨h1, h⟩), Bool.and_false]
        · rw [decide_eq_false (show ¬ 1 < s.data.toList.length by rw [size_data]; exact h1), Bool.false_and]
      rw [this]
      rfl
    rw [hm, Bool.true_and]
    obtain ⟨NV, hNV⟩ : ∃ v, momN false s.data.toList = v := ⟨_, rfl⟩
    rw [hNV]
    refine ⟨NV, fun w => ?_, fun _ => rfl⟩
    skip
    have Hall := Lib.hid hall
    have HNV := Lib.hid hNV
    clear c1 c2 c3 hhd hm hall hNV 
    rcases r4 with r5 | ⟨r5, r6⟩
    · go_enter Tryd.func31, Tryd.ntmps31
      go_wp2_with fail
      go_loopw [5, 6] (fun t5 t6 wr => ∃ (i : Nat) (nn : Int), t6 = .int .i64 i ∧ t5 = .int .i64 nn ∧ i ≤ s.size ∧ Hid (nn = (numA 0 (s.data.toList.take i) : Int)) ∧ Hid ((s.data.toList.take i).all dgB = true) ∧ Hid (Below w.heap.size w wr)) (fun _ t6 _ => s.size - (intOf t6).toNat)
      case atStart => exact ⟨0, 0, rfl, rfl, Nat.zero_le _, Lib.hid rfl, Lib.hid rfl, Lib.hid (Below.refl _ _)⟩
      case round =>
        obtain ⟨i, nn, rfl, rfl, hi, HN, HA, HB⟩ := hrel
        have hi0 : (i : Int) ≤ 4000000 := by omega
        by_cases hlt : i < s.size
        · have f1 : decide ((i : Int) < (s.size : Int)) = true := decide_eq_true (by omega)
          have f2 : (i : Int) < (s.size : Int) := by omega
          have f3 : (0 : Int) ≤ (i : Int) := by omega
          have hg := at_get s i hlt
          have htk := take_snoc s.data.toList i _ hg
          have hbn := numA_lt _ HA.out
          have hlen : (s.data.toList.take i).length ≤ 15 := by rw [List.length_take, size_data]; omega
          have hpow : 10 ^ (s.data.toList.take i).length ≤ 10 ^ 15 := Nat.pow_le_pow_right (by decide) hlen
          have hnn := HN.out
          have hx8 : (s[i]).toNat < 256 := (s[i]).toNat_lt
          obtain ⟨x, hx⟩ : ∃ x : Int, (((s[i]).toNat : Nat) : Int) = x := ⟨_, rfl⟩
          have hx0 : 0 ≤ x ∧ x ≤ 255 := by omega
          by_cases hdg : dgB s[i] = true
          · have hdd := dgB_iff.1 hdg
            have g1 : decide (x < 48) = false := decide_eq_false (by omega)
            have g2 : decide (57 < x) = false := decide_eq_false (by omega)
            have g3 : ¬ x < 48 := by omega
            have g4 : ¬ 57 < x := by omega
            have w1 : IntKind.u8.wrap (x - 48) = x - 48 := IntWalk.u8_in _ (by omega)
            have hb10 : nn < 1000000000000000 := by omega
            have w2 : IntKind.i64.wrap (10 * nn) = 10 * nn := IntWalk.i64_in _ (by omega)
            have w3 : IntKind.i64.wrap (x - 48) = x - 48 := IntWalk.i64_in _ (by omega)
            have w4 : IntKind.i64.wrap (10 * nn + (x - 48)) = 10 * nn + (x - 48) := IntWalk.i64_in _ (by omega)
            have HN2 := Lib.hid (show 10 * nn + (x - 48) = (numA 0 (s.data.toList.take (i + 1)) : Int) by rw [htk, numA_snoc]; omega)
            have HA2 := Lib.hid (show (s.data.toList.take (i + 1)).all dgB = true by rw [htk, List.all_append, HA.out, List.all_cons, hdg]; rfl)
            clear hg htk hbn hlen hpow hnn hx8 hdg hdd hb10
            go_wp2
            go_roundw
            case rel => exact ⟨i + 1, _, by go_num, rfl, by omega, HN2, HA2, HB⟩
            case measure => simp [intOf]; omega
          · exfalso
            have hq := Hall.out
            exact hdg (List.all_eq_true.1 hq _ (List.mem_of_getElem? hg))
        · have f1 : decide ((i : Int) < (s.size : Int)) = false := decide_eq_false (by omega)
          have f2 : ¬ (i : Int) < (s.size : Int) := by omega
          have hnn := HN.out
          rw [List.take_of_length_le (by rw [size_data]; omega)] at hnn
          have hbn := numA_lt _ Hall.out
          have hpow : 10 ^ s.data.toList.length ≤ 10 ^ 16 := Nat.pow_le_pow_right (by decide) (by rw [size_data]; omega)
          have hnv : NV = nn := by rw [← HNV.out, hnn]; unfold momN; rw [if_neg (by simp)]
          skip
          skip
          skip
          clear hnn hbn hpow
          clear HNV
          generalize hmm : nn = mm at *
          obtain ⟨q, hq⟩ : ∃ q, decide (-9007199254740992 ≤ mm) = q := ⟨_, rfl⟩
          obtain ⟨r, hr⟩ : ∃ q, decide (mm ≤ 9007199254740992) = q := ⟨_, rfl⟩
          have HNv := Lib.hid hnv
          clear hnv 
          cases q
          · go_wp2
            go_ret2
            exact ⟨by rw [HNv.out, hq]; rfl, HB.out⟩
          · go_wp2
            go_ret2
            exact ⟨by rw [HNv.out, hq, hr]; rfl, HB.out⟩
    · go_enter Tryd.func31, Tryd.ntmps31
      go_wp2_with fail
      go_loopw [5, 6] (fun t5 t6 wr => ∃ (i : Nat) (nn : Int), t6 = .int .i64 i ∧ t5 = .int .i64 nn ∧ i ≤ s.size ∧ Hid (nn = (numA 0 (s.data.toList.take i) : Int)) ∧ Hid ((s.data.toList.take i).all dgB = true) ∧ Hid (Below w.heap.size w wr)) (fun _ t6 _ => s.size - (intOf t6).toNat)
      case atStart => exact ⟨0, 0, rfl, rfl, Nat.zero_le _, Lib.hid rfl, Lib.hid rfl, Lib.hid (Below.refl _ _)⟩
      case round =>
        obtain ⟨i, nn, rfl, rfl, hi, HN, HA, HB⟩ := hrel
        have hi0 : (i : Int) ≤ 4000000 := by omega
        by_cases hlt : i < s.size
        · have f1 : decide ((i : Int) < (s.size : Int)) = true := decide_eq_true (by omega)
          have f2 : (i : Int) < (s.size : Int) := by omega
          have f3 : (0 : Int) ≤ (i : Int) := by omega
          have hg := at_get s i hlt
          have htk := take_snoc s.data.toList i _ hg
          have hbn := numA_lt _ HA.out
          have hlen : (s.data.toList.take i).length ≤ 15 := by rw [List.length_take, size_data]; omega
          have hpow : 10 ^ (s.data.toList.take i).length ≤ 10 ^ 15 := Nat.pow_le_pow_right (by decide) hlen
          have hnn := HN.out
          have hx8 : (s[i]).toNat < 256 := (s[i]).toNat_lt
          obtain ⟨x, hx⟩ : ∃ x : Int, (((s[i]).toNat : Nat) : Int) = x := ⟨_, rfl⟩
          have hx0 : 0 ≤ x ∧ x ≤ 255 := by omega
          by_cases hdg : dgB s[i] = true
          · have hdd := dgB_iff.1 hdg
            have g1 : decide (x < 48) = false := decide_eq_false (by omega)
            have g2 : decide (57 < x) = false := decide_eq_false (by omega)
            have g3 : ¬ x < 48 := by omega
            have g4 : ¬ 57 < x := by omega
            have w1 : IntKind.u8.wrap (x - 48) = x - 48 := IntWalk.u8_in _ (by omega)
            have hb10 : nn < 1000000000000000 := by omega
            have w2 : IntKind.i64.wrap (10 * nn) = 10 * nn := IntWalk.i64_in _ (by omega)
            have w3 : IntKind.i64.wrap (x - 48) = x - 48 := IntWalk.i64_in _ (by omega)
            have w4 : IntKind.i64.wrap (10 * nn + (x - 48)) = 10 * nn + (x - 48) := IntWalk.i64_in _ (by omega)
            have HN2 := Lib.hid (show 10 * nn + (x - 48) = (numA 0 (s.data.toList.take (i + 1)) : Int) by rw [htk, numA_snoc]; omega)
            have HA2 := Lib.hid (show (s.data.toList.take (i + 1)).all dgB = true by rw [htk, List.all_append, HA.out, List.all_cons, hdg]; rfl)
            clear hg htk hbn hlen hpow hnn hx8 hdg hdd hb10
            go_wp2
            go_roundw
            case rel => exact ⟨i + 1, _, by go_num, rfl, by omega, HN2, HA2, HB⟩
            case measure => simp [intOf]; omega
          · exfalso
            have hq := Hall.out
            exact hdg (List.all_eq_true.1 hq _ (List.mem_of_getElem? hg))
        · have f1 : decide ((i : Int) < (s.size : Int)) = false := decide_eq_false (by omega)
          have f2 : ¬ (i : Int) < (s.size : Int) := by omega
          have hnn := HN.out
          rw [List.take_of_length_le (by rw [size_data]; omega)] at hnn
          have hbn := numA_lt _ Hall.out
          have hpow : 10 ^ s.data.toList.length ≤ 10 ^ 16 := Nat.pow_le_pow_right (by decide) (by rw [size_data]; omega)
          have hnv : NV = nn := by rw [← HNV.out, hnn]; unfold momN; rw [if_neg (by simp)]
          skip
          skip
          skip
          clear hnn hbn hpow
          clear HNV
          generalize hmm : nn = mm at *
          obtain ⟨q, hq⟩ : ∃ q, decide (-9007199254740992 ≤ mm) = q := ⟨_, rfl⟩
          obtain ⟨r, hr⟩ : ∃ q, decide (mm ≤ 9007199254740992) = q := ⟨_, rfl⟩
          have HNv := Lib.hid hnv
          clear hnv 
          cases q
          · go_wp2
            go_ret2
            exact ⟨by rw [HNv.out, hq]; rfl, HB.out⟩
          · go_wp2
            go_ret2
            exact ⟨by rw [HNv.out, hq, hr]; rfl, HB.out⟩
  · have hm : momOk false s.data.toList = false := by
      unfold momOk
      cases hq : s.data.toList.all dgB
      · simp
      · exact absurd hq hall
    rw [hm]
    refine ⟨0, fun w => ?_, fun h => by cases h⟩
    rw [Bool.false_and]
    skip
    have Hall := Lib.hid hall
    skip
    clear c1 c2 c3 hhd hm hall  
    rcases r4 with r5 | ⟨r5, r6⟩
    · go_enter Tryd.func31, Tryd.ntmps31
      go_wp2_with fail
      go_loopw [5, 6] (fun t5 t6 wr => ∃ (i : Nat) (nn : Int), t6 = .int .i64 i ∧ t5 = .int .i64 nn ∧ i ≤ s.size ∧ Hid (nn = (numA 0 (s.data.toList.take i) : Int)) ∧ Hid ((s.data.toList.take i).all dgB = true) ∧ Hid (Below w.heap.size w wr)) (fun _ t6 _ => s.size - (intOf t6).toNat)
      case atStart => exact ⟨0, 0, rfl, rfl, Nat.zero_le _, Lib.hid rfl, Lib.hid rfl, Lib.hid (Below.refl _ _)⟩
      case round =>
        obtain ⟨i, nn, rfl, rfl, hi, HN, HA, HB⟩ := hrel
        have hi0 : (i : Int) ≤ 4000000 := by omega
        by_cases hlt : i < s.size
        · have f1 : decide ((i : Int) < (s.size : Int)) = true := decide_eq_true (by omega)
          have f2 : (i : Int) < (s.size : Int) := by omega
          have f3 : (0 : Int) ≤ (i : Int) := by omega
          have hg := at_get s i hlt
          have htk := take_snoc s.data.toList i _ hg
          have hbn := numA_lt _ HA.out
          have hlen : (s.data.toList.take i).length ≤ 15 := by rw [List.length_take, size_data]; omega
          have hpow : 10 ^ (s.data.toList.take i).length ≤ 10 ^ 15 := Nat.pow_le_pow_right (by decide) hlen
          have hnn := HN.out
          have hx8 : (s[i]).toNat < 256 := (s[i]).toNat_lt
          obtain ⟨x, hx⟩ : ∃ x : Int, (((s[i]).toNat : Nat) : Int) = x := ⟨_, rfl⟩
          have hx0 : 0 ≤ x ∧ x ≤ 255 := by omega
          by_cases hdg : dgB s[i] = true
          · have hdd := dgB_iff.1 hdg
            have g1 : decide (x < 48) = false := decide_eq_false (by omega)
            have g2 : decide (57 < x) = false := decide_eq_false (by omega)
            have g3 : ¬ x < 48 := by omega
            have g4 : ¬ 57 < x := by omega
            have w1 : IntKind.u8.wrap (x - 48) = x - 48 := IntWalk.u8_in _ (by omega)
            have hb10 : nn < 1000000000000000 := by omega
            have w2 : IntKind.i64.wrap (10 * nn) = 10 * nn := IntWalk.i64_in _ (by omega)
            have w3 : IntKind.i64.wrap (x - 48) = x - 48 := IntWalk.i64_in _ (by omega)
            have w4 : IntKind.i64.wrap (10 * nn + (x - 48)) = 10 * nn + (x - 48) := IntWalk.i64_in _ (by omega)
            have HN2 := Lib.hid (show 10 * nn + (x - 48) = (numA 0 (s.data.toList.take (i + 1)) : Int) by rw [htk, numA_snoc]; omega)
            have HA2 := Lib.hid (show (s.data.toList.take (i + 1)).all dgB = true by rw [htk, List.all_append, HA.out, List.all_cons, hdg]; rfl)
            clear hg htk hbn hlen hpow hnn hx8 hdg hdd hb10
            go_wp2
            go_roundw
            case rel => exact ⟨i + 1, _, by go_num, rfl, by omega, HN2, HA2, HB⟩
            case measure => simp [intOf]; omega
          · have hor : x < 48 ∨ (¬ x < 48 ∧ 57 < x) := by
              rcases Classical.em (x < 48) with h | h
              · exact .inl h
              · refine .inr ⟨h, ?_⟩
                rcases Classical.em (57 < x) with h' | h'
                · exact h'
                · exact absurd (dgB_iff.2 ⟨by omega, by omega⟩) hdg
            clear hg htk hbn hlen hpow hnn hx8 hdg
            rcases hor with g3 | ⟨g3, g4⟩
            · have g1 : decide (x < 48) = true := decide_eq_true g3
              go_wp2
              go_ret2
              exact ⟨rfl, HB.out⟩
            · have g1 : decide (x < 48) = false := decide_eq_false g3
              have g2 : decide (57 < x) = true := decide_eq_true g4
              go_wp2
              go_ret2
              exact ⟨rfl, HB.out⟩
        · exfalso
          have hq := HA.out
          rw [List.take_of_length_le (by rw [size_data]; omega)] at hq
          exact Hall.out hq
    · go_enter Tryd.func31, Tryd.ntmps31
      go_wp2_with fail
      go_loopw [5, 6] (fun t5 t6 wr => ∃ (i : Nat) (nn : Int), t6 = .int .i64 i ∧ t5 = .int .i64 nn ∧ i ≤ s.size ∧ Hid (nn = (numA 0 (s.data.toList.take i) : Int)) ∧ Hid ((s.data.toList.take i).all dgB = true) ∧ Hid (Below w.heap.size w wr)) (fun _ t6 _ => s.size - (intOf t6).toNat)
      case atStart => exact ⟨0, 0, rfl, rfl, Nat.zero_le _, Lib.hid rfl, Lib.hid rfl, Lib.hid (Below.refl _ _)⟩
      case round =>
        obtain ⟨i, nn, rfl, rfl, hi, HN, HA, HB⟩ := hrel
        have hi0 : (i : Int) ≤ 4000000 := by omega
        by_cases hlt : i < s.size
        · have f1 : decide ((i : Int) < (s.size : Int)) = true := decide_eq_true (by omega)
          have f2 : (i : Int) < (s.size : Int) := by omega
          have f3 : (0 : Int) ≤ (i : Int) := by omega
          have hg := at_get s i hlt
          have htk := take_snoc s.data.toList i _ hg
          have hbn := numA_lt _ HA.out
          have hlen : (s.data.toList.take i).length ≤ 15 := by rw [List.length_take, size_data]; omega
          have hpow : 10 ^ (s.data.toList.take i).length ≤ 10 ^ 15 := Nat.pow_le_pow_right (by decide) hlen
          have hnn := HN.out
          have hx8 : (s[i]).toNat < 256 := (s[i]).toNat_lt
          obtain ⟨x, hx⟩ : ∃ x : Int, (((s[i]).toNat : Nat) : Int) = x := ⟨_, rfl⟩
          have hx0 : 0 ≤ x ∧ x ≤ 255 := by omega
          by_cases hdg : dgB s[i] = true
          · have hdd := dgB_iff.1 hdg
            have g1 : decide (x < 48) = false := decide_eq_false (by omega)
            have g2 : decide (57 < x) = false := decide_eq_false (by omega)
            have g3 : ¬ x < 48 := by omega
            have g4 : ¬ 57 < x := by omega
            have w1 : IntKind.u8.wrap (x - 48) = x - 48 := IntWalk.u8_in _ (by omega)
            have hb10 : nn < 1000000000000000 := by omega
            have w2 : IntKind.i64.wrap (10 * nn) = 10 * nn := IntWalk.i64_in _ (by omega)
            have w3 : IntKind.i64.wrap (x - 48) = x - 48 := IntWalk.i64_in _ (by omega)
            have w4 : IntKind.i64.wrap (10 * nn + (x - 48)) = 10 * nn + (x - 48) := IntWalk.i64_in _ (by omega)
            have HN2 := Lib.hid (show 10 * nn + (x - 48) = (numA 0 (s.data.toList.take (i + 1)) : Int) by rw [htk, numA_snoc]; omega)
            have HA2 := Lib.hid (show (s.data.toList.take (i + 1)).all dgB = true by rw [htk, List.all_append, HA.out, List.all_cons, hdg]; rfl)
            clear hg htk hbn hlen hpow hnn hx8 hdg hdd hb10
            go_wp2
            go_roundw
            case rel => exact ⟨i + 1, _, by go_num, rfl, by omega, HN2, HA2, HB⟩
            case measure => simp [intOf]; omega
          · have hor : x < 48 ∨ (¬ x < 48 ∧ 57 < x) := by
              rcases Classical.em (x < 48) with h | h
              · exact .inl h
              · refine .inr ⟨h, ?_⟩
                rcases Classical.em (57 < x) with h' | h'
                · exact h'
                · exact absurd (dgB_iff.2 ⟨by omega, by omega⟩) hdg
            clear hg htk hbn hlen hpow hnn hx8 hdg
            rcases hor with g3 | ⟨g3, g4⟩
            · have g1 : decide (x < 48) = true := decide_eq_true g3
              go_wp2
              go_ret2
              exact ⟨rfl, HB.out⟩
            · have g1 : decide (x < 48) = false := decide_eq_false g3
              have g2 : decide (57 < x) = true := decide_eq_true g4
              go_wp2
              go_ret2
              exact ⟨rfl, HB.out⟩
        · exfalso
          have hq := HA.out
          rw [List.take_of_length_le (by rw [size_data]; omega)] at hq
          exact Hall.out hq
end Go.Proofs.YtnkijpjknbelfaaDoor
