
import Derived.Test.YtglennfjeacpoaaGreatDoorCmp
import Derived.Test.YtglennfjeacpoaaGreatDoorNz
import Derived.Test.YtglennfjeacpoaaGreatDoorA10
namespace Go.Proofs.YtglennfjeacpoaaGreatDoor
open Go.RowKit

/-- The whole number that digits tell. -/
def numL : List UInt8 → Nat
  | [] => 0
  | c :: r => (c.toNat - 48) * 10 ^ r.length + numL r
theorem ten_pos (n : Nat) : 0 < 10 ^ n := Nat.pow_pos (by decide)
theorem numL_append (a b : List UInt8) : numL (a ++ b) = numL a * 10 ^ b.length + numL b := by
  induction a with
  | nil => simp [numL]
  | cons c a ih =>
    rw [List.cons_append, numL, numL, ih, List.length_append, Nat.pow_add, Nat.add_mul, Nat.mul_assoc]
    omega
theorem numL_noughts (k : Nat) : numL (List.replicate k 48) = 0 := by
  induction k with
  | zero => rfl
  | succ k ih => rw [List.replicate_succ, numL, ih]; simp
theorem numL_lt (l : List UInt8) (h : l.all digB = true) : numL l < 10 ^ l.length := by
  induction l with
  | nil => simp [numL]
  | cons c r ih =>
    rw [List.all_cons, Bool.and_eq_true] at h
    have h1 := ih h.2
    have h2 := dig_le h.1
    have h3 : (c.toNat - 48) * 10 ^ r.length ≤ 9 * 10 ^ r.length := Nat.mul_le_mul_right _ (by omega)
    rw [numL, List.length_cons, Nat.pow_succ]
    omega

def cmpN (a b : Nat) : Int := if a < b then -1 else if a = b then 0 else 1
theorem cmpN_mul (a b k : Nat) (hk : 0 < k) : cmpN (a * k) (b * k) = cmpN a b := by
  unfold cmpN
  simp only [Nat.mul_lt_mul_right hk, Nat.mul_left_inj (Nat.pos_iff_ne_zero.1 hk)]
theorem cmpN_mix (M a b x y : Nat) (hx : x < M) (hy : y < M) : cmpN (a * M + x) (b * M + y) = if a < b then -1 else if a = b then cmpN x y else 1 := by
  by_cases h1 : a < b
  · have h : (a + 1) * M ≤ b * M := Nat.mul_le_mul_right _ h1
    rw [Nat.add_mul] at h
    rw [if_pos h1]
    unfold cmpN
    rw [if_pos (by omega)]
  · rw [if_neg h1]
    by_cases h2 : a = b
    · subst h2
      rw [if_pos rfl]
      unfold cmpN
      by_cases h3 : x < y
      · rw [if_pos h3, if_pos (by omega)]
      · rw [if_neg h3, if_neg (by omega)]
        by_cases h4 : x = y
        · rw [if_pos h4, if_pos (by omega)]
        · rw [if_neg h4, if_neg (by omega)]
    · rw [if_neg h2]
      have h : (b + 1) * M ≤ a * M := Nat.mul_le_mul_right _ (by omega)
      rw [Nat.add_mul] at h
      unfold cmpN
      rw [if_neg (by omega), if_neg (by omega)]

theorem three (x y : Nat) (hx : 48 ≤ x) (hy : 48 ≤ y) (z : Int) : (if x < y then -1 else if x = y then z else 1) = (if x - 48 < y - 48 then -1 else if x - 48 = y - 48 then z else 1) := by
  have e1 : (x - 48 < y - 48) ↔ x < y := by omega
  have e2 : (x - 48 = y - 48) ↔ x = y := by omega
  simp only [e1, e2]
theorem cmpS_nil : cmpS [] [] = 0 := rfl
theorem cmpS_less (d : UInt8) (b : List UInt8) : cmpS [] (d :: b) = -1 := rfl
theorem cmpS_more (c : UInt8) (a : List UInt8) : cmpS (c :: a) [] = 1 := rfl
theorem cmpS_cons (c d : UInt8) (a b : List UInt8) : cmpS (c :: a) (d :: b) = if c.toNat < d.toNat then -1 else if c.toNat = d.toNat then cmpS a b else 1 := by
  have hlt : (c < d) ↔ c.toNat < d.toNat := UInt8.lt_iff_toNat_lt
  have heq : (c = d) ↔ c.toNat = d.toNat := UInt8.toNat_inj.symm
  unfold cmpS
  rw [Op.bytesLess]
  by_cases h1 : c.toNat < d.toNat
  · simp [h1, hlt.2 h1]
  · have h1' : ¬ c < d := fun h => h1 (hlt.1 h)
    by_cases h2 : c.toNat = d.toNat
    · have := heq.2 h2
      subst this
      simp [h1']
    · have h2' : ¬ c = d := fun h => h2 (heq.1 h)
      simp [h1, h1', h2, h2']
theorem cmpS_num : ∀ a b : List UInt8, a.all digB = true → b.all digB = true → a.length = b.length → cmpS a b = cmpN (numL a) (numL b)
  | [], [], _, _, _ => rfl
  | [], _ :: _, _, _, h => by simp at h
  | _ :: _, [], _, _, h => by simp at h
  | c :: a, d :: b, ha, hb, h => by
    rw [List.all_cons, Bool.and_eq_true] at ha hb
    have hl : a.length = b.length := by simpa using h
    have h1 := numL_lt a ha.2
    have h2 := numL_lt b hb.2
    have hc := dig_le ha.1
    have hd := dig_le hb.1
    rw [cmpS_cons, numL, numL, hl, cmpN_mix _ _ _ _ _ (hl ▸ h1) h2, cmpS_num a b ha.2 hb.2 hl]
    exact three _ _ hc.1 hd.1 _

/-- No nought at the end. -/
def endsWell (l : List UInt8) : Prop := l.getLast? ≠ some 48
theorem endsWell_tail {c : UInt8} {l : List UInt8} (h : endsWell (c :: l)) : endsWell l := by
  unfold endsWell at *
  cases l with
  | nil => simp
  | cons d r => rwa [List.getLast?_cons_cons] at h
theorem numL_pos : ∀ l : List UInt8, l.all digB = true → endsWell l → l ≠ [] → 0 < numL l
  | [], _, _, h => absurd rfl h
  | [c], ha, he, _ => by
    have hc := dig_le (by simpa using ha : digB c = true)
    have : c.toNat ≠ 48 := fun h => he (by
      have : c = 48 := UInt8.toNat_inj.1 h
      simp [this])
    simp [numL]
    omega
  | c :: d :: r, ha, he, _ => by
    rw [List.all_cons, Bool.and_eq_true] at ha
    have := numL_pos (d :: r) ha.2 (endsWell_tail he) (by simp)
    rw [numL]
    omega
theorem cmpS_part : ∀ a b : List UInt8, a.all digB = true → b.all digB = true → endsWell a → endsWell b → cmpS a b = cmpN (numL a * 10 ^ b.length) (numL b * 10 ^ a.length)
  | [], [], _, _, _, _ => rfl
  | [], d :: b, _, hb, _, he => by
    have := numL_pos (d :: b) hb he (by simp)
    rw [cmpS_less]
    simp [cmpN, numL] at *
    omega
  | c :: a, [], ha, _, he, _ => by
    have := numL_pos (c :: a) ha he (by simp)
    rw [cmpS_more]
    simp [cmpN, numL] at *
    omega
  | c :: a, d :: b, ha, hb, hea, heb => by
    rw [List.all_cons, Bool.and_eq_true] at ha hb
    have h1 := numL_lt a ha.2
    have h2 := numL_lt b hb.2
    have hc := dig_le ha.1
    have hd := dig_le hb.1
    have g1 : numL a * 10 ^ b.length < 10 ^ a.length * 10 ^ b.length := Nat.mul_lt_mul_of_pos_right h1 (ten_pos _)
    have g2 : numL b * 10 ^ a.length < 10 ^ a.length * 10 ^ b.length := by
      rw [Nat.mul_comm (10 ^ a.length)]
      exact Nat.mul_lt_mul_of_pos_right h2 (ten_pos _)
    have e1 : numL (c :: a) * 10 ^ (d :: b).length = ((c.toNat - 48) * (10 ^ a.length * 10 ^ b.length) + numL a * 10 ^ b.length) * 10 := by
      rw [numL, List.length_cons, Nat.pow_succ, ← Nat.mul_assoc, Nat.add_mul, Nat.mul_assoc (c.toNat - 48)]
    have e2 : numL (d :: b) * 10 ^ (c :: a).length = ((d.toNat - 48) * (10 ^ a.length * 10 ^ b.length) + numL b * 10 ^ a.length) * 10 := by
      rw [numL, List.length_cons, Nat.pow_succ, ← Nat.mul_assoc, Nat.add_mul, Nat.mul_assoc (d.toNat - 48), Nat.mul_comm (10 ^ b.length)]
    rw [cmpS_cons, e1, e2, cmpN_mul _ _ _ (by decide), cmpN_mix _ _ _ _ _ g1 g2, cmpS_part a b ha.2 hb.2 (endsWell_tail hea) (endsWell_tail heb)]
    exact three _ _ hc.1 hd.1 _

theorem trimL_num (l : List UInt8) : numL (Lib.trimLeftB l 48) = numL l := by
  obtain ⟨k, hk⟩ := drop48 l
  have := congrArg numL hk
  rw [numL_append, numL_noughts] at this
  unfold Lib.trimLeftB
  omega
theorem trimL_digs {l : List UInt8} (h : l.all digB = true) : (Lib.trimLeftB l 48).all digB = true := by
  obtain ⟨k, hk⟩ := drop48 l
  rw [hk, List.all_append, Bool.and_eq_true] at h
  exact h.2
theorem trimR_digs {l : List UInt8} (h : l.all digB = true) : (Lib.trimRightB l 48).all digB = true := by
  obtain ⟨k, hk⟩ := trimR_split l
  rw [hk, List.all_append, Bool.and_eq_true] at h
  exact h.1
theorem trimR_ends (l : List UInt8) : endsWell (Lib.trimRightB l 48) := by
  unfold endsWell Lib.trimRightB
  rw [List.getLast?_reverse]
  exact drop48_head _
theorem parts_num (p q : List UInt8) (hp : p.all digB = true) (hq : q.all digB = true) : cmpS (Lib.trimRightB p 48) (Lib.trimRightB q 48) = cmpN (numL p * 10 ^ q.length) (numL q * 10 ^ p.length) := by
  rw [cmpS_part _ _ (trimR_digs hp) (trimR_digs hq) (trimR_ends p) (trimR_ends q)]
  obtain ⟨i, hi⟩ := trimR_split p
  obtain ⟨j, hj⟩ := trimR_split q
  generalize Lib.trimRightB p 48 = a at *
  generalize Lib.trimRightB q 48 = b at *
  subst hi hj
  rw [← cmpN_mul _ _ (10 ^ i * 10 ^ j) (Nat.mul_pos (ten_pos _) (ten_pos _))]
  rw [numL_append, numL_append, numL_noughts, numL_noughts]
  simp only [List.length_append, List.length_replicate, Nat.pow_add, Nat.add_zero]
  congr 1 <;> ac_rfl

theorem head_pow {l : List UInt8} (h : l.all digB = true) (hh : l.head? ≠ some 48) (hl : l ≠ []) : 10 ^ (l.length - 1) ≤ numL l := by
  cases l with
  | nil => exact absurd rfl hl
  | cons c r =>
    rw [List.all_cons, Bool.and_eq_true] at h
    have hc := dig_le h.1
    have : c.toNat ≠ 48 := fun e => hh (by
      have : c = 48 := UInt8.toNat_inj.1 e
      simp [this])
    have h3 : 1 * 10 ^ r.length ≤ (c.toNat - 48) * 10 ^ r.length := Nat.mul_le_mul_right _ (by omega)
    rw [numL]
    simp only [List.length_cons, Nat.add_sub_cancel]
    omega
theorem wholes_less {a b : List UInt8} (ha : a.all digB = true) (hb : b.all digB = true) (hh : b.head? ≠ some 48) (hl : a.length < b.length) : numL a < numL b := by
  have h1 := numL_lt a ha
  have h2 := head_pow hb hh (by intro e; rw [e] at hl; simp at hl)
  have h3 : 10 ^ a.length ≤ 10 ^ (b.length - 1) := Nat.pow_le_pow_right (by decide) (by omega)
  omega
theorem wholes_num (a b : List UInt8) (ha : a.all digB = true) (hb : b.all digB = true) (hha : a.head? ≠ some 48) (hhb : b.head? ≠ some 48) (z : Int) :
    cszV (Lib.compareInt a.length b.length) (cmpS a b) z = if numL a < numL b then -1 else if numL a = numL b then z else 1 := by
  by_cases h1 : a.length < b.length
  · have := wholes_less ha hb hhb h1
    have e : Lib.compareInt a.length b.length = -1 := by
      unfold Lib.compareInt
      rw [if_pos (by omega)]
    rw [e, if_pos this]
    rfl
  · by_cases h2 : b.length < a.length
    · have := wholes_less hb ha hha h2
      have e : Lib.compareInt a.length b.length = 1 := by
        unfold Lib.compareInt
        rw [if_neg (by omega), if_pos (by omega)]
      rw [e, if_neg (by omega), if_neg (by omega)]
      rfl
    · have hl : a.length = b.length := by omega
      have e : Lib.compareInt a.length b.length = 0 := by
        unfold Lib.compareInt
        rw [if_neg (by omega), if_neg (by omega)]
      rw [e, cmpS_num a b ha hb hl]
      unfold cszV cmpN
      rw [if_pos rfl]
      by_cases h3 : numL a < numL b
      · simp [h3]
      · by_cases h4 : numL a = numL b
        · simp [h4]
        · simp [h3, h4]
theorem all_drop {l : List UInt8} (h : l.all digB = true) (n : Nat) : (l.drop n).all digB = true :=
  List.all_eq_true.2 fun c hc => List.all_eq_true.1 h c (List.mem_of_mem_drop hc)
theorem numL_cut (l : List UInt8) (k : Nat) (hk : k ≤ l.length) : numL l = numL (l.take (l.length - k)) * 10 ^ k + numL (l.drop (l.length - k)) := by
  have e := congrArg numL (List.take_append_drop (l.length - k) l)
  rw [numL_append, List.length_drop] at e
  rw [← e]
  congr 3
  omega
theorem sizeC_num (l1 l2 : List UInt8) (k1 k2 : Nat) (h1 : l1.all digB = true) (h2 : l2.all digB = true) (hk1 : k1 ≤ l1.length) (hk2 : k2 ≤ l2.length) :
    sizeC l1 k1 l2 k2 = cmpN (numL l1 * 10 ^ k2) (numL l2 * 10 ^ k1) := by
  have d1 : (l1.drop (l1.length - k1)).length = k1 := by rw [List.length_drop]; omega
  have d2 : (l2.drop (l2.length - k2)).length = k2 := by rw [List.length_drop]; omega
  have b1 := numL_lt _ (all_drop h1 (l1.length - k1))
  have b2 := numL_lt _ (all_drop h2 (l2.length - k2))
  rw [d1] at b1
  rw [d2] at b2
  have hp := parts_num (l1.drop (l1.length - k1)) (l2.drop (l2.length - k2)) (all_drop h1 _) (all_drop h2 _)
  rw [d1, d2] at hp
  unfold sizeC
  rw [wholes_num _ _ (trimL_digs (all_take h1 _)) (trimL_digs (all_take h2 _)) (drop48_head _) (drop48_head _), hp, trimL_num, trimL_num, numL_cut l1 k1 hk1, numL_cut l2 k2 hk2]
  generalize numL (l1.take (l1.length - k1)) = a
  generalize numL (l2.take (l2.length - k2)) = b
  generalize numL (l1.drop (l1.length - k1)) = x at *
  generalize numL (l2.drop (l2.length - k2)) = y at *
  have g1 : x * 10 ^ k2 < 10 ^ k1 * 10 ^ k2 := Nat.mul_lt_mul_of_pos_right b1 (ten_pos _)
  have g2 : y * 10 ^ k1 < 10 ^ k1 * 10 ^ k2 := by
    rw [Nat.mul_comm (10 ^ k1)]
    exact Nat.mul_lt_mul_of_pos_right b2 (ten_pos _)
  rw [Nat.add_mul, Nat.add_mul, Nat.mul_assoc, Nat.mul_assoc, Nat.mul_comm (10 ^ k2) (10 ^ k1), cmpN_mix _ _ _ _ _ g1 g2]

theorem zeroB_num (l : List UInt8) (h : l.all digB = true) : zeroB l = decide (numL l = 0) := by
  obtain ⟨k, hk⟩ := trimR_split l
  have e : numL l = numL (Lib.trimLeftB (Lib.trimRightB l 48) 48) * 10 ^ k := by
    have := congrArg numL hk
    rw [numL_append, numL_noughts, List.length_replicate, ← trimL_num (Lib.trimRightB l 48)] at this
    exact this
  have hd := trimL_digs (trimR_digs h)
  unfold zeroB Lib.trimB
  cases hc : Lib.trimLeftB (Lib.trimRightB l 48) 48 with
  | nil =>
    rw [hc] at e
    simp [numL] at e
    simp [e]
  | cons c r =>
    have hp := head_pow hd (drop48_head _) (by rw [hc]; simp)
    have : 0 < numL l := by
      rw [e]
      exact Nat.mul_pos (Nat.lt_of_lt_of_le (ten_pos _) hp) (ten_pos _)
    simp
    omega

/-- A number with its sign; the order of two. -/
def sv (n : Bool) (x : Nat) : Int := if n = true then -(x : Int) else x
def cmpZ (a b : Int) : Int := if a < b then -1 else if a = b then 0 else 1
theorem decC_num (n1 n2 : Bool) (l1 l2 : List UInt8) (k1 k2 : Nat) (h1 : l1.all digB = true) (h2 : l2.all digB = true) (hk1 : k1 ≤ l1.length) (hk2 : k2 ≤ l2.length) :
    decC n1 l1 k1 n2 l2 k2 = cmpZ (sv n1 (numL l1 * 10 ^ k2)) (sv n2 (numL l2 * 10 ^ k1)) := by
  unfold decC
  rw [sizeC_num l1 l2 k1 k2 h1 h2 hk1 hk2, sizeC_num l2 l1 k2 k1 h2 h1 hk2 hk1, zeroB_num l1 h1, zeroB_num l2 h2]
  have z1 : numL l1 = 0 ↔ numL l1 * 10 ^ k2 = 0 := by
    constructor
    · intro e; simp [e]
    · intro e; rcases Nat.mul_eq_zero.1 e with e | e
      · exact e
      · exact absurd e (Nat.pos_iff_ne_zero.1 (ten_pos _))
  have z2 : numL l2 = 0 ↔ numL l2 * 10 ^ k1 = 0 := by
    constructor
    · intro e; simp [e]
    · intro e; rcases Nat.mul_eq_zero.1 e with e | e
      · exact e
      · exact absurd e (Nat.pos_iff_ne_zero.1 (ten_pos _))
  simp only [z1, z2]
  generalize numL l1 * 10 ^ k2 = x
  generalize numL l2 * 10 ^ k1 = y
  unfold cmpV cmpN cmpZ sv
  cases n1 <;> cases n2 <;> by_cases hx : x = 0 <;> by_cases hy : y = 0 <;> simp [hx, hy] <;> (repeat' split) <;> omega
theorem cmpZ_le (a b : Int) : cmpZ a b ≤ 0 ↔ a ≤ b := by
  unfold cmpZ
  split
  · omega
  · split <;> omega
theorem sv_mul (n : Bool) (x k : Nat) : sv n (x * k) = sv n x * (k : Int) := by
  unfold sv
  cases n <;> simp [Int.neg_mul]
theorem sv_le_mul (n m : Bool) (x y k : Nat) (hk : 0 < k) : sv n (x * k) ≤ sv m (y * k) ↔ sv n x ≤ sv m y := by
  rw [sv_mul, sv_mul]
  exact Int.mul_le_mul_right (by omega)

/-- What is less than something that is less than a third is less than that. -/
theorem decC_trans (n1 n2 n3 : Bool) (l1 l2 l3 : List UInt8) (k1 k2 k3 : Nat) (h1 : l1.all digB = true) (h2 : l2.all digB = true) (h3 : l3.all digB = true) (hk1 : k1 ≤ l1.length) (hk2 : k2 ≤ l2.length) (hk3 : k3 ≤ l3.length)
    (a : decC n1 l1 k1 n2 l2 k2 ≤ 0) (b : decC n2 l2 k2 n3 l3 k3 ≤ 0) : decC n1 l1 k1 n3 l3 k3 ≤ 0 := by
  rw [decC_num _ _ _ _ _ _ h1 h2 hk1 hk2, cmpZ_le, ← sv_le_mul _ _ _ _ (10 ^ k3) (ten_pos _)] at a
  rw [decC_num _ _ _ _ _ _ h2 h3 hk2 hk3, cmpZ_le, ← sv_le_mul _ _ _ _ (10 ^ k1) (ten_pos _)] at b
  rw [decC_num _ _ _ _ _ _ h1 h3 hk1 hk3, cmpZ_le, ← sv_le_mul _ _ _ _ (10 ^ k2) (ten_pos _)]
  have e1 : numL l1 * 10 ^ k3 * 10 ^ k2 = numL l1 * 10 ^ k2 * 10 ^ k3 := by ac_rfl
  have e2 : numL l2 * 10 ^ k1 * 10 ^ k3 = numL l2 * 10 ^ k3 * 10 ^ k1 := by ac_rfl
  have e3 : numL l3 * 10 ^ k2 * 10 ^ k1 = numL l3 * 10 ^ k1 * 10 ^ k2 := by ac_rfl
  rw [e1]
  rw [e2] at a
  rw [e3] at b
  exact Int.le_trans a b
end Go.Proofs.YtglennfjeacpoaaGreatDoor
