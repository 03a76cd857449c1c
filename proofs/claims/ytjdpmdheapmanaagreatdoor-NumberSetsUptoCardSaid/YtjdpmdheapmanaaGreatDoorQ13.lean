/-
  Several texts put together (part 13): what the law and the program call, walked; their contracts.
-/
import Derived.Test.YtjdpmdheapmanaaGreatDoorQ12
import Derived.Test.YtjdpmdheapmanaaGreatDoorQ3
namespace Go.Proofs.YtjdpmdheapmanaaGreatDoor
open Go.RowKit
def numL : List UInt8 → Nat
  | [] => 0
  | c :: r => (c.toNat - 48) * 10 ^ r.length + numL r
theorem ten_pos (n : Nat) : 0 < 10 ^ n := Nat.pow_pos (by decide)
theorem numL_append (a b : List UInt8) : numL (a ++ b) = numL a * 10 ^ b.length + numL b := by
  induction a with
  | nil => simp [numL]
  | cons c a ih =>
    rw [List.cons_append, numL, numL, ih, List.length_append, Nat.pow_add, Nat.add_mul, Nat.mul_assoc]
    omega
theorem numL_noughts (k : Nat) : numL (List.replicate k 48) = 0 := by
  induction k with
  | zero => rfl
  | succ k ih => rw [List.replicate_succ, numL, ih]; simp
theorem numL_lt (l : List UInt8) (h : l.all digB = true) : numL l < 10 ^ l.length := by
  induction l with
  | nil => simp [numL]
  | cons c r ih =>
    rw [List.all_cons, Bool.and_eq_true] at h
    have h1 := ih h.2
    have h2 := dig_le h.1
    have h3 : (c.toNat - 48) * 10 ^ r.length ≤ 9 * 10 ^ r.length := Nat.mul_le_mul_right _ (by omega)
    rw [numL, List.length_cons, Nat.pow_succ]
    omega
def cmpN (a b : Nat) : Int := if a < b then -1 else if a = b then 0 else 1
theorem cmpN_mul (a b k : Nat) (hk : 0 < k) : cmpN (a * k) (b * k) = cmpN a b := by
  unfold cmpN
  simp only [Nat.mul_lt_mul_right hk, Nat.mul_left_inj (Nat.pos_iff_ne_zero.1 hk)]
theorem cmpN_mix (M a b x y : Nat) (hx : x < M) (hy : y < M) : cmpN (a * M + x) (b * M + y) = if a < b then -1 else if a = b then cmpN x y else 1 := by
  by_cases h1 : a < b
  · have h : (a + 1) * M ≤ b * M := Nat.mul_le_mul_right _ h1
    rw [Nat.add_mul] at h
    rw [if_pos h1]
    unfold cmpN
    rw [if_pos (by omega)]
  · rw [if_neg h1]
    by_cases h2 : a = b
    · subst h2
      rw [if_pos rfl]
      unfold cmpN
      by_cases h3 : x < y
      · rw [if_pos h3, if_pos (by omega)]
      · rw [if_neg h3, if_neg (by omega)]
        by_cases h4 : x = y
        · rw [if_pos h4, if_pos (by omega)]
        · rw [if_neg h4, if_neg (by omega)]
    · rw [if_neg h2]
      have h : (b + 1) * M ≤ a * M := Nat.mul_le_mul_right _ (by omega)
      rw [Nat.add_mul] at h
      unfold cmpN
      rw [if_neg (by omega), if_neg (by omega)]
theorem three (x y : Nat) (hx : 48 ≤ x) (hy : 48 ≤ y) (z : Int) : (if x < y then -1 else if x = y then z else 1) = (if x - 48 < y - 48 then -1 else if x - 48 = y - 48 then z else 1) := by
  have e1 : (x - 48 < y - 48) ↔ x < y := by omega
  have e2 : (x - 48 = y - 48) ↔ x = y := by omega
  simp only [e1, e2]
theorem cmpS_nil : cmpS [] [] = 0 := rfl
theorem cmpS_less (d : UInt8) (b : List UInt8) : cmpS [] (d :: b) = -1 := rfl
theorem cmpS_more (c : UInt8) (a : List UInt8) : cmpS (c :: a) [] = 1 := rfl
theorem cmpS_cons (c d : UInt8) (a b : List UInt8) : cmpS (c :: a) (d :: b) = if c.toNat < d.toNat then -1 else if c.toNat = d.toNat then cmpS a b else 1 := by
  have hlt : (c < d) ↔ c.toNat < d.toNat := UInt8.lt_iff_toNat_lt
  have heq : (c = d) ↔ c.toNat = d.toNat := UInt8.toNat_inj.symm
  unfold cmpS
  rw [Op.bytesLess]
  by_cases h1 : c.toNat < d.toNat
  · simp [h1, hlt.2 h1]
  · have h1' : ¬ c < d := fun h => h1 (hlt.1 h)
    by_cases h2 : c.toNat = d.toNat
    · have := heq.2 h2
      subst this
      simp [h1']
    · have h2' : ¬ c = d := fun h => h2 (heq.1 h)
      simp [h1, h1', h2, h2']
theorem cmpS_num : ∀ a b : List UInt8, a.all digB = true → b.all digB = true → a.length = b.length → cmpS a b = cmpN (numL a) (numL b)
  | [], [], _, _, _ => rfl
  | [], _ :: _, _, _, h => by simp at h
  | _ :: _, [], _, _, h => by simp at h
  | c :: a, d :: b, ha, hb, h => by
    rw [List.all_cons, Bool.and_eq_true] at ha hb
    have hl : a.length = b.length := by simpa using h
    have h1 := numL_lt a ha.2
    have h2 := numL_lt b hb.2
    have hc := dig_le ha.1
    have hd := dig_le hb.1
    rw [cmpS_cons, numL, numL, hl, cmpN_mix _ _ _ _ _ (hl ▸ h1) h2, cmpS_num a b ha.2 hb.2 hl]
    exact three _ _ hc.1 hd.1 _
def endsWell (l : List UInt8) : Prop := l.getLast? ≠ some 48
theorem endsWell_tail {c : UInt8} {l : List UInt8} (h : endsWell (c :: l)) : endsWell l := by
  unfold endsWell at *
  cases l with
  | nil => simp
  | cons d r => rwa [List.getLast?_cons_cons] at h
theorem numL_pos : ∀ l : List UInt8, l.all digB = true → endsWell l → l ≠ [] → 0 < numL l
  | [], _, _, h => absurd rfl h
  | [c], ha, he, _ => by
    have hc := dig_le (by simpa using ha : digB c = true)
    have : c.toNat ≠ 48 := fun h => he (by
      have : c = 48 := UInt8.toNat_inj.1 h
      simp [this])
    simp [numL]
    omega
  | c :: d :: r, ha, he, _ => by
    rw [List.all_cons, Bool.and_eq_true] at ha
    have := numL_pos (d :: r) ha.2 (endsWell_tail he) (by simp)
    rw [numL]
    omega
theorem cmpS_part : ∀ a b : List UInt8, a.all digB = true → b.all digB = true → endsWell a → endsWell b → cmpS a b = cmpN (numL a * 10 ^ b.length) (numL b * 10 ^ a.length)
  | [], [], _, _, _, _ => rfl
  | [], d :: b, _, hb, _, he => by
    have := numL_pos (d :: b) hb he (by simp)
    rw [cmpS_less]
    simp [cmpN, numL] at *
    omega
  | c :: a, [], ha, _, he, _ => by
    have := numL_pos (c :: a) ha he (by simp)
    rw [cmpS_more]
    simp [cmpN, numL] at *
    omega
  | c :: a, d :: b, ha, hb, hea, heb => by
    rw [List.all_cons, Bool.and_eq_true] at ha hb
    have h1 := numL_lt a ha.2
    have h2 := numL_lt b hb.2
    have hc := dig_le ha.1
    have hd := dig_le hb.1
    have g1 : numL a * 10 ^ b.length < 10 ^ a.length * 10 ^ b.length := Nat.mul_lt_mul_of_pos_right h1 (ten_pos _)
    have g2 : numL b * 10 ^ a.length < 10 ^ a.length * 10 ^ b.length := by
      rw [Nat.mul_comm (10 ^ a.length)]
      exact Nat.mul_lt_mul_of_pos_right h2 (ten_pos _)
    have e1 : numL (c :: a) * 10 ^ (d :: b).length = ((c.toNat - 48) * (10 ^ a.length * 10 ^ b.length) + numL a * 10 ^ b.length) * 10 := by
      rw [numL, List.length_cons, Nat.pow_succ, ← Nat.mul_assoc, Nat.add_mul, Nat.mul_assoc (c.toNat - 48)]
    have e2 : numL (d :: b) * 10 ^ (c :: a).length = ((d.toNat - 48) * (10 ^ a.length * 10 ^ b.length) + numL b * 10 ^ a.length) * 10 := by
      rw [numL, List.length_cons, Nat.pow_succ, ← Nat.mul_assoc, Nat.add_mul, Nat.mul_assoc (d.toNat - 48), Nat.mul_comm (10 ^ b.length)]
    rw [cmpS_cons, e1, e2, cmpN_mul _ _ _ (by decide), cmpN_mix _ _ _ _ _ g1 g2, cmpS_part a b ha.2 hb.2 (endsWell_tail hea) (endsWell_tail heb)]
    exact three _ _ hc.1 hd.1 _
theorem trimL_num (l : List UInt8) : numL (Lib.trimLeftB l 48) = numL l := by
  obtain ⟨k, hk⟩ := drop48 l
  have := congrArg numL hk
  rw [numL_append, numL_noughts] at this
  unfold Lib.trimLeftB
  omega
theorem trimL_digs {l : List UInt8} (h : l.all digB = true) : (Lib.trimLeftB l 48).all digB = true := by
  obtain ⟨k, hk⟩ := drop48 l
  rw [hk, List.all_append, Bool.and_eq_true] at h
  exact h.2
theorem trimR_digs {l : List UInt8} (h : l.all digB = true) : (Lib.trimRightB l 48).all digB = true := by
  obtain ⟨k, hk⟩ := trimR_split l
  rw [hk, List.all_append, Bool.and_eq_true] at h
  exact h.1
theorem trimR_ends (l : List UInt8) : endsWell (Lib.trimRightB l 48) := by
  unfold endsWell Lib.trimRightB
  rw [List.getLast?_reverse]
  exact drop48_head _
theorem parts_num (p q : List UInt8) (hp : p.all digB = true) (hq : q.all digB = true) : cmpS (Lib.trimRightB p 48) (Lib.trimRightB q 48) = cmpN (numL p * 10 ^ q.length) (numL q * 10 ^ p.length) := by
  rw [cmpS_part _ _ (trimR_digs hp) (trimR_digs hq) (trimR_ends p) (trimR_ends q)]
  obtain ⟨i, hi⟩ := trimR_split p
  obtain ⟨j, hj⟩ := trimR_split q
  generalize Lib.trimRightB p 48 = a at *
  generalize Lib.trimRightB q 48 = b at *
  subst hi hj
  rw [← cmpN_mul _ _ (10 ^ i * 10 ^ j) (Nat.mul_pos (ten_pos _) (ten_pos _))]
  rw [numL_append, numL_append, numL_noughts, numL_noughts]
  simp only [List.length_append, List.length_replicate, Nat.pow_add, Nat.add_zero]
  congr 1 <;> ac_rfl
theorem head_pow {l : List UInt8} (h : l.all digB = true) (hh : l.head? ≠ some 48) (hl : l ≠ []) : 10 ^ (l.length - 1) ≤ numL l := by
  cases l with
  | nil => exact absurd rfl hl
  | cons c r =>
    rw [List.all_cons, Bool.and_eq_true] at h
    have hc := dig_le h.1
    have : c.toNat ≠ 48 := fun e => hh (by
      have : c = 48 := UInt8.toNat_inj.1 e
      simp [this])
    have h3 : 1 * 10 ^ r.length ≤ (c.toNat - 48) * 10 ^ r.length := Nat.mul_le_mul_right _ (by omega)
    rw [numL]
    simp only [List.length_cons, Nat.add_sub_cancel]
    omega
theorem wholes_less {a b : List UInt8} (ha : a.all digB = true) (hb : b.all digB = true) (hh : b.head? ≠ some 48) (hl : a.length < b.length) : numL a < numL b := by
  have h1 := numL_lt a ha
  have h2 := head_pow hb hh (by intro e; rw [e] at hl; simp at hl)
  have h3 : 10 ^ a.length ≤ 10 ^ (b.length - 1) := Nat.pow_le_pow_right (by decide) (by omega)
  omega
theorem wholes_num (a b : List UInt8) (ha : a.all digB = true) (hb : b.all digB = true) (hha : a.head? ≠ some 48) (hhb : b.head? ≠ some 48) (z : Int) :
    cszV (Lib.compareInt a.length b.length) (cmpS a b) z = if numL a < numL b then -1 else if numL a = numL b then z else 1 := by
  by_cases h1 : a.length < b.length
  · have := wholes_less ha hb hhb h1
    have e : Lib.compareInt a.length b.length = -1 := by
      unfold Lib.compareInt
      rw [if_pos (by omega)]
    rw [e, if_pos this]
    rfl
  · by_cases h2 : b.length < a.length
    · have := wholes_less hb ha hha h2
      have e : Lib.compareInt a.length b.length = 1 := by
        unfold Lib.compareInt
        rw [if_neg (by omega), if_pos (by omega)]
      rw [e, if_neg (by omega), if_neg (by omega)]
      rfl
    · have hl : a.length = b.length := by omega
      have e : Lib.compareInt a.length b.length = 0 := by
        unfold Lib.compareInt
        rw [if_neg (by omega), if_neg (by omega)]
      rw [e, cmpS_num a b ha hb hl]
      unfold cszV cmpN
      rw [if_pos rfl]
      by_cases h3 : numL a < numL b
      · simp [h3]
      · by_cases h4 : numL a = numL b
        · simp [h4]
        · simp [h3, h4]
theorem all_drop {l : List UInt8} (h : l.all digB = true) (n : Nat) : (l.drop n).all digB = true :=
  List.all_eq_true.2 fun c hc => List.all_eq_true.1 h c (List.mem_of_mem_drop hc)
theorem numL_cut (l : List UInt8) (k : Nat) (hk : k ≤ l.length) : numL l = numL (l.take (l.length - k)) * 10 ^ k + numL (l.drop (l.length - k)) := by
  have e := congrArg numL (List.take_append_drop (l.length - k) l)
  rw [numL_append, List.length_drop] at e
  rw [← e]
  congr 3
  omega
theorem sizeC_num (l1 l2 : List UInt8) (k1 k2 : Nat) (h1 : l1.all digB = true) (h2 : l2.all digB = true) (hk1 : k1 ≤ l1.length) (hk2 : k2 ≤ l2.length) :
    sizeC l1 k1 l2 k2 = cmpN (numL l1 * 10 ^ k2) (numL l2 * 10 ^ k1) := by
  have d1 : (l1.drop (l1.length - k1)).length = k1 := by rw [List.length_drop]; omega
  have d2 : (l2.drop (l2.length - k2)).length = k2 := by rw [List.length_drop]; omega
  have b1 := numL_lt _ (all_drop h1 (l1.length - k1))
  have b2 := numL_lt _ (all_drop h2 (l2.length - k2))
  rw [d1] at b1
  rw [d2] at b2
  have hp := parts_num (l1.drop (l1.length - k1)) (l2.drop (l2.length - k2)) (all_drop h1 _) (all_drop h2 _)
  rw [d1, d2] at hp
  unfold sizeC
  rw [wholes_num _ _ (trimL_digs (all_take h1 _)) (trimL_digs (all_take h2 _)) (drop48_head _) (drop48_head _), hp, trimL_num, trimL_num, numL_cut l1 k1 hk1, numL_cut l2 k2 hk2]
  generalize numL (l1.take (l1.length - k1)) = a
  generalize numL (l2.take (l2.length - k2)) = b
  generalize numL (l1.drop (l1.length - k1)) = x at *
  generalize numL (l2.drop (l2.length - k2)) = y at *
  have g1 : x * 10 ^ k2 < 10 ^ k1 * 10 ^ k2 := Nat.mul_lt_mul_of_pos_right b1 (ten_pos _)
  have g2 : y * 10 ^ k1 < 10 ^ k1 * 10 ^ k2 := by
    rw [Nat.mul_comm (10 ^ k1)]
    exact Nat.mul_lt_mul_of_pos_right b2 (ten_pos _)
  rw [Nat.add_mul, Nat.add_mul, Nat.mul_assoc, Nat.mul_assoc, Nat.mul_comm (10 ^ k2) (10 ^ k1), cmpN_mix _ _ _ _ _ g1 g2]
theorem zeroB_num (l : List UInt8) (h : l.all digB = true) : zeroB l = decide (numL l = 0) := by
  obtain ⟨k, hk⟩ := trimR_split l
  have e : numL l = numL (Lib.trimLeftB (Lib.trimRightB l 48) 48) * 10 ^ k := by
    have := congrArg numL hk
    rw [numL_append, numL_noughts, List.length_replicate, ← trimL_num (Lib.trimRightB l 48)] at this
    exact this
  have hd := trimL_digs (trimR_digs h)
  unfold zeroB Lib.trimB
  cases hc : Lib.trimLeftB (Lib.trimRightB l 48) 48 with
  | nil =>
    rw [hc] at e
    simp [numL] at e
    simp [e]
  | cons c r =>
    have hp := head_pow hd (drop48_head _) (by rw [hc]; simp)
    have : 0 < numL l := by
      rw [e]
      exact Nat.mul_pos (Nat.lt_of_lt_of_le (ten_pos _) hp) (ten_pos _)
    simp
    omega
def sv (n : Bool) (x : Nat) : Int := if n = true then -(x : Int) else x
def cmpZ (a b : Int) : Int := if a < b then -1 else if a = b then 0 else 1
theorem decC_num (n1 n2 : Bool) (l1 l2 : List UInt8) (k1 k2 : Nat) (h1 : l1.all digB = true) (h2 : l2.all digB = true) (hk1 : k1 ≤ l1.length) (hk2 : k2 ≤ l2.length) :
    decC n1 l1 k1 n2 l2 k2 = cmpZ (sv n1 (numL l1 * 10 ^ k2)) (sv n2 (numL l2 * 10 ^ k1)) := by
  unfold decC
  rw [sizeC_num l1 l2 k1 k2 h1 h2 hk1 hk2, sizeC_num l2 l1 k2 k1 h2 h1 hk2 hk1, zeroB_num l1 h1, zeroB_num l2 h2]
  have z1 : numL l1 = 0 ↔ numL l1 * 10 ^ k2 = 0 := by
    constructor
    · intro e; simp [e]
    · intro e; rcases Nat.mul_eq_zero.1 e with e | e
      · exact e
      · exact absurd e (Nat.pos_iff_ne_zero.1 (ten_pos _))
  have z2 : numL l2 = 0 ↔ numL l2 * 10 ^ k1 = 0 := by
    constructor
    · intro e; simp [e]
    · intro e; rcases Nat.mul_eq_zero.1 e with e | e
      · exact e
      · exact absurd e (Nat.pos_iff_ne_zero.1 (ten_pos _))
  simp only [z1, z2]
  generalize numL l1 * 10 ^ k2 = x
  generalize numL l2 * 10 ^ k1 = y
  unfold cmpV cmpN cmpZ sv
  cases n1 <;> cases n2 <;> by_cases hx : x = 0 <;> by_cases hy : y = 0 <;> simp [hx, hy] <;> (repeat' split) <;> omega
theorem cmpZ_le (a b : Int) : cmpZ a b ≤ 0 ↔ a ≤ b := by
  unfold cmpZ
  split
  · omega
  · split <;> omega
theorem sv_mul (n : Bool) (x k : Nat) : sv n (x * k) = sv n x * (k : Int) := by
  unfold sv
  cases n <;> simp [Int.neg_mul]
theorem sv_le_mul (n m : Bool) (x y k : Nat) (hk : 0 < k) : sv n (x * k) ≤ sv m (y * k) ↔ sv n x ≤ sv m y := by
  rw [sv_mul, sv_mul]
  exact Int.mul_le_mul_right (by omega)
theorem decC_trans (n1 n2 n3 : Bool) (l1 l2 l3 : List UInt8) (k1 k2 k3 : Nat) (h1 : l1.all digB = true) (h2 : l2.all digB = true) (h3 : l3.all digB = true) (hk1 : k1 ≤ l1.length) (hk2 : k2 ≤ l2.length) (hk3 : k3 ≤ l3.length)
    (a : decC n1 l1 k1 n2 l2 k2 ≤ 0) (b : decC n2 l2 k2 n3 l3 k3 ≤ 0) : decC n1 l1 k1 n3 l3 k3 ≤ 0 := by
  rw [decC_num _ _ _ _ _ _ h1 h2 hk1 hk2, cmpZ_le, ← sv_le_mul _ _ _ _ (10 ^ k3) (ten_pos _)] at a
  rw [decC_num _ _ _ _ _ _ h2 h3 hk2 hk3, cmpZ_le, ← sv_le_mul _ _ _ _ (10 ^ k1) (ten_pos _)] at b
  rw [decC_num _ _ _ _ _ _ h1 h3 hk1 hk3, cmpZ_le, ← sv_le_mul _ _ _ _ (10 ^ k2) (ten_pos _)]
  have e1 : numL l1 * 10 ^ k3 * 10 ^ k2 = numL l1 * 10 ^ k2 * 10 ^ k3 := by ac_rfl
  have e2 : numL l2 * 10 ^ k1 * 10 ^ k3 = numL l2 * 10 ^ k3 * 10 ^ k1 := by ac_rfl
  have e3 : numL l3 * 10 ^ k2 * 10 ^ k1 = numL l3 * 10 ^ k1 * 10 ^ k2 := by ac_rfl
  rw [e1]
  rw [e2] at a
  rw [e3] at b
  exact Int.le_trans a b
end Go.Proofs.YtjdpmdheapmanaaGreatDoor

namespace Go.Proofs.YtjdpmdheapmanaaGreatDoor
open Go.RowKit
def rhe (x d : Nat) : Nat := x / d + if d < 2 * (x % d) ∨ (2 * (x % d) = d ∧ x / d % 2 = 1) then 1 else 0
theorem rhe_zero (d : Nat) : rhe 0 d = 0 := by
  unfold rhe
  rw [Nat.zero_div, Nat.zero_mod, if_neg (by omega)]
theorem rhe_mul (x d c : Nat) (hc : 0 < c) : rhe (x * c) (d * c) = rhe x d := by
  unfold rhe
  rw [Nat.mul_div_mul_right _ _ hc, Nat.mul_mod_mul_right, ← Nat.mul_assoc]
  simp only [Nat.mul_lt_mul_right hc, Nat.mul_left_inj (Nat.pos_iff_ne_zero.1 hc)]
theorem rhe_whole (x d : Nat) (hd : 0 < d) : rhe (x * d) d = x := by
  unfold rhe
  rw [Nat.mul_mod_left, Nat.mul_div_cancel _ hd, if_neg (by omega)]
  rfl
theorem rhe_mono (x y d : Nat) (h : x ≤ y) : rhe x d ≤ rhe y d := by
  have h1 : x / d ≤ y / d := Nat.div_le_div_right h
  have h2 := Nat.div_add_mod x d
  have h3 := Nat.div_add_mod y d
  unfold rhe
  by_cases hq : x / d = y / d
  · rw [hq] at h2
    rw [hq]
    have : x % d ≤ y % d := by omega
    split <;> split <;> omega
  · split <;> split <;> omega
theorem rhe_frac (x d y e : Nat) (hd : 0 < d) (he : 0 < e) (h : x * e ≤ y * d) : rhe x d ≤ rhe y e := by
  rw [← rhe_mul x d e he, ← rhe_mul y e d hd, Nat.mul_comm e d]
  exact rhe_mono _ _ _ h
theorem dig_succ {c : UInt8} (h : digB c = true) (h9 : c ≠ 57) : digB (c + 1) = true ∧ (c + 1).toNat = c.toNat + 1 := by
  have h1 := inc_add h
  have h2 := dig_le h
  have h3 : c.toNat ≠ 57 := fun e => h9 (UInt8.toNat_inj.1 e)
  have h4 : (c + 1).toNat = c.toNat + 1 := by omega
  refine ⟨?_, h4⟩
  simp only [digB, Bool.and_eq_true, decide_eq_true_eq]
  omega
theorem incR_num : ∀ r : List UInt8, r.all digB = true → numL (incR r).reverse = numL r.reverse + 1 ∧ (incR r).all digB = true
  | [], _ => ⟨rfl, rfl⟩
  | c :: r, h => by
    rw [List.all_cons, Bool.and_eq_true] at h
    obtain ⟨ih, id⟩ := incR_num r h.2
    by_cases h9 : c = 57
    · subst h9
      rw [incR, if_pos rfl, List.reverse_cons, List.reverse_cons, numL_append, numL_append, ih]
      refine ⟨?_, ?_⟩
      · simp [numL]
        omega
      · rw [List.all_cons, id]
        rfl
    · obtain ⟨hs, ha⟩ := dig_succ h.1 h9
      have hc := dig_le h.1
      rw [incR, if_neg h9, List.reverse_cons, List.reverse_cons, numL_append, numL_append]
      refine ⟨?_, ?_⟩
      · simp only [numL, List.length_nil, Nat.pow_zero, Nat.mul_one, Nat.add_zero, List.length_cons, Nat.zero_add, Nat.pow_one]
        omega
      · rw [List.all_cons, hs, h.2]
        rfl
theorem all_reverse {l : List UInt8} (h : l.all digB = true) : l.reverse.all digB = true := by
  rw [List.all_reverse]
  exact h
theorem incL_num (l : List UInt8) (h : l.all digB = true) : numL (incL l) = numL l + 1 := by
  have := (incR_num l.reverse (all_reverse h)).1
  rw [List.reverse_reverse] at this
  exact this
theorem incL_digs (l : List UInt8) (h : l.all digB = true) : (incL l).all digB = true :=
  all_reverse (incR_num l.reverse (all_reverse h)).2
theorem lastOdd_num (l : List UInt8) (h : l.all digB = true) : lastOdd l = decide (numL l % 2 = 1) := by
  rcases List.eq_nil_or_concat l with rfl | ⟨a, c, rfl⟩
  · rfl
  · rw [List.concat_eq_append] at h ⊢
    rw [List.all_append, Bool.and_eq_true] at h
    have hc := dig_le (by simpa using h.2 : digB c = true)
    have e : numL (a ++ [c]) = numL a * 10 + (c.toNat - 48) := by
      rw [numL_append]
      simp [numL]
    unfold lastOdd
    rw [List.getLast?_append, e]
    simp only [List.getLast?_singleton, Option.some_or]
    apply decide_eq_decide.2
    omega
theorem upB_num (kept others : List UInt8) (hk : kept.all digB = true) (ho : others.all digB = true) :
    upB kept others = decide (10 ^ others.length < 2 * numL others ∨ (2 * numL others = 10 ^ others.length ∧ numL kept % 2 = 1)) := by
  have h := parts_num others [53] ho (by decide)
  have e : Lib.trimRightB [53] 48 = [53] := by decide
  have e5 : numL [53] = 5 := by decide
  rw [e, e5] at h
  unfold upB upC
  rw [h, lastOdd_num kept hk]
  simp only [List.length_cons, List.length_nil, Nat.zero_add, Nat.pow_one]
  unfold cmpN
  generalize numL others = r
  generalize 10 ^ others.length = d
  by_cases h1 : r * 10 < 5 * d
  · rw [if_pos h1, if_neg (by decide)]
    apply decide_eq_decide.2
    exact iff_of_false (by decide) (by omega)
  · rw [if_neg h1]
    by_cases h2 : r * 10 = 5 * d
    · rw [if_pos h2, if_pos rfl]
      apply decide_eq_decide.2
      omega
    · rw [if_neg h2, if_neg (by decide)]
      apply decide_eq_decide.2
      exact iff_of_true rfl (by omega)
theorem roundL_num (l : List UInt8) (k m : Nat) (h : l.all digB = true) (hk : k ≤ l.length) (hm : m < k) : numL (roundL l k m) = rhe (numL l) (10 ^ (k - m)) := by
  have hcut := numL_cut l (k - m) (by omega)
  have hlen : l.length - (k - m) = l.length - k + m := by omega
  rw [hlen] at hcut
  have hkd := all_take h (l.length - k + m)
  have hod := all_drop h (l.length - k + m)
  have hlt := numL_lt _ hod
  have hol : (l.drop (l.length - k + m)).length = k - m := by rw [List.length_drop]; omega
  have hup := upB_num _ _ hkd hod
  rw [hol] at hlt hup
  have hin := incL_num _ hkd
  unfold roundL
  rw [if_pos hm, hup, hcut]
  generalize l.take (l.length - k + m) = kept at *
  generalize l.drop (l.length - k + m) = others at *
  unfold rhe
  have hdiv : (numL kept * 10 ^ (k - m) + numL others) / 10 ^ (k - m) = numL kept := by
    rw [Nat.mul_comm, Nat.mul_add_div (ten_pos _), Nat.div_eq_of_lt hlt, Nat.add_zero]
  have hmod : (numL kept * 10 ^ (k - m) + numL others) % 10 ^ (k - m) = numL others := by
    rw [Nat.mul_comm, Nat.mul_add_mod, Nat.mod_eq_of_lt hlt]
  rw [hdiv, hmod]
  simp only [decide_eq_true_eq]
  split
  · exact hin
  · rfl
theorem roundL_digs (l : List UInt8) (k m : Nat) (h : l.all digB = true) : (roundL l k m).all digB = true := by
  unfold roundL
  split
  · split
    · exact incL_digs _ (all_take h _)
    · exact all_take h _
  · exact h
theorem roundL_over (l : List UInt8) (k m : Nat) (h : l.all digB = true) (hk : k ≤ l.length) : numL (roundL l k m) * 10 ^ (m - min k m) = rhe (numL l * 10 ^ m) (10 ^ k) := by
  by_cases hm : m < k
  · rw [roundL_num l k m h hk hm]
    have e1 : m - min k m = 0 := by omega
    have e2 : 10 ^ k = 10 ^ (k - m) * 10 ^ m := by rw [← Nat.pow_add]; congr 1; omega
    rw [e1, e2, rhe_mul _ _ _ (ten_pos _), Nat.pow_zero, Nat.mul_one]
  · have e1 : min k m = k := by omega
    have e2 : 10 ^ m = 10 ^ (m - k) * 10 ^ k := by rw [← Nat.pow_add]; congr 1; omega
    have e3 : roundL l k m = l := by unfold roundL; rw [if_neg hm]
    rw [e1, e2, ← Nat.mul_assoc, rhe_whole _ _ (ten_pos _), e3]
theorem decC_round (n1 n2 : Bool) (l1 l2 : List UInt8) (k1 k2 m : Nat) (h1 : l1.all digB = true) (h2 : l2.all digB = true) (hk1 : k1 ≤ l1.length) (hk2 : k2 ≤ l2.length)
    (a : decC n1 l1 k1 n2 l2 k2 ≤ 0) : decC n1 (roundL l1 k1 m) (min k1 m) n2 (roundL l2 k2 m) (min k2 m) ≤ 0 := by
  rw [decC_num _ _ _ _ _ _ h1 h2 hk1 hk2, cmpZ_le] at a
  rw [decC_num _ _ _ _ _ _ (roundL_digs _ _ _ h1) (roundL_digs _ _ _ h2) (roundL_length _ _ _ hk1).1 (roundL_length _ _ _ hk2).1, cmpZ_le,
    ← sv_le_mul _ _ _ _ (10 ^ (m - min k1 m) * 10 ^ (m - min k2 m)) (Nat.mul_pos (ten_pos _) (ten_pos _))]
  have p1 : 10 ^ min k1 m * 10 ^ (m - min k1 m) = 10 ^ m := by rw [← Nat.pow_add]; congr 1; omega
  have p2 : 10 ^ min k2 m * 10 ^ (m - min k2 m) = 10 ^ m := by rw [← Nat.pow_add]; congr 1; omega
  have e1 : numL (roundL l1 k1 m) * 10 ^ min k2 m * (10 ^ (m - min k1 m) * 10 ^ (m - min k2 m)) = rhe (numL l1 * 10 ^ m) (10 ^ k1) * 10 ^ m := by
    rw [← roundL_over l1 k1 m h1 hk1, ← p2]
    ac_rfl
  have e2 : numL (roundL l2 k2 m) * 10 ^ min k1 m * (10 ^ (m - min k1 m) * 10 ^ (m - min k2 m)) = rhe (numL l2 * 10 ^ m) (10 ^ k2) * 10 ^ m := by
    rw [← roundL_over l2 k2 m h2 hk2, ← p1]
    ac_rfl
  rw [e1, e2, sv_le_mul _ _ _ _ _ (ten_pos _)]
  have up : ∀ x y i j : Nat, x * 10 ^ j ≤ y * 10 ^ i → rhe (x * 10 ^ m) (10 ^ i) ≤ rhe (y * 10 ^ m) (10 ^ j) := by
    intro x y i j h
    apply rhe_frac _ _ _ _ (ten_pos _) (ten_pos _)
    have := Nat.mul_le_mul_right (10 ^ m) h
    have f1 : x * 10 ^ m * 10 ^ j = x * 10 ^ j * 10 ^ m := by ac_rfl
    have f2 : y * 10 ^ m * 10 ^ i = y * 10 ^ i * 10 ^ m := by ac_rfl
    rw [f1, f2]
    exact this
  have hz : ∀ x i j : Nat, x * 10 ^ j = 0 → rhe (x * 10 ^ m) (10 ^ i) = 0 := by
    intro x i j h
    rcases Nat.mul_eq_zero.1 h with e | e
    · rw [e, Nat.zero_mul, rhe_zero]
    · exact absurd e (Nat.pos_iff_ne_zero.1 (ten_pos _))
  have u1 := up (numL l1) (numL l2) k1 k2
  have u2 := up (numL l2) (numL l1) k2 k1
  have z1 := hz (numL l1) k1 k2
  have z2 := hz (numL l2) k2 k1
  generalize rhe (numL l1 * 10 ^ m) (10 ^ k1) = H1 at *
  generalize rhe (numL l2 * 10 ^ m) (10 ^ k2) = H2 at *
  generalize numL l1 * 10 ^ k2 = x at *
  generalize numL l2 * 10 ^ k1 = y at *
  unfold sv at *
  cases n1 <;> cases n2
  · simp at a ⊢
    exact u1 (by omega)
  · simp at a ⊢
    have := z1 (by omega)
    have := z2 (by omega)
    omega
  · simp <;> omega
  · simp at a ⊢
    exact u2 (by omega)
end Go.Proofs.YtjdpmdheapmanaaGreatDoor

namespace Go.Proofs.YtjdpmdheapmanaaGreatDoor
open Go.RowKit
def hor (A : Nat → Int) : Nat → Int
  | 0 => 0
  | n + 1 => 10 * hor A n + A n
def lexF (A B : Nat → Int) : Nat → Nat → Int
  | _, 0 => 0
  | i, f + 1 => if A i < B i then -1 else if B i < A i then 1 else lexF A B (i + 1) f
theorem hor_less {A B : Nat → Int} (hA : DigF A) (hB : DigF B) {i : Nat} (h : hor A i < hor B i) : ∀ f, hor A (i + f) < hor B (i + f)
  | 0 => h
  | f + 1 => by
    have ih := hor_less hA hB h f
    have a := hA (i + f)
    have b := hB (i + f)
    show 10 * hor A (i + f) + A (i + f) < 10 * hor B (i + f) + B (i + f)
    omega
theorem lexF_hor {A B : Nat → Int} (hA : DigF A) (hB : DigF B) : ∀ (f i : Nat), hor A i = hor B i → lexF A B i f = cmpZ (hor A (i + f)) (hor B (i + f))
  | 0, i, h => by
    unfold lexF cmpZ
    simp [h]
  | f + 1, i, h => by
    have e : i + (f + 1) = i + 1 + f := by omega
    have s1 : hor A (i + 1) = 10 * hor A i + A i := rfl
    have s2 : hor B (i + 1) = 10 * hor B i + B i := rfl
    unfold lexF
    by_cases h1 : A i < B i
    · rw [if_pos h1]
      have := hor_less hA hB (i := i + 1) (by omega) f
      rw [e]
      unfold cmpZ
      rw [if_pos this]
    · rw [if_neg h1]
      by_cases h2 : B i < A i
      · rw [if_pos h2]
        have := hor_less hB hA (i := i + 1) (by omega) f
        rw [e]
        unfold cmpZ
        rw [if_neg (by omega), if_neg (by omega)]
      · rw [if_neg h2, lexF_hor hA hB f (i + 1) (by omega), e]
theorem lexF_num {A B : Nat → Int} (hA : DigF A) (hB : DigF B) : lexF A B 0 200 = cmpZ (hor A 200) (hor B 200) := by
  have := lexF_hor hA hB 200 0 rfl
  simpa using this
theorem eqF_iff (A B : Nat → Int) (n : Nat) : eqF A B n = true ↔ ∀ p, p < n → A p = B p := by
  simp [eqF]
theorem hor_congr {A B : Nat → Int} : ∀ n, (∀ p, p < n → A p = B p) → hor A n = hor B n
  | 0, _ => rfl
  | n + 1, h => by
    show 10 * hor A n + A n = 10 * hor B n + B n
    rw [hor_congr n (fun p hp => h p (by omega)), h n (by omega)]
theorem hor_inj {A B : Nat → Int} (hA : DigF A) (hB : DigF B) : ∀ n, hor A n = hor B n → ∀ p, p < n → A p = B p
  | 0, _, p, hp => by omega
  | n + 1, h, p, hp => by
    have a := hA n
    have b := hB n
    have h' : 10 * hor A n + A n = 10 * hor B n + B n := h
    by_cases e : p = n
    · subst e; omega
    · exact hor_inj hA hB n (by omega) p (by omega)
theorem eqF_num {A B : Nat → Int} (hA : DigF A) (hB : DigF B) (n : Nat) : eqF A B n = decide (hor A n = hor B n) := by
  rw [Bool.eq_iff_iff, eqF_iff, decide_eq_true_iff]
  exact ⟨hor_congr n, hor_inj hA hB n⟩
theorem hor_zero (A : Nat → Int) : ∀ n, (∀ p, p < n → A p = 0) → hor A n = 0
  | 0, _ => rfl
  | n + 1, h => by
    show 10 * hor A n + A n = 0
    rw [hor_zero A n (fun p hp => h p (by omega)), h n (by omega)]; rfl
theorem hor_behind (A : Nat → Int) (i : Nat) : ∀ f, (∀ p, i ≤ p → p < i + f → A p = 0) → hor A (i + f) = hor A i * (10 ^ f : Nat)
  | 0, _ => by simp
  | f + 1, h => by
    show 10 * hor A (i + f) + A (i + f) = _
    rw [hor_behind A i f (fun p h1 h2 => h p h1 (by omega)), h (i + f) (by omega) (by omega), Nat.pow_succ, Int.natCast_mul, Int.add_zero]
    show 10 * (hor A i * ((10 ^ f : Nat) : Int)) = hor A i * (((10 ^ f : Nat) : Int) * 10)
    rw [← Int.mul_assoc (hor A i), Int.mul_comm 10]
theorem numL_snoc (l : List UInt8) (c : UInt8) : numL (l ++ [c]) = 10 * numL l + (c.toNat - 48) := by
  rw [numL_append]
  simp [numL, Nat.mul_comm]
theorem hor_fix (l : List UInt8) (k : Nat) (h : l.all digB = true) : ∀ j, j ≤ l.length → hor (fixF l k) (100 - (l.length - k) + j) = numL (l.take j)
  | 0, _ => by
    rw [hor_zero _ _ (fun p hp => by unfold fixF fixJ; rw [if_neg (by omega)])]
    rfl
  | j + 1, hj => by
    have ih := hor_fix l k h j (by omega)
    have hm := dig_le (List.all_eq_true.1 h (l[j]'(by omega)) (List.getElem_mem (by omega)))
    show 10 * hor (fixF l k) (100 - (l.length - k) + j) + fixF l k (100 - (l.length - k) + j) = _
    rw [ih, List.take_succ_eq_append_getElem (by omega), numL_snoc]
    unfold fixF fixJ
    rw [if_pos (by omega), Nat.add_sub_cancel_left, List.getD_eq_getElem?_getD, List.getElem?_eq_getElem (by omega), Option.getD_some]
    omega
theorem hor_fixF (l : List UInt8) (k : Nat) (h : l.all digB = true) (hk : k ≤ l.length) (h1 : l.length - k ≤ 100) (h2 : k ≤ 100) : hor (fixF l k) 200 = ((numL l * 10 ^ (100 - k) : Nat) : Int) := by
  have e : 200 = 100 - (l.length - k) + l.length + (100 - k) := by omega
  have := hor_behind (fixF l k) (100 - (l.length - k) + l.length) (100 - k) (fun p h1 h2 => by unfold fixF fixJ; rw [if_neg (by omega)])
  rw [← e, hor_fix l k h _ (Nat.le_refl _), List.take_length] at this
  rw [this]
  simp
theorem nought_hor (n : Nat) : hor (fun _ => 0) n = 0 := hor_zero _ n (fun _ _ => rfl)
theorem nought_digs : DigF (fun _ => 0) := fun _ => ⟨Int.le_refl _, (by decide : (0 : Int) ≤ 9)⟩
end Go.Proofs.YtjdpmdheapmanaaGreatDoor
