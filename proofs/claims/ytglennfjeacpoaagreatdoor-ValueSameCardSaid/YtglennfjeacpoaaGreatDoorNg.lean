/-
  Package number: what is written, with its digits.
-/
import Derived.Test.YtglennfjeacpoaaGreatDoorNf
namespace Go.Proofs.YtglennfjeacpoaaGreatDoor
open Go.RowKit
set_option linter.unusedVariables false
set_option linter.unusedSimpArgs false

def bL (l : List UInt8) : ByteArray := ⟨l.toArray⟩
theorem bL_list (l : List UInt8) : (bL l).data.toList = l := List.toList_toArray
theorem bL_size (l : List UInt8) : (bL l).size = l.length := by rw [← size_data, bL_list]
theorem bL_data (s : ByteArray) : bL s.data.toList = s := bytes_eq (bL_list _)
/-- With fewer noughts at the end. -/
def rnd2L (l : List UInt8) (k mf : Nat) : List UInt8 := if mf < k then l.take (l.length - trimZ l k mf) else l
def rnd2K (l : List UInt8) (k mf : Nat) : Nat := if mf < k then k - trimZ l k mf else k
/-- The digits that are written, and how many of them stand behind the point. -/
def rndL (l : List UInt8) (k mf xf : Nat) : List UInt8 := rnd2L (roundL l k xf) (min k xf) mf ++ List.replicate (mf - rnd2K (roundL l k xf) (min k xf) mf) 48
def rndK (l : List UInt8) (k mf xf : Nat) : Nat := rnd2K (roundL l k xf) (min k xf) mf + (mf - rnd2K (roundL l k xf) (min k xf) mf)
theorem rnd2_le (l : List UInt8) (k mf : Nat) (hk : k ≤ l.length) : rnd2K l k mf ≤ (rnd2L l k mf).length ∧ (rnd2L l k mf).length ≤ l.length := by
  unfold rnd2K rnd2L
  have := trimZ_le l k mf
  split
  · rw [List.length_take]; omega
  · omega
theorem rnd_le (l : List UInt8) (k mf xf : Nat) (hk : k ≤ l.length) (hl : l.length ≤ 60) (hmf : mf ≤ 40) : rndK l k mf xf ≤ (rndL l k mf xf).length ∧ (rndL l k mf xf).length ≤ 101 := by
  have h1 := roundL_length l k xf hk
  have h2 := rnd2_le (roundL l k xf) (min k xf) mf h1.1
  unfold rndK rndL
  rw [List.length_append, List.length_replicate]
  omega
theorem rounded_any (mi : Int) (mf xf : Nat) (pl rk n : Bool) (s : ByteArray) (k : Nat) (w : World) (hs : s.size ≤ 60) (hk : k ≤ s.size) (hd : s.data.toList.all digB = true) (hmf : mf ≤ 40) (hxf : xf ≤ 40) :
    Calls Tryz.prog 35 #[.agg #[.int .i64 mi, .int .i64 (mf : Int), .int .i64 (xf : Int), .bool pl, .bool rk], .agg #[.bool n, .string s, .int .i64 (k : Int)]] w
      fun e w' => e = .returned (.agg #[.bool n, .string (bL (rndL s.data.toList k mf xf)), .int .i64 (rndK s.data.toList k mf xf : Nat)]) ∧ Below w.heap.size w w' := by
  have h1 := roundL_length s.data.toList k xf (by rw [size_data]; exact hk)
  rw [size_data] at h1
  obtain ⟨L1, hL1⟩ : ∃ L, roundL s.data.toList k xf = L := ⟨_, rfl⟩
  obtain ⟨k1, hk1⟩ : ∃ q, min k xf = q := ⟨_, rfl⟩
  rw [hL1, hk1] at h1
  have hR := fun W => round_any n s k (xf : Int) W (by omega) hk hd (by omega) (by omega)
  simp only [Int.toNat_natCast] at hR
  rw [hL1, hk1] at hR
  have h2 := rnd2_le L1 k1 mf h1.1
  have hT : ∀ W : World, Calls Tryz.prog 75 #[.agg #[.bool n, .string (bL L1), .int .i64 (k1 : Int)], .int .i64 (mf : Int)] W fun e w' => e = .returned (.agg #[.bool n, .string (bL (rnd2L L1 k1 mf)), .int .i64 (rnd2K L1 k1 mf : Nat)]) ∧ Below W.heap.size W w' := by
    intro W
    refine (trim_any n (bL L1) k1 mf (mf : Int) W (by rw [bL_size]; omega) (by rw [bL_size]; exact h1.1) (by omega)).mono ?_
    rintro e w' ⟨rfl, hb⟩
    refine ⟨?_, hb⟩
    unfold rnd2L rnd2K
    split
    · rw [bL_list, bL_size]
      have : (bL L1).extract 0 (L1.length - trimZ L1 k1 mf) = bL (L1.take (L1.length - trimZ L1 k1 mf)) := by
        apply bytes_eq
        rw [extract_take, bL_list, bL_list]
      rw [this]
    · rfl
  obtain ⟨L2, hL2⟩ : ∃ L, rnd2L L1 k1 mf = L := ⟨_, rfl⟩
  obtain ⟨k2, hk2⟩ : ∃ q, rnd2K L1 k1 mf = q := ⟨_, rfl⟩
  rw [hL2, hk2] at hT h2
  have hP : ∀ W : World, Calls Tryz.prog 21 #[.agg #[.bool n, .string (bL L2), .int .i64 (k2 : Int)], .int .i64 (mf : Int)] W fun e w' => e = .returned (.agg #[.bool n, .string (bL (L2 ++ List.replicate (mf - k2) 48)), .int .i64 (k2 + (mf - k2) : Nat)]) ∧ Below W.heap.size W w' := by
    intro W
    refine (pad_any n (bL L2) k2 (mf : Int) W (by rw [bL_size]; omega) (by rw [bL_size]; exact h2.1)).mono ?_
    rintro e w' ⟨rfl, hb⟩
    refine ⟨?_, hb⟩
    have hm : (min (mf : Int) 40).toNat = mf := by omega
    rw [hm]
    have : bL L2 ++ (⟨(List.replicate (mf - k2) 48).toArray⟩ : ByteArray) = bL (L2 ++ List.replicate (mf - k2) 48) := by
      apply bytes_eq
      rw [bL_list]
      simp [bL]
    rw [this]
  have hv : rndL s.data.toList k mf xf = L2 ++ List.replicate (mf - k2) 48 := by
    unfold rndL
    rw [hL1, hk1, hL2, hk2]
  have hv2 : rndK s.data.toList k mf xf = k2 + (mf - k2) := by
    unfold rndK
    rw [hL1, hk1, hk2]
  rw [hv, hv2]
  exact rounded_core mi mf xf k k1 k2 _ pl rk n s _ _ _ w hR hT hP
theorem rep_any (j : Nat) (h : j ≤ 1000) : RepTo j (bL (List.replicate j 48)) := by
  cases j with
  | zero =>
    intro W
    refine (Tryz.strings_Repeat_zero _ W).mono ?_
    rintro e w' ⟨rfl, rfl⟩
    exact ⟨rfl, Below.refl _ _⟩
  | succ j => exact repTo (j + 1) (by omega) h
theorem noughts_any (mi : Nat) (mf xf : Int) (pl rk n : Bool) (l : List UInt8) (k : Nat) (w : World) (hl : l.length ≤ 200) (hk : k ≤ l.length) (hmi : mi ≤ 40) :
    Calls Tryz.prog 36 #[.agg #[.int .i64 (mi : Int), .int .i64 mf, .int .i64 xf, .bool pl, .bool rk], .agg #[.bool n, .string (bL l), .int .i64 (k : Int)]] w
      fun e w' => e = .returned (.string (bL (List.replicate (mi - (l.length - k)) 48))) ∧ Below w.heap.size w w' := by
  have hz : ((bL l).extract 0 ((bL l).size - k)).size = l.length - k := by rw [ByteArray.size_extract, bL_size]; omega
  have hW := fun W => whole_any n (bL l) k W (by rw [bL_size]; unfold maxLen; omega) (by rw [bL_size]; exact hk)
  refine noughts_core mi mf xf k ((mi : Int) - (l.length - k : Nat)) (mi - (l.length - k)) pl rk n (bL l) _ _ w hW (fun W => rep_any _ (by omega) W) ?_ ?_ ?_ ?_
  · rw [hz]; exact IntWalk.i64_in _ (by omega)
  · rw [hz]; exact w64in _ (by omega) (by omega)
  · omega
  · rw [hz]; omega
/-- The noughts ahead. -/
def ahd (mi : Nat) (l : List UInt8) (k : Nat) : List UInt8 := List.replicate (mi - (l.length - k)) 48
theorem shape_any (mi mf xf : Nat) (pl rk n : Bool) (s : ByteArray) (k : Nat) (w : World) (hs : s.size ≤ 60) (hk : k ≤ s.size) (hd : s.data.toList.all digB = true) (hmi : mi ≤ 40) (hmf : mf ≤ 40) (hxf : xf ≤ 40) :
    Calls Tryz.prog 94 #[.agg #[.int .i64 (mi : Int), .int .i64 (mf : Int), .int .i64 (xf : Int), .bool pl, .bool rk], .agg #[.bool n, .string s, .int .i64 (k : Int)]] w
      fun e w' => e = .returned (.agg #[.bool n, .string (bL (ahd mi (rndL s.data.toList k mf xf) (rndK s.data.toList k mf xf) ++ rndL s.data.toList k mf xf)), .int .i64 (rndK s.data.toList k mf xf : Nat)]) ∧ Below w.heap.size w w' := by
  have h := rnd_le s.data.toList k mf xf (by rw [size_data]; exact hk) (by rw [size_data]; exact hs) hmf
  refine (shape_core mi mf xf k _ pl rk n s _ _ w (fun W => rounded_any mi mf xf pl rk n s k W hs hk hd hmf hxf) (fun W => noughts_any mi mf xf pl rk n _ _ W (by omega) h.1 hmi) (by rw [bL_size, List.length_replicate]; omega) (by rw [bL_size]; omega)).mono ?_
  rintro e w' ⟨rfl, hb⟩
  refine ⟨?_, hb⟩
  have : bL (List.replicate (mi - ((rndL s.data.toList k mf xf).length - rndK s.data.toList k mf xf)) 48) ++ bL (rndL s.data.toList k mf xf) = bL (ahd mi (rndL s.data.toList k mf xf) (rndK s.data.toList k mf xf) ++ rndL s.data.toList k mf xf) := by
    apply bytes_eq
    rw [bL_list]
    simp [bL, ahd]
  rw [this]
def zeroD (l : List UInt8) : Bool := (Lib.trimB l 48).isEmpty
/-- A number as it is written. -/
def fmtL (neg pl : Bool) (l : List UInt8) (k mi : Nat) (p q : List UInt8) : List UInt8 :=
  let a := ahd mi l k ++ l.take (l.length - k)
  let c := if pl then a else grpTo a q a.length
  let c2 := if neg && !zeroD l then 45 :: c else c
  if k = 0 then c2 else c2 ++ (p ++ l.drop (l.length - k))
set_option maxHeartbeats 1000000 in
theorem format_any (b c : Nat) (made : Bool) (lang : ByteArray) (mi mf xf : Nat) (pl rk n : Bool) (s : ByteArray) (k : Nat) (w : World) (hM : MarksAt w b made c) (hc : c ≤ 1000) (hs : s.size ≤ 60) (hk : k ≤ s.size) (hd : s.data.toList.all digB = true) (hmi : mi ≤ 40) (hmf : mf ≤ 40) (hxf : xf ≤ 40) :
    Calls Tryz.prog 10 #[pt b, .string lang, .agg #[.bool n, .string s, .int .i64 (k : Int)], .agg #[.int .i64 (mi : Int), .int .i64 (mf : Int), .int .i64 (xf : Int), .bool pl, .bool rk]] w
      fun e w' => e = .returned (.string (bL (fmtL n pl (rndL s.data.toList k mf xf) (rndK s.data.toList k mf xf) mi (sgn lang).1 (sgn lang).2))) ∧ MarksAt w' b true (c + 1) ∧ Kp b w w' := by
  have hR := fun W => rounded_any mi mf xf pl rk n s k W hs hk hd hmf hxf
  have h := rnd_le s.data.toList k mf xf (by rw [size_data]; exact hk) (by rw [size_data]; exact hs) hmf
  obtain ⟨L, hL⟩ : ∃ L, rndL s.data.toList k mf xf = L := ⟨_, rfl⟩
  obtain ⟨kr, hkr⟩ : ∃ q, rndK s.data.toList k mf xf = q := ⟨_, rfl⟩
  rw [hL, hkr] at hR h ⊢
  have hsg := sgn_len lang
  obtain ⟨P, hP⟩ : ∃ P, (sgn lang).1 = P := ⟨_, rfl⟩
  obtain ⟨Q, hQ⟩ : ∃ Q, (sgn lang).2 = Q := ⟨_, rfl⟩
  have hO := fun (W : World) (hW : MarksAt W b made c) => of_any b c made lang hc W hW
  rw [hP] at hsg hO ⊢
  rw [hQ] at hsg hO ⊢
  have hN := fun W => noughts_any mi mf xf pl rk n L kr W (by omega) h.1 hmi
  have hWh := fun W => whole_any n (bL L) kr W (by rw [bL_size]; unfold maxLen; omega) (by rw [bL_size]; exact h.1)
  have hPa := fun W => part_any n (bL L) kr W (by rw [bL_size]; unfold maxLen; omega) (by rw [bL_size]; exact h.1)
  have hZ := fun W => zero_any n (bL L) kr W (by rw [bL_size]; unfold maxLen; omega)
  rw [bL_list] at hZ
  have ea : bL (List.replicate (mi - (L.length - kr)) 48) ++ (bL L).extract 0 ((bL L).size - kr) = bL (ahd mi L kr ++ L.take (L.length - kr)) := by
    apply bytes_eq
    rw [bL_list, bL_size]
    have := extract_take (bL L) (L.length - kr)
    rw [bL_list] at this
    simp [this, bL_list, ahd]
  have ep : (bL L).extract ((bL L).size - kr) (bL L).size = bL (L.drop (L.length - kr)) := by
    apply bytes_eq
    rw [extract_drop, bL_list, bL_list, bL_size]
  have hG := fun W => group_any (bL (ahd mi L kr ++ L.take (L.length - kr))) (bL Q) W (by
    rw [bL_size, bL_size, List.length_append, List.length_take]
    have : (ahd mi L kr).length ≤ 40 := by unfold ahd; rw [List.length_replicate]; omega
    calc ((ahd mi L kr).length + min (L.length - kr) L.length) * (Q.length + 1) ≤ 200 * 4 := Nat.mul_le_mul (by omega) (by omega)
      _ ≤ _ := by omega)
  rw [bL_list, bL_list, bL_size] at hG
  rw [← ea] at hG
  have hgl := grpTo_length (ahd mi L kr ++ L.take (L.length - kr)) Q (ahd mi L kr ++ L.take (L.length - kr)).length
  have hal : (ahd mi L kr ++ L.take (L.length - kr)).length ≤ 200 := by
    unfold ahd
    rw [List.length_append, List.length_replicate, List.length_take]; omega
  have hgl2 : (ahd mi L kr ++ L.take (L.length - kr)).length * (Q.length + 1) ≤ 200 * 4 := Nat.mul_le_mul hal (by omega)
  rw [ep] at hPa
  refine (format_core b c made lang (bL P) (bL Q) s (bL L) _ _ _ _ mi mf xf k kr pl rk n _ w hM hO hR hN hWh hG hZ hPa (by rw [bL_size, List.length_replicate]; omega) (by rw [ByteArray.size_extract, bL_size]; omega) (by show (bL _).size ≤ _; rw [bL_size]; omega) (by rw [bL_size]; omega) (by rw [bL_size, List.length_drop]; omega)).mono ?_
  rintro e w' ⟨rfl, h2, h3⟩
  refine ⟨ret_str ?_, h2, h3⟩
  unfold fmtB fmtL
  rw [ea]
  apply bytes_eq
  rw [bL_list]
  have ez : (Lib.trimB L 48).isEmpty = zeroD L := rfl
  rw [ez]
  by_cases h0 : kr = 0
  · subst h0
    cases pl <;> cases n <;> cases zeroD L <;> simp [bL]
  · have h1 : ¬ ((kr : Int) = 0) := by omega
    cases pl <;> cases n <;> cases zeroD L <;> simp [bL, h0]
end Go.Proofs.YtglennfjeacpoaaGreatDoor
