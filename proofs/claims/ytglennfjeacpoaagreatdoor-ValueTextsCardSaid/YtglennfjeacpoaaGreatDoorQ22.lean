/-
  Several texts put together (part 22): what the law and the program call, walked; their contracts.
-/
import Derived.Test.YtglennfjeacpoaaGreatDoorQ18
import Derived.Test.YtglennfjeacpoaaGreatDoorQ5
import Derived.Test.YtglennfjeacpoaaGreatDoorQ17
import Derived.Test.YtglennfjeacpoaaGreatDoorQ21
namespace Go.Proofs.YtglennfjeacpoaaGreatDoor
open Go.RowKit
set_option linter.unusedVariables false
set_option linter.unusedSimpArgs false
def bL (l : List UInt8) : ByteArray := ⟨l.toArray⟩
theorem bL_list (l : List UInt8) : (bL l).data.toList = l := List.toList_toArray
theorem bL_size (l : List UInt8) : (bL l).size = l.length := by rw [← size_data, bL_list]
theorem bL_data (s : ByteArray) : bL s.data.toList = s := bytes_eq (bL_list _)
def rnd2L (l : List UInt8) (k mf : Nat) : List UInt8 := if mf < k then l.take (l.length - trimZ l k mf) else l
def rnd2K (l : List UInt8) (k mf : Nat) : Nat := if mf < k then k - trimZ l k mf else k
def rndL (l : List UInt8) (k mf xf : Nat) : List UInt8 := rnd2L (roundL l k xf) (min k xf) mf ++ List.replicate (mf - rnd2K (roundL l k xf) (min k xf) mf) 48
def rndK (l : List UInt8) (k mf xf : Nat) : Nat := rnd2K (roundL l k xf) (min k xf) mf + (mf - rnd2K (roundL l k xf) (min k xf) mf)
theorem rnd2_le (l : List UInt8) (k mf : Nat) (hk : k ≤ l.length) : rnd2K l k mf ≤ (rnd2L l k mf).length ∧ (rnd2L l k mf).length ≤ l.length := by
  unfold rnd2K rnd2L
  have := trimZ_le l k mf
  split
  · rw [List.length_take]; omega
  · omega
theorem rnd_le (l : List UInt8) (k mf xf : Nat) (hk : k ≤ l.length) (hl : l.length ≤ 60) (hmf : mf ≤ 40) : rndK l k mf xf ≤ (rndL l k mf xf).length ∧ (rndL l k mf xf).length ≤ 101 := by
  have h1 := roundL_length l k xf hk
  have h2 := rnd2_le (roundL l k xf) (min k xf) mf h1.1
  unfold rndK rndL
  rw [List.length_append, List.length_replicate]
  omega
theorem rounded_any (mi : Int) (mf xf : Nat) (pl rk n : Bool) (s : ByteArray) (k : Nat) (w : World) (hs : s.size ≤ 60) (hk : k ≤ s.size) (hd : s.data.toList.all digB = true) (hmf : mf ≤ 40) (hxf : xf ≤ 40) :
    Calls Tryz.prog 35 #[.agg #[.int .i64 mi, .int .i64 (mf : Int), .int .i64 (xf : Int), .bool pl, .bool rk], .agg #[.bool n, .string s, .int .i64 (k : Int)]] w
      fun e w' => e = .returned (.agg #[.bool n, .string (bL (rndL s.data.toList k mf xf)), .int .i64 (rndK s.data.toList k mf xf : Nat)]) ∧ Below w.heap.size w w' := by
  have h1 := roundL_length s.data.toList k xf (by rw [size_data]; exact hk)
  rw [size_data] at h1
  obtain ⟨L1, hL1⟩ : ∃ L, roundL s.data.toList k xf = L := ⟨_, rfl⟩
  obtain ⟨k1, hk1⟩ : ∃ q, min k xf = q := ⟨_, rfl⟩
  rw [hL1, hk1] at h1
  have hR := fun W => round_any n s k (xf : Int) W (by omega) hk hd (by omega) (by omega)
  simp only [Int.toNat_natCast] at hR
  rw [hL1, hk1] at hR
  have h2 := rnd2_le L1 k1 mf h1.1
  have hT : ∀ W : World, Calls Tryz.prog 75 #[.agg #[.bool n, .string (bL L1), .int .i64 (k1 : Int)], .int .i64 (mf : Int)] W fun e w' => e = .returned (.agg #[.bool n, .string (bL (rnd2L L1 k1 mf)), .int .i64 (rnd2K L1 k1 mf : Nat)]) ∧ Below W.heap.size W w' := by
    intro W
    refine (trim_any n (bL L1) k1 mf (mf : Int) W (by rw [bL_size]; omega) (by rw [bL_size]; exact h1.1) (by omega)).mono ?_
    rintro e w' ⟨rfl, hb⟩
    refine ⟨?_, hb⟩
    unfold rnd2L rnd2K
    split
    · rw [bL_list, bL_size]
      have : (bL L1).extract 0 (L1.length - trimZ L1 k1 mf) = bL (L1.take (L1.length - trimZ L1 k1 mf)) := by
        apply bytes_eq
        rw [extract_take, bL_list, bL_list]
      rw [this]
    · rfl
  obtain ⟨L2, hL2⟩ : ∃ L, rnd2L L1 k1 mf = L := ⟨_, rfl⟩
  obtain ⟨k2, hk2⟩ : ∃ q, rnd2K L1 k1 mf = q := ⟨_, rfl⟩
  rw [hL2, hk2] at hT h2
  have hP : ∀ W : World, Calls Tryz.prog 21 #[.agg #[.bool n, .string (bL L2), .int .i64 (k2 : Int)], .int .i64 (mf : Int)] W fun e w' => e = .returned (.agg #[.bool n, .string (bL (L2 ++ List.replicate (mf - k2) 48)), .int .i64 (k2 + (mf - k2) : Nat)]) ∧ Below W.heap.size W w' := by
    intro W
    refine (pad_any n (bL L2) k2 (mf : Int) W (by rw [bL_size]; omega) (by rw [bL_size]; exact h2.1)).mono ?_
    rintro e w' ⟨rfl, hb⟩
    refine ⟨?_, hb⟩
    have hm : (min (mf : Int) 40).toNat = mf := by omega
    rw [hm]
    have : bL L2 ++ (⟨(List.replicate (mf - k2) 48).toArray⟩ : ByteArray) = bL (L2 ++ List.replicate (mf - k2) 48) := by
      apply bytes_eq
      rw [bL_list]
      simp [bL]
    rw [this]
  have hv : rndL s.data.toList k mf xf = L2 ++ List.replicate (mf - k2) 48 := by
    unfold rndL
    rw [hL1, hk1, hL2, hk2]
  have hv2 : rndK s.data.toList k mf xf = k2 + (mf - k2) := by
    unfold rndK
    rw [hL1, hk1, hk2]
  rw [hv, hv2]
  exact rounded_core mi mf xf k k1 k2 _ pl rk n s _ _ _ w hR hT hP
theorem rep_any (j : Nat) (h : j ≤ 1000) : RepTo j (bL (List.replicate j 48)) := by
  cases j with
  | zero =>
    intro W
    refine (Tryz.strings_Repeat_zero _ W).mono ?_
    rintro e w' ⟨rfl, rfl⟩
    exact ⟨rfl, Below.refl _ _⟩
  | succ j => exact repTo (j + 1) (by omega) h
theorem noughts_any (mi : Nat) (mf xf : Int) (pl rk n : Bool) (l : List UInt8) (k : Nat) (w : World) (hl : l.length ≤ 200) (hk : k ≤ l.length) (hmi : mi ≤ 40) :
    Calls Tryz.prog 36 #[.agg #[.int .i64 (mi : Int), .int .i64 mf, .int .i64 xf, .bool pl, .bool rk], .agg #[.bool n, .string (bL l), .int .i64 (k : Int)]] w
      fun e w' => e = .returned (.string (bL (List.replicate (mi - (l.length - k)) 48))) ∧ Below w.heap.size w w' := by
  have hz : ((bL l).extract 0 ((bL l).size - k)).size = l.length - k := by rw [ByteArray.size_extract, bL_size]; omega
  have hW := fun W => whole_any n (bL l) k W (by rw [bL_size]; unfold maxLen; omega) (by rw [bL_size]; exact hk)
  refine noughts_core mi mf xf k ((mi : Int) - (l.length - k : Nat)) (mi - (l.length - k)) pl rk n (bL l) _ _ w hW (fun W => rep_any _ (by omega) W) ?_ ?_ ?_ ?_
  · rw [hz]; exact IntWalk.i64_in _ (by omega)
  · rw [hz]; exact w64in _ (by omega) (by omega)
  · omega
  · rw [hz]; omega
def ahd (mi : Nat) (l : List UInt8) (k : Nat) : List UInt8 := List.replicate (mi - (l.length - k)) 48
theorem shape_any (mi mf xf : Nat) (pl rk n : Bool) (s : ByteArray) (k : Nat) (w : World) (hs : s.size ≤ 60) (hk : k ≤ s.size) (hd : s.data.toList.all digB = true) (hmi : mi ≤ 40) (hmf : mf ≤ 40) (hxf : xf ≤ 40) :
    Calls Tryz.prog 94 #[.agg #[.int .i64 (mi : Int), .int .i64 (mf : Int), .int .i64 (xf : Int), .bool pl, .bool rk], .agg #[.bool n, .string s, .int .i64 (k : Int)]] w
      fun e w' => e = .returned (.agg #[.bool n, .string (bL (ahd mi (rndL s.data.toList k mf xf) (rndK s.data.toList k mf xf) ++ rndL s.data.toList k mf xf)), .int .i64 (rndK s.data.toList k mf xf : Nat)]) ∧ Below w.heap.size w w' := by
  have h := rnd_le s.data.toList k mf xf (by rw [size_data]; exact hk) (by rw [size_data]; exact hs) hmf
  refine (shape_core mi mf xf k _ pl rk n s _ _ w (fun W => rounded_any mi mf xf pl rk n s k W hs hk hd hmf hxf) (fun W => noughts_any mi mf xf pl rk n _ _ W (by omega) h.1 hmi) (by rw [bL_size, List.length_replicate]; omega) (by rw [bL_size]; omega)).mono ?_
  rintro e w' ⟨rfl, hb⟩
  refine ⟨?_, hb⟩
  have : bL (List.replicate (mi - ((rndL s.data.toList k mf xf).length - rndK s.data.toList k mf xf)) 48) ++ bL (rndL s.data.toList k mf xf) = bL (ahd mi (rndL s.data.toList k mf xf) (rndK s.data.toList k mf xf) ++ rndL s.data.toList k mf xf) := by
    apply bytes_eq
    rw [bL_list]
    simp [bL, ahd]
  rw [this]
def zeroD (l : List UInt8) : Bool := (Lib.trimB l 48).isEmpty
def fmtL (neg pl : Bool) (l : List UInt8) (k mi : Nat) (p q : List UInt8) : List UInt8 :=
  let a := ahd mi l k ++ l.take (l.length - k)
  let c := if pl then a else grpTo a q a.length
  let c2 := if neg && !zeroD l then 45 :: c else c
  if k = 0 then c2 else c2 ++ (p ++ l.drop (l.length - k))
set_option maxHeartbeats 1000000 in
theorem format_any (b c : Nat) (made : Bool) (lang : ByteArray) (mi mf xf : Nat) (pl rk n : Bool) (s : ByteArray) (k : Nat) (w : World) (hM : MarksAt w b made c) (hc : c ≤ 1000) (hs : s.size ≤ 60) (hk : k ≤ s.size) (hd : s.data.toList.all digB = true) (hmi : mi ≤ 40) (hmf : mf ≤ 40) (hxf : xf ≤ 40) :
    Calls Tryz.prog 10 #[pt b, .string lang, .agg #[.bool n, .string s, .int .i64 (k : Int)], .agg #[.int .i64 (mi : Int), .int .i64 (mf : Int), .int .i64 (xf : Int), .bool pl, .bool rk]] w
      fun e w' => e = .returned (.string (bL (fmtL n pl (rndL s.data.toList k mf xf) (rndK s.data.toList k mf xf) mi (sgn lang).1 (sgn lang).2))) ∧ MarksAt w' b true (c + 1) ∧ Kp b w w' := by
  have hR := fun W => rounded_any mi mf xf pl rk n s k W hs hk hd hmf hxf
  have h := rnd_le s.data.toList k mf xf (by rw [size_data]; exact hk) (by rw [size_data]; exact hs) hmf
  obtain ⟨L, hL⟩ : ∃ L, rndL s.data.toList k mf xf = L := ⟨_, rfl⟩
  obtain ⟨kr, hkr⟩ : ∃ q, rndK s.data.toList k mf xf = q := ⟨_, rfl⟩
  rw [hL, hkr] at hR h ⊢
  have hsg := sgn_len lang
  obtain ⟨P, hP⟩ : ∃ P, (sgn lang).1 = P := ⟨_, rfl⟩
  obtain ⟨Q, hQ⟩ : ∃ Q, (sgn lang).2 = Q := ⟨_, rfl⟩
  have hO := fun (W : World) (hW : MarksAt W b made c) => of_any b c made lang hc W hW
  rw [hP] at hsg hO ⊢
  rw [hQ] at hsg hO ⊢
  have hN := fun W => noughts_any mi mf xf pl rk n L kr W (by omega) h.1 hmi
  have hWh := fun W => whole_any n (bL L) kr W (by rw [bL_size]; unfold maxLen; omega) (by rw [bL_size]; exact h.1)
  have hPa := fun W => part_any n (bL L) kr W (by rw [bL_size]; unfold maxLen; omega) (by rw [bL_size]; exact h.1)
  have hZ := fun W => zero_any n (bL L) kr W (by rw [bL_size]; unfold maxLen; omega)
  rw [bL_list] at hZ
  have ea : bL (List.replicate (mi - (L.length - kr)) 48) ++ (bL L).extract 0 ((bL L).size - kr) = bL (ahd mi L kr ++ L.take (L.length - kr)) := by
    apply bytes_eq
    rw [bL_list, bL_size]
    have := extract_take (bL L) (L.length - kr)
    rw [bL_list] at this
    simp [this, bL_list, ahd]
  have ep : (bL L).extract ((bL L).size - kr) (bL L).size = bL (L.drop (L.length - kr)) := by
    apply bytes_eq
    rw [extract_drop, bL_list, bL_list, bL_size]
  have hG := fun W => group_any (bL (ahd mi L kr ++ L.take (L.length - kr))) (bL Q) W (by
    rw [bL_size, bL_size, List.length_append, List.length_take]
    have : (ahd mi L kr).length ≤ 40 := by unfold ahd; rw [List.length_replicate]; omega
    calc ((ahd mi L kr).length + min (L.length - kr) L.length) * (Q.length + 1) ≤ 200 * 4 := Nat.mul_le_mul (by omega) (by omega)
      _ ≤ _ := by omega)
  rw [bL_list, bL_list, bL_size] at hG
  rw [← ea] at hG
  have hgl := grpTo_length (ahd mi L kr ++ L.take (L.length - kr)) Q (ahd mi L kr ++ L.take (L.length - kr)).length
  have hal : (ahd mi L kr ++ L.take (L.length - kr)).length ≤ 200 := by
    unfold ahd
    rw [List.length_append, List.length_replicate, List.length_take]; omega
  have hgl2 : (ahd mi L kr ++ L.take (L.length - kr)).length * (Q.length + 1) ≤ 200 * 4 := Nat.mul_le_mul hal (by omega)
  rw [ep] at hPa
  refine (format_core b c made lang (bL P) (bL Q) s (bL L) _ _ _ _ mi mf xf k kr pl rk n _ w hM hO hR hN hWh hG hZ hPa (by rw [bL_size, List.length_replicate]; omega) (by rw [ByteArray.size_extract, bL_size]; omega) (by show (bL _).size ≤ _; rw [bL_size]; omega) (by rw [bL_size]; omega) (by rw [bL_size, List.length_drop]; omega)).mono ?_
  rintro e w' ⟨rfl, h2, h3⟩
  refine ⟨ret_str ?_, h2, h3⟩
  unfold fmtB fmtL
  rw [ea]
  apply bytes_eq
  rw [bL_list]
  have ez : (Lib.trimB L 48).isEmpty = zeroD L := rfl
  rw [ez]
  by_cases h0 : kr = 0
  · subst h0
    cases pl <;> cases n <;> cases zeroD L <;> simp [bL]
  · have h1 : ¬ ((kr : Int) = 0) := by omega
    cases pl <;> cases n <;> cases zeroD L <;> simp [bL, h0]
end Go.Proofs.YtglennfjeacpoaaGreatDoor

namespace Go.Proofs.YtglennfjeacpoaaGreatDoor
open Go.RowKit
set_option linter.unusedVariables false
set_option linter.unusedSimpArgs false
theorem marks_new (w : World) : MarksAt (w.alloc (.cells #[.int .u32 0, .int .i32 0, .int .u32 0, .map none, .int .i64 0] 53)) w.heap.size false 0 :=
  ⟨.map none, BoxAt.new w _ _, fun h => by cases h⟩
end Go.Proofs.YtglennfjeacpoaaGreatDoor

namespace Go.Proofs.YtglennfjeacpoaaGreatDoor
open Go.RowKit
set_option linter.unusedVariables false
set_option linter.unusedSimpArgs false
def FmtAt (b : Nat) (lang : ByteArray) (d o : Value) (T : ByteArray) : Prop := ∀ (W : World) (made : Bool) (c : Nat), MarksAt W b made c → c ≤ 1000 → Calls Tryz.prog 10 #[.pointer (some ⟨b, 0, none⟩), .string lang, d, o] W fun e w' => e = .returned (.string T) ∧ MarksAt w' b true (c + 1) ∧ Kp b W w'
set_option maxHeartbeats 1000000 in
theorem stringN_any (b : Nat) (made : Bool) (c : Nat) (n : Bool) (s : ByteArray) (k : Int) (mi mf xf : Int) (pl rk : Bool) (lang T : ByteArray) (w : World) (hM : MarksAt w b made c) (hc : c ≤ 1000)
    (hF : FmtAt b lang (.agg #[.bool n, .string s, .int .i64 k]) (.agg #[.int .i64 mi, .int .i64 mf, .int .i64 xf, .bool pl, .bool rk]) T) :
    Calls Tryz.prog 14 #[.agg #[.int .i64 1, .string ⟨#[]⟩, .bool n, .string s, .int .i64 k, .int .i64 mi, .int .i64 mf, .int .i64 xf, .bool pl, .bool rk, .int .i64 0, .int .i64 0], .pointer (some ⟨b, 0, none⟩), .string lang] w fun e w' => e = .returned (.string T) ∧ MarksAt w' b true (c + 1) ∧ Kp b w w' := by
  have HF := Lib.hid hF
  have hlt := hM.lt
  have hM1 := Lib.hid (hM.later ((Below.refl _ _).alloc (Nat.le_refl _) (.cells #[.int .i64 1, .string ⟨#[]⟩, .bool n, .string s, .int .i64 k, .int .i64 mi, .int .i64 mf, .int .i64 xf, .bool pl, .bool rk, .int .i64 0, .int .i64 0] 33)))
  clear hM hF
  go_enter Tryz.func14, Tryz.ntmps14
  go_wp2_with fail
  go_at_call 10
  refine (HF.out _ _ _ hM1.out hc).mono ?_
  rintro e w1 ⟨rfl, hm, hk⟩
  go_wp2
  go_ret
  exact ⟨rfl, hm, ((Kp.refl b w).alloc (by omega) _).trans hk⟩
set_option maxHeartbeats 2000000 in
theorem written_yes (x D0 : ByteArray) (n : Bool) (k : Nat) (mf xf : Int) (w : World) (hsh : w.ShapedOpen Tryz.prog) (hp : ParseYes x n D0 k) (hmf : min (k : Int) 20 = mf) (hxf : max 3 mf = xf) :
    Calls Tryz.prog 18 #[.string x] w fun e w' => e = .returned (.agg #[.int .i64 1, .string ⟨#[]⟩, .bool n, .string D0, .int .i64 (k : Int), .int .i64 1, .int .i64 mf, .int .i64 xf, .bool false, .bool false, .int .i64 0, .int .i64 0]) ∧ Below w.heap.size w w' := by
  have HP := Lib.hid hp
  have hsh1 := Lib.hid (shp_alloc hsh (.cells #[.int .i64 0, .string ⟨#[]⟩, .bool false, .string ⟨#[]⟩, .int .i64 0, .int .i64 0, .int .i64 0, .int .i64 0, .bool false, .bool false, .int .i64 0, .int .i64 0] 33))
  clear hp hsh
  go_enter Tryz.func18, Tryz.ntmps18
  go_wp2_with fail
  go_at_call 49
  refine (HP.out _ hsh1.out).mono ?_
  rintro e w1 ⟨rfl, hb1⟩
  have B1 := Lib.hid ((BoxAt.new w #[.int .i64 0, .string ⟨#[]⟩, .bool false, .string ⟨#[]⟩, .int .i64 0, .int .i64 0, .int .i64 0, .int .i64 0, .bool false, .bool false, .int .i64 0, .int .i64 0] 33).later hb1)
  have hbel := Lib.hid (below_box hb1)
  clear hb1
  go_wp2_with fail
  go_at_call 17
  refine (num_any n D0 (k : Int) _).mono ?_
  rintro e w2 ⟨rfl, hb2⟩
  have B2 := (B1.out.alloc (.cells #[.bool n, .string D0, .int .i64 (k : Int)] 23)).later hb2
  have C2 := (BoxAt.new w1 #[.bool n, .string D0, .int .i64 (k : Int)] 23).later hb2
  have c2 := C2.cell 2
  have z3 := C2.lt
  have hbel2 := Lib.hid (below_then (below_new hbel.out (Nat.le_refl _) (.cells #[.bool n, .string D0, .int .i64 (k : Int)] 23)) (Nat.le_refl _) hb2)
  have z1 := B2.lt
  have b0 := B2.cell 0
  have b1 := B2.cell 1
  have b2 := B2.cell 2
  have b3 := B2.cell 3
  have b4 := B2.cell 4
  have b5 := B2.cell 5
  have b6 := B2.cell 6
  have b7 := B2.cell 7
  have b8 := B2.cell 8
  have b9 := B2.cell 9
  have b10 := B2.cell 10
  have b11 := B2.cell 11
  simp only [List.getElem?_toArray, List.getElem?_cons_zero, List.getElem?_cons_succ] at b0 b1 b2 b3 b4 b5 b6 b7 b8 b9 b10 b11
  have f0 := B2.z 0
  have f1 := B2.z 1
  have f2 := B2.z 2
  have f3 := B2.z 3
  have f4 := B2.z 4
  have f5 := B2.z 5
  have f6 := B2.z 6
  have f7 := B2.z 7
  have f8 := B2.z 8
  have f9 := B2.z 9
  have f10 := B2.z 10
  have f11 := B2.z 11
  simp only [List.getElem?_toArray, List.getElem?_cons_zero, List.getElem?_cons_succ] at c2
  have HB2 := Lib.hid B2
  clear hb2 B2 C2 B1 hbel
  go_wp2
  have hbel3 := Lib.hid (below_new (below12 hbel2.out (Nat.le_refl _) (.int .i64 1) (.string ⟨#[]⟩) (.bool n) (.string D0) (.int .i64 (k : Int)) (.int .i64 1) (.int .i64 mf) (.int .i64 xf) (.bool false) (.bool false) (.int .i64 0) (.int .i64 0)) (Nat.le_refl _) (.cells #[.int .i64 1, .string ⟨#[]⟩, .bool n, .string D0, .int .i64 (k : Int), .int .i64 1, .int .i64 mf, .int .i64 xf, .bool false, .bool false, .int .i64 0, .int .i64 0] 33))
  have B3 := (((((((((((((HB2.out.set 0 (.int .i64 1)).set 1 (.string ⟨#[]⟩)).set 2 (.bool n)).set 3 (.string D0)).set 4 (.int .i64 (k : Int))).set 5 (.int .i64 1)).set 6 (.int .i64 mf)).set 7 (.int .i64 xf)).set 8 (.bool false)).set 9 (.bool false)).set 10 (.int .i64 0)).set 11 (.int .i64 0))).alloc (.cells #[.int .i64 1, .string ⟨#[]⟩, .bool n, .string D0, .int .i64 (k : Int), .int .i64 1, .int .i64 mf, .int .i64 xf, .bool false, .bool false, .int .i64 0, .int .i64 0] 33)
  clear b0 f0 b1 f1 b2 f2 b3 f3 b4 f4 b5 f5 b6 f6 b7 f7 b8 f8 b9 f9 b10 f10 b11 f11
  have b0 := B3.cell 0
  have b1 := B3.cell 1
  have b2 := B3.cell 2
  have b3 := B3.cell 3
  have b4 := B3.cell 4
  have b5 := B3.cell 5
  have b6 := B3.cell 6
  have b7 := B3.cell 7
  have b8 := B3.cell 8
  have b9 := B3.cell 9
  have b10 := B3.cell 10
  have b11 := B3.cell 11
  simp only [List.getElem?_toArray, List.getElem?_cons_zero, List.getElem?_cons_succ, List.setIfInBounds_toArray, List.set_cons_zero, List.set_cons_succ] at b0 b1 b2 b3 b4 b5 b6 b7 b8 b9 b10 b11
  clear hbel2 HB2 B3 c2
  generalize ((((((((((((w2.setCell ⟨w.heap.size, 0, none⟩ (.int .i64 1)).setCell ⟨w.heap.size, 1, none⟩ (.string ⟨#[]⟩)).setCell ⟨w.heap.size, 2, none⟩ (.bool n)).setCell ⟨w.heap.size, 3, none⟩ (.string D0)).setCell ⟨w.heap.size, 4, none⟩ (.int .i64 (k : Int))).setCell ⟨w.heap.size, 5, none⟩ (.int .i64 1)).setCell ⟨w.heap.size, 6, none⟩ (.int .i64 mf)).setCell ⟨w.heap.size, 7, none⟩ (.int .i64 xf)).setCell ⟨w.heap.size, 8, none⟩ (.bool false)).setCell ⟨w.heap.size, 9, none⟩ (.bool false)).setCell ⟨w.heap.size, 10, none⟩ (.int .i64 0)).setCell ⟨w.heap.size, 11, none⟩ (.int .i64 0)).alloc (.cells #[.int .i64 1, .string ⟨#[]⟩, .bool n, .string D0, .int .i64 (k : Int), .int .i64 1, .int .i64 mf, .int .i64 xf, .bool false, .bool false, .int .i64 0, .int .i64 0] 33) = W at *
  refine bodyPost_ret (v := .agg #[.int .i64 1, .string ⟨#[]⟩, .bool n, .string D0, .int .i64 (k : Int), .int .i64 1, .int .i64 mf, .int .i64 xf, .bool false, .bool false, .int .i64 0, .int .i64 0]) (by simp [results, Tryz.results18, go_sem, b0, b1, b2, b3, b4, b5, b6, b7, b8, b9, b10, b11]) rfl ⟨rfl, ?_⟩
  exact hbel3.out
set_option maxHeartbeats 2000000 in
theorem written_no (x : ByteArray) (w : World) (hsh : w.ShapedOpen Tryz.prog) (hp : ParseNo x) :
    Calls Tryz.prog 18 #[.string x] w fun e w' => e = .returned (.agg #[.int .i64 0, .string x, .bool false, .string ⟨#[]⟩, .int .i64 0, .int .i64 0, .int .i64 0, .int .i64 0, .bool false, .bool false, .int .i64 0, .int .i64 0]) ∧ Below w.heap.size w w' := by
  have HP := Lib.hid hp
  have hsh1 := Lib.hid (shp_alloc hsh (.cells #[.int .i64 0, .string ⟨#[]⟩, .bool false, .string ⟨#[]⟩, .int .i64 0, .int .i64 0, .int .i64 0, .int .i64 0, .bool false, .bool false, .int .i64 0, .int .i64 0] 33))
  clear hp hsh
  go_enter Tryz.func18, Tryz.ntmps18
  go_wp2_with fail
  go_at_call 49
  refine (HP.out _ hsh1.out).mono ?_
  rintro e w1 ⟨rfl, hb1⟩
  have B1 := Lib.hid ((BoxAt.new w #[.int .i64 0, .string ⟨#[]⟩, .bool false, .string ⟨#[]⟩, .int .i64 0, .int .i64 0, .int .i64 0, .int .i64 0, .bool false, .bool false, .int .i64 0, .int .i64 0] 33).later hb1)
  have hbel := Lib.hid (below_box hb1)
  clear hb1
  go_wp2_with fail
  go_at_call 22
  refine (str_any x _).mono ?_
  rintro e w2 ⟨rfl, hb2⟩
  have B2 := (B1.out.alloc (.cells #[.bool false, .string ⟨#[]⟩, .int .i64 0] 23)).later hb2
  have hbel2 := Lib.hid (below_then (below_new hbel.out (Nat.le_refl _) (.cells #[.bool false, .string ⟨#[]⟩, .int .i64 0] 23)) (Nat.le_refl _) hb2)
  have z1 := B2.lt
  have b0 := B2.cell 0
  have b1 := B2.cell 1
  have b2 := B2.cell 2
  have b3 := B2.cell 3
  have b4 := B2.cell 4
  have b5 := B2.cell 5
  have b6 := B2.cell 6
  have b7 := B2.cell 7
  have b8 := B2.cell 8
  have b9 := B2.cell 9
  have b10 := B2.cell 10
  have b11 := B2.cell 11
  simp only [List.getElem?_toArray, List.getElem?_cons_zero, List.getElem?_cons_succ] at b0 b1 b2 b3 b4 b5 b6 b7 b8 b9 b10 b11
  have f0 := B2.z 0
  have f1 := B2.z 1
  have f2 := B2.z 2
  have f3 := B2.z 3
  have f4 := B2.z 4
  have f5 := B2.z 5
  have f6 := B2.z 6
  have f7 := B2.z 7
  have f8 := B2.z 8
  have f9 := B2.z 9
  have f10 := B2.z 10
  have f11 := B2.z 11
  clear hb2 B2 B1 hbel
  go_wp2
  refine bodyPost_ret (v := .agg #[.int .i64 0, .string x, .bool false, .string ⟨#[]⟩, .int .i64 0, .int .i64 0, .int .i64 0, .int .i64 0, .bool false, .bool false, .int .i64 0, .int .i64 0]) (by simp [results, Tryz.results18, go_sem, b0, b1, b2, b3, b4, b5, b6, b7, b8, b9, b10, b11]) rfl ⟨rfl, ?_⟩
  exact below12 hbel2.out (Nat.le_refl _) _ _ _ _ _ _ _ _ _ _ _ _
end Go.Proofs.YtglennfjeacpoaaGreatDoor

namespace Go.Proofs.YtglennfjeacpoaaGreatDoor
open Go.RowKit
set_option linter.unusedVariables false
set_option linter.unusedSimpArgs false
theorem fmtAt_of (b : Nat) (lang : ByteArray) (mi mf xf : Nat) (pl rk n : Bool) (s : ByteArray) (k : Nat) (hs : s.size ≤ 60) (hk : k ≤ s.size) (hd : s.data.toList.all digB = true) (hmi : mi ≤ 40) (hmf : mf ≤ 40) (hxf : xf ≤ 40) :
    FmtAt b lang (.agg #[.bool n, .string s, .int .i64 (k : Int)]) (.agg #[.int .i64 (mi : Int), .int .i64 (mf : Int), .int .i64 (xf : Int), .bool pl, .bool rk]) (bL (fmtL n pl (rndL s.data.toList k mf xf) (rndK s.data.toList k mf xf) mi (sgn lang).1 (sgn lang).2)) :=
  fun W made c hM hc => format_any b c made lang mi mf xf pl rk n s k W hM hc hs hk hd hmi hmf hxf
theorem fmt_head (b : Nat) : FmtAt b ⟨#[101, 110]⟩ (.agg #[.bool false, .string ⟨#[49, 48]⟩, .int .i64 1]) (.agg #[.int .i64 1, .int .i64 1, .int .i64 3, .bool false, .bool false]) ⟨#[49, 46, 48]⟩ := by
  have h := fmtAt_of b ⟨#[101, 110]⟩ 1 1 3 false false false ⟨#[49, 48]⟩ 1 (by decide) (by decide) (by kernel_rfl) (by decide) (by decide) (by decide)
  have e : bL (fmtL false false (rndL (⟨#[49, 48]⟩ : ByteArray).data.toList 1 1 3) (rndK (⟨#[49, 48]⟩ : ByteArray).data.toList 1 1 3) 1 (sgn ⟨#[101, 110]⟩).1 (sgn ⟨#[101, 110]⟩).2) = ⟨#[49, 46, 48]⟩ := by kernel_rfl
  rw [e] at h
  exact h
theorem cat_head (W : World) : Calls Tryz.prog 50 #[.agg #[.int .i64 1, .string ⟨#[]⟩, .bool false, .string ⟨#[49, 48]⟩, .int .i64 1, .int .i64 1, .int .i64 1, .int .i64 3, .bool false, .bool false, .int .i64 0, .int .i64 0], .string ⟨#[101, 110]⟩] W fun e w' => e = .returned (.int .i64 0) ∧ Below W.heap.size W w' := by
  have hS : ∀ W : World, Calls Tryz.prog 94 #[.agg #[.int .i64 1, .int .i64 1, .int .i64 3, .bool false, .bool false], .agg #[.bool false, .string ⟨#[49, 48]⟩, .int .i64 1]] W fun e w' => e = .returned (.agg #[.bool false, .string ⟨#[49, 48]⟩, .int .i64 (1 : Nat)]) ∧ Below W.heap.size W w' := fun W => by
    have h := shape_any 1 1 3 false false false ⟨#[49, 48]⟩ 1 W (by decide) (by decide) (by kernel_rfl) (by decide) (by decide) (by decide)
    have e : bL (ahd 1 (rndL (⟨#[49, 48]⟩ : ByteArray).data.toList 1 1 3) (rndK (⟨#[49, 48]⟩ : ByteArray).data.toList 1 1 3) ++ rndL (⟨#[49, 48]⟩ : ByteArray).data.toList 1 1 3) = ⟨#[49, 48]⟩ := by kernel_rfl
    have e2 : rndK (⟨#[49, 48]⟩ : ByteArray).data.toList 1 1 3 = 1 := by kernel_rfl
    rw [e, e2] at h
    exact h
  refine category_any false ⟨#[49, 48]⟩ 1 1 1 3 false false ⟨#[101, 110]⟩ ⟨#[49, 48]⟩ _ false 0 W hS (fun _ W => ?_) (fun h => by cases h)
  refine (of_gives ⟨#[101, 110]⟩ cEn (fun w => (count_en w).first) false ⟨#[49, 48]⟩ 1 W ⟨by decide, by decide, by decide⟩).mono ?_
  rintro e w' ⟨rfl, hb⟩
  exact ⟨ret_int (by decide +kernel), hb⟩
theorem word_head (W : World) : Calls Tryz.prog 51 #[.int .i64 0] W fun e w' => e = .returned (.string ⟨#[111, 116, 104, 101, 114]⟩) ∧ Below W.heap.size W w' := word_any 0 W (by omega) (by omega)
def IsTo (vs : Array Value) (key lang : ByteArray) (q : Bool) : Prop := ∀ W : World, W.ShapedOpen Tryz.prog → Calls Tryz.prog 15 #[.agg vs, .string key, .string lang] W fun e w' => e = .returned (.bool q) ∧ Below W.heap.size W w'
theorem is_other : IsTo #[.int .i64 1, .string ⟨#[]⟩, .bool false, .string ⟨#[49, 48]⟩, .int .i64 1, .int .i64 1, .int .i64 1, .int .i64 3, .bool false, .bool false, .int .i64 0, .int .i64 0] ⟨#[111, 116, 104, 101, 114]⟩ ⟨#[101, 110]⟩ true := fun W hW => by
  have h := isNum_no false ⟨#[49, 48]⟩ 1 1 1 3 false false ⟨#[111, 116, 104, 101, 114]⟩ ⟨#[101, 110]⟩ ⟨#[111, 116, 104, 101, 114]⟩ 0 W hW (parseNo (by kernel_rfl) (by decide)) cat_head word_head
  rw [show ((⟨#[111, 116, 104, 101, 114]⟩ : ByteArray).toList == (⟨#[111, 116, 104, 101, 114]⟩ : ByteArray).toList) = true by decide +kernel] at h
  exact h
theorem is_one : IsTo #[.int .i64 1, .string ⟨#[]⟩, .bool false, .string ⟨#[49, 48]⟩, .int .i64 1, .int .i64 1, .int .i64 1, .int .i64 3, .bool false, .bool false, .int .i64 0, .int .i64 0] ⟨#[111, 110, 101]⟩ ⟨#[101, 110]⟩ false := fun W hW => by
  have h := isNum_no false ⟨#[49, 48]⟩ 1 1 1 3 false false ⟨#[111, 110, 101]⟩ ⟨#[101, 110]⟩ ⟨#[111, 116, 104, 101, 114]⟩ 0 W hW (parseNo (by kernel_rfl) (by decide)) cat_head word_head
  rw [show ((⟨#[111, 110, 101]⟩ : ByteArray).toList == (⟨#[111, 116, 104, 101, 114]⟩ : ByteArray).toList) = false by decide +kernel] at h
  exact h
theorem is_1 : IsTo #[.int .i64 1, .string ⟨#[]⟩, .bool false, .string ⟨#[49, 48]⟩, .int .i64 1, .int .i64 1, .int .i64 1, .int .i64 3, .bool false, .bool false, .int .i64 0, .int .i64 0] ⟨#[49]⟩ ⟨#[101, 110]⟩ true := fun W hW => by
  have hp : ParseYes ⟨#[49]⟩ false ⟨#[49]⟩ 0 := parseYes (key := ⟨#[49]⟩) (d := [49]) (by kernel_rfl) (by decide)
  have h := isNum_yes false ⟨#[49, 48]⟩ ((1 : Nat) : Int) 1 1 3 false false ⟨#[49]⟩ ⟨#[101, 110]⟩ ⟨#[49]⟩ false 0 _ W hW hp (fun W => compare_any false false ⟨#[49]⟩ ⟨#[49, 48]⟩ 0 1 W (by decide) (by decide) (by decide) (by decide))
  rw [show (decC false (⟨#[49]⟩ : ByteArray).data.toList 0 false (⟨#[49, 48]⟩ : ByteArray).data.toList 1 == 0) = true by kernel_rfl] at h
  exact h
theorem written_head (W : World) (hW : W.ShapedOpen Tryz.prog) : Calls Tryz.prog 18 #[.string ⟨#[49, 46, 48]⟩] W fun e w' => e = .returned (.agg #[.int .i64 1, .string ⟨#[]⟩, .bool false, .string ⟨#[49, 48]⟩, .int .i64 1, .int .i64 1, .int .i64 1, .int .i64 3, .bool false, .bool false, .int .i64 0, .int .i64 0]) ∧ Below W.heap.size W w' :=
  written_yes ⟨#[49, 46, 48]⟩ ⟨#[49, 48]⟩ false 1 1 3 W hW (parseYes (key := ⟨#[49, 46, 48]⟩) (d := [49, 48]) (by kernel_rfl) (by decide)) (by decide) (by decide)
set_option maxHeartbeats 4000000 in
theorem headV_any (w : World) (hsh : w.ShapedOpen Tryz.prog) : Calls Tryz.prog 7 #[] w fun e w' => e = .returned (.bool true) ∧ Below w.heap.size w w' := by
  have Hsh := Lib.hid hsh
  clear hsh
  go_enter Tryz.func7, Tryz.ntmps7
  go_wp2_with fail
  go_at_call 18
  refine (written_head _ Hsh.out).mono ?_
  rintro e w1 ⟨rfl, hb1⟩
  have B0 := (BoxAt.new w1 #[.int .i64 1, .string ⟨#[]⟩, .bool false, .string ⟨#[49, 48]⟩, .int .i64 1, .int .i64 1, .int .i64 1, .int .i64 3, .bool false, .bool false, .int .i64 0, .int .i64 0] 33)
  have A1 := Lib.hid (below_new (below_new hb1 (Nat.le_refl _) (.cells #[.int .i64 1, .string ⟨#[]⟩, .bool false, .string ⟨#[49, 48]⟩, .int .i64 1, .int .i64 1, .int .i64 1, .int .i64 3, .bool false, .bool false, .int .i64 0, .int .i64 0] 33)) (Nat.le_refl _) (.cells #[.int .u32 0, .int .i32 0, .int .u32 0, .map none, .int .i64 0] 53))
  have m1 := marks_new (w1.alloc (.cells #[.int .i64 1, .string ⟨#[]⟩, .bool false, .string ⟨#[49, 48]⟩, .int .i64 1, .int .i64 1, .int .i64 1, .int .i64 3, .bool false, .bool false, .int .i64 0, .int .i64 0] 33))
  rw [show (w1.alloc (.cells #[.int .i64 1, .string ⟨#[]⟩, .bool false, .string ⟨#[49, 48]⟩, .int .i64 1, .int .i64 1, .int .i64 1, .int .i64 3, .bool false, .bool false, .int .i64 0, .int .i64 0] 33)).heap.size = w1.heap.size + 1 by simp] at m1
  have M1 := Lib.hid m1
  clear m1
  have B1' := Lib.hid (B0.alloc (.cells #[.int .u32 0, .int .i32 0, .int .u32 0, .map none, .int .i64 0] 53))
  have z0 := hb1.size
  clear hb1 B0
  go_wp2_with fail
  go_at_call 14
  refine (stringN_any (w1.heap.size + 1) false 0 false ⟨#[49, 48]⟩ 1 1 1 3 false false ⟨#[101, 110]⟩ ⟨#[49, 46, 48]⟩ _ M1.out (by omega) (fmt_head _)).mono ?_
  rintro e w2 ⟨rfl, hm, hk⟩
  have B2 := Lib.hid (B1'.out.kp hk (by omega))
  have A2 := Lib.hid (A1.out.trans (hk.below.mono (by omega)))
  clear hm hk
  have B1 := B2.out
  have z1 := B1.lt
  have b0 := B1.cell 0
  have b1 := B1.cell 1
  have b2 := B1.cell 2
  have b3 := B1.cell 3
  have b4 := B1.cell 4
  have b5 := B1.cell 5
  have b6 := B1.cell 6
  have b7 := B1.cell 7
  have b8 := B1.cell 8
  have b9 := B1.cell 9
  have b10 := B1.cell 10
  have b11 := B1.cell 11
  simp only [List.getElem?_toArray, List.getElem?_cons_zero, List.getElem?_cons_succ] at b0 b1 b2 b3 b4 b5 b6 b7 b8 b9 b10 b11
  clear B1
  go_wp2_with fail
  go_at_call 15
  refine (is_other _ (shp_below Hsh.out A2.out)).mono ?_
  rintro e w3 ⟨rfl, hb3⟩
  have B3 := Lib.hid (B2.out.later hb3)
  have A3 := Lib.hid (below_then A2.out (Nat.le_refl _) hb3)
  clear hb3
  clear b0 b1 b2 b3 b4 b5 b6 b7 b8 b9 b10 b11
  have B1 := B3.out
  have z1 := B1.lt
  have b0 := B1.cell 0
  have b1 := B1.cell 1
  have b2 := B1.cell 2
  have b3 := B1.cell 3
  have b4 := B1.cell 4
  have b5 := B1.cell 5
  have b6 := B1.cell 6
  have b7 := B1.cell 7
  have b8 := B1.cell 8
  have b9 := B1.cell 9
  have b10 := B1.cell 10
  have b11 := B1.cell 11
  simp only [List.getElem?_toArray, List.getElem?_cons_zero, List.getElem?_cons_succ] at b0 b1 b2 b3 b4 b5 b6 b7 b8 b9 b10 b11
  clear B1
  go_wp2_with fail
  go_at_call 15
  refine (is_1 _ (shp_below Hsh.out A3.out)).mono ?_
  rintro e w4 ⟨rfl, hb4⟩
  have B4 := Lib.hid (B3.out.later hb4)
  have A4 := Lib.hid (below_then A3.out (Nat.le_refl _) hb4)
  clear hb4
  clear b0 b1 b2 b3 b4 b5 b6 b7 b8 b9 b10 b11
  have B1 := B4.out
  have z1 := B1.lt
  have b0 := B1.cell 0
  have b1 := B1.cell 1
  have b2 := B1.cell 2
  have b3 := B1.cell 3
  have b4 := B1.cell 4
  have b5 := B1.cell 5
  have b6 := B1.cell 6
  have b7 := B1.cell 7
  have b8 := B1.cell 8
  have b9 := B1.cell 9
  have b10 := B1.cell 10
  have b11 := B1.cell 11
  simp only [List.getElem?_toArray, List.getElem?_cons_zero, List.getElem?_cons_succ] at b0 b1 b2 b3 b4 b5 b6 b7 b8 b9 b10 b11
  clear B1
  go_wp2_with fail
  go_at_call 15
  refine (is_one _ (shp_below Hsh.out A4.out)).mono ?_
  rintro e w5 ⟨rfl, hb5⟩
  have B5 := Lib.hid (B4.out.later hb5)
  have A5 := Lib.hid (below_then A4.out (Nat.le_refl _) hb5)
  clear hb5
  clear b0 b1 b2 b3 b4 b5 b6 b7 b8 b9 b10 b11
  have B1 := B5.out
  have z1 := B1.lt
  have b0 := B1.cell 0
  have b1 := B1.cell 1
  have b2 := B1.cell 2
  have b3 := B1.cell 3
  have b4 := B1.cell 4
  have b5 := B1.cell 5
  have b6 := B1.cell 6
  have b7 := B1.cell 7
  have b8 := B1.cell 8
  have b9 := B1.cell 9
  have b10 := B1.cell 10
  have b11 := B1.cell 11
  simp only [List.getElem?_toArray, List.getElem?_cons_zero, List.getElem?_cons_succ] at b0 b1 b2 b3 b4 b5 b6 b7 b8 b9 b10 b11
  clear B1
  go_wp2
  go_ret
  exact ⟨rfl, A5.out⟩
end Go.Proofs.YtglennfjeacpoaaGreatDoor
