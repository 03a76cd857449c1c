/-
  ValueSame: a number is meant by each way of writing it, and by no other number.
-/
import Derived.Test.YtglennfjeacpoaaGreatDoorVd
import Derived.Test.YtglennfjeacpoaaGreatDoorLawRight
namespace Go.Proofs.YtglennfjeacpoaaGreatDoor
open Go.RowKit
set_option linter.unusedVariables false
set_option linter.unusedSimpArgs false

abbrev Vs (A B C D : Nat) (w : World) (a0 a1 a2 b0 b1 b2 c0 c1 c2 c3 c4 c5 c6 c7 c8 c9 c10 c11 d0 d1 d2 d3 d4 d5 d6 d7 d8 d9 d10 d11 : Value) (W : World) : Prop :=
  W.cell? ⟨A, 0, none⟩ = some (a0) ∧ W.cell? ⟨A, 1, none⟩ = some (a1) ∧ W.cell? ⟨A, 2, none⟩ = some (a2) ∧ W.cell? ⟨B, 0, none⟩ = some (b0) ∧ W.cell? ⟨B, 1, none⟩ = some (b1) ∧ W.cell? ⟨B, 2, none⟩ = some (b2) ∧ W.cell? ⟨C, 0, none⟩ = some (c0) ∧ W.cell? ⟨C, 1, none⟩ = some (c1) ∧ W.cell? ⟨C, 2, none⟩ = some (c2) ∧ W.cell? ⟨C, 3, none⟩ = some (c3) ∧ W.cell? ⟨C, 4, none⟩ = some (c4) ∧ W.cell? ⟨C, 5, none⟩ = some (c5) ∧ W.cell? ⟨C, 6, none⟩ = some (c6) ∧ W.cell? ⟨C, 7, none⟩ = some (c7) ∧ W.cell? ⟨C, 8, none⟩ = some (c8) ∧ W.cell? ⟨C, 9, none⟩ = some (c9) ∧ W.cell? ⟨C, 10, none⟩ = some (c10) ∧ W.cell? ⟨C, 11, none⟩ = some (c11) ∧ W.cell? ⟨D, 0, none⟩ = some (d0) ∧ W.cell? ⟨D, 1, none⟩ = some (d1) ∧ W.cell? ⟨D, 2, none⟩ = some (d2) ∧ W.cell? ⟨D, 3, none⟩ = some (d3) ∧ W.cell? ⟨D, 4, none⟩ = some (d4) ∧ W.cell? ⟨D, 5, none⟩ = some (d5) ∧ W.cell? ⟨D, 6, none⟩ = some (d6) ∧ W.cell? ⟨D, 7, none⟩ = some (d7) ∧ W.cell? ⟨D, 8, none⟩ = some (d8) ∧ W.cell? ⟨D, 9, none⟩ = some (d9) ∧ W.cell? ⟨D, 10, none⟩ = some (d10) ∧ W.cell? ⟨D, 11, none⟩ = some (d11) ∧ A + 1 ≤ W.heap.size ∧ B + 1 ≤ W.heap.size ∧ C + 1 ≤ W.heap.size ∧ D + 1 ≤ W.heap.size ∧ w.heap.size ≤ W.heap.size ∧ W.ShapedOpen Tryz.prog ∧ Below w.heap.size w W
set_option maxRecDepth 100000 in
theorem vs_later {A B C D : Nat} {w W W' : World} {a0 a1 a2 b0 b1 b2 c0 c1 c2 c3 c4 c5 c6 c7 c8 c9 c10 c11 d0 d1 d2 d3 d4 d5 d6 d7 d8 d9 d10 d11 : Value} (g : Below W.heap.size W W') (h : Vs A B C D w a0 a1 a2 b0 b1 b2 c0 c1 c2 c3 c4 c5 c6 c7 c8 c9 c10 c11 d0 d1 d2 d3 d4 d5 d6 d7 d8 d9 d10 d11 W) : Vs A B C D w a0 a1 a2 b0 b1 b2 c0 c1 c2 c3 c4 c5 c6 c7 c8 c9 c10 c11 d0 d1 d2 d3 d4 d5 d6 d7 d8 d9 d10 d11 W' := by
  obtain ⟨h0, h1, h2, h3, h4, h5, h6, h7, h8, h9, h10, h11, h12, h13, h14, h15, h16, h17, h18, h19, h20, h21, h22, h23, h24, h25, h26, h27, h28, h29, zA, zB, zC, zD, zw, hs, hB⟩ := h
  have := g.size
  exact ⟨(g.cell (p := ⟨A, 0, none⟩) zA).trans h0, (g.cell (p := ⟨A, 1, none⟩) zA).trans h1, (g.cell (p := ⟨A, 2, none⟩) zA).trans h2, (g.cell (p := ⟨B, 0, none⟩) zB).trans h3, (g.cell (p := ⟨B, 1, none⟩) zB).trans h4, (g.cell (p := ⟨B, 2, none⟩) zB).trans h5, (g.cell (p := ⟨C, 0, none⟩) zC).trans h6, (g.cell (p := ⟨C, 1, none⟩) zC).trans h7, (g.cell (p := ⟨C, 2, none⟩) zC).trans h8, (g.cell (p := ⟨C, 3, none⟩) zC).trans h9, (g.cell (p := ⟨C, 4, none⟩) zC).trans h10, (g.cell (p := ⟨C, 5, none⟩) zC).trans h11, (g.cell (p := ⟨C, 6, none⟩) zC).trans h12, (g.cell (p := ⟨C, 7, none⟩) zC).trans h13, (g.cell (p := ⟨C, 8, none⟩) zC).trans h14, (g.cell (p := ⟨C, 9, none⟩) zC).trans h15, (g.cell (p := ⟨C, 10, none⟩) zC).trans h16, (g.cell (p := ⟨C, 11, none⟩) zC).trans h17, (g.cell (p := ⟨D, 0, none⟩) zD).trans h18, (g.cell (p := ⟨D, 1, none⟩) zD).trans h19, (g.cell (p := ⟨D, 2, none⟩) zD).trans h20, (g.cell (p := ⟨D, 3, none⟩) zD).trans h21, (g.cell (p := ⟨D, 4, none⟩) zD).trans h22, (g.cell (p := ⟨D, 5, none⟩) zD).trans h23, (g.cell (p := ⟨D, 6, none⟩) zD).trans h24, (g.cell (p := ⟨D, 7, none⟩) zD).trans h25, (g.cell (p := ⟨D, 8, none⟩) zD).trans h26, (g.cell (p := ⟨D, 9, none⟩) zD).trans h27, (g.cell (p := ⟨D, 10, none⟩) zD).trans h28, (g.cell (p := ⟨D, 11, none⟩) zD).trans h29, by omega, by omega, by omega, by omega, by omega, shp_below hs g, hB.trans (g.mono zw)⟩
theorem vs_below {A B C D : Nat} {w W : World} {a0 a1 a2 b0 b1 b2 c0 c1 c2 c3 c4 c5 c6 c7 c8 c9 c10 c11 d0 d1 d2 d3 d4 d5 d6 d7 d8 d9 d10 d11 : Value} (h : Vs A B C D w a0 a1 a2 b0 b1 b2 c0 c1 c2 c3 c4 c5 c6 c7 c8 c9 c10 c11 d0 d1 d2 d3 d4 d5 d6 d7 d8 d9 d10 d11 W) : Below w.heap.size w W := h.2.2.2.2.2.2.2.2.2.2.2.2.2.2.2.2.2.2.2.2.2.2.2.2.2.2.2.2.2.2.2.2.2.2.2.2
theorem vs_shp {A B C D : Nat} {w W : World} {a0 a1 a2 b0 b1 b2 c0 c1 c2 c3 c4 c5 c6 c7 c8 c9 c10 c11 d0 d1 d2 d3 d4 d5 d6 d7 d8 d9 d10 d11 : Value} (h : Vs A B C D w a0 a1 a2 b0 b1 b2 c0 c1 c2 c3 c4 c5 c6 c7 c8 c9 c10 c11 d0 d1 d2 d3 d4 d5 d6 d7 d8 d9 d10 d11 W) : W.ShapedOpen Tryz.prog := h.2.2.2.2.2.2.2.2.2.2.2.2.2.2.2.2.2.2.2.2.2.2.2.2.2.2.2.2.2.2.2.2.2.2.2.1
def StrTo (n : Bool) (s : ByteArray) (k : Int) (T : ByteArray) : Prop := ∀ W : World, Calls Tryz.prog 19 #[.agg #[.bool n, .string s, .int .i64 k]] W fun e w' => e = .returned (.string T) ∧ Below W.heap.size W w'
theorem StrTo.at_ {n : Bool} {s : ByteArray} {k : Int} {T : ByteArray} (h : StrTo n s k T) (W : World) : Calls Tryz.prog 19 #[.agg #[.bool n, .string s, .int .i64 k]] W fun e w' => e = .returned (.string T) ∧ Below W.heap.size W w' := h W
theorem IsTo.at_ {vs : Array Value} {key lang : ByteArray} {q : Bool} (h : IsTo vs key lang q) (W : World) (hW : W.ShapedOpen Tryz.prog) : Calls Tryz.prog 15 #[.agg vs, .string key, .string lang] W fun e w' => e = .returned (.bool q) ∧ Below W.heap.size W w' := h W hW
def PadTo (n : Bool) (s : ByteArray) (k x : Int) (P : ByteArray) (k2 : Int) : Prop := ∀ W : World, Calls Tryz.prog 21 #[.agg #[.bool n, .string s, .int .i64 k], .int .i64 x] W fun e w' => e = .returned (.agg #[.bool n, .string P, .int .i64 k2]) ∧ Below W.heap.size W w'
theorem PadTo.at_ {n : Bool} {s : ByteArray} {k x : Int} {P : ByteArray} {k2 : Int} (h : PadTo n s k x P k2) (W : World) : Calls Tryz.prog 21 #[.agg #[.bool n, .string s, .int .i64 k], .int .i64 x] W fun e w' => e = .returned (.agg #[.bool n, .string P, .int .i64 k2]) ∧ Below W.heap.size W w' := h W
theorem strTo (n : Bool) (s : ByteArray) (k : Nat) (hs : s.size ≤ 1000) (hk : k ≤ s.size) : StrTo n s (k : Int) (strB n s k) := fun W => string_any n s k W (by unfold maxLen; omega) hk
theorem parse_str {n : Bool} {s : ByteArray} {k : Nat} (h : Told s.data.toList k) : ParseYes (strB n s k) n s k := by
  have hl := h.le
  have hlt := h.lt
  rw [size_data] at hl hlt
  have hp : parseL (strB n s k).data.toList = some (n, s.data.toList, k) := by rw [strB_data]; exact parse_back h
  have hz : (strB n s k).size < 4294967281 := by
    rw [← size_data, strB_data, List.length_append]
    have : (textL s.data.toList k).length ≤ 50 := by
      unfold textL
      split
      · rw [size_data]; omega
      · rw [List.length_append, List.length_cons, List.length_take, List.length_drop, size_data]; omega
    cases n <;> simp <;> omega
  have h2 := parseYes hp hz
  rwa [show (⟨s.data.toList.toArray⟩ : ByteArray) = s from bytes_eq List.toList_toArray] at h2
theorem isNum_to {n1 n2 : Bool} {s1 s2 : ByteArray} {k1 k2 : Nat} (mi mf xf : Int) (pl rk : Bool) (lang : ByteArray) (hz1 : s1.size ≤ 1000) (hk1 : k1 ≤ s1.size) (h : Told s2.data.toList k2) :
    IsTo #[.int .i64 1, .string ⟨#[]⟩, .bool n1, .string s1, .int .i64 (k1 : Int), .int .i64 mi, .int .i64 mf, .int .i64 xf, .bool pl, .bool rk, .int .i64 0, .int .i64 0] (strB n2 s2 k2) lang (decC n2 s2.data.toList k2 n1 s1.data.toList k1 == 0) := by
  have hl := h.le
  have hlt := h.lt
  rw [size_data] at hl hlt
  exact fun W hW => isNum_yes n1 s1 (k1 : Int) mi mf xf pl rk (strB n2 s2 k2) lang s2 n2 k2 _ W hW (parse_str h) (fun W => compare_any n2 n1 s2 s1 k2 k1 W (by unfold maxLen; omega) (by unfold maxLen; omega) (by omega) hk1)
theorem num_told {l : List UInt8} {k : Nat} (h : Num l k) (hl : l.length ≤ 40) : Told l k := ⟨h.digs, hl, h.lt, h.head.symm⟩
set_option maxHeartbeats 8000000 in
set_option maxRecDepth 100000 in
theorem lawVSame (n1 n2 : Bool) (s1 s2 x : ByteArray) (r1 r2 : Int) (w : World) (hsh : w.ShapedOpen Tryz.prog) (hs1 : s1.size ≤ 9223372036854775807) (hs2 : s2.size ≤ 9223372036854775807)
    (hr10 : -9223372036854775808 ≤ r1) (hr11 : r1 ≤ 9223372036854775807) (hr20 : -9223372036854775808 ≤ r2) (hr21 : r2 ≤ 9223372036854775807) :
    Calls Tryz.prog 5 #[.agg #[.bool n1, .string s1, .int .i64 r1], .agg #[.bool n2, .string s2, .int .i64 r2], .string x] w fun e w' => e = .returned (.bool true) ∧ Below w.heap.size w w' := by
  have hR1 := fun W => lawRight_any n1 s1 r1 W hs1 hr10 hr11
  have hR2 := fun W => lawRight_any n2 s2 r2 W hs2 hr20 hr21
  have HR1 := Lib.hid hR1
  have HR2 := Lib.hid hR2
  have Hsh := Lib.hid hsh
  clear hR1 hR2 hsh hs1 hs2 hr10 hr11 hr20 hr21
  go_enter Tryz.func5, Tryz.ntmps5
  have Za := Lib.hid (((Below.refl _ w).alloc (Nat.le_refl _) (.cells #[.bool n1, .string s1, .int .i64 r1] 23)).alloc (by simp) (.cells #[.bool n2, .string s2, .int .i64 r2] 23))
  have Aa := Lib.hid ((BoxAt.new w #[.bool n1, .string s1, .int .i64 r1] 23).alloc (.cells #[.bool n2, .string s2, .int .i64 r2] 23))
  have Ba := Lib.hid (BoxAt.new' (w.alloc (.cells #[.bool n1, .string s1, .int .i64 r1] 23)) (w.heap.size + 1) #[.bool n2, .string s2, .int .i64 r2] 23 (by simp))
  go_wp2_with fail
  go_at_call 7
  refine (headV_any _ (shp_below Hsh.out Za.out)).mono ?_
  rintro e w1 ⟨rfl, hb1⟩
  have Ab := Lib.hid (Aa.out.later hb1)
  have Bb := Lib.hid (Ba.out.later hb1)
  have Zb := Lib.hid (below_then Za.out (Nat.le_refl _) hb1)
  clear hb1
  have qa := Ab.out
  have za := qa.lt
  have a0 := qa.cell 0
  have a1 := qa.cell 1
  have a2 := qa.cell 2
  simp only [List.getElem?_toArray, List.getElem?_cons_zero, List.getElem?_cons_succ] at a0 a1 a2
  clear qa
  have qb := Bb.out
  have zb := qb.lt
  have b0 := qb.cell 0
  have b1 := qb.cell 1
  have b2 := qb.cell 2
  simp only [List.getElem?_toArray, List.getElem?_cons_zero, List.getElem?_cons_succ] at b0 b1 b2
  clear qb
  go_wp2_with fail
  go_at_call 16
  refine (HR1.out _).mono ?_
  rintro e w2 ⟨hr, hb2⟩
  clear za a0 a1 a2
  clear zb b0 b1 b2
  have Ac := Lib.hid (Ab.out.later hb2)
  have Bc := Lib.hid (Bb.out.later hb2)
  have Zc := Lib.hid (below_then Zb.out (Nat.le_refl _) hb2)
  clear hb2
  rcases hr with rfl | ⟨k1, rfl, hN1, rfl⟩
  · go_wp2
    go_ret
    exact ⟨rfl, Zc.out⟩
  have HN1 := Lib.hid hN1
  clear hN1
  have qa := Ac.out
  have za := qa.lt
  have a0 := qa.cell 0
  have a1 := qa.cell 1
  have a2 := qa.cell 2
  simp only [List.getElem?_toArray, List.getElem?_cons_zero, List.getElem?_cons_succ] at a0 a1 a2
  clear qa
  have qb := Bc.out
  have zb := qb.lt
  have b0 := qb.cell 0
  have b1 := qb.cell 1
  have b2 := qb.cell 2
  simp only [List.getElem?_toArray, List.getElem?_cons_zero, List.getElem?_cons_succ] at b0 b1 b2
  clear qb
  go_wp2_with fail
  go_at_call 16
  refine (HR2.out _).mono ?_
  rintro e w3 ⟨hr, hb3⟩
  clear za a0 a1 a2
  clear zb b0 b1 b2
  have Ad := Lib.hid (Ac.out.later hb3)
  have Bd := Lib.hid (Bc.out.later hb3)
  have Zd := Lib.hid (below_then Zc.out (Nat.le_refl _) hb3)
  clear hb3
  rcases hr with rfl | ⟨k2, rfl, hN2, rfl⟩
  · go_wp2
    go_ret
    exact ⟨rfl, Zd.out⟩
  have HN2 := Lib.hid hN2
  clear hN2
  have qa := Ad.out
  have za := qa.lt
  have a0 := qa.cell 0
  have a1 := qa.cell 1
  have a2 := qa.cell 2
  simp only [List.getElem?_toArray, List.getElem?_cons_zero, List.getElem?_cons_succ] at a0 a1 a2
  clear qa
  have qb := Bd.out
  have zb := qb.lt
  have b0 := qb.cell 0
  have b1 := qb.cell 1
  have b2 := qb.cell 2
  simp only [List.getElem?_toArray, List.getElem?_cons_zero, List.getElem?_cons_succ] at b0 b1 b2
  clear qb
  by_cases z1 : s1.size ≤ 30
  case neg =>
    have hd1 : decide (30 < (s1.size : Int)) = true := decide_eq_true (by omega)
    go_wp2
    go_ret
    exact ⟨rfl, Zd.out⟩
  by_cases z2 : s2.size ≤ 30
  case neg =>
    have hd1 : decide (30 < (s1.size : Int)) = false := decide_eq_false (by omega)
    have hd2 : decide (30 < (s2.size : Int)) = true := decide_eq_true (by omega)
    go_wp2
    go_ret
    exact ⟨rfl, Zd.out⟩
  have hN1 := HN1.out
  have hN2 := HN2.out
  have hT1 := num_told hN1 (by rw [size_data]; omega)
  have hT2 := num_told hN2 (by rw [size_data]; omega)
  have hlt1 := hN1.lt
  have hlt2 := hN2.lt
  rw [size_data] at hlt1 hlt2
  have hS1 := strTo n1 s1 k1 (by omega) (by omega)
  have hS2 := strTo n2 s2 k2 (by omega) (by omega)
  have hP1 := parse_str (n := n1) hT1
  obtain ⟨mf, hmf⟩ : ∃ mf, min (k1 : Int) 20 = mf := ⟨_, rfl⟩
  obtain ⟨xf, hxf⟩ : ∃ xf, max 3 mf = xf := ⟨_, rfl⟩
  have hC := fun W => compare_any n1 n2 s1 s2 k1 k2 W (by unfold maxLen; omega) (by unfold maxLen; omega) (by omega) (by omega)
  have hIv := isNum_to (n1 := n1) (n2 := n2) (s1 := s1) (k1 := k1) 1 0 3 false false x (by omega) (by omega) hT2
  have hIw := isNum_to (n1 := n1) (n2 := n2) (s1 := s1) (k1 := k1) 1 mf xf false false x (by omega) (by omega) hT2
  have hsw := decC_swap (n1 := n1) (n2 := n2) (k1 := k1) (k2 := k2) hN1.digs hN2.digs (by rw [size_data]; omega) (by rw [size_data]; omega)
  rw [hsw] at hIv hIw
  obtain ⟨P, hP⟩ : ∃ P, s1 ++ (⟨(List.replicate 3 48).toArray⟩ : ByteArray) = P := ⟨_, rfl⟩
  have hPl : P.data.toList = s1.data.toList ++ List.replicate 3 48 := by rw [← hP, ByteArray.data_append, Array.toList_append]
  have hPz : P.size = s1.size + 3 := by rw [← size_data, hPl, List.length_append, List.length_replicate, size_data]
  have hPad : PadTo n1 s1 (k1 : Int) ((k1 : Int) + 3) P ((k1 + 3 : Nat) : Int) := fun W => by
    have h := pad_any n1 s1 k1 ((k1 : Int) + 3) W (by omega) (by omega)
    rw [show (min ((k1 : Int) + 3) 40).toNat - k1 = 3 by omega, hP] at h
    exact h
  have hTP : Told P.data.toList (k1 + 3) := by rw [hPl]; exact told_pad 3 hT1 (by rw [size_data]; omega)
  have hSP := strTo n1 P (k1 + 3) (by omega) (by omega)
  have hIp := isNum_to (n1 := n1) (n2 := n1) (s1 := s1) (k1 := k1) 1 0 3 false false x (by omega) (by omega) hTP
  rw [show (decC n1 P.data.toList (k1 + 3) n1 s1.data.toList k1 == 0) = true by rw [hPl, decC_pad 3 hN1.digs (by rw [size_data]; omega)]; rfl] at hIp
  obtain ⟨kp, hkp⟩ : ∃ kp, k1 + 3 = kp := ⟨_, rfl⟩
  rw [hkp] at hPad hSP hIp
  obtain ⟨c, hc⟩ : ∃ c, decC n1 s1.data.toList k1 n2 s2.data.toList k2 = c := ⟨_, rfl⟩
  rw [hc] at hC hIv hIw
  obtain ⟨sm, hsm⟩ : ∃ sm, (c == 0) = sm := ⟨_, rfl⟩
  rw [hsm] at hIv hIw
  have hw3 : IntKind.i64.wrap ((k1 : Int) + 3) = (k1 : Int) + 3 := IntWalk.i64_in _ (by omega)
  generalize hT1' : strB n1 s1 k1 = T1 at *
  generalize hT2' : strB n2 s2 k2 = T2 at *
  generalize hT3' : strB n1 P kp = T3 at *
  have hIt : ∀ W : World, Calls Tryz.prog 15 #[.agg #[.int .i64 0, .string T1, .bool false, .string ⟨#[]⟩, .int .i64 0, .int .i64 0, .int .i64 0, .int .i64 0, .bool false, .bool false, .int .i64 0, .int .i64 0], .string T1, .string x] W fun e w' => e = .returned (.bool true) ∧ Below W.heap.size W w' := fun W => by
    have h := isText_any T1 T1 x W
    rwa [show (T1.toList == T1.toList) = true by simp] at h
  have hIa := fun W => isAt_any 1 ⟨#[49]⟩ x W
  have hd1 : decide (30 < (s1.size : Int)) = false := decide_eq_false (by omega)
  have hd2 : decide (30 < (s2.size : Int)) = false := decide_eq_false (by omega)
  have HS1 := Lib.hid hS1
  have HS2 := Lib.hid hS2
  have HP1 := Lib.hid hP1
  have HC := Lib.hid hC
  have HIv := Lib.hid hIv
  have HIw := Lib.hid hIw
  have HPad := Lib.hid hPad
  have HSP := Lib.hid hSP
  have HIp := Lib.hid hIp
  have HIt := Lib.hid hIt
  have HIa := Lib.hid hIa
  have Hsm := Lib.hid hsm
  have Hmf := Lib.hid hmf
  have Hxf := Lib.hid hxf
  clear hkp hS1 hS2 hP1 hC hIv hIw hPad hSP hIp hIt hIa hsm hmf hxf hc hTP hPz hPl hP hsw hT1' hT2' hT3' hT1 hT2 hN1 hN2 hlt1 hlt2
  go_wp2_with fail
  go_at_call 17
  refine (num_any _ _ _ _).mono ?_
  rintro e w4 ⟨rfl, hb4⟩
  clear za a0 a1 a2
  clear zb b0 b1 b2
  have Ae := Lib.hid (Ad.out.later hb4)
  have Be := Lib.hid (Bd.out.later hb4)
  have Ze := Lib.hid (below_then Zd.out (Nat.le_refl _) hb4)
  clear hb4
  have Cf := Lib.hid (BoxAt.new w4 #[.int .i64 1, .string ⟨#[]⟩, .bool n1, .string s1, .int .i64 (k1 : Int), .int .i64 1, .int .i64 0, .int .i64 3, .bool false, .bool false, .int .i64 0, .int .i64 0] 33)
  have Af := Lib.hid (Ae.out.alloc (.cells #[.int .i64 1, .string ⟨#[]⟩, .bool n1, .string s1, .int .i64 (k1 : Int), .int .i64 1, .int .i64 0, .int .i64 3, .bool false, .bool false, .int .i64 0, .int .i64 0] 33))
  have Bf := Lib.hid (Be.out.alloc (.cells #[.int .i64 1, .string ⟨#[]⟩, .bool n1, .string s1, .int .i64 (k1 : Int), .int .i64 1, .int .i64 0, .int .i64 3, .bool false, .bool false, .int .i64 0, .int .i64 0] 33))
  have Zf := Lib.hid (below_new Ze.out (Nat.le_refl _) (.cells #[.int .i64 1, .string ⟨#[]⟩, .bool n1, .string s1, .int .i64 (k1 : Int), .int .i64 1, .int .i64 0, .int .i64 3, .bool false, .bool false, .int .i64 0, .int .i64 0] 33))
  have qa := Af.out
  have za := qa.lt
  have a0 := qa.cell 0
  have a1 := qa.cell 1
  have a2 := qa.cell 2
  simp only [List.getElem?_toArray, List.getElem?_cons_zero, List.getElem?_cons_succ] at a0 a1 a2
  clear qa
  clear za a0 a1 a2
  have qa := Ae.out
  have za := qa.lt
  have a0 := qa.cell 0
  have a1 := qa.cell 1
  have a2 := qa.cell 2
  simp only [List.getElem?_toArray, List.getElem?_cons_zero, List.getElem?_cons_succ] at a0 a1 a2
  clear qa
  go_wp2_with fail
  go_at_call 19
  refine (StrTo.at_ HS1.out _).mono ?_
  rintro e w5 ⟨rfl, hb5⟩
  clear za a0 a1 a2
  have Ag := Lib.hid (Af.out.later hb5)
  have Bg := Lib.hid (Bf.out.later hb5)
  have Cg := Lib.hid (Cf.out.later hb5)
  have Zg := Lib.hid (below_then Zf.out (Nat.le_refl _) hb5)
  clear hb5
  go_wp2_with fail
  go_at_call 18
  refine (written_yes _ s1 n1 k1 mf xf _ (shp_below Hsh.out Zg.out) HP1.out Hmf.out Hxf.out).mono ?_
  rintro e w6 ⟨rfl, hb6⟩
  have Ah := Lib.hid (Ag.out.later hb6)
  have Bh := Lib.hid (Bg.out.later hb6)
  have Ch := Lib.hid (Cg.out.later hb6)
  have Zh := Lib.hid (below_then Zg.out (Nat.le_refl _) hb6)
  clear hb6
  have Di := Lib.hid (BoxAt.new w6 #[.int .i64 1, .string ⟨#[]⟩, .bool n1, .string s1, .int .i64 (k1 : Int), .int .i64 1, .int .i64 mf, .int .i64 xf, .bool false, .bool false, .int .i64 0, .int .i64 0] 33)
  have Ai := Lib.hid (Ah.out.alloc (.cells #[.int .i64 1, .string ⟨#[]⟩, .bool n1, .string s1, .int .i64 (k1 : Int), .int .i64 1, .int .i64 mf, .int .i64 xf, .bool false, .bool false, .int .i64 0, .int .i64 0] 33))
  have Bi := Lib.hid (Bh.out.alloc (.cells #[.int .i64 1, .string ⟨#[]⟩, .bool n1, .string s1, .int .i64 (k1 : Int), .int .i64 1, .int .i64 mf, .int .i64 xf, .bool false, .bool false, .int .i64 0, .int .i64 0] 33))
  have Ci := Lib.hid (Ch.out.alloc (.cells #[.int .i64 1, .string ⟨#[]⟩, .bool n1, .string s1, .int .i64 (k1 : Int), .int .i64 1, .int .i64 mf, .int .i64 xf, .bool false, .bool false, .int .i64 0, .int .i64 0] 33))
  have Zi := Lib.hid (below_new Zh.out (Nat.le_refl _) (.cells #[.int .i64 1, .string ⟨#[]⟩, .bool n1, .string s1, .int .i64 (k1 : Int), .int .i64 1, .int .i64 mf, .int .i64 xf, .bool false, .bool false, .int .i64 0, .int .i64 0] 33))
  have qa := Ah.out
  have za := qa.lt
  have a0 := qa.cell 0
  have a1 := qa.cell 1
  have a2 := qa.cell 2
  simp only [List.getElem?_toArray, List.getElem?_cons_zero, List.getElem?_cons_succ] at a0 a1 a2
  clear qa
  have qb := Bh.out
  have zb := qb.lt
  have b0 := qb.cell 0
  have b1 := qb.cell 1
  have b2 := qb.cell 2
  simp only [List.getElem?_toArray, List.getElem?_cons_zero, List.getElem?_cons_succ] at b0 b1 b2
  clear qb
  go_wp2_with fail
  go_at_call 20
  refine (HC.out _).mono ?_
  rintro e w7 ⟨rfl, hb7⟩
  clear za a0 a1 a2
  clear zb b0 b1 b2
  have Aj := Lib.hid (Ai.out.later hb7)
  have Bj := Lib.hid (Bi.out.later hb7)
  have Cj := Lib.hid (Ci.out.later hb7)
  have Dj := Lib.hid (Di.out.later hb7)
  have Zj := Lib.hid (below_then Zi.out (Nat.le_refl _) hb7)
  clear hb7
  have hsm' := Hsm.out
  have qa := Aj.out
  have za := qa.lt
  have a0 := qa.cell 0
  have a1 := qa.cell 1
  have a2 := qa.cell 2
  simp only [List.getElem?_toArray, List.getElem?_cons_zero, List.getElem?_cons_succ] at a0 a1 a2
  clear qa
  have qb := Bj.out
  have zb := qb.lt
  have b0 := qb.cell 0
  have b1 := qb.cell 1
  have b2 := qb.cell 2
  simp only [List.getElem?_toArray, List.getElem?_cons_zero, List.getElem?_cons_succ] at b0 b1 b2
  clear qb
  have qc := Cj.out
  have zc := qc.lt
  have c0 := qc.cell 0
  have c1 := qc.cell 1
  have c2 := qc.cell 2
  have c3 := qc.cell 3
  have c4 := qc.cell 4
  have c5 := qc.cell 5
  have c6 := qc.cell 6
  have c7 := qc.cell 7
  have c8 := qc.cell 8
  have c9 := qc.cell 9
  have c10 := qc.cell 10
  have c11 := qc.cell 11
  simp only [List.getElem?_toArray, List.getElem?_cons_zero, List.getElem?_cons_succ] at c0 c1 c2 c3 c4 c5 c6 c7 c8 c9 c10 c11
  clear qc
  have qd := Dj.out
  have zd := qd.lt
  have d0 := qd.cell 0
  have d1 := qd.cell 1
  have d2 := qd.cell 2
  have d3 := qd.cell 3
  have d4 := qd.cell 4
  have d5 := qd.cell 5
  have d6 := qd.cell 6
  have d7 := qd.cell 7
  have d8 := qd.cell 8
  have d9 := qd.cell 9
  have d10 := qd.cell 10
  have d11 := qd.cell 11
  simp only [List.getElem?_toArray, List.getElem?_cons_zero, List.getElem?_cons_succ] at d0 d1 d2 d3 d4 d5 d6 d7 d8 d9 d10 d11
  clear qd
  have start : Vs w.heap.size (w.heap.size + 1) w4.heap.size w6.heap.size w (.bool n1) (.string s1) (.int .i64 (k1 : Int)) (.bool n2) (.string s2) (.int .i64 (k2 : Int)) (.int .i64 1) (.string ⟨#[]⟩) (.bool n1) (.string s1) (.int .i64 (k1 : Int)) (.int .i64 1) (.int .i64 0) (.int .i64 3) (.bool false) (.bool false) (.int .i64 0) (.int .i64 0) (.int .i64 1) (.string ⟨#[]⟩) (.bool n1) (.string s1) (.int .i64 (k1 : Int)) (.int .i64 1) (.int .i64 mf) (.int .i64 xf) (.bool false) (.bool false) (.int .i64 0) (.int .i64 0) w7 :=
    ⟨a0, a1, a2, b0, b1, b2, c0, c1, c2, c3, c4, c5, c6, c7, c8, c9, c10, c11, d0, d1, d2, d3, d4, d5, d6, d7, d8, d9, d10, d11, za, zb, zc, zd, Zj.out.size, shp_below Hsh.out Zj.out, Zj.out⟩
  have Start := Lib.hid start
  clear start
  go_wp2_with fail
  go_region_held3 (fun w' => w'.cell? ⟨w.heap.size, 0, none⟩ = some (.bool n1) ∧ w'.cell? ⟨w.heap.size, 1, none⟩ = some (.string s1) ∧ w'.cell? ⟨w.heap.size, 2, none⟩ = some (.int .i64 (k1 : Int)) ∧ w'.cell? ⟨(w.heap.size + 1), 0, none⟩ = some (.bool n2) ∧ w'.cell? ⟨(w.heap.size + 1), 1, none⟩ = some (.string s2) ∧ w'.cell? ⟨(w.heap.size + 1), 2, none⟩ = some (.int .i64 (k2 : Int)) ∧ w'.cell? ⟨w4.heap.size, 0, none⟩ = some (.int .i64 1) ∧ w'.cell? ⟨w4.heap.size, 1, none⟩ = some (.string ⟨#[]⟩) ∧ w'.cell? ⟨w4.heap.size, 2, none⟩ = some (.bool n1) ∧ w'.cell? ⟨w4.heap.size, 3, none⟩ = some (.string s1) ∧ w'.cell? ⟨w4.heap.size, 4, none⟩ = some (.int .i64 (k1 : Int)) ∧ w'.cell? ⟨w4.heap.size, 5, none⟩ = some (.int .i64 1) ∧ w'.cell? ⟨w4.heap.size, 6, none⟩ = some (.int .i64 0) ∧ w'.cell? ⟨w4.heap.size, 7, none⟩ = some (.int .i64 3) ∧ w'.cell? ⟨w4.heap.size, 8, none⟩ = some (.bool false) ∧ w'.cell? ⟨w4.heap.size, 9, none⟩ = some (.bool false) ∧ w'.cell? ⟨w4.heap.size, 10, none⟩ = some (.int .i64 0) ∧ w'.cell? ⟨w4.heap.size, 11, none⟩ = some (.int .i64 0) ∧ w'.cell? ⟨w6.heap.size, 0, none⟩ = some (.int .i64 1) ∧ w'.cell? ⟨w6.heap.size, 1, none⟩ = some (.string ⟨#[]⟩) ∧ w'.cell? ⟨w6.heap.size, 2, none⟩ = some (.bool n1) ∧ w'.cell? ⟨w6.heap.size, 3, none⟩ = some (.string s1) ∧ w'.cell? ⟨w6.heap.size, 4, none⟩ = some (.int .i64 (k1 : Int)) ∧ w'.cell? ⟨w6.heap.size, 5, none⟩ = some (.int .i64 1) ∧ w'.cell? ⟨w6.heap.size, 6, none⟩ = some (.int .i64 mf) ∧ w'.cell? ⟨w6.heap.size, 7, none⟩ = some (.int .i64 xf) ∧ w'.cell? ⟨w6.heap.size, 8, none⟩ = some (.bool false) ∧ w'.cell? ⟨w6.heap.size, 9, none⟩ = some (.bool false) ∧ w'.cell? ⟨w6.heap.size, 10, none⟩ = some (.int .i64 0) ∧ w'.cell? ⟨w6.heap.size, 11, none⟩ = some (.int .i64 0) ∧ w.heap.size + 1 ≤ w'.heap.size ∧ (w.heap.size + 1) + 1 ≤ w'.heap.size ∧ w4.heap.size + 1 ≤ w'.heap.size ∧ w6.heap.size + 1 ≤ w'.heap.size ∧ w.heap.size ≤ w'.heap.size ∧ w'.ShapedOpen Tryz.prog ∧ Below w.heap.size w w')
    (first | (exact vs_later (by assumption) (by assumption)) | (exact vs_later (Below.refl _ _).drew Start.out) | go_keep)
    (first | (go_at_call 19; (with_reducible refine (StrTo.at_ HS2.out _).mono ?_); rintro e w8 ⟨rfl, hb8⟩) | (go_at_call 19; (with_reducible refine (StrTo.at_ HS1.out _).mono ?_); rintro e w8 ⟨rfl, hb8⟩) | (go_at_call 19; (with_reducible refine (StrTo.at_ HSP.out _).mono ?_); rintro e w8 ⟨rfl, hb8⟩) | (go_at_call 21; (with_reducible refine (PadTo.at_ HPad.out _).mono ?_); rintro e w8 ⟨rfl, hb8⟩) | (go_at_call 22; (with_reducible refine (str_any T1 _).mono ?_); rintro e w8 ⟨rfl, hb8⟩) | (go_at_call 23; (with_reducible refine (at_any 1 _).mono ?_); rintro e w8 ⟨rfl, hb8⟩) | (go_at_call 15; (with_reducible refine (IsTo.at_ HIv.out _ (by first | assumption | exact vs_shp (by assumption))).mono ?_); rintro e w8 ⟨rfl, hb8⟩) | (go_at_call 15; (with_reducible refine (IsTo.at_ HIw.out _ (by first | assumption | exact vs_shp (by assumption))).mono ?_); rintro e w8 ⟨rfl, hb8⟩) | (go_at_call 15; (with_reducible refine (IsTo.at_ HIp.out _ (by first | assumption | exact vs_shp (by assumption))).mono ?_); rintro e w8 ⟨rfl, hb8⟩) | (go_at_call 15; (with_reducible refine (HIt.out _).mono ?_); rintro e w8 ⟨rfl, hb8⟩) | (go_at_call 15; (with_reducible refine (HIa.out _).mono ?_); rintro e w8 ⟨rfl, hb8⟩))
  go_wp2
  go_ret
  exact ⟨rfl, vs_below (by assumption)⟩
end Go.Proofs.YtglennfjeacpoaaGreatDoor
