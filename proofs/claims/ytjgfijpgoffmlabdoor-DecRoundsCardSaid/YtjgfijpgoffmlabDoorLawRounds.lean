/-
  DecRounds: any number with fewer digits is the nearest one; of two that are as near the even one. Conditions: none.
-/
import Derived.Test.YtjgfijpgoffmlabDoorFixCmp
import Derived.Test.YtjgfijpgoffmlabDoorFixSub
import Derived.Test.YtjgfijpgoffmlabDoorFixTwice
import Derived.Test.YtjgfijpgoffmlabDoorFixMath3
import Derived.Test.YtjgfijpgoffmlabDoorA11
import Derived.Deep.RegionWith
import Derived.Deep.DrawnRows
import Derived.Deep.CutBlock
namespace Go.Proofs.YtjgfijpgoffmlabDoor
open Go.RowKit
attribute [local go_sem ↓] Go.wp_at_zero Go.wp_at_succ
set_option linter.unusedVariables false
set_option linter.unusedSimpArgs false

/-- A number of three cells, and the frame. -/
structure One3 (Z : Nat) (w W : World) (a0 a1 a2 : Value) : Prop where
  a0 : W.cell? ⟨Z, 0, none⟩ = some a0
  a1 : W.cell? ⟨Z, 1, none⟩ = some a1
  a2 : W.cell? ⟨Z, 2, none⟩ = some a2
  zA : Z + 1 ≤ W.heap.size
  hB : Below w.heap.size w W
theorem One3.call {Z : Nat} {w W w1 : World} {a0 a1 a2 : Value} (h : One3 Z w W a0 a1 a2) (hZ : w.heap.size ≤ W.heap.size) (hb : Below W.heap.size W w1) : One3 Z w w1 a0 a1 a2 := by
  have hz := hb.size
  have zA := h.zA
  exact ⟨((bcell hb).1 Z 0 (by omega)).trans h.a0, ((bcell hb).1 Z 1 (by omega)).trans h.a1, ((bcell hb).1 Z 2 (by omega)).trans h.a2, by omega, h.hB.trans (hb.mono hZ)⟩
theorem One3.next {Z : Nat} {w W w1 : World} {a0 a1 a2 : Value} (h : One3 Z w W a0 a1 a2) (hb : Below W.heap.size W w1) : One3 Z w w1 a0 a1 a2 := h.call h.hB.size hb
theorem One3.alloc {Z : Nat} {w W : World} {a0 a1 a2 : Value} (h : One3 Z w W a0 a1 a2) (o : Obj) : One3 Z w (W.alloc o) a0 a1 a2 := h.next ((Below.refl _ _).alloc (Nat.le_refl _) o)
theorem One3.start {w w1 : World} {t1 : TypeId} {a0 a1 a2 : Value} (hb : Below (w.alloc (.cells #[a0, a1, a2] t1)).heap.size (w.alloc (.cells #[a0, a1, a2] t1)) w1) : One3 w.heap.size w w1 a0 a1 a2 := by
  refine One3.next (W := w.alloc (.cells #[a0, a1, a2] t1)) ⟨?_, ?_, ?_, by simp, (Below.refl _ _).alloc (Nat.le_refl _) _⟩ hb
  all_goals go_simp

theorem One3.low {B Z : Nat} {w W w1 : World} {a0 a1 a2 : Value} (h : One3 Z w W a0 a1 a2) (hb : Below B W w1) (hZ : Z < B) (hw : w.heap.size ≤ B) : One3 Z w w1 a0 a1 a2 :=
  ⟨(hb.cell (p := ⟨Z, 0, none⟩) hZ).trans h.a0, (hb.cell (p := ⟨Z, 1, none⟩) hZ).trans h.a1, (hb.cell (p := ⟨Z, 2, none⟩) hZ).trans h.a2, by have := hb.size; have := h.zA; omega, h.hB.trans (hb.mono hw)⟩
theorem RowF.low {B b : Nat} {W w1 : World} {A : Nat → Int} (h : RowF W b A) (hb : Below B W w1) (hl : b < B) : RowF w1 b A := fun p hp => by
  rw [hb.cell (p := ⟨b, p, none⟩) hl, hb.frozen (p := ⟨b, p, none⟩) hl]
  exact h p hp

theorem range_call {W w1 : World} {b o : Nat} {cs : List Value} (h : W.rangeAt b o cs) (hb : Below W.heap.size W w1) (hl : b < W.heap.size) : w1.rangeAt b o cs := fun j v hv => by
  rw [(bcell hb).1 b (o + j) hl]
  exact h j v hv
theorem yields_fix {ops : Array Oper} {S : World → Prop} {op : Oper} {a : Act} (hw : Region.wanted op (yielded ops a.tmps) = true) (x : Operand) (ho : op.op = .load 31 x) (b : Nat) (hx : a.eval x = .pointer (some ⟨b, 0, none⟩)) (A : Nat → Int) (hS : ∀ w, S w → w.rangeAt b 0 (row 200 A).toList) : YieldsIf Tryd.prog ops S op (.agg (row 200 A)) a := by
  have h := yieldsIf_load_mid (P := Tryd.prog) hw 31 x ho b 0 hx (row 200 A).toList _ hS fixUnder rfl (by rw [fixSize, Array.length_toList, row_size])
  rw [Array.toArray_toList] at h
  exact h
theorem three_rows {G U Y : Nat} {D T B : Nat → Int} {w W w1 : World} (hb : Below W.heap.size W w1) (h : W.rangeAt G 0 (row 200 D).toList ∧ W.rangeAt U 0 (row 200 T).toList ∧ W.rangeAt Y 0 (row 200 B).toList ∧ G + 1 ≤ W.heap.size ∧ U + 1 ≤ W.heap.size ∧ Y + 1 ≤ W.heap.size ∧ w.heap.size ≤ W.heap.size ∧ Below w.heap.size w W) : w1.rangeAt G 0 (row 200 D).toList ∧ w1.rangeAt U 0 (row 200 T).toList ∧ w1.rangeAt Y 0 (row 200 B).toList ∧ G + 1 ≤ w1.heap.size ∧ U + 1 ≤ w1.heap.size ∧ Y + 1 ≤ w1.heap.size ∧ w.heap.size ≤ w1.heap.size ∧ Below w.heap.size w w1 := by
  obtain ⟨r1, r2, r3, z1, z2, z3, z4, hB⟩ := h
  have hz := hb.size
  exact ⟨range_call r1 hb z1, range_call r2 hb z2, range_call r3 hb z3, by omega, by omega, by omega, by omega, hB.trans (hb.mono z4)⟩
theorem three_out {G U Y : Nat} {D T B : Nat → Int} {w W : World} (h : W.rangeAt G 0 (row 200 D).toList ∧ W.rangeAt U 0 (row 200 T).toList ∧ W.rangeAt Y 0 (row 200 B).toList ∧ G + 1 ≤ W.heap.size ∧ U + 1 ≤ W.heap.size ∧ Y + 1 ≤ W.heap.size ∧ w.heap.size ≤ W.heap.size ∧ Below w.heap.size w W) : (∀ p, p < 200 → W.cell? ⟨Y, p, none⟩ = some (.int .i64 (B p))) ∧ Below w.heap.size w W := by
  obtain ⟨r1, r2, r3, z1, z2, z3, z4, hB⟩ := h
  refine ⟨fun p hp => ?_, hB⟩
  have := r3 p (.int .i64 (B p)) (by rw [Array.getElem?_toList, row_get 200 B p hp])
  rw [Nat.zero_add] at this
  exact this

set_option maxHeartbeats 8000000 in
set_option maxRecDepth 100000 in
theorem rounds_core (n : Bool) (s : ByteArray) (k : Int) (x : Int) (w : World) (hsh : w.ShapedOpen Tryd.prog) (hs : s.size ≤ 9223372036854775807) (lo : -9223372036854775808 ≤ k) (hi : k ≤ 9223372036854775807) (hx0 : -9223372036854775808 ≤ x) (hx1 : x ≤ 9223372036854775807) :
    Calls Tryd.prog 5 #[.agg #[.bool n, .string s, .int .i64 k], .int .i64 x] w fun e w' => e = .returned (.bool true) ∧ Below w.heap.size w w' := by
  have hrs := row_size 200
  have hz := fixZero
  have hq := fix_eq
  go_enter Tryd.func5, Tryd.ntmps5
  go_wp2_with fail
  go_at_call 8
  refine (head_any _ (shp_alloc hsh _)).mono ?_
  rintro e wh ⟨rfl, hbh⟩
  have K := One3.start hbh
  clear hbh hsh
  obtain ⟨f0, f1, f2, zA, hB⟩ := K
  go_wp2_with fail
  go_at_call 15
  refine (lawRight_any n s k _ hs lo hi).mono ?_
  rintro e wr ⟨hr, hb⟩
  have K := One3.next ⟨f0, f1, f2, zA, hB⟩ hb
  clear f0 f1 f2 zA hB hb
  obtain ⟨f0, f1, f2, zA, hB⟩ := K
  rcases hr with rfl | ⟨k, rfl, hN, rfl⟩
  · go_wp2
    go_ret
    exact ⟨rfl, hB⟩
  by_cases hx : 60 < x
  · go_wp2
    go_ret
    exact ⟨rfl, hB⟩
  have q1 := hN.le
  have q2 := hN.lt
  rw [size_data] at q1 q2
  have hround := fun W => round_any n s k x W (by omega) (by omega) hN.digs hx0 hx1
  obtain ⟨R, hR⟩ : ∃ R : ByteArray, R = ⟨(roundL s.data.toList k x.toNat).toArray⟩ := ⟨_, rfl⟩
  rw [← hR] at hround
  have HR := Lib.hid hR
  have HN := Lib.hid hN
  clear hR hN
  have hmax : max x 0 = ((x.toNat : Nat) : Int) := by omega
  generalize hm : x.toNat = m at *
  have hmx : m ≤ 60 := by omega
  have Hm := Lib.hid hm
  clear hm
  by_cases hkm : k ≤ m
  · have hRs : R = s := by
      rw [HR.out]
      apply bytes_eq
      show roundL s.data.toList k m = s.data.toList
      unfold roundL
      rw [if_neg (by omega)]
    have hmin : min k m = k := by omega
    rw [hRs, hmin] at hround
    clear HR hRs hmin
    have hkm' : (k : Int) ≤ (m : Int) := by omega
    go_wp2_with fail
    go_at_call 20
    refine (hround _).mono ?_
    rintro e wa ⟨rfl, hb⟩
    have K := One3.next ⟨f0, f1, f2, zA, hB⟩ hb
    clear f0 f1 f2 zA hB hb
    obtain ⟨f0, f1, f2, zA, hB⟩ := K
    have yA : w.heap.size < wa.heap.size := zA
    have dcb : (60 < x) = False := by simp; omega
    go_wp2
    go_ret
    exact ⟨rfl, hB.alloc (by omega) _⟩
  · have hmin : min k m = m := by omega
    rw [hmin] at hround
    go_wp2_with fail
    go_at_call 20
    refine (hround _).mono ?_
    rintro e wa ⟨rfl, hb⟩
    have K := One3.next ⟨f0, f1, f2, zA, hB⟩ hb
    clear f0 f1 f2 zA hB hb
    go_upto_region 6 with fail
    have K2 := K.alloc (.cells #[.bool n, .string R, .int .i64 m] 24)
    have e0 : (wa.alloc (.cells #[.bool n, .string R, .int .i64 m] 24)).cell? ⟨wa.heap.size, 0, none⟩ = some (.bool n) := by go_simp
    have e1 : (wa.alloc (.cells #[.bool n, .string R, .int .i64 m] 24)).cell? ⟨wa.heap.size, 1, none⟩ = some (.string R) := by go_simp
    have e2 : (wa.alloc (.cells #[.bool n, .string R, .int .i64 m] 24)).cell? ⟨wa.heap.size, 2, none⟩ = some (.int .i64 m) := by go_simp
    have zE : wa.heap.size + 1 ≤ (wa.alloc (.cells #[.bool n, .string R, .int .i64 m] 24)).heap.size := by simp
    have zW := K.hB.size
    generalize wa.heap.size = E at *
    generalize wa.alloc (.cells #[.bool n, .string R, .int .i64 m] 24) = wb at *
    clear K
    obtain ⟨f0, f1, f2, zA, hB⟩ := K2
    have hkm' : ¬ (k : Int) ≤ (m : Int) := by omega
    have hRl : R.data.toList = roundL s.data.toList k m := by rw [HR.out]
    have hRlen := roundL_length s.data.toList k m (by rw [size_data]; omega)
    have hRlo := roundL_len s.data.toList k m (by rw [size_data]; omega) (by omega)
    rw [← hRl, size_data, size_data] at hRlen
    rw [← hRl, size_data, size_data] at hRlo
    have hRr := round_right s.data.toList k m HN.out (by omega)
    rw [← hRl] at hRr
    have hright := fun W => right_any n R (m : Int) W (by unfold maxLen; omega) (by omega) (by omega)
    rw [hRr] at hright
    have HRr := Lib.hid hRr
    clear hRr
    have hR100 : ¬ (100 : Int) < R.size := by omega
    go_wp2_with fail
    go_at_call 12
    refine (hright _).mono ?_
    rintro e wd ⟨rfl, hb⟩
    have zE2 : E + 1 ≤ wd.heap.size := Nat.le_trans zE hb.size
    have e0' := ((bcell hb).1 E 0 zE).trans e0
    have e1' := ((bcell hb).1 E 1 zE).trans e1
    have e2' := ((bcell hb).1 E 2 zE).trans e2
    have K := One3.next ⟨f0, f1, f2, zA, hB⟩ hb
    clear f0 f1 f2 zA hB hb e0 e1 e2 zE
    obtain ⟨f0, f1, f2, zA, hB⟩ := K
    go_upto_region 11 with fail
    have K1 : One3 w.heap.size w wd _ _ _ := ⟨f0, f1, f2, zA, hB⟩
    have K2 : One3 E w wd _ _ _ := ⟨e0', e1', e2', zE2, hB⟩
    clear f0 f1 f2 zA hB e0' e1' e2' zE2
    have hwd := K1.hB.size
    have hofd := fun W => of_any n s k W (by omega) (by omega) (by omega) HN.out.digs
    have hofr := fun W => of_any n R m W (by omega) (by omega) (by omega) (by rw [hRl]; exact roundL_digs _ _ _ HN.out.digs)
    have hrows := rounds_rows s.data.toList k m HN.out (by omega)
    rw [← hRl] at hrows
    have hdA := fixF_digs s.data.toList k HN.out.digs
    have hdB := fixF_digs R.data.toList m (by rw [hRl]; exact roundL_digs _ _ _ HN.out.digs)
    generalize fixF s.data.toList k = A at *
    generalize fixF R.data.toList m = B at *
    have Hrows := Lib.hid hrows
    have HdA := Lib.hid hdA
    have HdB := Lib.hid hdB
    clear hrows hdA hdB hRl HRr HR
    have KK := Lib.hid (And.intro K1 K2)
    have c1 := K1.a0
    have c2 := K1.a1
    have c3 := K1.a2
    clear K1 K2
    go_wp2_with fail
    go_at_call 16
    refine (hofd _).mono ?_
    rintro e wx ⟨rfl, hb⟩
    have K1 := KK.out.1.next hb
    have K2 := KK.out.2.next hb
    clear c1 c2 c3 KK
    go_wp2
    rw [fix_storeNew _ _ _ _ _ rfl]
    simp only [Result.andThen]
    rw [Oper.upon_skip]
    have hwx : w.heap.size ≤ wx.heap.size := K1.hB.size
    have zEx : E < wx.heap.size := K2.zA
    replace K1 := K1.alloc (.cells (row 200 A) 31)
    replace K2 := K2.alloc (.cells (row 200 A) 31)
    have KA := RowF.new wx A 31
    have yA : wx.heap.size < (wx.alloc (.cells (row 200 A) 31)).heap.size := by simp
    generalize wx.heap.size = X at *
    generalize wx.alloc (.cells (row 200 A) 31) = wx2 at *
    have c1 := K2.a0
    have c2 := K2.a1
    have c3 := K2.a2
    go_wp2_with fail
    go_at_call 16
    refine (hofr _).mono ?_
    rintro e wy ⟨rfl, hb⟩
    replace K1 := K1.next hb
    replace K2 := K2.next hb
    replace KA := KA.call hb yA
    replace yA : X < wy.heap.size := Nat.lt_of_lt_of_le yA hb.size
    clear c1 c2 c3 hb
    go_wp2
    rw [fix_storeNew _ _ _ _ _ rfl]
    simp only [Result.andThen]
    rw [Oper.upon_skip]
    replace K1 := K1.alloc (.cells (row 200 B) 31)
    replace K2 := K2.alloc (.cells (row 200 B) 31)
    have KB := RowF.new wy B 31
    replace KA := KA.alloc yA (.cells (row 200 B) 31)
    have yB : wy.heap.size < (wy.alloc (.cells (row 200 B) 31)).heap.size := by simp
    have xy : X < wy.heap.size := yA
    generalize wy.heap.size = Y at *
    generalize wy.alloc (.cells (row 200 B) 31) = wy2 at *
    go_wp2
    rw [fix_storeNew _ _ _ _ _ rfl]
    simp only [Result.andThen]
    rw [Oper.upon_skip]
    replace K1 := K1.alloc (.cells (row 200 fun _ => 0) 31)
    replace K2 := K2.alloc (.cells (row 200 fun _ => 0) 31)
    have KG := RowF.new wy2 (fun _ => 0) 31
    replace KA := KA.alloc (Nat.lt_trans xy yB) (.cells (row 200 fun _ => 0) 31)
    replace KB := KB.alloc yB (.cells (row 200 fun _ => 0) 31)
    have yG : wy2.heap.size < (wy2.alloc (.cells (row 200 fun _ => 0) 31)).heap.size := by simp
    have yz : Y < wy2.heap.size := yB
    generalize wy2.heap.size = G at *
    generalize wy2.alloc (.cells (row 200 fun _ => 0) 31) = wg at *
    clear yA yB
    have hlt := lexF_num HdA.out HdB.out
    have hles := fun W => less_any A B W
    rw [hlt] at hles
    clear hlt
    go_upto_region 14 with fail
    go_step
    go_step
    refine wp_fix_load _ rfl _ rfl _ KA ?_
    go_step
    go_step
    refine wp_fix_load _ rfl _ rfl _ KB ?_
    go_wp2_with fail
    go_at_call 17
    refine (hles _).mono ?_
    rintro e wl ⟨rfl, hb⟩
    replace K1 := K1.next hb
    replace K2 := K2.next hb
    replace KA := KA.call hb (by omega)
    replace KB := KB.call hb (by omega)
    replace KG := KG.call hb yG
    replace yG : G < wl.heap.size := Nat.lt_of_lt_of_le yG hb.size
    clear hb hles
    by_cases hcc : hor B 200 < hor A 200
    · have hcm : cmpZ (hor A 200) (hor B 200) = 1 := by unfold cmpZ; rw [if_neg (by omega), if_neg (by omega)]
      have hgap := less_num HdA.out HdB.out (by omega)
      have hsub := fun W => sub_any A B W HdA.out HdB.out (by omega)
      have hpow : ((10 ^ (100 - m) : Nat) : Int) < ((10 ^ 200 : Nat) : Int) := Int.ofNat_lt.2 (Nat.pow_lt_pow_right (by decide) (by omega))
      have htw := twice_num hgap.1 (by rw [hgap.2]; have := Hrows.out; omega)
      have htwc := fun W => twice_any (leS A B 200) W hgap.1
      have hlc := lexF_num htw.1 (unit_digs m)
      rw [htw.2, unit_hor m (by omega), hgap.2] at hlc
      have hfin : lexF (twS (leS A B 200) 200).1 (unitF m) 0 200 < 0 ∨ (lexF (twS (leS A B 200) 200).1 (unitF m) 0 200 = 0 ∧ B (99 + m) % 2 = 0) := by
        rw [hlc]
        have hr := Hrows.out
        unfold cmpZ
        generalize ((10 ^ (100 - m) : Nat) : Int) = T at *
        by_cases z1 : 2 * (hor A 200 - hor B 200) < T
        · left; rw [if_pos z1]; decide
        · have z2 : 2 * (hor A 200 - hor B 200) = T := by omega
          right; rw [if_neg z1, if_pos z2]; exact ⟨rfl, hr.2.2 (by left; exact z2)⟩
      have hlesc := fun W => less_any (twS (leS A B 200) 200).1 (unitF m) W
      have Hfin := Lib.hid hfin
      clear hgap hpow htw hlc hfin
      generalize (twS (leS A B 200) 200).1 = T2 at *
      generalize leS A B 200 = D at *
      generalize lexF T2 (unitF m) 0 200 = cf at *
      generalize cmpZ (hor A 200) (hor B 200) = cl at *
      subst hcm
      go_upto_region 15 with fail
      go_step
      go_step
      refine wp_fix_load _ rfl _ rfl _ KA ?_
      go_step
      go_step
      refine wp_fix_load _ rfl _ rfl _ KB ?_
      go_wp2_with fail
      go_at_call 21
      refine (hsub _).mono ?_
      rintro e ws ⟨rfl, hb⟩
      replace K1 := K1.next hb
      replace K2 := K2.next hb
      replace KA := KA.call hb (by omega)
      replace KB := KB.call hb (by omega)
      replace KG := KG.call hb yG
      replace yG : G < ws.heap.size := Nat.lt_of_lt_of_le yG hb.size
      clear hb hsub
      go_wp2
      rw [fix_storeCells KG _]
      simp only [Result.andThen]
      rw [Oper.upon_skip]
      have hbs := below_setCells G (Nat.le_refl _) (row 200 D).toList 0 ws (Below.refl G ws)
      replace K1 := K1.low hbs (by omega) (by omega)
      replace K2 := K2.low hbs (by omega) (by omega)
      replace KA := KA.low hbs (by omega)
      replace KB := KB.low hbs (by omega)
      have KD := KG.put D
      replace yG : G < (ws.setCells G 0 (row 200 D).toList).heap.size := Nat.lt_of_lt_of_le yG hbs.size
      clear KG hbs
      generalize ws.setCells G 0 (row 200 D).toList = wt at *
      go_wp2
      rw [fix_storeNew _ _ _ _ _ rfl]
      simp only [Result.andThen]
      rw [Oper.upon_skip]
      replace K1 := K1.alloc (.cells (row 200 fun _ => 0) 31)
      replace K2 := K2.alloc (.cells (row 200 fun _ => 0) 31)
      have KU := RowF.new wt (fun _ => 0) 31
      replace KA := KA.alloc (by omega) (.cells (row 200 fun _ => 0) 31)
      replace KB := KB.alloc (by omega) (.cells (row 200 fun _ => 0) 31)
      replace KD := KD.alloc yG (.cells (row 200 fun _ => 0) 31)
      have yU : wt.heap.size < (wt.alloc (.cells (row 200 fun _ => 0) 31)).heap.size := by simp
      have gu : G < wt.heap.size := yG
      generalize wt.heap.size = U at *
      generalize wt.alloc (.cells (row 200 fun _ => 0) 31) = wu at *
      clear yG
      have hcu := (KU (99 + m) (by omega)).1
      have hfu := (KU (99 + m) (by omega)).2
      have hi0 : (0 : Int) ≤ 99 + (m : Int) := by omega
      have hi1 : 99 + (m : Int) < 200 := by omega
      have hi2 : (99 + (m : Int)).toNat = 99 + m := by omega
      have KU2 : RowF (wu.setCell ⟨U, 99 + m, none⟩ (.int .i64 1)) U (unitF m) := KU.set (99 + m) 1
      have hbu := (Below.refl U wu).setCell (p := ⟨U, 99 + m, none⟩) (Nat.le_refl _) (.int .i64 1)
      replace K1 := K1.low hbu (by omega) (by omega)
      replace K2 := K2.low hbu (by omega) (by omega)
      replace KA := KA.low hbu (by omega)
      replace KB := KB.low hbu (by omega)
      replace KD := KD.low hbu gu
      clear KU hbu
      go_upto_region 19 with fail
      have hu31 := fixUnder
      have hiD : (Tryd.prog.info? 31).map (·.size) = some (row 200 D).toList.length := by rw [fixSize, Array.length_toList, row_size]
      have hiU : (Tryd.prog.info? 31).map (·.size) = some (row 200 (unitF m)).toList.length := by rw [fixSize, Array.length_toList, row_size]
      have htD : (row 200 D).toList.toArray = row 200 D := Array.toArray_toList
      have htU : (row 200 (unitF m)).toList.toArray = row 200 (unitF m) := Array.toArray_toList
      have yU2 : U + 1 ≤ (wu.setCell ⟨U, 99 + m, none⟩ (.int .i64 1)).heap.size := by simp; omega
      have KR1 := KD.range
      have KR2 := KU2.range
      have KR3 := KB.range
      have hBw := K1.hB
      have hzw := K1.hB.size
      have zG : G + 1 ≤ (wu.setCell ⟨U, 99 + m, none⟩ (.int .i64 1)).heap.size := by omega
      have zY : Y + 1 ≤ (wu.setCell ⟨U, 99 + m, none⟩ (.int .i64 1)).heap.size := by omega
      have hB0 := (HdB.out (99 + m)).1
      clear K1 K2 KA KB KD KU2 hcu hfu Hrows HdA HdB hofd hofr hround hright
      generalize wu.setCell ⟨U, 99 + m, none⟩ (.int .i64 1) = wv at *
      refine wp_region_held_drew (S := (fun w' => w'.rangeAt G 0 (row 200 D).toList ∧ w'.rangeAt U 0 (row 200 (unitF m)).toList ∧ w'.rangeAt Y 0 (row 200 B).toList ∧ G + 1 ≤ w'.heap.size ∧ U + 1 ≤ w'.heap.size ∧ Y + 1 ≤ w'.heap.size ∧ w.heap.size ≤ w'.heap.size ∧ Below w.heap.size w w')) (by kernel_rfl) ⟨(World.rangeAt_drew _ _ _ _).2 KR1, (World.rangeAt_drew _ _ _ _).2 KR2, (World.rangeAt_drew _ _ _ _).2 KR3, zG, yU2, zY, hzw, hBw.drew⟩ (fun hHeld => ?_)
      refine wpAnyH_take (i := 0) (v := .agg (row 200 D)) rfl (by kernel_rfl) (by kernel_rfl) (by kernel_rfl) (fun _ _ _ h => h) (yields_fix (by kernel_rfl) _ rfl G rfl _ (fun _ h => h.1)) (by assumption) ?_
      try simp only [Act.put, List.setIfInBounds_toArray, List.set_cons_zero, List.set_cons_succ]
      refine wpAnyH_take (i := 2) (v := .agg (row 200 (unitF m))) rfl (by kernel_rfl) (by kernel_rfl) (by kernel_rfl) (fun _ _ _ h => h) (yields_fix (by kernel_rfl) _ rfl U rfl _ (fun _ h => h.2.1)) (by assumption) ?_
      try simp only [Act.put, List.setIfInBounds_toArray, List.set_cons_zero, List.set_cons_succ]
      refine wpAnyH_ready (rs := [1]) (by kernel_rfl) (by simp) ?_
      refine AllReadyH.cons rfl (fun K hK => ?_) AllReadyH.nil
      go_simp
      go_at_call 22
      refine (htwc _).mono ?_
      rintro e x1 ⟨rfl, hbx⟩
      go_wp2_with fail
      refine hK.out _ _ (three_rows hbx hHeld) (fun hHeld2 => ?_)
      clear hHeld hbx hK K
      have hHeld := hHeld2
      clear hHeld2
      try simp only [Act.put, List.setIfInBounds_toArray, List.set_cons_zero, List.set_cons_succ]
      refine wpAnyH_ready (rs := [3]) (by kernel_rfl) (by simp) ?_
      refine AllReadyH.cons rfl (fun K hK => ?_) AllReadyH.nil
      go_simp
      go_at_call 17
      refine (hlesc _).mono ?_
      rintro e x2 ⟨rfl, hbx⟩
      go_wp2_with fail
      refine hK.out _ _ (three_rows hbx hHeld) (fun hHeld2 => ?_)
      clear hHeld hbx hK K
      have hHeld := hHeld2
      clear hHeld2
      try simp only [Act.put, List.setIfInBounds_toArray, List.set_cons_zero, List.set_cons_succ]
      refine wpAnyH_take (i := 4) (v := ?_) rfl (by kernel_rfl) (by kernel_rfl) (by kernel_rfl) (fun _ _ _ h => h) (Or.inl ⟨by kernel_rfl, ?_⟩) (by assumption) ?_
      rotate_left
      · intro w0 hSw; (try dsimp only at hSw); (go_simp <;> with_reducible rfl)
      try simp only [Act.put, List.setIfInBounds_toArray, List.set_cons_zero, List.set_cons_succ]
      refine wpAnyH_done (by kernel_rfl) ?_ _
      obtain ⟨hcellY, hBend⟩ := three_out hHeld
      clear hHeld
      have hy := hcellY (99 + m) (by omega)
      clear hcellY
      have hi0' : (0 : Int) ≤ 99 + (m : Int) := by omega
      rcases Hfin.out with hneg | ⟨hzero, heven⟩
      · go_wp2
        go_ret
        exact ⟨rfl, hBend⟩
      · subst hzero
        have hev2 : ((B (99 + m)).tmod 2 == 0) = true := by rw [beq_iff_eq, Int.tmod_eq_emod_of_nonneg hB0]; exact heven
        go_wp2
        go_ret
        exact ⟨rfl, hBend⟩
    · have hcm : cmpZ (hor A 200) (hor B 200) ≤ 0 := (cmpZ_le _ _).2 (by omega)
      have hcm2 : ¬ 0 < cmpZ (hor A 200) (hor B 200) := by omega
      have hgap := less_num HdB.out HdA.out (by omega)
      have hsub := fun W => sub_any B A W HdB.out HdA.out (by omega)
      have hpow : ((10 ^ (100 - m) : Nat) : Int) < ((10 ^ 200 : Nat) : Int) := Int.ofNat_lt.2 (Nat.pow_lt_pow_right (by decide) (by omega))
      have htw := twice_num hgap.1 (by rw [hgap.2]; have := Hrows.out; omega)
      have htwc := fun W => twice_any (leS B A 200) W hgap.1
      have hlc := lexF_num htw.1 (unit_digs m)
      rw [htw.2, unit_hor m (by omega), hgap.2] at hlc
      have hfin : lexF (twS (leS B A 200) 200).1 (unitF m) 0 200 < 0 ∨ (lexF (twS (leS B A 200) 200).1 (unitF m) 0 200 = 0 ∧ B (99 + m) % 2 = 0) := by
        rw [hlc]
        have hr := Hrows.out
        unfold cmpZ
        generalize ((10 ^ (100 - m) : Nat) : Int) = T at *
        by_cases z1 : 2 * (hor B 200 - hor A 200) < T
        · left; rw [if_pos z1]; decide
        · have z2 : 2 * (hor B 200 - hor A 200) = T := by omega
          right; rw [if_neg z1, if_pos z2]; exact ⟨rfl, hr.2.2 (by right; exact z2)⟩
      have hlesc := fun W => less_any (twS (leS B A 200) 200).1 (unitF m) W
      have Hfin := Lib.hid hfin
      clear hgap hpow htw hlc hfin
      generalize (twS (leS B A 200) 200).1 = T2 at *
      generalize leS B A 200 = D at *
      generalize lexF T2 (unitF m) 0 200 = cf at *
      generalize cmpZ (hor A 200) (hor B 200) = cl at *
      go_upto_region 16 with fail
      go_step
      go_step
      refine wp_fix_load _ rfl _ rfl _ KB ?_
      go_step
      go_step
      refine wp_fix_load _ rfl _ rfl _ KA ?_
      go_wp2_with fail
      go_at_call 21
      refine (hsub _).mono ?_
      rintro e ws ⟨rfl, hb⟩
      replace K1 := K1.next hb
      replace K2 := K2.next hb
      replace KA := KA.call hb (by omega)
      replace KB := KB.call hb (by omega)
      replace KG := KG.call hb yG
      replace yG : G < ws.heap.size := Nat.lt_of_lt_of_le yG hb.size
      clear hb hsub
      go_wp2
      rw [fix_storeCells KG _]
      simp only [Result.andThen]
      rw [Oper.upon_skip]
      have hbs := below_setCells G (Nat.le_refl _) (row 200 D).toList 0 ws (Below.refl G ws)
      replace K1 := K1.low hbs (by omega) (by omega)
      replace K2 := K2.low hbs (by omega) (by omega)
      replace KA := KA.low hbs (by omega)
      replace KB := KB.low hbs (by omega)
      have KD := KG.put D
      replace yG : G < (ws.setCells G 0 (row 200 D).toList).heap.size := Nat.lt_of_lt_of_le yG hbs.size
      clear KG hbs
      generalize ws.setCells G 0 (row 200 D).toList = wt at *
      go_wp2
      rw [fix_storeNew _ _ _ _ _ rfl]
      simp only [Result.andThen]
      rw [Oper.upon_skip]
      replace K1 := K1.alloc (.cells (row 200 fun _ => 0) 31)
      replace K2 := K2.alloc (.cells (row 200 fun _ => 0) 31)
      have KU := RowF.new wt (fun _ => 0) 31
      replace KA := KA.alloc (by omega) (.cells (row 200 fun _ => 0) 31)
      replace KB := KB.alloc (by omega) (.cells (row 200 fun _ => 0) 31)
      replace KD := KD.alloc yG (.cells (row 200 fun _ => 0) 31)
      have yU : wt.heap.size < (wt.alloc (.cells (row 200 fun _ => 0) 31)).heap.size := by simp
      have gu : G < wt.heap.size := yG
      generalize wt.heap.size = U at *
      generalize wt.alloc (.cells (row 200 fun _ => 0) 31) = wu at *
      clear yG
      have hcu := (KU (99 + m) (by omega)).1
      have hfu := (KU (99 + m) (by omega)).2
      have hi0 : (0 : Int) ≤ 99 + (m : Int) := by omega
      have hi1 : 99 + (m : Int) < 200 := by omega
      have hi2 : (99 + (m : Int)).toNat = 99 + m := by omega
      have KU2 : RowF (wu.setCell ⟨U, 99 + m, none⟩ (.int .i64 1)) U (unitF m) := KU.set (99 + m) 1
      have hbu := (Below.refl U wu).setCell (p := ⟨U, 99 + m, none⟩) (Nat.le_refl _) (.int .i64 1)
      replace K1 := K1.low hbu (by omega) (by omega)
      replace K2 := K2.low hbu (by omega) (by omega)
      replace KA := KA.low hbu (by omega)
      replace KB := KB.low hbu (by omega)
      replace KD := KD.low hbu gu
      clear KU hbu
      go_upto_region 19 with fail
      have hu31 := fixUnder
      have hiD : (Tryd.prog.info? 31).map (·.size) = some (row 200 D).toList.length := by rw [fixSize, Array.length_toList, row_size]
      have hiU : (Tryd.prog.info? 31).map (·.size) = some (row 200 (unitF m)).toList.length := by rw [fixSize, Array.length_toList, row_size]
      have htD : (row 200 D).toList.toArray = row 200 D := Array.toArray_toList
      have htU : (row 200 (unitF m)).toList.toArray = row 200 (unitF m) := Array.toArray_toList
      have yU2 : U + 1 ≤ (wu.setCell ⟨U, 99 + m, none⟩ (.int .i64 1)).heap.size := by simp; omega
      have KR1 := KD.range
      have KR2 := KU2.range
      have KR3 := KB.range
      have hBw := K1.hB
      have hzw := K1.hB.size
      have zG : G + 1 ≤ (wu.setCell ⟨U, 99 + m, none⟩ (.int .i64 1)).heap.size := by omega
      have zY : Y + 1 ≤ (wu.setCell ⟨U, 99 + m, none⟩ (.int .i64 1)).heap.size := by omega
      have hB0 := (HdB.out (99 + m)).1
      clear K1 K2 KA KB KD KU2 hcu hfu Hrows HdA HdB hofd hofr hround hright
      generalize wu.setCell ⟨U, 99 + m, none⟩ (.int .i64 1) = wv at *
      refine wp_region_held_drew (S := (fun w' => w'.rangeAt G 0 (row 200 D).toList ∧ w'.rangeAt U 0 (row 200 (unitF m)).toList ∧ w'.rangeAt Y 0 (row 200 B).toList ∧ G + 1 ≤ w'.heap.size ∧ U + 1 ≤ w'.heap.size ∧ Y + 1 ≤ w'.heap.size ∧ w.heap.size ≤ w'.heap.size ∧ Below w.heap.size w w')) (by kernel_rfl) ⟨(World.rangeAt_drew _ _ _ _).2 KR1, (World.rangeAt_drew _ _ _ _).2 KR2, (World.rangeAt_drew _ _ _ _).2 KR3, zG, yU2, zY, hzw, hBw.drew⟩ (fun hHeld => ?_)
      refine wpAnyH_take (i := 0) (v := .agg (row 200 D)) rfl (by kernel_rfl) (by kernel_rfl) (by kernel_rfl) (fun _ _ _ h => h) (yields_fix (by kernel_rfl) _ rfl G rfl _ (fun _ h => h.1)) (by assumption) ?_
      try simp only [Act.put, List.setIfInBounds_toArray, List.set_cons_zero, List.set_cons_succ]
      refine wpAnyH_take (i := 2) (v := .agg (row 200 (unitF m))) rfl (by kernel_rfl) (by kernel_rfl) (by kernel_rfl) (fun _ _ _ h => h) (yields_fix (by kernel_rfl) _ rfl U rfl _ (fun _ h => h.2.1)) (by assumption) ?_
      try simp only [Act.put, List.setIfInBounds_toArray, List.set_cons_zero, List.set_cons_succ]
      refine wpAnyH_ready (rs := [1]) (by kernel_rfl) (by simp) ?_
      refine AllReadyH.cons rfl (fun K hK => ?_) AllReadyH.nil
      go_simp
      go_at_call 22
      refine (htwc _).mono ?_
      rintro e x1 ⟨rfl, hbx⟩
      go_wp2_with fail
      refine hK.out _ _ (three_rows hbx hHeld) (fun hHeld2 => ?_)
      clear hHeld hbx hK K
      have hHeld := hHeld2
      clear hHeld2
      try simp only [Act.put, List.setIfInBounds_toArray, List.set_cons_zero, List.set_cons_succ]
      refine wpAnyH_ready (rs := [3]) (by kernel_rfl) (by simp) ?_
      refine AllReadyH.cons rfl (fun K hK => ?_) AllReadyH.nil
      go_simp
      go_at_call 17
      refine (hlesc _).mono ?_
      rintro e x2 ⟨rfl, hbx⟩
      go_wp2_with fail
      refine hK.out _ _ (three_rows hbx hHeld) (fun hHeld2 => ?_)
      clear hHeld hbx hK K
      have hHeld := hHeld2
      clear hHeld2
      try simp only [Act.put, List.setIfInBounds_toArray, List.set_cons_zero, List.set_cons_succ]
      refine wpAnyH_take (i := 4) (v := ?_) rfl (by kernel_rfl) (by kernel_rfl) (by kernel_rfl) (fun _ _ _ h => h) (Or.inl ⟨by kernel_rfl, ?_⟩) (by assumption) ?_
      rotate_left
      · intro w0 hSw; (try dsimp only at hSw); (go_simp <;> with_reducible rfl)
      try simp only [Act.put, List.setIfInBounds_toArray, List.set_cons_zero, List.set_cons_succ]
      refine wpAnyH_done (by kernel_rfl) ?_ _
      obtain ⟨hcellY, hBend⟩ := three_out hHeld
      clear hHeld
      have hy := hcellY (99 + m) (by omega)
      clear hcellY
      have hi0' : (0 : Int) ≤ 99 + (m : Int) := by omega
      rcases Hfin.out with hneg | ⟨hzero, heven⟩
      · go_wp2
        go_ret
        exact ⟨rfl, hBend⟩
      · subst hzero
        have hev2 : ((B (99 + m)).tmod 2 == 0) = true := by rw [beq_iff_eq, Int.tmod_eq_emod_of_nonneg hB0]; exact heven
        go_wp2
        go_ret
        exact ⟨rfl, hBend⟩
end Go.Proofs.YtjgfijpgoffmlabDoor
