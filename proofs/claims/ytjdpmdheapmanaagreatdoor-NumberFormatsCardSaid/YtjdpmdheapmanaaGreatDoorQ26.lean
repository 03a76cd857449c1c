/-
  Several texts put together (part 26): what the law and the program call, walked; their contracts.
-/
import Derived.Test.YtjdpmdheapmanaaGreatDoorQ14
import Derived.Test.YtjdpmdheapmanaaGreatDoorQ22
import Derived.Test.YtjdpmdheapmanaaGreatDoorQ20
import Derived.Test.YtjdpmdheapmanaaGreatDoorQ23
import Derived.Test.YtjdpmdheapmanaaGreatDoorQ25
namespace Go.Proofs.YtjdpmdheapmanaaGreatDoor
open Go.RowKit
set_option linter.unusedVariables false
set_option linter.unusedSimpArgs false
theorem fix_eq (A B : Nat → Int) (w : World) : (Op.equalIn 10000 42 (.agg (row 200 A)) (.agg (row 200 B))).run Tryz.prog w = .ok (eqF A B 200) w :=
  run_equalIn_row w 9998 42 3 200 A B fixUnder Tryz.underlying3 (Tryz.isAgg3 w) (Tryz.sizeOf3 w)
theorem opts_inv : ∀ (l : List OPT) (o : OP), (∀ p ∈ l, OkO p) → BdP o → InvP o → InvP (optsF l o)
  | [], o, _, _, h => h
  | p :: l, o, hl, hb, h => opts_inv l (setO p o) (fun q hq => hl q (List.mem_cons_of_mem _ hq)) (set_bd (hl p (List.mem_cons_self ..)) hb) (set_inv (hl p (List.mem_cons_self ..)) hb h)
structure FoS (B b o s r : Nat) (cb co cs cr : Array Value) (w W : World) : Prop where
  b : BoxAt W b cb 29
  o : BoxAt W o co 26
  s : BoxAt W s cs 29
  r : BoxAt W r cr 29
  bel : Below B w W
theorem FoS.later {B b o s r : Nat} {cb co cs cr : Array Value} {w W W' : World} (h : FoS B b o s r cb co cs cr w W) (hB : B ≤ w.heap.size) (g : Below W.heap.size W W') : FoS B b o s r cb co cs cr w W' :=
  ⟨h.b.later g, h.o.later g, h.s.later g, h.r.later g, h.bel.trans (g.mono (Nat.le_trans hB h.bel.size))⟩
theorem FoS.drew {B b o s r : Nat} {cb co cs cr : Array Value} {w W : World} (h : FoS B b o s r cb co cs cr w W) : FoS B b o s r cb co cs cr w W.drew := ⟨h.b, h.o, h.s, h.r, h.bel.drew⟩
theorem FoS.kp {B b o s r m : Nat} {cb co cs cr : Array Value} {w W W' : World} (h : FoS B b o s r cb co cs cr w W) (hB : B ≤ m) (h1 : b ≠ m) (h2 : o ≠ m) (h3 : s ≠ m) (h4 : r ≠ m) (g : Kp m W W') : FoS B b o s r cb co cs cr w W' :=
  ⟨h.b.kp g h1, h.o.kp g h2, h.s.kp g h3, h.r.kp g h4, h.bel.trans (g.below.mono hB)⟩
theorem fo_all {w w4 w5 w6 W : World} {n pl rk : Bool} {s S R : ByteArray} {k mi mf xf kr k1 : Int} (h : FoS w.heap.size w.heap.size w4.heap.size w5.heap.size w6.heap.size #[.bool n, .string s, .int .i64 k] #[.int .i64 mi, .int .i64 mf, .int .i64 xf, .bool pl, .bool rk] #[.bool n, .string S, .int .i64 kr] #[.bool n, .string R, .int .i64 k1] w W) : W.cell? ⟨w5.heap.size, 0, none⟩ = some (.bool n) ∧ W.cell? ⟨w5.heap.size, 1, none⟩ = some (.string S) ∧ W.cell? ⟨w5.heap.size, 2, none⟩ = some (.int .i64 kr) ∧ W.cell? ⟨w6.heap.size, 0, none⟩ = some (.bool n) ∧ W.cell? ⟨w6.heap.size, 1, none⟩ = some (.string R) ∧ W.cell? ⟨w6.heap.size, 2, none⟩ = some (.int .i64 k1) ∧ W.cell? ⟨w.heap.size, 0, none⟩ = some (.bool n) ∧ W.cell? ⟨w4.heap.size, 0, none⟩ = some (.int .i64 mi) ∧ W.cell? ⟨w4.heap.size, 1, none⟩ = some (.int .i64 mf) ∧ W.cell? ⟨w4.heap.size, 2, none⟩ = some (.int .i64 xf) ∧ FoS w.heap.size w.heap.size w4.heap.size w5.heap.size w6.heap.size #[.bool n, .string s, .int .i64 k] #[.int .i64 mi, .int .i64 mf, .int .i64 xf, .bool pl, .bool rk] #[.bool n, .string S, .int .i64 kr] #[.bool n, .string R, .int .i64 k1] w W :=
  ⟨h.s.cell 0, h.s.cell 1, h.s.cell 2, h.r.cell 0, h.r.cell 1, h.r.cell 2, h.b.cell 0, h.o.cell 0, h.o.cell 1, h.o.cell 2, h⟩
theorem fo_keep {w w4 w5 w6 W W' : World} {n pl rk : Bool} {s S R : ByteArray} {k mi mf xf kr k1 : Int} (g : Below W.heap.size W W') (h : W.cell? ⟨w5.heap.size, 0, none⟩ = some (.bool n) ∧ W.cell? ⟨w5.heap.size, 1, none⟩ = some (.string S) ∧ W.cell? ⟨w5.heap.size, 2, none⟩ = some (.int .i64 kr) ∧ W.cell? ⟨w6.heap.size, 0, none⟩ = some (.bool n) ∧ W.cell? ⟨w6.heap.size, 1, none⟩ = some (.string R) ∧ W.cell? ⟨w6.heap.size, 2, none⟩ = some (.int .i64 k1) ∧ W.cell? ⟨w.heap.size, 0, none⟩ = some (.bool n) ∧ W.cell? ⟨w4.heap.size, 0, none⟩ = some (.int .i64 mi) ∧ W.cell? ⟨w4.heap.size, 1, none⟩ = some (.int .i64 mf) ∧ W.cell? ⟨w4.heap.size, 2, none⟩ = some (.int .i64 xf) ∧ FoS w.heap.size w.heap.size w4.heap.size w5.heap.size w6.heap.size #[.bool n, .string s, .int .i64 k] #[.int .i64 mi, .int .i64 mf, .int .i64 xf, .bool pl, .bool rk] #[.bool n, .string S, .int .i64 kr] #[.bool n, .string R, .int .i64 k1] w W) : W'.cell? ⟨w5.heap.size, 0, none⟩ = some (.bool n) ∧ W'.cell? ⟨w5.heap.size, 1, none⟩ = some (.string S) ∧ W'.cell? ⟨w5.heap.size, 2, none⟩ = some (.int .i64 kr) ∧ W'.cell? ⟨w6.heap.size, 0, none⟩ = some (.bool n) ∧ W'.cell? ⟨w6.heap.size, 1, none⟩ = some (.string R) ∧ W'.cell? ⟨w6.heap.size, 2, none⟩ = some (.int .i64 k1) ∧ W'.cell? ⟨w.heap.size, 0, none⟩ = some (.bool n) ∧ W'.cell? ⟨w4.heap.size, 0, none⟩ = some (.int .i64 mi) ∧ W'.cell? ⟨w4.heap.size, 1, none⟩ = some (.int .i64 mf) ∧ W'.cell? ⟨w4.heap.size, 2, none⟩ = some (.int .i64 xf) ∧ FoS w.heap.size w.heap.size w4.heap.size w5.heap.size w6.heap.size #[.bool n, .string s, .int .i64 k] #[.int .i64 mi, .int .i64 mf, .int .i64 xf, .bool pl, .bool rk] #[.bool n, .string S, .int .i64 kr] #[.bool n, .string R, .int .i64 k1] w W' :=
  fo_all (FoS.later (h.2.2.2.2.2.2.2.2.2.2) (Nat.le_refl _) g)
set_option pp.deepTerms true in
set_option maxHeartbeats 16000000 in
set_option maxRecDepth 100000 in
theorem lawFormats (lang : ByteArray) (n : Bool) (s : ByteArray) (sc : Int) (l : List OPT) (A : Option Addr) (c : Nat) (w : World) (hs : s.size ≤ 9223372036854775807) (h0 : -9223372036854775808 ≤ sc) (h1 : sc ≤ 9223372036854775807) (hl : ListO w l A c) :
    Calls Tryz.prog 4 #[.string lang, .agg #[.bool n, .string s, .int .i64 sc], .slice A l.length c] w fun e w' => e = .returned (.bool true) ∧ Below w.heap.size w w' := by
  have HRt := Lib.hid (fun W => lawRight_any n s sc W hs h0 h1)
  have HL := Lib.hid hl
  have HFew := Lib.hid (fun W h => few_any l A c W h)
  have HOp := Lib.hid (fun W h h2 => opts_any l A c W h h2)
  clear hl
  generalize hL : l.length = L at *
  clear hL
  go_enter Tryz.func4, Tryz.ntmps4
  go_wp2_with fail
  go_at_call 5
  refine (head_any _).mono ?_
  rintro e w1 ⟨rfl, b1⟩
  have D1 := Lib.hid ((BoxAt.new w #[.bool n, .string s, .int .i64 sc] 29).later b1)
  have B1 := Lib.hid (((Below.refl w.heap.size w).alloc (Nat.le_refl _) (.cells #[.bool n, .string s, .int .i64 sc] 29)).trans (b1.mono (by simp)))
  have L1 := Lib.hid (HL.out.later B1.out)
  clear b1
  go_wp2_with fail
  go_at_call 6
  refine (HFew.out _ L1.out).mono ?_
  rintro e w2 ⟨hE, b2⟩
  have D2 := Lib.hid (D1.out.later b2)
  have B2 := Lib.hid (B1.out.trans (b2.mono B1.out.size))
  have L2 := Lib.hid (L1.out.later b2)
  clear b2 B1 L1 D1
  rcases hE with rfl | ⟨hOk, hlen, rfl⟩
  · go_wp2
    go_ret
    exact ⟨rfl, B2.out⟩
  have d0 : w2.cell? ⟨w.heap.size, 0, none⟩ = some (.bool n) := D2.out.cell 0
  have d1 : w2.cell? ⟨w.heap.size, 1, none⟩ = some (.string s) := D2.out.cell 1
  have d2 : w2.cell? ⟨w.heap.size, 2, none⟩ = some (.int .i64 sc) := D2.out.cell 2
  have HOk := Lib.hid hOk
  clear hOk hlen
  go_wp2_with fail
  go_at_call 10
  refine (HRt.out _).mono ?_
  rintro e w3 ⟨hE, b3⟩
  have D3 := Lib.hid (D2.out.later b3)
  have B3 := Lib.hid (B2.out.trans (b3.mono B2.out.size))
  have L3 := Lib.hid (L2.out.later b3)
  clear b3 B2 L2 D2 d0 d1 d2 HRt
  rcases hE with rfl | ⟨k, rfl, hN, rfl⟩
  · go_wp2
    go_ret
    exact ⟨rfl, B3.out⟩
  have HN := Lib.hid hN
  clear hN
  go_wp2_with fail
  go_at_call 11
  refine (HOp.out _ L3.out HOk.out).mono ?_
  rintro e w4 ⟨rfl, b4⟩
  have hbd := opts_bd l dflO HOk.out dfl_bd
  have hiv := opts_inv l dflO HOk.out dfl_bd ⟨by decide, by decide⟩
  generalize optsF l dflO = oo at *
  obtain ⟨mi', mf', xf', pl, rk⟩ := oo
  obtain ⟨⟨i1, i2⟩, ⟨i3, i4⟩, i5, i6⟩ := hbd
  obtain ⟨i7, i8⟩ := hiv
  dsimp only at *
  obtain ⟨mi, rfl⟩ := Int.eq_ofNat_of_zero_le i1
  obtain ⟨mf, rfl⟩ := Int.eq_ofNat_of_zero_le i3
  obtain ⟨xf, rfl⟩ := Int.eq_ofNat_of_zero_le i5
  have hN := HN.out
  have hN1 := hN.le
  have hN2 := hN.lt
  have hN3 := hN.digs
  have hok := shape_ok s.data.toList k mi mf xf hN (by omega) (by omega) (by omega) (by omega)
  have hro := roundL_length s.data.toList k xf (by omega)
  have hrd := roundL_digs s.data.toList k xf hN3
  have hmk : min k xf ≤ k := Nat.min_le_left _ _
  rw [size_data] at hN1 hN2 hro
  have hsh := fun W => shape_any mi mf xf pl rk n s k W hN1 (by omega) hN3 (by omega) (by omega) (by omega)
  have hrn := fun W => round_any n s k (xf : Int) W (by omega) (by omega) hN3 (by omega) (by omega)
  simp only [Int.toNat_natCast] at hrn
  simp only [show ∀ x : List UInt8, (⟨x.toArray⟩ : ByteArray) = bL x from fun _ => rfl] at hrn
  have hfo := fun (W : World) (b : Nat) (c : Nat) (hc : c ≤ 1000) (hM : MarksAt W b true c) => format_any b c true lang mi mf xf pl rk n s k W hM hc hN1 (by omega) hN3 (by omega) (by omega) (by omega)
  have hzz := shape_zero (rndL s.data.toList k mf xf) (rndK s.data.toList k mf xf) mi (rnd_digs k mf xf hN3) (rnd_le s.data.toList k mf xf (by rw [size_data]; omega) (by rw [size_data]; omega) (by omega)).1
  have hfw := fun p q => fmt_want n pl (rndL s.data.toList k mf xf) (rndK s.data.toList k mf xf) mi p q (rnd_le s.data.toList k mf xf (by rw [size_data]; omega) (by rw [size_data]; omega) (by omega)).1
  simp only [hfw] at hfo
  clear hfw
  obtain ⟨sd, sf, sc1, sc2, sl, sm, sbig, swh, slast, shead⟩ := hok
  generalize hSL : ahd mi (rndL s.data.toList k mf xf) (rndK s.data.toList k mf xf) ++ rndL s.data.toList k mf xf = SL at *
  generalize hzq : zeroD (rndL s.data.toList k mf xf) = z at *
  generalize rndK s.data.toList k mf xf = kr at *
  generalize roundL s.data.toList k xf = RL at *
  generalize min k xf = k1 at *
  have hz := hzz (by omega) swh
  have hOS := fun W => fof_any n (bL SL) kr W (by rw [bL_size]; omega) (by rw [bL_size]; omega) (by omega) (by rw [bL_list]; exact sd)
  have hOR := fun W => fof_any n (bL RL) k1 W (by rw [bL_size]; omega) (by rw [bL_size]; omega) (by omega) (by rw [bL_list]; exact hrd)
  rw [bL_list] at hOS hOR
  rw [← sf] at hOR
  generalize fixF SL kr = AA at *
  generalize hS : bL SL = S at *
  have hSd : S.data.toList = SL := by rw [← hS, bL_list]
  have hSz : S.size = SL.length := by rw [← hS, bL_size]
  clear hS
  generalize bL RL = R at *
  have D4 := Lib.hid (D3.out.later b4)
  have B4 := Lib.hid (B3.out.trans (b4.mono B3.out.size))
  have HSh := Lib.hid hsh
  have HRn := Lib.hid hrn
  have HFo := Lib.hid hfo
  have HOS := Lib.hid hOS
  have HOR := Lib.hid hOR
  have HNN := Lib.hid hN
  clear hsh hrn hfo hOS hOR hN hzz sf sd hrd hro hN3 b4 B3 D3 L3 HOp HFew HL HOk
  have d0 : w4.cell? ⟨w.heap.size, 0, none⟩ = some (.bool n) := D4.out.cell 0
  have d1 : w4.cell? ⟨w.heap.size, 1, none⟩ = some (.string s) := D4.out.cell 1
  have d2 : w4.cell? ⟨w.heap.size, 2, none⟩ = some (.int .i64 k) := D4.out.cell 2
  have zd4 := D4.out.lt
  have O4 := Lib.hid (BoxAt.new w4 #[.int .i64 mi, .int .i64 mf, .int .i64 xf, .bool pl, .bool rk] 26)
  go_wp2_with fail
  go_at_call 12
  refine (HSh.out _).mono ?_
  rintro e w5 ⟨rfl, b5⟩
  have D5 := Lib.hid (D4.out.later (below_box b5))
  have O5 := Lib.hid (O4.out.later b5)
  have B5 := Lib.hid (B4.out.trans ((below_box b5).mono B4.out.size))
  have zd5 := D5.out.lt
  have zo5 := O5.out.lt
  clear b5 d0 d1 d2 D4 O4 B4 zd4 HSh
  have d0 : w5.cell? ⟨w.heap.size, 0, none⟩ = some (.bool n) := D5.out.cell 0
  have d1 : w5.cell? ⟨w.heap.size, 1, none⟩ = some (.string s) := D5.out.cell 1
  have d2 : w5.cell? ⟨w.heap.size, 2, none⟩ = some (.int .i64 k) := D5.out.cell 2
  have o2 : w5.cell? ⟨w4.heap.size, 2, none⟩ = some (.int .i64 xf) := O5.out.cell 2
  have S5 := Lib.hid (BoxAt.new w5 #[.bool n, .string S, .int .i64 kr] 29)
  go_wp2_with fail
  go_at_call 13
  refine (HRn.out _).mono ?_
  rintro e w6 ⟨rfl, b6⟩
  have D6 := Lib.hid (D5.out.later (below_box b6))
  have O6 := Lib.hid (O5.out.later (below_box b6))
  have S6 := Lib.hid (S5.out.later b6)
  have B6 := Lib.hid (B5.out.trans ((below_box b6).mono B5.out.size))
  clear b6 d0 d1 d2 o2 D5 O5 S5 B5 HRn
  have zd6 := D6.out.lt
  have zo6 := O6.out.lt
  have zs6 := S6.out.lt
  go_upto_region 8 with fail
  have G7 := Lib.hid (FoS.mk (D6.out.alloc _) (O6.out.alloc _) (S6.out.alloc _) (BoxAt.new w6 #[.bool n, .string R, .int .i64 k1] 29) (below_new B6.out (Nat.le_refl _) _))
  clear D6 O6 S6 B6
  have hq := fix_eq
  have hrs := row_size 200
  have hAA : eqF AA AA 200 = true := (eqF_iff AA AA 200).2 (fun _ _ => rfl)
  obtain ⟨nn, hnn⟩ : ∃ q, SL.length - kr = q := ⟨_, rfl⟩
  rw [hnn] at sm swh shead
  have g1 : decide ((kr : Int) < (mf : Int)) = false := decide_eq_false (by omega)
  have g2 : max (xf : Int) (mf : Int) = (xf : Int) := by omega
  have g3 : decide ((xf : Int) < (kr : Int)) = false := decide_eq_false (by omega)
  have g4 : wrap64 ((S.size : Int) - (kr : Int)) = (nn : Int) := by unfold wrap64; omega
  have g4b : IntKind.i64.wrap ((S.size : Int) - (kr : Int)) = (nn : Int) := by rw [IntWalk.i64_in _ (by omega)]; omega
  have g5 : decide ((nn : Int) < (mi : Int)) = false := decide_eq_false (by omega)
  have g1n : decide (kr < mf) = false := decide_eq_false (by omega)
  have g3n : decide (xf < kr) = false := decide_eq_false (by omega)
  have g5n : decide (nn < mi) = false := decide_eq_false (by omega)
  have g6 : (n != n) = false := by cases n <;> rfl
  have Hnn := Lib.hid hnn
  have Hsl := Lib.hid slast
  have Hsh := Lib.hid shead
  have HSd := Lib.hid hSd
  have HSz := Lib.hid hSz
  have HSL := Lib.hid hSL
  have Hzq := Lib.hid hzq
  have Hz := Lib.hid hz
  clear hnn slast shead hSd hSz hSL hzq hz
  refine wp_region_held_drew (S := FoS w.heap.size w.heap.size w4.heap.size w5.heap.size w6.heap.size #[.bool n, .string s, .int .i64 k] #[.int .i64 mi, .int .i64 mf, .int .i64 xf, .bool pl, .bool rk] #[.bool n, .string S, .int .i64 kr] #[.bool n, .string R, .int .i64 k1] w) (by kernel_rfl) (G7.out.drew) (fun hHeld => ?_)
  refine wpAnyH_take (i := 0) (v := ?_) rfl (by kernel_rfl) (by kernel_rfl) (by kernel_rfl) (fun _ _ _ h => h) (Or.inl ⟨by kernel_rfl, ?_⟩) (by assumption) ?_
  rotate_left
  · intro w0 hSw
    have y0 : w0.cell? ⟨w5.heap.size, 0, none⟩ = some (.bool n) := hSw.s.cell 0
    have y1 : w0.cell? ⟨w5.heap.size, 1, none⟩ = some (.string S) := hSw.s.cell 1
    have y2 : w0.cell? ⟨w5.heap.size, 2, none⟩ = some (.int .i64 kr) := hSw.s.cell 2
    (go_simp <;> with_reducible rfl)
  try simp only [Act.put, List.setIfInBounds_toArray, List.set_cons_zero, List.set_cons_succ, List.getElem_toArray, List.getElem_cons_zero, List.getElem_cons_succ]
  refine wpAnyH_take (i := 2) (v := ?_) rfl (by kernel_rfl) (by kernel_rfl) (by kernel_rfl) (fun _ _ _ h => h) (Or.inl ⟨by kernel_rfl, ?_⟩) (by assumption) ?_
  rotate_left
  · intro w0 hSw
    have y0 : w0.cell? ⟨w6.heap.size, 0, none⟩ = some (.bool n) := hSw.r.cell 0
    have y1 : w0.cell? ⟨w6.heap.size, 1, none⟩ = some (.string R) := hSw.r.cell 1
    have y2 : w0.cell? ⟨w6.heap.size, 2, none⟩ = some (.int .i64 k1) := hSw.r.cell 2
    (go_simp <;> with_reducible rfl)
  try simp only [Act.put, List.setIfInBounds_toArray, List.set_cons_zero, List.set_cons_succ, List.getElem_toArray, List.getElem_cons_zero, List.getElem_cons_succ]
  refine wpAnyH_ready (rs := [1]) (by kernel_rfl) (by simp) ?_
  refine AllReadyH.cons rfl (fun K hK => ?_) AllReadyH.nil
  go_simp
  go_at_call 14
  refine (HOS.out _).mono ?_
  rintro e x0 ⟨rfl, hbx⟩
  go_wp2_with fail
  refine hK.out _ _ (FoS.later hHeld (Nat.le_refl _) hbx) (fun hHeld2 => ?_)
  clear hHeld hbx hK K
  have hHeld := hHeld2
  clear hHeld2
  try simp only [Act.put, List.setIfInBounds_toArray, List.set_cons_zero, List.set_cons_succ, List.getElem_toArray, List.getElem_cons_zero, List.getElem_cons_succ]
  refine wpAnyH_ready (rs := [3]) (by kernel_rfl) (by simp) ?_
  refine AllReadyH.cons rfl (fun K hK => ?_) AllReadyH.nil
  go_simp
  go_at_call 14
  refine (HOR.out _).mono ?_
  rintro e x1 ⟨rfl, hbx⟩
  go_wp2_with fail
  refine hK.out _ _ (FoS.later hHeld (Nat.le_refl _) hbx) (fun hHeld2 => ?_)
  clear hHeld hbx hK K
  have hHeld := hHeld2
  clear hHeld2
  try simp only [Act.put, List.setIfInBounds_toArray, List.set_cons_zero, List.set_cons_succ, List.getElem_toArray, List.getElem_cons_zero, List.getElem_cons_succ]
  refine wpAnyH_take (i := 4) (v := ?_) rfl (by kernel_rfl) (by kernel_rfl) (by kernel_rfl) (fun _ _ _ h => h) (Or.inl ⟨by kernel_rfl, ?_⟩) (by assumption) ?_
  rotate_left
  · intro w0 hSw
    have y0 : w0.cell? ⟨w5.heap.size, 0, none⟩ = some (.bool n) := hSw.s.cell 0
    have y1 : w0.cell? ⟨w5.heap.size, 1, none⟩ = some (.string S) := hSw.s.cell 1
    have y2 : w0.cell? ⟨w5.heap.size, 2, none⟩ = some (.int .i64 kr) := hSw.s.cell 2
    have y3 : w0.cell? ⟨w.heap.size, 0, none⟩ = some (.bool n) := hSw.b.cell 0
    have y4 : w0.cell? ⟨w4.heap.size, 0, none⟩ = some (.int .i64 mi) := hSw.o.cell 0
    have y5 : w0.cell? ⟨w4.heap.size, 1, none⟩ = some (.int .i64 mf) := hSw.o.cell 1
    have y6 : w0.cell? ⟨w4.heap.size, 2, none⟩ = some (.int .i64 xf) := hSw.o.cell 2
    (go_simp <;> with_reducible rfl)
  try simp only [Act.put, List.setIfInBounds_toArray, List.set_cons_zero, List.set_cons_succ, List.getElem_toArray, List.getElem_cons_zero, List.getElem_cons_succ]
  refine wpAnyH_take (i := 5) (v := ?_) rfl (by kernel_rfl) (by kernel_rfl) (by kernel_rfl) (fun _ _ _ h => h) (Or.inl ⟨by kernel_rfl, ?_⟩) (by assumption) ?_
  rotate_left
  · intro w0 hSw
    have y0 : w0.cell? ⟨w5.heap.size, 0, none⟩ = some (.bool n) := hSw.s.cell 0
    have y1 : w0.cell? ⟨w5.heap.size, 1, none⟩ = some (.string S) := hSw.s.cell 1
    have y2 : w0.cell? ⟨w5.heap.size, 2, none⟩ = some (.int .i64 kr) := hSw.s.cell 2
    have y3 : w0.cell? ⟨w.heap.size, 0, none⟩ = some (.bool n) := hSw.b.cell 0
    have y4 : w0.cell? ⟨w4.heap.size, 0, none⟩ = some (.int .i64 mi) := hSw.o.cell 0
    have y5 : w0.cell? ⟨w4.heap.size, 1, none⟩ = some (.int .i64 mf) := hSw.o.cell 1
    have y6 : w0.cell? ⟨w4.heap.size, 2, none⟩ = some (.int .i64 xf) := hSw.o.cell 2
    (go_simp <;> with_reducible rfl)
  try simp only [Act.put, List.setIfInBounds_toArray, List.set_cons_zero, List.set_cons_succ, List.getElem_toArray, List.getElem_cons_zero, List.getElem_cons_succ]
  refine wpAnyH_take (i := 6) (v := ?_) rfl (by kernel_rfl) (by kernel_rfl) (by kernel_rfl) (fun _ _ _ h => h) (Or.inl ⟨by kernel_rfl, ?_⟩) (by assumption) ?_
  rotate_left
  · intro w0 hSw
    have y0 : w0.cell? ⟨w5.heap.size, 0, none⟩ = some (.bool n) := hSw.s.cell 0
    have y1 : w0.cell? ⟨w5.heap.size, 1, none⟩ = some (.string S) := hSw.s.cell 1
    have y2 : w0.cell? ⟨w5.heap.size, 2, none⟩ = some (.int .i64 kr) := hSw.s.cell 2
    have y3 : w0.cell? ⟨w.heap.size, 0, none⟩ = some (.bool n) := hSw.b.cell 0
    have y4 : w0.cell? ⟨w4.heap.size, 0, none⟩ = some (.int .i64 mi) := hSw.o.cell 0
    have y5 : w0.cell? ⟨w4.heap.size, 1, none⟩ = some (.int .i64 mf) := hSw.o.cell 1
    have y6 : w0.cell? ⟨w4.heap.size, 2, none⟩ = some (.int .i64 xf) := hSw.o.cell 2
    (go_simp <;> with_reducible rfl)
  try simp only [Act.put, List.setIfInBounds_toArray, List.set_cons_zero, List.set_cons_succ, List.getElem_toArray, List.getElem_cons_zero, List.getElem_cons_succ]
  refine wpAnyH_take (i := 7) (v := ?_) rfl (by kernel_rfl) (by kernel_rfl) (by kernel_rfl) (fun _ _ _ h => h) (Or.inl ⟨by kernel_rfl, ?_⟩) (by assumption) ?_
  rotate_left
  · intro w0 hSw
    have y0 : w0.cell? ⟨w5.heap.size, 0, none⟩ = some (.bool n) := hSw.s.cell 0
    have y1 : w0.cell? ⟨w5.heap.size, 1, none⟩ = some (.string S) := hSw.s.cell 1
    have y2 : w0.cell? ⟨w5.heap.size, 2, none⟩ = some (.int .i64 kr) := hSw.s.cell 2
    have y3 : w0.cell? ⟨w.heap.size, 0, none⟩ = some (.bool n) := hSw.b.cell 0
    have y4 : w0.cell? ⟨w4.heap.size, 0, none⟩ = some (.int .i64 mi) := hSw.o.cell 0
    have y5 : w0.cell? ⟨w4.heap.size, 1, none⟩ = some (.int .i64 mf) := hSw.o.cell 1
    have y6 : w0.cell? ⟨w4.heap.size, 2, none⟩ = some (.int .i64 xf) := hSw.o.cell 2
    (go_simp <;> with_reducible rfl)
  try simp only [Act.put, List.setIfInBounds_toArray, List.set_cons_zero, List.set_cons_succ, List.getElem_toArray, List.getElem_cons_zero, List.getElem_cons_succ]
  refine wpAnyH_take (i := 8) (v := ?_) rfl (by kernel_rfl) (by kernel_rfl) (by kernel_rfl) (fun _ _ _ h => h) (Or.inl ⟨by kernel_rfl, ?_⟩) (by assumption) ?_
  rotate_left
  · intro w0 hSw
    have y0 : w0.cell? ⟨w5.heap.size, 0, none⟩ = some (.bool n) := hSw.s.cell 0
    have y1 : w0.cell? ⟨w5.heap.size, 1, none⟩ = some (.string S) := hSw.s.cell 1
    have y2 : w0.cell? ⟨w5.heap.size, 2, none⟩ = some (.int .i64 kr) := hSw.s.cell 2
    have y3 : w0.cell? ⟨w.heap.size, 0, none⟩ = some (.bool n) := hSw.b.cell 0
    have y4 : w0.cell? ⟨w4.heap.size, 0, none⟩ = some (.int .i64 mi) := hSw.o.cell 0
    have y5 : w0.cell? ⟨w4.heap.size, 1, none⟩ = some (.int .i64 mf) := hSw.o.cell 1
    have y6 : w0.cell? ⟨w4.heap.size, 2, none⟩ = some (.int .i64 xf) := hSw.o.cell 2
    (go_simp <;> with_reducible rfl)
  try simp only [Act.put, List.setIfInBounds_toArray, List.set_cons_zero, List.set_cons_succ, List.getElem_toArray, List.getElem_cons_zero, List.getElem_cons_succ]
  refine wpAnyH_take (i := 9) (v := ?_) rfl (by kernel_rfl) (by kernel_rfl) (by kernel_rfl) (fun _ _ _ h => h) (Or.inl ⟨by kernel_rfl, ?_⟩) (by assumption) ?_
  rotate_left
  · intro w0 hSw
    have y0 : w0.cell? ⟨w5.heap.size, 0, none⟩ = some (.bool n) := hSw.s.cell 0
    have y1 : w0.cell? ⟨w5.heap.size, 1, none⟩ = some (.string S) := hSw.s.cell 1
    have y2 : w0.cell? ⟨w5.heap.size, 2, none⟩ = some (.int .i64 kr) := hSw.s.cell 2
    have y3 : w0.cell? ⟨w.heap.size, 0, none⟩ = some (.bool n) := hSw.b.cell 0
    have y4 : w0.cell? ⟨w4.heap.size, 0, none⟩ = some (.int .i64 mi) := hSw.o.cell 0
    have y5 : w0.cell? ⟨w4.heap.size, 1, none⟩ = some (.int .i64 mf) := hSw.o.cell 1
    have y6 : w0.cell? ⟨w4.heap.size, 2, none⟩ = some (.int .i64 xf) := hSw.o.cell 2
    (go_simp <;> with_reducible rfl)
  try simp only [Act.put, List.setIfInBounds_toArray, List.set_cons_zero, List.set_cons_succ, List.getElem_toArray, List.getElem_cons_zero, List.getElem_cons_succ]
  refine wpAnyH_take (i := 10) (v := ?_) rfl (by kernel_rfl) (by kernel_rfl) (by kernel_rfl) (fun _ _ _ h => h) (Or.inl ⟨by kernel_rfl, ?_⟩) (by assumption) ?_
  rotate_left
  · intro w0 hSw
    have y0 : w0.cell? ⟨w5.heap.size, 0, none⟩ = some (.bool n) := hSw.s.cell 0
    have y1 : w0.cell? ⟨w5.heap.size, 1, none⟩ = some (.string S) := hSw.s.cell 1
    have y2 : w0.cell? ⟨w5.heap.size, 2, none⟩ = some (.int .i64 kr) := hSw.s.cell 2
    have y3 : w0.cell? ⟨w.heap.size, 0, none⟩ = some (.bool n) := hSw.b.cell 0
    have y4 : w0.cell? ⟨w4.heap.size, 0, none⟩ = some (.int .i64 mi) := hSw.o.cell 0
    have y5 : w0.cell? ⟨w4.heap.size, 1, none⟩ = some (.int .i64 mf) := hSw.o.cell 1
    have y6 : w0.cell? ⟨w4.heap.size, 2, none⟩ = some (.int .i64 xf) := hSw.o.cell 2
    (go_simp <;> with_reducible rfl)
  try simp only [Act.put, List.setIfInBounds_toArray, List.set_cons_zero, List.set_cons_succ, List.getElem_toArray, List.getElem_cons_zero, List.getElem_cons_succ]
  refine wpAnyH_take (i := 11) (v := ?_) rfl (by kernel_rfl) (by kernel_rfl) (by kernel_rfl) (fun _ _ _ h => h) (Or.inl ⟨by kernel_rfl, ?_⟩) (by assumption) ?_
  rotate_left
  · intro w0 hSw
    have y0 : w0.cell? ⟨w5.heap.size, 0, none⟩ = some (.bool n) := hSw.s.cell 0
    have y1 : w0.cell? ⟨w5.heap.size, 1, none⟩ = some (.string S) := hSw.s.cell 1
    have y2 : w0.cell? ⟨w5.heap.size, 2, none⟩ = some (.int .i64 kr) := hSw.s.cell 2
    have y3 : w0.cell? ⟨w.heap.size, 0, none⟩ = some (.bool n) := hSw.b.cell 0
    have y4 : w0.cell? ⟨w4.heap.size, 0, none⟩ = some (.int .i64 mi) := hSw.o.cell 0
    have y5 : w0.cell? ⟨w4.heap.size, 1, none⟩ = some (.int .i64 mf) := hSw.o.cell 1
    have y6 : w0.cell? ⟨w4.heap.size, 2, none⟩ = some (.int .i64 xf) := hSw.o.cell 2
    (go_simp <;> with_reducible rfl)
  try simp only [Act.put, List.setIfInBounds_toArray, List.set_cons_zero, List.set_cons_succ, List.getElem_toArray, List.getElem_cons_zero, List.getElem_cons_succ]
  refine wpAnyH_take (i := 12) (v := ?_) rfl (by kernel_rfl) (by kernel_rfl) (by kernel_rfl) (fun _ _ _ h => h) (Or.inl ⟨by kernel_rfl, ?_⟩) (by assumption) ?_
  rotate_left
  · intro w0 hSw
    have y0 : w0.cell? ⟨w5.heap.size, 0, none⟩ = some (.bool n) := hSw.s.cell 0
    have y1 : w0.cell? ⟨w5.heap.size, 1, none⟩ = some (.string S) := hSw.s.cell 1
    have y2 : w0.cell? ⟨w5.heap.size, 2, none⟩ = some (.int .i64 kr) := hSw.s.cell 2
    have y3 : w0.cell? ⟨w.heap.size, 0, none⟩ = some (.bool n) := hSw.b.cell 0
    have y4 : w0.cell? ⟨w4.heap.size, 0, none⟩ = some (.int .i64 mi) := hSw.o.cell 0
    have y5 : w0.cell? ⟨w4.heap.size, 1, none⟩ = some (.int .i64 mf) := hSw.o.cell 1
    have y6 : w0.cell? ⟨w4.heap.size, 2, none⟩ = some (.int .i64 xf) := hSw.o.cell 2
    (go_simp <;> with_reducible rfl)
  try simp only [Act.put, List.setIfInBounds_toArray, List.set_cons_zero, List.set_cons_succ, List.getElem_toArray, List.getElem_cons_zero, List.getElem_cons_succ]
  refine wpAnyH_take (i := 13) (v := ?_) rfl (by kernel_rfl) (by kernel_rfl) (by kernel_rfl) (fun _ _ _ h => h) (Or.inl ⟨by kernel_rfl, ?_⟩) (by assumption) ?_
  rotate_left
  · intro w0 hSw
    have y0 : w0.cell? ⟨w5.heap.size, 0, none⟩ = some (.bool n) := hSw.s.cell 0
    have y1 : w0.cell? ⟨w5.heap.size, 1, none⟩ = some (.string S) := hSw.s.cell 1
    have y2 : w0.cell? ⟨w5.heap.size, 2, none⟩ = some (.int .i64 kr) := hSw.s.cell 2
    have y3 : w0.cell? ⟨w.heap.size, 0, none⟩ = some (.bool n) := hSw.b.cell 0
    have y4 : w0.cell? ⟨w4.heap.size, 0, none⟩ = some (.int .i64 mi) := hSw.o.cell 0
    have y5 : w0.cell? ⟨w4.heap.size, 1, none⟩ = some (.int .i64 mf) := hSw.o.cell 1
    have y6 : w0.cell? ⟨w4.heap.size, 2, none⟩ = some (.int .i64 xf) := hSw.o.cell 2
    (go_simp <;> with_reducible rfl)
  try simp only [Act.put, List.setIfInBounds_toArray, List.set_cons_zero, List.set_cons_succ, List.getElem_toArray, List.getElem_cons_zero, List.getElem_cons_succ]
  refine wpAnyH_take (i := 14) (v := ?_) rfl (by kernel_rfl) (by kernel_rfl) (by kernel_rfl) (fun _ _ _ h => h) (Or.inl ⟨by kernel_rfl, ?_⟩) (by assumption) ?_
  rotate_left
  · intro w0 hSw
    have y0 : w0.cell? ⟨w5.heap.size, 0, none⟩ = some (.bool n) := hSw.s.cell 0
    have y1 : w0.cell? ⟨w5.heap.size, 1, none⟩ = some (.string S) := hSw.s.cell 1
    have y2 : w0.cell? ⟨w5.heap.size, 2, none⟩ = some (.int .i64 kr) := hSw.s.cell 2
    have y3 : w0.cell? ⟨w.heap.size, 0, none⟩ = some (.bool n) := hSw.b.cell 0
    have y4 : w0.cell? ⟨w4.heap.size, 0, none⟩ = some (.int .i64 mi) := hSw.o.cell 0
    have y5 : w0.cell? ⟨w4.heap.size, 1, none⟩ = some (.int .i64 mf) := hSw.o.cell 1
    have y6 : w0.cell? ⟨w4.heap.size, 2, none⟩ = some (.int .i64 xf) := hSw.o.cell 2
    (go_simp <;> with_reducible rfl)
  try simp only [Act.put, List.setIfInBounds_toArray, List.set_cons_zero, List.set_cons_succ, List.getElem_toArray, List.getElem_cons_zero, List.getElem_cons_succ]
  refine wpAnyH_take (i := 15) (v := ?_) rfl (by kernel_rfl) (by kernel_rfl) (by kernel_rfl) (fun _ _ _ h => h) (Or.inl ⟨by kernel_rfl, ?_⟩) (by assumption) ?_
  rotate_left
  · intro w0 hSw
    have y0 : w0.cell? ⟨w5.heap.size, 0, none⟩ = some (.bool n) := hSw.s.cell 0
    have y1 : w0.cell? ⟨w5.heap.size, 1, none⟩ = some (.string S) := hSw.s.cell 1
    have y2 : w0.cell? ⟨w5.heap.size, 2, none⟩ = some (.int .i64 kr) := hSw.s.cell 2
    have y3 : w0.cell? ⟨w.heap.size, 0, none⟩ = some (.bool n) := hSw.b.cell 0
    have y4 : w0.cell? ⟨w4.heap.size, 0, none⟩ = some (.int .i64 mi) := hSw.o.cell 0
    have y5 : w0.cell? ⟨w4.heap.size, 1, none⟩ = some (.int .i64 mf) := hSw.o.cell 1
    have y6 : w0.cell? ⟨w4.heap.size, 2, none⟩ = some (.int .i64 xf) := hSw.o.cell 2
    (go_simp <;> with_reducible rfl)
  try simp only [Act.put, List.setIfInBounds_toArray, List.set_cons_zero, List.set_cons_succ, List.getElem_toArray, List.getElem_cons_zero, List.getElem_cons_succ]
  refine wpAnyH_take (i := 16) (v := ?_) rfl (by kernel_rfl) (by kernel_rfl) (by kernel_rfl) (fun _ _ _ h => h) (Or.inl ⟨by kernel_rfl, ?_⟩) (by assumption) ?_
  rotate_left
  · intro w0 hSw
    have y0 : w0.cell? ⟨w5.heap.size, 0, none⟩ = some (.bool n) := hSw.s.cell 0
    have y1 : w0.cell? ⟨w5.heap.size, 1, none⟩ = some (.string S) := hSw.s.cell 1
    have y2 : w0.cell? ⟨w5.heap.size, 2, none⟩ = some (.int .i64 kr) := hSw.s.cell 2
    have y3 : w0.cell? ⟨w.heap.size, 0, none⟩ = some (.bool n) := hSw.b.cell 0
    have y4 : w0.cell? ⟨w4.heap.size, 0, none⟩ = some (.int .i64 mi) := hSw.o.cell 0
    have y5 : w0.cell? ⟨w4.heap.size, 1, none⟩ = some (.int .i64 mf) := hSw.o.cell 1
    have y6 : w0.cell? ⟨w4.heap.size, 2, none⟩ = some (.int .i64 xf) := hSw.o.cell 2
    (go_simp <;> with_reducible rfl)
  try simp only [Act.put, List.setIfInBounds_toArray, List.set_cons_zero, List.set_cons_succ, List.getElem_toArray, List.getElem_cons_zero, List.getElem_cons_succ]
  refine wpAnyH_take (i := 17) (v := ?_) rfl (by kernel_rfl) (by kernel_rfl) (by kernel_rfl) (fun _ _ _ h => h) (Or.inl ⟨by kernel_rfl, ?_⟩) (by assumption) ?_
  rotate_left
  · intro w0 hSw
    have y0 : w0.cell? ⟨w5.heap.size, 0, none⟩ = some (.bool n) := hSw.s.cell 0
    have y1 : w0.cell? ⟨w5.heap.size, 1, none⟩ = some (.string S) := hSw.s.cell 1
    have y2 : w0.cell? ⟨w5.heap.size, 2, none⟩ = some (.int .i64 kr) := hSw.s.cell 2
    have y3 : w0.cell? ⟨w.heap.size, 0, none⟩ = some (.bool n) := hSw.b.cell 0
    have y4 : w0.cell? ⟨w4.heap.size, 0, none⟩ = some (.int .i64 mi) := hSw.o.cell 0
    have y5 : w0.cell? ⟨w4.heap.size, 1, none⟩ = some (.int .i64 mf) := hSw.o.cell 1
    have y6 : w0.cell? ⟨w4.heap.size, 2, none⟩ = some (.int .i64 xf) := hSw.o.cell 2
    (go_simp <;> with_reducible rfl)
  try simp only [Act.put, List.setIfInBounds_toArray, List.set_cons_zero, List.set_cons_succ, List.getElem_toArray, List.getElem_cons_zero, List.getElem_cons_succ]
  refine wpAnyH_take (i := 18) (v := ?_) rfl (by kernel_rfl) (by kernel_rfl) (by kernel_rfl) (fun _ _ _ h => h) (Or.inl ⟨by kernel_rfl, ?_⟩) (by assumption) ?_
  rotate_left
  · intro w0 hSw
    have y0 : w0.cell? ⟨w5.heap.size, 0, none⟩ = some (.bool n) := hSw.s.cell 0
    have y1 : w0.cell? ⟨w5.heap.size, 1, none⟩ = some (.string S) := hSw.s.cell 1
    have y2 : w0.cell? ⟨w5.heap.size, 2, none⟩ = some (.int .i64 kr) := hSw.s.cell 2
    have y3 : w0.cell? ⟨w.heap.size, 0, none⟩ = some (.bool n) := hSw.b.cell 0
    have y4 : w0.cell? ⟨w4.heap.size, 0, none⟩ = some (.int .i64 mi) := hSw.o.cell 0
    have y5 : w0.cell? ⟨w4.heap.size, 1, none⟩ = some (.int .i64 mf) := hSw.o.cell 1
    have y6 : w0.cell? ⟨w4.heap.size, 2, none⟩ = some (.int .i64 xf) := hSw.o.cell 2
    (go_simp <;> with_reducible rfl)
  try simp only [Act.put, List.setIfInBounds_toArray, List.set_cons_zero, List.set_cons_succ, List.getElem_toArray, List.getElem_cons_zero, List.getElem_cons_succ]
  refine wpAnyH_take (i := 19) (v := ?_) rfl (by kernel_rfl) (by kernel_rfl) (by kernel_rfl) (fun _ _ _ h => h) (Or.inl ⟨by kernel_rfl, ?_⟩) (by assumption) ?_
  rotate_left
  · intro w0 hSw
    have y0 : w0.cell? ⟨w5.heap.size, 0, none⟩ = some (.bool n) := hSw.s.cell 0
    have y1 : w0.cell? ⟨w5.heap.size, 1, none⟩ = some (.string S) := hSw.s.cell 1
    have y2 : w0.cell? ⟨w5.heap.size, 2, none⟩ = some (.int .i64 kr) := hSw.s.cell 2
    have y3 : w0.cell? ⟨w.heap.size, 0, none⟩ = some (.bool n) := hSw.b.cell 0
    have y4 : w0.cell? ⟨w4.heap.size, 0, none⟩ = some (.int .i64 mi) := hSw.o.cell 0
    have y5 : w0.cell? ⟨w4.heap.size, 1, none⟩ = some (.int .i64 mf) := hSw.o.cell 1
    have y6 : w0.cell? ⟨w4.heap.size, 2, none⟩ = some (.int .i64 xf) := hSw.o.cell 2
    (go_simp <;> with_reducible rfl)
  try simp only [Act.put, List.setIfInBounds_toArray, List.set_cons_zero, List.set_cons_succ, List.getElem_toArray, List.getElem_cons_zero, List.getElem_cons_succ]
  refine wpAnyH_take (i := 20) (v := ?_) rfl (by kernel_rfl) (by kernel_rfl) (by kernel_rfl) (fun _ _ _ h => h) (Or.inl ⟨by kernel_rfl, ?_⟩) (by assumption) ?_
  rotate_left
  · intro w0 hSw
    have y0 : w0.cell? ⟨w5.heap.size, 0, none⟩ = some (.bool n) := hSw.s.cell 0
    have y1 : w0.cell? ⟨w5.heap.size, 1, none⟩ = some (.string S) := hSw.s.cell 1
    have y2 : w0.cell? ⟨w5.heap.size, 2, none⟩ = some (.int .i64 kr) := hSw.s.cell 2
    have y3 : w0.cell? ⟨w.heap.size, 0, none⟩ = some (.bool n) := hSw.b.cell 0
    have y4 : w0.cell? ⟨w4.heap.size, 0, none⟩ = some (.int .i64 mi) := hSw.o.cell 0
    have y5 : w0.cell? ⟨w4.heap.size, 1, none⟩ = some (.int .i64 mf) := hSw.o.cell 1
    have y6 : w0.cell? ⟨w4.heap.size, 2, none⟩ = some (.int .i64 xf) := hSw.o.cell 2
    (go_simp <;> with_reducible rfl)
  try simp only [Act.put, List.setIfInBounds_toArray, List.set_cons_zero, List.set_cons_succ, List.getElem_toArray, List.getElem_cons_zero, List.getElem_cons_succ]
  refine wpAnyH_take (i := 21) (v := ?_) rfl (by kernel_rfl) (by kernel_rfl) (by kernel_rfl) (fun _ _ _ h => h) (Or.inl ⟨by kernel_rfl, ?_⟩) (by assumption) ?_
  rotate_left
  · intro w0 hSw
    have y0 : w0.cell? ⟨w5.heap.size, 0, none⟩ = some (.bool n) := hSw.s.cell 0
    have y1 : w0.cell? ⟨w5.heap.size, 1, none⟩ = some (.string S) := hSw.s.cell 1
    have y2 : w0.cell? ⟨w5.heap.size, 2, none⟩ = some (.int .i64 kr) := hSw.s.cell 2
    have y3 : w0.cell? ⟨w.heap.size, 0, none⟩ = some (.bool n) := hSw.b.cell 0
    have y4 : w0.cell? ⟨w4.heap.size, 0, none⟩ = some (.int .i64 mi) := hSw.o.cell 0
    have y5 : w0.cell? ⟨w4.heap.size, 1, none⟩ = some (.int .i64 mf) := hSw.o.cell 1
    have y6 : w0.cell? ⟨w4.heap.size, 2, none⟩ = some (.int .i64 xf) := hSw.o.cell 2
    (go_simp <;> with_reducible rfl)
  try simp only [Act.put, List.setIfInBounds_toArray, List.set_cons_zero, List.set_cons_succ, List.getElem_toArray, List.getElem_cons_zero, List.getElem_cons_succ]
  refine wpAnyH_take (i := 22) (v := ?_) rfl (by kernel_rfl) (by kernel_rfl) (by kernel_rfl) (fun _ _ _ h => h) (Or.inl ⟨by kernel_rfl, ?_⟩) (by assumption) ?_
  rotate_left
  · intro w0 hSw
    have y0 : w0.cell? ⟨w5.heap.size, 0, none⟩ = some (.bool n) := hSw.s.cell 0
    have y1 : w0.cell? ⟨w5.heap.size, 1, none⟩ = some (.string S) := hSw.s.cell 1
    have y2 : w0.cell? ⟨w5.heap.size, 2, none⟩ = some (.int .i64 kr) := hSw.s.cell 2
    have y3 : w0.cell? ⟨w.heap.size, 0, none⟩ = some (.bool n) := hSw.b.cell 0
    have y4 : w0.cell? ⟨w4.heap.size, 0, none⟩ = some (.int .i64 mi) := hSw.o.cell 0
    have y5 : w0.cell? ⟨w4.heap.size, 1, none⟩ = some (.int .i64 mf) := hSw.o.cell 1
    have y6 : w0.cell? ⟨w4.heap.size, 2, none⟩ = some (.int .i64 xf) := hSw.o.cell 2
    (go_simp <;> with_reducible rfl)
  try simp only [Act.put, List.setIfInBounds_toArray, List.set_cons_zero, List.set_cons_succ, List.getElem_toArray, List.getElem_cons_zero, List.getElem_cons_succ]
  refine wpAnyH_take (i := 23) (v := ?_) rfl (by kernel_rfl) (by kernel_rfl) (by kernel_rfl) (fun _ _ _ h => h) (Or.inl ⟨by kernel_rfl, ?_⟩) (by assumption) ?_
  rotate_left
  · intro w0 hSw
    have y0 : w0.cell? ⟨w5.heap.size, 0, none⟩ = some (.bool n) := hSw.s.cell 0
    have y1 : w0.cell? ⟨w5.heap.size, 1, none⟩ = some (.string S) := hSw.s.cell 1
    have y2 : w0.cell? ⟨w5.heap.size, 2, none⟩ = some (.int .i64 kr) := hSw.s.cell 2
    have y3 : w0.cell? ⟨w.heap.size, 0, none⟩ = some (.bool n) := hSw.b.cell 0
    have y4 : w0.cell? ⟨w4.heap.size, 0, none⟩ = some (.int .i64 mi) := hSw.o.cell 0
    have y5 : w0.cell? ⟨w4.heap.size, 1, none⟩ = some (.int .i64 mf) := hSw.o.cell 1
    have y6 : w0.cell? ⟨w4.heap.size, 2, none⟩ = some (.int .i64 xf) := hSw.o.cell 2
    (go_simp <;> with_reducible rfl)
  try simp only [Act.put, List.setIfInBounds_toArray, List.set_cons_zero, List.set_cons_succ, List.getElem_toArray, List.getElem_cons_zero, List.getElem_cons_succ]
  refine wpAnyH_take (i := 24) (v := ?_) rfl (by kernel_rfl) (by kernel_rfl) (by kernel_rfl) (fun _ _ _ h => h) (Or.inl ⟨by kernel_rfl, ?_⟩) (by assumption) ?_
  rotate_left
  · intro w0 hSw
    have y0 : w0.cell? ⟨w5.heap.size, 0, none⟩ = some (.bool n) := hSw.s.cell 0
    have y1 : w0.cell? ⟨w5.heap.size, 1, none⟩ = some (.string S) := hSw.s.cell 1
    have y2 : w0.cell? ⟨w5.heap.size, 2, none⟩ = some (.int .i64 kr) := hSw.s.cell 2
    have y3 : w0.cell? ⟨w.heap.size, 0, none⟩ = some (.bool n) := hSw.b.cell 0
    have y4 : w0.cell? ⟨w4.heap.size, 0, none⟩ = some (.int .i64 mi) := hSw.o.cell 0
    have y5 : w0.cell? ⟨w4.heap.size, 1, none⟩ = some (.int .i64 mf) := hSw.o.cell 1
    have y6 : w0.cell? ⟨w4.heap.size, 2, none⟩ = some (.int .i64 xf) := hSw.o.cell 2
    (go_simp <;> with_reducible rfl)
  try simp only [Act.put, List.setIfInBounds_toArray, List.set_cons_zero, List.set_cons_succ, List.getElem_toArray, List.getElem_cons_zero, List.getElem_cons_succ]
  refine wpAnyH_take (i := 25) (v := ?_) rfl (by kernel_rfl) (by kernel_rfl) (by kernel_rfl) (fun _ _ _ h => h) (Or.inl ⟨by kernel_rfl, ?_⟩) (by assumption) ?_
  rotate_left
  · intro w0 hSw
    have y0 : w0.cell? ⟨w5.heap.size, 0, none⟩ = some (.bool n) := hSw.s.cell 0
    have y1 : w0.cell? ⟨w5.heap.size, 1, none⟩ = some (.string S) := hSw.s.cell 1
    have y2 : w0.cell? ⟨w5.heap.size, 2, none⟩ = some (.int .i64 kr) := hSw.s.cell 2
    have y3 : w0.cell? ⟨w.heap.size, 0, none⟩ = some (.bool n) := hSw.b.cell 0
    have y4 : w0.cell? ⟨w4.heap.size, 0, none⟩ = some (.int .i64 mi) := hSw.o.cell 0
    have y5 : w0.cell? ⟨w4.heap.size, 1, none⟩ = some (.int .i64 mf) := hSw.o.cell 1
    have y6 : w0.cell? ⟨w4.heap.size, 2, none⟩ = some (.int .i64 xf) := hSw.o.cell 2
    (go_simp <;> with_reducible rfl)
  try simp only [Act.put, List.setIfInBounds_toArray, List.set_cons_zero, List.set_cons_succ, List.getElem_toArray, List.getElem_cons_zero, List.getElem_cons_succ]
  refine wpAnyH_take (i := 26) (v := ?_) rfl (by kernel_rfl) (by kernel_rfl) (by kernel_rfl) (fun _ _ _ h => h) (Or.inl ⟨by kernel_rfl, ?_⟩) (by assumption) ?_
  rotate_left
  · intro w0 hSw
    have y0 : w0.cell? ⟨w5.heap.size, 0, none⟩ = some (.bool n) := hSw.s.cell 0
    have y1 : w0.cell? ⟨w5.heap.size, 1, none⟩ = some (.string S) := hSw.s.cell 1
    have y2 : w0.cell? ⟨w5.heap.size, 2, none⟩ = some (.int .i64 kr) := hSw.s.cell 2
    have y3 : w0.cell? ⟨w.heap.size, 0, none⟩ = some (.bool n) := hSw.b.cell 0
    have y4 : w0.cell? ⟨w4.heap.size, 0, none⟩ = some (.int .i64 mi) := hSw.o.cell 0
    have y5 : w0.cell? ⟨w4.heap.size, 1, none⟩ = some (.int .i64 mf) := hSw.o.cell 1
    have y6 : w0.cell? ⟨w4.heap.size, 2, none⟩ = some (.int .i64 xf) := hSw.o.cell 2
    (go_simp <;> with_reducible rfl)
  try simp only [Act.put, List.setIfInBounds_toArray, List.set_cons_zero, List.set_cons_succ, List.getElem_toArray, List.getElem_cons_zero, List.getElem_cons_succ]
  refine wpAnyH_take (i := 27) (v := ?_) rfl (by kernel_rfl) (by kernel_rfl) (by kernel_rfl) (fun _ _ _ h => h) (Or.inl ⟨by kernel_rfl, ?_⟩) (by assumption) ?_
  rotate_left
  · intro w0 hSw
    have y0 : w0.cell? ⟨w5.heap.size, 0, none⟩ = some (.bool n) := hSw.s.cell 0
    have y1 : w0.cell? ⟨w5.heap.size, 1, none⟩ = some (.string S) := hSw.s.cell 1
    have y2 : w0.cell? ⟨w5.heap.size, 2, none⟩ = some (.int .i64 kr) := hSw.s.cell 2
    have y3 : w0.cell? ⟨w.heap.size, 0, none⟩ = some (.bool n) := hSw.b.cell 0
    have y4 : w0.cell? ⟨w4.heap.size, 0, none⟩ = some (.int .i64 mi) := hSw.o.cell 0
    have y5 : w0.cell? ⟨w4.heap.size, 1, none⟩ = some (.int .i64 mf) := hSw.o.cell 1
    have y6 : w0.cell? ⟨w4.heap.size, 2, none⟩ = some (.int .i64 xf) := hSw.o.cell 2
    (go_simp <;> with_reducible rfl)
  try simp only [Act.put, List.setIfInBounds_toArray, List.set_cons_zero, List.set_cons_succ, List.getElem_toArray, List.getElem_cons_zero, List.getElem_cons_succ]
  refine wpAnyH_take (i := 28) (v := ?_) rfl (by kernel_rfl) (by kernel_rfl) (by kernel_rfl) (fun _ _ _ h => h) (Or.inl ⟨by kernel_rfl, ?_⟩) (by assumption) ?_
  rotate_left
  · intro w0 hSw
    have y0 : w0.cell? ⟨w5.heap.size, 0, none⟩ = some (.bool n) := hSw.s.cell 0
    have y1 : w0.cell? ⟨w5.heap.size, 1, none⟩ = some (.string S) := hSw.s.cell 1
    have y2 : w0.cell? ⟨w5.heap.size, 2, none⟩ = some (.int .i64 kr) := hSw.s.cell 2
    have y3 : w0.cell? ⟨w.heap.size, 0, none⟩ = some (.bool n) := hSw.b.cell 0
    have y4 : w0.cell? ⟨w4.heap.size, 0, none⟩ = some (.int .i64 mi) := hSw.o.cell 0
    have y5 : w0.cell? ⟨w4.heap.size, 1, none⟩ = some (.int .i64 mf) := hSw.o.cell 1
    have y6 : w0.cell? ⟨w4.heap.size, 2, none⟩ = some (.int .i64 xf) := hSw.o.cell 2
    (go_simp <;> with_reducible rfl)
  try simp only [Act.put, List.setIfInBounds_toArray, List.set_cons_zero, List.set_cons_succ, List.getElem_toArray, List.getElem_cons_zero, List.getElem_cons_succ]
  refine wpAnyH_take (i := 29) (v := ?_) rfl (by kernel_rfl) (by kernel_rfl) (by kernel_rfl) (fun _ _ _ h => h) (Or.inl ⟨by kernel_rfl, ?_⟩) (by assumption) ?_
  rotate_left
  · intro w0 hSw
    have y0 : w0.cell? ⟨w5.heap.size, 0, none⟩ = some (.bool n) := hSw.s.cell 0
    have y1 : w0.cell? ⟨w5.heap.size, 1, none⟩ = some (.string S) := hSw.s.cell 1
    have y2 : w0.cell? ⟨w5.heap.size, 2, none⟩ = some (.int .i64 kr) := hSw.s.cell 2
    have y3 : w0.cell? ⟨w.heap.size, 0, none⟩ = some (.bool n) := hSw.b.cell 0
    have y4 : w0.cell? ⟨w4.heap.size, 0, none⟩ = some (.int .i64 mi) := hSw.o.cell 0
    have y5 : w0.cell? ⟨w4.heap.size, 1, none⟩ = some (.int .i64 mf) := hSw.o.cell 1
    have y6 : w0.cell? ⟨w4.heap.size, 2, none⟩ = some (.int .i64 xf) := hSw.o.cell 2
    (go_simp <;> with_reducible rfl)
  try simp only [Act.put, List.setIfInBounds_toArray, List.set_cons_zero, List.set_cons_succ, List.getElem_toArray, List.getElem_cons_zero, List.getElem_cons_succ]
  refine wpAnyH_take (i := 30) (v := ?_) rfl (by kernel_rfl) (by kernel_rfl) (by kernel_rfl) (fun _ _ _ h => h) (Or.inl ⟨by kernel_rfl, ?_⟩) (by assumption) ?_
  rotate_left
  · intro w0 hSw
    have y0 : w0.cell? ⟨w5.heap.size, 0, none⟩ = some (.bool n) := hSw.s.cell 0
    have y1 : w0.cell? ⟨w5.heap.size, 1, none⟩ = some (.string S) := hSw.s.cell 1
    have y2 : w0.cell? ⟨w5.heap.size, 2, none⟩ = some (.int .i64 kr) := hSw.s.cell 2
    have y3 : w0.cell? ⟨w.heap.size, 0, none⟩ = some (.bool n) := hSw.b.cell 0
    have y4 : w0.cell? ⟨w4.heap.size, 0, none⟩ = some (.int .i64 mi) := hSw.o.cell 0
    have y5 : w0.cell? ⟨w4.heap.size, 1, none⟩ = some (.int .i64 mf) := hSw.o.cell 1
    have y6 : w0.cell? ⟨w4.heap.size, 2, none⟩ = some (.int .i64 xf) := hSw.o.cell 2
    (go_simp <;> with_reducible rfl)
  try simp only [Act.put, List.setIfInBounds_toArray, List.set_cons_zero, List.set_cons_succ, List.getElem_toArray, List.getElem_cons_zero, List.getElem_cons_succ]
  refine wpAnyH_take (i := 31) (v := ?_) rfl (by kernel_rfl) (by kernel_rfl) (by kernel_rfl) (fun _ _ _ h => h) (Or.inl ⟨by kernel_rfl, ?_⟩) (by assumption) ?_
  rotate_left
  · intro w0 hSw
    have y0 : w0.cell? ⟨w5.heap.size, 0, none⟩ = some (.bool n) := hSw.s.cell 0
    have y1 : w0.cell? ⟨w5.heap.size, 1, none⟩ = some (.string S) := hSw.s.cell 1
    have y2 : w0.cell? ⟨w5.heap.size, 2, none⟩ = some (.int .i64 kr) := hSw.s.cell 2
    have y3 : w0.cell? ⟨w.heap.size, 0, none⟩ = some (.bool n) := hSw.b.cell 0
    have y4 : w0.cell? ⟨w4.heap.size, 0, none⟩ = some (.int .i64 mi) := hSw.o.cell 0
    have y5 : w0.cell? ⟨w4.heap.size, 1, none⟩ = some (.int .i64 mf) := hSw.o.cell 1
    have y6 : w0.cell? ⟨w4.heap.size, 2, none⟩ = some (.int .i64 xf) := hSw.o.cell 2
    (go_simp <;> with_reducible rfl)
  try simp only [Act.put, List.setIfInBounds_toArray, List.set_cons_zero, List.set_cons_succ, List.getElem_toArray, List.getElem_cons_zero, List.getElem_cons_succ]
  refine wpAnyH_take (i := 32) (v := ?_) rfl (by kernel_rfl) (by kernel_rfl) (by kernel_rfl) (fun _ _ _ h => h) (Or.inl ⟨by kernel_rfl, ?_⟩) (by assumption) ?_
  rotate_left
  · intro w0 hSw
    have y0 : w0.cell? ⟨w5.heap.size, 0, none⟩ = some (.bool n) := hSw.s.cell 0
    have y1 : w0.cell? ⟨w5.heap.size, 1, none⟩ = some (.string S) := hSw.s.cell 1
    have y2 : w0.cell? ⟨w5.heap.size, 2, none⟩ = some (.int .i64 kr) := hSw.s.cell 2
    have y3 : w0.cell? ⟨w.heap.size, 0, none⟩ = some (.bool n) := hSw.b.cell 0
    have y4 : w0.cell? ⟨w4.heap.size, 0, none⟩ = some (.int .i64 mi) := hSw.o.cell 0
    have y5 : w0.cell? ⟨w4.heap.size, 1, none⟩ = some (.int .i64 mf) := hSw.o.cell 1
    have y6 : w0.cell? ⟨w4.heap.size, 2, none⟩ = some (.int .i64 xf) := hSw.o.cell 2
    (go_simp <;> with_reducible rfl)
  try simp only [Act.put, List.setIfInBounds_toArray, List.set_cons_zero, List.set_cons_succ, List.getElem_toArray, List.getElem_cons_zero, List.getElem_cons_succ]
  refine wpAnyH_take (i := 33) (v := ?_) rfl (by kernel_rfl) (by kernel_rfl) (by kernel_rfl) (fun _ _ _ h => h) (Or.inl ⟨by kernel_rfl, ?_⟩) (by assumption) ?_
  rotate_left
  · intro w0 hSw
    have y0 : w0.cell? ⟨w5.heap.size, 0, none⟩ = some (.bool n) := hSw.s.cell 0
    have y1 : w0.cell? ⟨w5.heap.size, 1, none⟩ = some (.string S) := hSw.s.cell 1
    have y2 : w0.cell? ⟨w5.heap.size, 2, none⟩ = some (.int .i64 kr) := hSw.s.cell 2
    have y3 : w0.cell? ⟨w.heap.size, 0, none⟩ = some (.bool n) := hSw.b.cell 0
    have y4 : w0.cell? ⟨w4.heap.size, 0, none⟩ = some (.int .i64 mi) := hSw.o.cell 0
    have y5 : w0.cell? ⟨w4.heap.size, 1, none⟩ = some (.int .i64 mf) := hSw.o.cell 1
    have y6 : w0.cell? ⟨w4.heap.size, 2, none⟩ = some (.int .i64 xf) := hSw.o.cell 2
    (go_simp <;> with_reducible rfl)
  try simp only [Act.put, List.setIfInBounds_toArray, List.set_cons_zero, List.set_cons_succ, List.getElem_toArray, List.getElem_cons_zero, List.getElem_cons_succ]
  refine wpAnyH_take (i := 34) (v := ?_) rfl (by kernel_rfl) (by kernel_rfl) (by kernel_rfl) (fun _ _ _ h => h) (Or.inl ⟨by kernel_rfl, ?_⟩) (by assumption) ?_
  rotate_left
  · intro w0 hSw
    have y0 : w0.cell? ⟨w5.heap.size, 0, none⟩ = some (.bool n) := hSw.s.cell 0
    have y1 : w0.cell? ⟨w5.heap.size, 1, none⟩ = some (.string S) := hSw.s.cell 1
    have y2 : w0.cell? ⟨w5.heap.size, 2, none⟩ = some (.int .i64 kr) := hSw.s.cell 2
    have y3 : w0.cell? ⟨w.heap.size, 0, none⟩ = some (.bool n) := hSw.b.cell 0
    have y4 : w0.cell? ⟨w4.heap.size, 0, none⟩ = some (.int .i64 mi) := hSw.o.cell 0
    have y5 : w0.cell? ⟨w4.heap.size, 1, none⟩ = some (.int .i64 mf) := hSw.o.cell 1
    have y6 : w0.cell? ⟨w4.heap.size, 2, none⟩ = some (.int .i64 xf) := hSw.o.cell 2
    (go_simp <;> with_reducible rfl)
  try simp only [Act.put, List.setIfInBounds_toArray, List.set_cons_zero, List.set_cons_succ, List.getElem_toArray, List.getElem_cons_zero, List.getElem_cons_succ]
  refine wpAnyH_take (i := 35) (v := ?_) rfl (by kernel_rfl) (by kernel_rfl) (by kernel_rfl) (fun _ _ _ h => h) (Or.inl ⟨by kernel_rfl, ?_⟩) (by assumption) ?_
  rotate_left
  · intro w0 hSw
    have y0 : w0.cell? ⟨w5.heap.size, 0, none⟩ = some (.bool n) := hSw.s.cell 0
    have y1 : w0.cell? ⟨w5.heap.size, 1, none⟩ = some (.string S) := hSw.s.cell 1
    have y2 : w0.cell? ⟨w5.heap.size, 2, none⟩ = some (.int .i64 kr) := hSw.s.cell 2
    have y3 : w0.cell? ⟨w.heap.size, 0, none⟩ = some (.bool n) := hSw.b.cell 0
    have y4 : w0.cell? ⟨w4.heap.size, 0, none⟩ = some (.int .i64 mi) := hSw.o.cell 0
    have y5 : w0.cell? ⟨w4.heap.size, 1, none⟩ = some (.int .i64 mf) := hSw.o.cell 1
    have y6 : w0.cell? ⟨w4.heap.size, 2, none⟩ = some (.int .i64 xf) := hSw.o.cell 2
    (go_simp <;> with_reducible rfl)
  try simp only [Act.put, List.setIfInBounds_toArray, List.set_cons_zero, List.set_cons_succ, List.getElem_toArray, List.getElem_cons_zero, List.getElem_cons_succ]
  refine wpAnyH_take (i := 36) (v := ?_) rfl (by kernel_rfl) (by kernel_rfl) (by kernel_rfl) (fun _ _ _ h => h) (Or.inl ⟨by kernel_rfl, ?_⟩) (by assumption) ?_
  rotate_left
  · intro w0 hSw
    have y0 : w0.cell? ⟨w5.heap.size, 0, none⟩ = some (.bool n) := hSw.s.cell 0
    have y1 : w0.cell? ⟨w5.heap.size, 1, none⟩ = some (.string S) := hSw.s.cell 1
    have y2 : w0.cell? ⟨w5.heap.size, 2, none⟩ = some (.int .i64 kr) := hSw.s.cell 2
    have y3 : w0.cell? ⟨w.heap.size, 0, none⟩ = some (.bool n) := hSw.b.cell 0
    have y4 : w0.cell? ⟨w4.heap.size, 0, none⟩ = some (.int .i64 mi) := hSw.o.cell 0
    have y5 : w0.cell? ⟨w4.heap.size, 1, none⟩ = some (.int .i64 mf) := hSw.o.cell 1
    have y6 : w0.cell? ⟨w4.heap.size, 2, none⟩ = some (.int .i64 xf) := hSw.o.cell 2
    (go_simp <;> with_reducible rfl)
  try simp only [Act.put, List.setIfInBounds_toArray, List.set_cons_zero, List.set_cons_succ, List.getElem_toArray, List.getElem_cons_zero, List.getElem_cons_succ]
  refine wpAnyH_take (i := 37) (v := ?_) rfl (by kernel_rfl) (by kernel_rfl) (by kernel_rfl) (fun _ _ _ h => h) (Or.inl ⟨by kernel_rfl, ?_⟩) (by assumption) ?_
  rotate_left
  · intro w0 hSw
    have y0 : w0.cell? ⟨w5.heap.size, 0, none⟩ = some (.bool n) := hSw.s.cell 0
    have y1 : w0.cell? ⟨w5.heap.size, 1, none⟩ = some (.string S) := hSw.s.cell 1
    have y2 : w0.cell? ⟨w5.heap.size, 2, none⟩ = some (.int .i64 kr) := hSw.s.cell 2
    have y3 : w0.cell? ⟨w.heap.size, 0, none⟩ = some (.bool n) := hSw.b.cell 0
    have y4 : w0.cell? ⟨w4.heap.size, 0, none⟩ = some (.int .i64 mi) := hSw.o.cell 0
    have y5 : w0.cell? ⟨w4.heap.size, 1, none⟩ = some (.int .i64 mf) := hSw.o.cell 1
    have y6 : w0.cell? ⟨w4.heap.size, 2, none⟩ = some (.int .i64 xf) := hSw.o.cell 2
    (go_simp <;> with_reducible rfl)
  try simp only [Act.put, List.setIfInBounds_toArray, List.set_cons_zero, List.set_cons_succ, List.getElem_toArray, List.getElem_cons_zero, List.getElem_cons_succ]
  refine wpAnyH_take (i := 38) (v := ?_) rfl (by kernel_rfl) (by kernel_rfl) (by kernel_rfl) (fun _ _ _ h => h) (Or.inl ⟨by kernel_rfl, ?_⟩) (by assumption) ?_
  rotate_left
  · intro w0 hSw
    have y0 : w0.cell? ⟨w5.heap.size, 0, none⟩ = some (.bool n) := hSw.s.cell 0
    have y1 : w0.cell? ⟨w5.heap.size, 1, none⟩ = some (.string S) := hSw.s.cell 1
    have y2 : w0.cell? ⟨w5.heap.size, 2, none⟩ = some (.int .i64 kr) := hSw.s.cell 2
    have y3 : w0.cell? ⟨w.heap.size, 0, none⟩ = some (.bool n) := hSw.b.cell 0
    have y4 : w0.cell? ⟨w4.heap.size, 0, none⟩ = some (.int .i64 mi) := hSw.o.cell 0
    have y5 : w0.cell? ⟨w4.heap.size, 1, none⟩ = some (.int .i64 mf) := hSw.o.cell 1
    have y6 : w0.cell? ⟨w4.heap.size, 2, none⟩ = some (.int .i64 xf) := hSw.o.cell 2
    (go_simp <;> with_reducible rfl)
  try simp only [Act.put, List.setIfInBounds_toArray, List.set_cons_zero, List.set_cons_succ, List.getElem_toArray, List.getElem_cons_zero, List.getElem_cons_succ]
  refine wpAnyH_take (i := 39) (v := ?_) rfl (by kernel_rfl) (by kernel_rfl) (by kernel_rfl) (fun _ _ _ h => h) (Or.inl ⟨by kernel_rfl, ?_⟩) (by assumption) ?_
  rotate_left
  · intro w0 hSw
    have y0 : w0.cell? ⟨w5.heap.size, 0, none⟩ = some (.bool n) := hSw.s.cell 0
    have y1 : w0.cell? ⟨w5.heap.size, 1, none⟩ = some (.string S) := hSw.s.cell 1
    have y2 : w0.cell? ⟨w5.heap.size, 2, none⟩ = some (.int .i64 kr) := hSw.s.cell 2
    have y3 : w0.cell? ⟨w.heap.size, 0, none⟩ = some (.bool n) := hSw.b.cell 0
    have y4 : w0.cell? ⟨w4.heap.size, 0, none⟩ = some (.int .i64 mi) := hSw.o.cell 0
    have y5 : w0.cell? ⟨w4.heap.size, 1, none⟩ = some (.int .i64 mf) := hSw.o.cell 1
    have y6 : w0.cell? ⟨w4.heap.size, 2, none⟩ = some (.int .i64 xf) := hSw.o.cell 2
    (go_simp <;> with_reducible rfl)
  try simp only [Act.put, List.setIfInBounds_toArray, List.set_cons_zero, List.set_cons_succ, List.getElem_toArray, List.getElem_cons_zero, List.getElem_cons_succ]
  refine wpAnyH_done (by kernel_rfl) ?_ _
  have G8 := Lib.hid hHeld
  have zn : nn ≤ SL.length := by have := Hnn.out; omega
  have z0 : 0 < S.size := by rw [HSz.out]; omega
  have zS : S.size ≤ 110 := by rw [HSz.out]; omega
  have zk : kr ≤ S.size := by rw [HSz.out]; omega
  have Hzkn := Lib.hid (show S.size = nn + kr by rw [HSz.out]; have := Hnn.out; omega)
  have zkn1 : nn ≤ S.size := by have := Hzkn.out; omega
  clear hHeld G7 HOR g1 g2 g3 g5 g1n g3n g5n g6 hAA
  have s0 : x1.cell? ⟨w5.heap.size, 0, none⟩ = some (.bool n) := G8.out.s.cell 0
  have s1 : x1.cell? ⟨w5.heap.size, 1, none⟩ = some (.string S) := G8.out.s.cell 1
  have s2 : x1.cell? ⟨w5.heap.size, 2, none⟩ = some (.int .i64 kr) := G8.out.s.cell 2
  have o0 : x1.cell? ⟨w4.heap.size, 0, none⟩ = some (.int .i64 mi) := G8.out.o.cell 0
  have o1 : x1.cell? ⟨w4.heap.size, 1, none⟩ = some (.int .i64 mf) := G8.out.o.cell 1
  have o2 : x1.cell? ⟨w4.heap.size, 2, none⟩ = some (.int .i64 xf) := G8.out.o.cell 2
  have o3 : x1.cell? ⟨w4.heap.size, 3, none⟩ = some (.bool pl) := G8.out.o.cell 3
  have o4 : x1.cell? ⟨w4.heap.size, 4, none⟩ = some (.bool rk) := G8.out.o.cell 4
  have d0 : x1.cell? ⟨w.heap.size, 0, none⟩ = some (.bool n) := G8.out.b.cell 0
  have d1 : x1.cell? ⟨w.heap.size, 1, none⟩ = some (.string s) := G8.out.b.cell 1
  have d2 : x1.cell? ⟨w.heap.size, 2, none⟩ = some (.int .i64 k) := G8.out.b.cell 2
  go_upto_region 10 with fail
  go_cut [108] (fun v wx => v = .bool false ∧ wx = x1)
  case first =>
    have hlast : mf < kr → (((S[S.size - 1]'(by omega)).toNat : Int) == 48) = false := by
      intro h
      rw [beq_eq_false_iff_ne]
      intro e
      apply Hsl.out h
      rw [← HSd.out, List.getLast?_eq_getElem?, size_data, List.getElem?_eq_getElem (by rw [size_data]; omega)]
      have : S[S.size - 1]'(by omega) = 48 := UInt8.toNat_inj.mp (by show (S[S.size - 1]'(by omega)).toNat = 48; omega)
      exact congrArg some this
    have hhead : mi < nn → (((S[0]'z0).toNat : Int) == 48) = false := by
      intro h
      rw [beq_eq_false_iff_ne]
      intro e
      apply Hsh.out h
      rw [← HSd.out, List.head?_eq_getElem?, List.getElem?_eq_getElem (by rw [size_data]; omega)]
      have : S[0]'z0 = 48 := UInt8.toNat_inj.mp (by show (S[0]'z0).toNat = 48; omega)
      exact congrArg some this
    have i1' : (0 : Int) ≤ (S.size : Int) - 1 := by omega
    have i2' : (S.size : Int) - 1 < S.size := by omega
    have i3' : ((S.size : Int) - 1).toNat = S.size - 1 := by omega
    by_cases hA : mf < kr
    · have q1 : decide ((mf : Int) < (kr : Int)) = true := decide_eq_true (by omega)
      have q1n : decide (mf < kr) = true := decide_eq_true hA
      have q2 := hlast hA
      by_cases hB : mi < nn
      · have q3 : decide ((mi : Int) < (nn : Int)) = true := decide_eq_true (by omega)
        have q3n : decide (mi < nn) = true := decide_eq_true hB
        have q4 := hhead hB
        clear hlast hhead
        as_aux_lemma =>
          go_wp2_with fail
          go_meet
          exact ⟨rfl, rfl⟩
      · have q3 : decide ((mi : Int) < (nn : Int)) = false := decide_eq_false (by omega)
        have q3n : decide (mi < nn) = false := decide_eq_false hB
        clear hlast hhead
        as_aux_lemma =>
          go_wp2_with fail
          go_meet
          exact ⟨rfl, rfl⟩
    · have q1 : decide ((mf : Int) < (kr : Int)) = false := decide_eq_false (by omega)
      have q1n : decide (mf < kr) = false := decide_eq_false hA
      by_cases hB : mi < nn
      · have q3 : decide ((mi : Int) < (nn : Int)) = true := decide_eq_true (by omega)
        have q3n : decide (mi < nn) = true := decide_eq_true hB
        have q4 := hhead hB
        clear hlast hhead
        as_aux_lemma =>
          go_wp2_with fail
          go_meet
          exact ⟨rfl, rfl⟩
      · have q3 : decide ((mi : Int) < (nn : Int)) = false := decide_eq_false (by omega)
        have q3n : decide (mi < nn) = false := decide_eq_false hB
        clear hlast hhead
        as_aux_lemma =>
          go_wp2_with fail
          go_meet
          exact ⟨rfl, rfl⟩
  obtain ⟨rfl, hw⟩ := hcut
  have hw2 := hw.symm
  clear hw
  subst hw2
  go_upto_block 0 with fail
  go_cut [10, 11] (fun u v wx => u = .string (bL (sgn lang).1) ∧ v = .string (bL (sgn lang).2) ∧ wx = x1)
  case first =>
    by_cases h0 : lang.toList = [100, 101]
    · have e0 : (lang.toList == [100, 101]) = true := beq_iff_eq.2 h0
      have ep : sgn lang = ([44], [46]) := sgn_some lang _ _ h0 (by kernel_rfl)
      have Ep := Lib.hid ep
      clear ep h0
      as_aux_lemma =>
        go_wp2_with fail
        go_meet
        exact ⟨by rw [Ep.out]; rfl, by rw [Ep.out]; rfl, rfl⟩
    by_cases h1 : lang.toList = [110, 108]
    · have e0 : (lang.toList == [100, 101]) = false := beq_eq_false_iff_ne.2 h0
      have e1 : (lang.toList == [110, 108]) = true := beq_iff_eq.2 h1
      have ep : sgn lang = ([44], [46]) := sgn_some lang _ _ h1 (by kernel_rfl)
      have Ep := Lib.hid ep
      clear ep h0 h1
      as_aux_lemma =>
        go_wp2_with fail
        go_meet
        exact ⟨by rw [Ep.out]; rfl, by rw [Ep.out]; rfl, rfl⟩
    by_cases h2 : lang.toList = [101, 115]
    · have e0 : (lang.toList == [100, 101]) = false := beq_eq_false_iff_ne.2 h0
      have e1 : (lang.toList == [110, 108]) = false := beq_eq_false_iff_ne.2 h1
      have e2 : (lang.toList == [101, 115]) = true := beq_iff_eq.2 h2
      have ep : sgn lang = ([44], [46]) := sgn_some lang _ _ h2 (by kernel_rfl)
      have Ep := Lib.hid ep
      clear ep h0 h1 h2
      as_aux_lemma =>
        go_wp2_with fail
        go_meet
        exact ⟨by rw [Ep.out]; rfl, by rw [Ep.out]; rfl, rfl⟩
    by_cases h3 : lang.toList = [102, 114]
    · have e0 : (lang.toList == [100, 101]) = false := beq_eq_false_iff_ne.2 h0
      have e1 : (lang.toList == [110, 108]) = false := beq_eq_false_iff_ne.2 h1
      have e2 : (lang.toList == [101, 115]) = false := beq_eq_false_iff_ne.2 h2
      have e3 : (lang.toList == [102, 114]) = true := beq_iff_eq.2 h3
      have ep : sgn lang = ([44], [226, 128, 175]) := sgn_some lang _ _ h3 (by kernel_rfl)
      have Ep := Lib.hid ep
      clear ep h0 h1 h2 h3
      as_aux_lemma =>
        go_wp2_with fail
        go_meet
        exact ⟨by rw [Ep.out]; rfl, by rw [Ep.out]; rfl, rfl⟩
    by_cases h4 : lang.toList = [114, 117]
    · have e0 : (lang.toList == [100, 101]) = false := beq_eq_false_iff_ne.2 h0
      have e1 : (lang.toList == [110, 108]) = false := beq_eq_false_iff_ne.2 h1
      have e2 : (lang.toList == [101, 115]) = false := beq_eq_false_iff_ne.2 h2
      have e3 : (lang.toList == [102, 114]) = false := beq_eq_false_iff_ne.2 h3
      have e4 : (lang.toList == [114, 117]) = true := beq_iff_eq.2 h4
      have ep : sgn lang = ([44], [194, 160]) := sgn_some lang _ _ h4 (by kernel_rfl)
      have Ep := Lib.hid ep
      clear ep h0 h1 h2 h3 h4
      as_aux_lemma =>
        go_wp2_with fail
        go_meet
        exact ⟨by rw [Ep.out]; rfl, by rw [Ep.out]; rfl, rfl⟩
    by_cases h5 : lang.toList = [99, 115]
    · have e0 : (lang.toList == [100, 101]) = false := beq_eq_false_iff_ne.2 h0
      have e1 : (lang.toList == [110, 108]) = false := beq_eq_false_iff_ne.2 h1
      have e2 : (lang.toList == [101, 115]) = false := beq_eq_false_iff_ne.2 h2
      have e3 : (lang.toList == [102, 114]) = false := beq_eq_false_iff_ne.2 h3
      have e4 : (lang.toList == [114, 117]) = false := beq_eq_false_iff_ne.2 h4
      have e5 : (lang.toList == [99, 115]) = true := beq_iff_eq.2 h5
      have ep : sgn lang = ([44], [194, 160]) := sgn_some lang _ _ h5 (by kernel_rfl)
      have Ep := Lib.hid ep
      clear ep h0 h1 h2 h3 h4 h5
      as_aux_lemma =>
        go_wp2_with fail
        go_meet
        exact ⟨by rw [Ep.out]; rfl, by rw [Ep.out]; rfl, rfl⟩
    by_cases h6 : lang.toList = [112, 108]
    · have e0 : (lang.toList == [100, 101]) = false := beq_eq_false_iff_ne.2 h0
      have e1 : (lang.toList == [110, 108]) = false := beq_eq_false_iff_ne.2 h1
      have e2 : (lang.toList == [101, 115]) = false := beq_eq_false_iff_ne.2 h2
      have e3 : (lang.toList == [102, 114]) = false := beq_eq_false_iff_ne.2 h3
      have e4 : (lang.toList == [114, 117]) = false := beq_eq_false_iff_ne.2 h4
      have e5 : (lang.toList == [99, 115]) = false := beq_eq_false_iff_ne.2 h5
      have e6 : (lang.toList == [112, 108]) = true := beq_iff_eq.2 h6
      have ep : sgn lang = ([44], [194, 160]) := sgn_some lang _ _ h6 (by kernel_rfl)
      have Ep := Lib.hid ep
      clear ep h0 h1 h2 h3 h4 h5 h6
      as_aux_lemma =>
        go_wp2_with fail
        go_meet
        exact ⟨by rw [Ep.out]; rfl, by rw [Ep.out]; rfl, rfl⟩
    by_cases h7 : lang.toList = [115, 118]
    · have e0 : (lang.toList == [100, 101]) = false := beq_eq_false_iff_ne.2 h0
      have e1 : (lang.toList == [110, 108]) = false := beq_eq_false_iff_ne.2 h1
      have e2 : (lang.toList == [101, 115]) = false := beq_eq_false_iff_ne.2 h2
      have e3 : (lang.toList == [102, 114]) = false := beq_eq_false_iff_ne.2 h3
      have e4 : (lang.toList == [114, 117]) = false := beq_eq_false_iff_ne.2 h4
      have e5 : (lang.toList == [99, 115]) = false := beq_eq_false_iff_ne.2 h5
      have e6 : (lang.toList == [112, 108]) = false := beq_eq_false_iff_ne.2 h6
      have e7 : (lang.toList == [115, 118]) = true := beq_iff_eq.2 h7
      have ep : sgn lang = ([44], [194, 160]) := sgn_some lang _ _ h7 (by kernel_rfl)
      have Ep := Lib.hid ep
      clear ep h0 h1 h2 h3 h4 h5 h6 h7
      as_aux_lemma =>
        go_wp2_with fail
        go_meet
        exact ⟨by rw [Ep.out]; rfl, by rw [Ep.out]; rfl, rfl⟩
    have e0 : (lang.toList == [100, 101]) = false := beq_eq_false_iff_ne.2 h0
    have e1 : (lang.toList == [110, 108]) = false := beq_eq_false_iff_ne.2 h1
    have e2 : (lang.toList == [101, 115]) = false := beq_eq_false_iff_ne.2 h2
    have e3 : (lang.toList == [102, 114]) = false := beq_eq_false_iff_ne.2 h3
    have e4 : (lang.toList == [114, 117]) = false := beq_eq_false_iff_ne.2 h4
    have e5 : (lang.toList == [99, 115]) = false := beq_eq_false_iff_ne.2 h5
    have e6 : (lang.toList == [112, 108]) = false := beq_eq_false_iff_ne.2 h6
    have e7 : (lang.toList == [115, 118]) = false := beq_eq_false_iff_ne.2 h7
    have ep : sgn lang = ([46], [44]) := sgn_none lang (fun x hx => by simp only [langs, List.mem_cons, List.not_mem_nil, or_false] at hx; rcases hx with rfl | rfl | rfl | rfl | rfl | rfl | rfl | rfl <;> assumption)
    have Ep := Lib.hid ep
    clear ep h0 h1 h2 h3 h4 h5 h6 h7
    as_aux_lemma =>
      go_wp2_with fail
      go_meet
      exact ⟨by rw [Ep.out]; rfl, by rw [Ep.out]; rfl, rfl⟩
  obtain ⟨rfl, rfl, hw⟩ := hcut
  have hw2 := hw.symm
  clear hw
  subst hw2
  have hsl := sgn_len lang
  have HOf := Lib.hid (fun (W : World) (b : Nat) (hM : MarksAt W b false 0) => of_any b 0 false lang (by decide) W hM)
  have hP' : ∀ x : List UInt8, (⟨x.toArray⟩ : ByteArray) = bL x := fun _ => rfl
  simp only [hP'] at HOf
  clear hP'
  generalize (sgn lang).1 = P at *
  generalize (sgn lang).2 = Q at *
  obtain ⟨PB, hPB⟩ : ∃ b, bL P = b := ⟨_, rfl⟩
  obtain ⟨QB, hQB⟩ : ∃ b, bL Q = b := ⟨_, rfl⟩
  have zP : PB.size = 1 := by rw [← hPB, bL_size]; exact hsl.1
  have zQ : QB.size ≤ 3 := by rw [← hQB, bL_size]; exact hsl.2
  have HQ3 := Lib.hid hsl.2
  simp only [hPB, hQB] at HOf ⊢
  have HPB := Lib.hid hPB
  have HQB := Lib.hid hQB
  clear hPB hQB hsl
  have g9 : wrap64 ((S.size : Int) - (kr : Int)) = (nn : Int) := g4
  go_wp2_with fail
  go_loopw [12, 14] (fun t12 t14 wr => ∃ (i : Nat) (T : ByteArray), t14 = .int .i64 i ∧ t12 = .string T ∧ i ≤ nn ∧ T.size ≤ 800 ∧ Hid (T = bL (wantD pl (SL.take nn) Q i)) ∧ wr = x1) (fun _ t14 _ => nn - (intOf t14).toNat)
  case atStart => exact ⟨0, _, rfl, rfl, Nat.zero_le _, by decide, Lib.hid (by unfold wantD; cases pl <;> rfl), rfl⟩
  case round =>
    obtain ⟨i, T, rfl, rfl, hi, hT, hTT, hw⟩ := hrel
    have hw2 := hw.symm
    clear hw
    subst hw2
    by_cases hlt : i < nn
    · have f1 : decide ((i : Int) < (nn : Int)) = true := decide_eq_true (by omega)
      have f1n : decide (i < nn) = true := decide_eq_true hlt
      have j0 : (i : Int) ≤ (i : Int) + 1 := by omega
      have j1 : (i : Int) + 1 ≤ (S.size : Int) := by omega
      have wy := want_yes S SL Q nn i HSd.out hlt zn
      have wn := want_no pl S SL Q nn i HSd.out hlt zn
      rw [← hTT.out] at wn
      rw [HQB.out] at wy
      have wz := want_size pl (SL.take nn) Q (i + 1) (by omega) HQ3.out
      rw [← bL_size] at wz
      obtain ⟨E, hE⟩ : ∃ E, S.extract i (i + 1) = E := ⟨_, rfl⟩
      have zE : E.size = 1 := by rw [← hE, ByteArray.size_extract]; omega
      have HE := Lib.hid hE
      rw [HE.out] at wy wn
      clear hE
      by_cases c0 : 0 < i
      · have f4 : decide ((0 : Int) < (i : Int)) = true := decide_eq_true (by omega)
        have f4n : decide (0 < i) = true := decide_eq_true c0
        by_cases c3 : (nn - i) % 3 = 0
        · have f5 : (((nn : Int) - (i : Int)) % 3 == 0) = true := by rw [beq_iff_eq]; omega
          have f6 : ((nn : Int) - (i : Int)) % 3 = 0 := by omega
          have Hc3 := Lib.hid c3
          clear c3
          cases pl
          case false =>
            as_aux_lemma =>
              have W2 := Lib.hid (wy c0 Hc3.out)
              have Wz := Lib.hid wz
              rw [← hTT.out] at W2
              clear wy wn hTT wz
              go_wp2_with fail
              go_roundw
              case rel => exact ⟨i + 1, _, by go_num, rfl, by omega, by have h1 := W2.out; have h2 := Wz.out; first | (rw [HE.out, h1]; exact h2) | (rw [h1]; exact h2), Lib.hid (by first | exact W2.out | (rw [HE.out]; exact W2.out)), by first | rfl | trivial⟩
              case measure => simp [intOf]; omega
          case true =>
            as_aux_lemma =>
              have W2 := Lib.hid (wn (.inl rfl))
              have Wz := Lib.hid wz
              clear wy wn hTT wz
              go_wp2_with fail
              go_roundw
              case rel => exact ⟨i + 1, _, by go_num, rfl, by omega, by have h1 := W2.out; have h2 := Wz.out; first | (rw [HE.out, h1]; exact h2) | (rw [h1]; exact h2), Lib.hid (by first | exact W2.out | (rw [HE.out]; exact W2.out)), by first | rfl | trivial⟩
              case measure => simp [intOf]; omega
        · have f5 : (((nn : Int) - (i : Int)) % 3 == 0) = false := by rw [beq_eq_false_iff_ne]; omega
          have f6 : ¬ ((nn : Int) - (i : Int)) % 3 = 0 := by omega
          as_aux_lemma =>
            have W2 := Lib.hid (wn (.inr (fun h => c3 h.2)))
            have Wz := Lib.hid wz
            clear wy wn hTT wz
            go_wp2_with fail
            go_roundw
            case rel => exact ⟨i + 1, _, by go_num, rfl, by omega, by have h1 := W2.out; have h2 := Wz.out; first | (rw [HE.out, h1]; exact h2) | (rw [h1]; exact h2), Lib.hid (by first | exact W2.out | (rw [HE.out]; exact W2.out)), by first | rfl | trivial⟩
            case measure => simp [intOf]; omega
      · have f4 : decide ((0 : Int) < (i : Int)) = false := decide_eq_false (by omega)
        have f4n : decide (0 < i) = false := decide_eq_false c0
        as_aux_lemma =>
          have W2 := Lib.hid (wn (.inr (fun h => c0 h.1)))
          have Wz := Lib.hid wz
          clear wy wn hTT wz
          go_wp2_with fail
          go_roundw
          case rel => exact ⟨i + 1, _, by go_num, rfl, by omega, by have h1 := W2.out; have h2 := Wz.out; first | (rw [HE.out, h1]; exact h2) | (rw [h1]; exact h2), Lib.hid (by first | exact W2.out | (rw [HE.out]; exact W2.out)), by first | rfl | trivial⟩
          case measure => simp [intOf]; omega
    · skip
      as_aux_lemma =>
        obtain rfl : i = nn := by omega
        have f1 : decide ((i : Int) < (i : Int)) = false := decide_eq_false (by omega)
        have f1n : decide (i < i) = false := decide_eq_false (by omega)
        obtain ⟨U, hU⟩ : ∃ U, (wantD pl (SL.take i) Q i ++ if kr = 0 then [] else P ++ SL.drop i) = U := ⟨_, rfl⟩
        have zU : U.length ≤ 1000 := by
          rw [← hU, List.length_append]
          have h1 := want_size pl (SL.take i) Q i (by omega) HQ3.out
          have h2 : P.length = 1 := by have := zP; rw [← HPB.out, bL_size] at this; exact this
          split
          · simp; omega
          · rw [List.length_append, List.length_drop]; omega
        have HU := Lib.hid hU
        clear hU
        have hed := ext_drop S SL i HSd.out
        obtain ⟨E, hE⟩ : ∃ E, S.extract i S.size = E := ⟨_, rfl⟩
        have zE : E.size ≤ 110 := by rw [← hE, ByteArray.size_extract]; omega
        rw [hE] at hed
        have Hed := Lib.hid hed
        have HE := Lib.hid hE
        clear hed hE
        have zTP : T.size + PB.size ≤ 900 := by omega
        go_upto_if 159 with fail
        obtain ⟨kb, hkb⟩ : ∃ b, decide (0 < kr) = b := ⟨_, rfl⟩
        rw [hkb]
        have Hkb := Lib.hid hkb
        clear hkb
        go_cut [12] (fun u wx => u = .string (bL U) ∧ wx = x1)
        case first =>
          cases kb with
          | false =>
            have eU : T = bL U := by
              have h1 := HU.out
              have c0 : kr = 0 := by have := of_decide_eq_false Hkb.out; omega
              rw [if_pos c0, List.append_nil] at h1
              rw [hTT.out, h1]
            have EU := Lib.hid eU
            clear eU
            as_aux_lemma =>
              go_wp2_with fail
              go_meet
              exact ⟨by rw [EU.out], rfl⟩
          | true =>
            have eU : (T ++ PB) ++ S.extract i S.size = bL U := by
              have h1 := HU.out
              have c0 : ¬ kr = 0 := by have := of_decide_eq_true Hkb.out; omega
              rw [if_neg c0] at h1
              rw [HE.out, Hed.out, hTT.out, ← HPB.out, bL_append, bL_append, ← h1, List.append_assoc]
            have EU := Lib.hid eU
            have i4 : (i : Int) ≤ (S.size : Int) := by omega
            clear eU
            as_aux_lemma =>
              go_wp2_with fail
              go_meet
              exact ⟨by rw [EU.out], rfl⟩
        obtain ⟨rfl, hw⟩ := hcut
        have hw2 := hw.symm
        clear hw
        subst hw2
        obtain ⟨UB, hUB⟩ : ∃ b, bL U = b := ⟨_, rfl⟩
        have zUB : UB.size ≤ 1000 := by rw [← hUB, bL_size]; exact zU
        rw [hUB]
        have HUB := Lib.hid hUB
        clear hUB zU
        obtain ⟨V, hV⟩ : ∃ V, bL ((if n && !z then [45] else []) ++ U) = V := ⟨_, rfl⟩
        have HV := Lib.hid hV
        clear hV
        have hfz := fixZero
        obtain ⟨nz, hnz⟩ : ∃ b, (n && !z) = b := ⟨_, rfl⟩
        have Hnz := Lib.hid hnz
        clear hnz
        go_upto_region 39 with fail
        go_cut [175] (fun u wx => u = .bool nz ∧ Hid (FoS w.heap.size w.heap.size w4.heap.size w5.heap.size w6.heap.size #[.bool n, .string s, .int .i64 k] #[.int .i64 mi, .int .i64 mf, .int .i64 xf, .bool pl, .bool rk] #[.bool n, .string S, .int .i64 kr] #[.bool n, .string R, .int .i64 k1] w wx))
        case first =>
          cases n with
          | false =>
            have e1 : nz = false := by rw [← Hnz.out]; rfl
            subst e1
            as_aux_lemma =>
              go_wp2_with fail
              go_meet
              exact ⟨rfl, G8⟩
          | true =>
            have e1 : nz = !z := by rw [← Hnz.out]; rfl
            subst e1
            go_wp2_with fail
            go_at_call 14
            refine (HOS.out _).mono ?_
            rintro e x2 ⟨rfl, b2⟩
            have G9 := Lib.hid (FoS.later G8.out (Nat.le_refl _) b2)
            have hz := Hz.out
            clear b2
            as_aux_lemma =>
              go_wp2_with fail
              go_meet
              exact ⟨rfl, G9⟩
        obtain ⟨rfl, hG⟩ := hcut
        generalize wc = x3 at *
        go_upto_if 175 with fail
        go_cut [12] (fun u wx => u = .string V ∧ wx = x3)
        case first =>
          have hV := HV.out
          rw [Hnz.out] at hV
          cases nz with
          | false =>
            have eV : UB = V := by rw [← hV, ← HUB.out]; rfl
            have EV := Lib.hid eV
            clear eV hV
            as_aux_lemma =>
              go_wp2_with fail
              go_meet
              exact ⟨by rw [EV.out], rfl⟩
          | true =>
            have eV : (⟨#[45]⟩ : ByteArray) ++ UB = V := by rw [← hV, ← HUB.out]; exact bL_append [45] U
            have EV := Lib.hid eV
            clear eV hV
            as_aux_lemma =>
              go_wp2_with fail
              go_meet
              exact ⟨by rw [EV.out], rfl⟩
        obtain ⟨rfl, hw⟩ := hcut
        have hw2 := hw.symm
        clear hw
        subst hw2
        have eF : bL ((if n && !z then [45] else []) ++ (wantD pl (SL.take i) Q i ++ if kr = 0 then [] else P ++ SL.drop i)) = V := by rw [HU.out, HV.out]
        have HeF := Lib.hid eF
        clear eF
        have M3 := Lib.hid (marks_new x3)
        have G10 := Lib.hid (FoS.later hG.out (Nat.le_refl _) ((Below.refl _ _).alloc (Nat.le_refl _) (.cells #[.int .u32 0, .int .i32 0, .int .u32 0, .map none, .int .i64 0] 62)))
        have y1 := hG.out.b.lt
        have y2 := hG.out.o.lt
        have y3 := hG.out.s.lt
        have y4 := hG.out.r.lt
        clear d0 d1 d2 o0 o1 o2 o3 o4 s0 s1 s2
        go_wp2_with fail
        go_at_call 15
        refine (HOf.out _ _ M3.out).mono ?_
        rintro e x4 ⟨rfl, hm4, hk4⟩
        have G11 := Lib.hid (FoS.kp G10.out (Nat.le_of_lt y1) (Nat.ne_of_lt y1) (Nat.ne_of_lt y2) (Nat.ne_of_lt y3) (Nat.ne_of_lt y4) hk4)
        have M4 := Lib.hid hm4
        clear hm4 hk4 G10 M3 hG G8
        have d0 : x4.cell? ⟨w.heap.size, 0, none⟩ = some (.bool n) := G11.out.b.cell 0
        have d1 : x4.cell? ⟨w.heap.size, 1, none⟩ = some (.string s) := G11.out.b.cell 1
        have d2 : x4.cell? ⟨w.heap.size, 2, none⟩ = some (.int .i64 k) := G11.out.b.cell 2
        have o0 : x4.cell? ⟨w4.heap.size, 0, none⟩ = some (.int .i64 mi) := G11.out.o.cell 0
        have o1 : x4.cell? ⟨w4.heap.size, 1, none⟩ = some (.int .i64 mf) := G11.out.o.cell 1
        have o2 : x4.cell? ⟨w4.heap.size, 2, none⟩ = some (.int .i64 xf) := G11.out.o.cell 2
        have o3 : x4.cell? ⟨w4.heap.size, 3, none⟩ = some (.bool pl) := G11.out.o.cell 3
        have o4 : x4.cell? ⟨w4.heap.size, 4, none⟩ = some (.bool rk) := G11.out.o.cell 4
        have r1 : (PB.toList == PB.toList) = true := beq_self_eq_true _
        have r2 : (QB.toList == QB.toList) = true := beq_self_eq_true _
        have r3 : (V.toList == V.toList) = true := beq_self_eq_true _
        go_wp2_with fail
        go_at_call 16
        refine (HFo.out _ _ 1 (by decide) M4.out).mono ?_
        rintro e x5 ⟨he, hm5, hk5⟩
        rw [Hnn.out, HeF.out] at he
        subst he
        have M5 := Lib.hid hm5
        have B5 := Lib.hid (G11.out.bel.trans (hk5.below.mono (Nat.le_of_lt y1)))
        clear hm5 hk5 d0 d1 d2 o0 o1 o2 o3 o4 G11 M4
        go_wp2_with fail
        go_at_call 17
        refine (asked_any _ 2 true _ M5.out).mono ?_
        rintro e x6 ⟨rfl, rfl⟩
        go_wp2
        go_ret
        exact ⟨rfl, B5.out⟩
end Go.Proofs.YtjdpmdheapmanaaGreatDoor
