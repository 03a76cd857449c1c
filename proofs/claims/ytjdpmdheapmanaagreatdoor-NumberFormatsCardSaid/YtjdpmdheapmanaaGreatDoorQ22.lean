/-
  Several texts put together (part 22): what the law and the program call, walked; their contracts.
-/
import Derived.Test.YtjdpmdheapmanaaGreatDoorQ19
import Derived.Test.YtjdpmdheapmanaaGreatDoorQ20
import Derived.Test.YtjdpmdheapmanaaGreatDoorQ21
import Derived.Laws.StructEq
namespace Go.Proofs.YtjdpmdheapmanaaGreatDoor
open Go.RowKit
set_option linter.unusedVariables false
set_option linter.unusedSimpArgs false
theorem bs1 {B : Nat} {a w : World} {b : Nat} (h : Below B a w) (hb : B ≤ b) (o : Nat) (x : Value) : Below B a (w.setCell ⟨b, o, none⟩ x) := h.setCell (p := ⟨b, o, none⟩) hb _
structure OP where
  mi : Int
  mf : Int
  xf : Int
  pl : Bool
  rk : Bool
def okO (p : OPT) : Bool := if p.it then txtOk p.nm p.tx else numOk p.nm (cntOk p.n p.s.data.toList p.k.toNat) (cntC p.n p.s.data.toList p.k.toNat)
def turnO (p : OPT) (o : OP) : OP :=
  if p.it then ⟨o.mi, o.mf, o.xf, txtPl p.nm p.tx o.pl, txtRk p.nm p.tx o.rk⟩
  else ⟨numMi p.nm (cntOk p.n p.s.data.toList p.k.toNat) (cntC p.n p.s.data.toList p.k.toNat) o.mi, numMf p.nm (cntOk p.n p.s.data.toList p.k.toNat) (cntC p.n p.s.data.toList p.k.toNat) o.mf, numXf p.nm (cntOk p.n p.s.data.toList p.k.toNat) (cntC p.n p.s.data.toList p.k.toNat) o.xf, o.pl, o.rk⟩
def setO (p : OPT) (o : OP) : OP := if okO p then turnO p o else o
def optsF : List OPT → OP → OP
  | [], o => o
  | p :: l, o => optsF l (setO p o)
def BdP (o : OP) : Prop := (0 ≤ o.mi ∧ o.mi ≤ 20) ∧ (0 ≤ o.mf ∧ o.mf ≤ 20) ∧ (0 ≤ o.xf ∧ o.xf ≤ 20)
theorem turn_bd {p : OPT} {o : OP} (hp : OkO p) (h : BdP o) : BdP (turnO p o) := by
  obtain ⟨kk, hk, hN⟩ := hp
  have hc := cntC_bd (n := p.n) hN
  obtain ⟨h1, h2, h3⟩ := h
  unfold turnO
  split
  · exact ⟨h1, h2, h3⟩
  · rw [hk, Int.toNat_natCast]
    generalize cntC p.n p.s.data.toList kk = c at *
    generalize cntOk p.n p.s.data.toList kk = q at *
    refine ⟨?_, ?_, ?_⟩
    · show 0 ≤ numMi p.nm q c o.mi ∧ numMi p.nm q c o.mi ≤ 20
      unfold numMi
      split
      · exact hc
      · exact h1
    · show 0 ≤ numMf p.nm q c o.mf ∧ numMf p.nm q c o.mf ≤ 20
      unfold numMf
      split
      · exact hc
      · split <;> omega
    · show 0 ≤ numXf p.nm q c o.xf ∧ numXf p.nm q c o.xf ≤ 20
      unfold numXf
      split
      · omega
      · split <;> omega
theorem set_bd {p : OPT} {o : OP} (hp : OkO p) (h : BdP o) : BdP (setO p o) := by
  unfold setO
  split
  · exact turn_bd hp h
  · exact h
set_option maxHeartbeats 4000000 in
set_option maxRecDepth 100000 in
theorem set_core (nm tx : ByteArray) (n : Bool) (s : ByteArray) (k : Int) (it ok : Bool) (mi mf xf mi2 mf2 xf2 : Int) (pl rk pl2 rk2 : Bool) (w : World)
    (hT : it = true → ∀ (b : Nat) (W : World), BoxAt W b #[.int .i64 mi, .int .i64 mf, .int .i64 xf, .bool pl, .bool rk] 26 → Calls Tryz.prog 18 #[.pointer (some ⟨b, 0, none⟩), .string nm, .string tx] W fun e w' => e = .returned (.bool ok) ∧ BoxAt w' b #[.int .i64 mi2, .int .i64 mf2, .int .i64 xf2, .bool pl2, .bool rk2] 26 ∧ Kp b W w')
    (hN : it = false → ∀ (b : Nat) (W : World), BoxAt W b #[.int .i64 mi, .int .i64 mf, .int .i64 xf, .bool pl, .bool rk] 26 → Calls Tryz.prog 19 #[.pointer (some ⟨b, 0, none⟩), .string nm, .agg #[.bool n, .string s, .int .i64 k]] W fun e w' => e = .returned (.bool ok) ∧ BoxAt w' b #[.int .i64 mi2, .int .i64 mf2, .int .i64 xf2, .bool pl2, .bool rk2] 26 ∧ Kp b W w') :
    Calls Tryz.prog 8 #[.agg #[.int .i64 mi, .int .i64 mf, .int .i64 xf, .bool pl, .bool rk], .string nm, .string tx, .agg #[.bool n, .string s, .int .i64 k], .bool it] w
      fun e w' => e = .returned (if ok then .tuple #[.agg #[.int .i64 mi2, .int .i64 mf2, .int .i64 xf2, .bool pl2, .bool rk2], .int .i64 0] else .tuple #[.agg #[.int .i64 0, .int .i64 0, .int .i64 0, .bool false, .bool false], .int .i64 1]) ∧ Below w.heap.size w w' := by
  have B0 := Lib.hid (((BoxAt.new w #[.int .i64 mi, .int .i64 mf, .int .i64 xf, .bool pl, .bool rk] 26).alloc (.cells #[.bool n, .string s, .int .i64 k] 29)).alloc (.cells #[.int .i64 0, .int .i64 0, .int .i64 0, .bool false, .bool false] 26))
  have D0 := Lib.hid ((BoxAt.new' (w.alloc (.cells #[.int .i64 mi, .int .i64 mf, .int .i64 xf, .bool pl, .bool rk] 26)) (w.heap.size + 1) #[.bool n, .string s, .int .i64 k] 29 (by simp)).alloc (.cells #[.int .i64 0, .int .i64 0, .int .i64 0, .bool false, .bool false] 26))
  have R0 := Lib.hid (BoxAt.new' ((w.alloc (.cells #[.int .i64 mi, .int .i64 mf, .int .i64 xf, .bool pl, .bool rk] 26)).alloc (.cells #[.bool n, .string s, .int .i64 k] 29)) (w.heap.size + 1 + 1) #[.int .i64 0, .int .i64 0, .int .i64 0, .bool false, .bool false] 26 (by simp))
  have K0 := Lib.hid ((((Kp.refl w.heap.size w).alloc (Nat.le_refl _) (.cells #[.int .i64 mi, .int .i64 mf, .int .i64 xf, .bool pl, .bool rk] 26)).alloc (by simp) (.cells #[.bool n, .string s, .int .i64 k] 29)).alloc (by simp; omega) (.cells #[.int .i64 0, .int .i64 0, .int .i64 0, .bool false, .bool false] 26))
  cases it
  all_goals
    first | have HT := Lib.hid (hT rfl) | have HT := Lib.hid (hN rfl)
    clear hT hN
    go_enter Tryz.func8, Tryz.ntmps8
    go_wp2_with fail
    first | go_at_call 18 | go_at_call 19
    refine (HT.out _ _ B0.out).mono ?_
    rintro e w2 ⟨rfl, hb2, hk2⟩
    have R2 := R0.out.kp hk2 (by omega)
    have K2 := Lib.hid (K0.out.trans hk2)
    have zb := hb2.lt
    have zr := R2.lt
    have y0 := hb2.cell 0
    have y1 := hb2.cell 1
    have y2 := hb2.cell 2
    have y3 := hb2.cell 3
    have y4 := hb2.cell 4
    simp only [List.getElem?_toArray, List.getElem?_cons_zero, List.getElem?_cons_succ] at y0 y1 y2 y3 y4
    have v0 := R2.cell 0
    have v1 := R2.cell 1
    have v2 := R2.cell 2
    have v3 := R2.cell 3
    have v4 := R2.cell 4
    simp only [List.getElem?_toArray, List.getElem?_cons_zero, List.getElem?_cons_succ] at v0 v1 v2 v3 v4
    have f0 := R2.z 0
    have f1 := R2.z 1
    have f2 := R2.z 2
    have f3 := R2.z 3
    have f4 := R2.z 4
    have HR2 := Lib.hid R2
    clear hb2 hk2 R2
    cases ok
    case false =>
      go_wp2
      have hK := Lib.hid (show Below w.heap.size w (((((w2.setCell ⟨w.heap.size + 1 + 1, 0, none⟩ (.int .i64 0)).setCell ⟨w.heap.size + 1 + 1, 1, none⟩ (.int .i64 0)).setCell ⟨w.heap.size + 1 + 1, 2, none⟩ (.int .i64 0)).setCell ⟨w.heap.size + 1 + 1, 3, none⟩ (.bool false)).setCell ⟨w.heap.size + 1 + 1, 4, none⟩ (.bool false)) from (bs1 (bs1 (bs1 (bs1 (bs1 K2.out.below (by omega : w.heap.size ≤ w.heap.size + 1 + 1) 0 (.int .i64 0)) (by omega : w.heap.size ≤ w.heap.size + 1 + 1) 1 (.int .i64 0)) (by omega : w.heap.size ≤ w.heap.size + 1 + 1) 2 (.int .i64 0)) (by omega : w.heap.size ≤ w.heap.size + 1 + 1) 3 (.bool false)) (by omega : w.heap.size ≤ w.heap.size + 1 + 1) 4 (.bool false)))
      have R3 := (((((HR2.out.set 0 (.int .i64 0)).set 1 (.int .i64 0)).set 2 (.int .i64 0)).set 3 (.bool false)).set 4 (.bool false))
      clear v0 y0 f0 v1 y1 f1 v2 y2 f2 v3 y3 f3 v4 y4 f4
      have v0 := R3.cell 0
      have v1 := R3.cell 1
      have v2 := R3.cell 2
      have v3 := R3.cell 3
      have v4 := R3.cell 4
      simp only [List.getElem?_toArray, List.getElem?_cons_zero, List.getElem?_cons_succ, List.setIfInBounds_toArray, List.set_cons_zero, List.set_cons_succ] at v0 v1 v2 v3 v4
      clear R3 HR2 K2
      generalize (((((w2.setCell ⟨w.heap.size + 1 + 1, 0, none⟩ (.int .i64 0)).setCell ⟨w.heap.size + 1 + 1, 1, none⟩ (.int .i64 0)).setCell ⟨w.heap.size + 1 + 1, 2, none⟩ (.int .i64 0)).setCell ⟨w.heap.size + 1 + 1, 3, none⟩ (.bool false)).setCell ⟨w.heap.size + 1 + 1, 4, none⟩ (.bool false)) = W at *
      exact bodyPost_ret (v := .tuple #[.agg #[.int .i64 0, .int .i64 0, .int .i64 0, .bool false, .bool false], .int .i64 1]) (by simp [results, Tryz.results8, go_sem, v0, v1, v2, v3, v4]) rfl ⟨rfl, hK.out⟩
    case true =>
      go_wp2
      have hK := Lib.hid (show Below w.heap.size w (((((w2.setCell ⟨w.heap.size + 1 + 1, 0, none⟩ (.int .i64 mi2)).setCell ⟨w.heap.size + 1 + 1, 1, none⟩ (.int .i64 mf2)).setCell ⟨w.heap.size + 1 + 1, 2, none⟩ (.int .i64 xf2)).setCell ⟨w.heap.size + 1 + 1, 3, none⟩ (.bool pl2)).setCell ⟨w.heap.size + 1 + 1, 4, none⟩ (.bool rk2)) from (bs1 (bs1 (bs1 (bs1 (bs1 K2.out.below (by omega : w.heap.size ≤ w.heap.size + 1 + 1) 0 (.int .i64 mi2)) (by omega : w.heap.size ≤ w.heap.size + 1 + 1) 1 (.int .i64 mf2)) (by omega : w.heap.size ≤ w.heap.size + 1 + 1) 2 (.int .i64 xf2)) (by omega : w.heap.size ≤ w.heap.size + 1 + 1) 3 (.bool pl2)) (by omega : w.heap.size ≤ w.heap.size + 1 + 1) 4 (.bool rk2)))
      have R3 := (((((HR2.out.set 0 (.int .i64 mi2)).set 1 (.int .i64 mf2)).set 2 (.int .i64 xf2)).set 3 (.bool pl2)).set 4 (.bool rk2))
      clear v0 y0 f0 v1 y1 f1 v2 y2 f2 v3 y3 f3 v4 y4 f4
      have v0 := R3.cell 0
      have v1 := R3.cell 1
      have v2 := R3.cell 2
      have v3 := R3.cell 3
      have v4 := R3.cell 4
      simp only [List.getElem?_toArray, List.getElem?_cons_zero, List.getElem?_cons_succ, List.setIfInBounds_toArray, List.set_cons_zero, List.set_cons_succ] at v0 v1 v2 v3 v4
      clear R3 HR2 K2
      generalize (((((w2.setCell ⟨w.heap.size + 1 + 1, 0, none⟩ (.int .i64 mi2)).setCell ⟨w.heap.size + 1 + 1, 1, none⟩ (.int .i64 mf2)).setCell ⟨w.heap.size + 1 + 1, 2, none⟩ (.int .i64 xf2)).setCell ⟨w.heap.size + 1 + 1, 3, none⟩ (.bool pl2)).setCell ⟨w.heap.size + 1 + 1, 4, none⟩ (.bool rk2)) = W at *
      exact bodyPost_ret (v := .tuple #[.agg #[.int .i64 mi2, .int .i64 mf2, .int .i64 xf2, .bool pl2, .bool rk2], .int .i64 0]) (by simp [results, Tryz.results8, go_sem, v0, v1, v2, v3, v4]) rfl ⟨rfl, hK.out⟩
theorem set_any (p : OPT) (o : OP) (w : World) (hp : OkO p) :
    Calls Tryz.prog 8 #[.agg #[.int .i64 o.mi, .int .i64 o.mf, .int .i64 o.xf, .bool o.pl, .bool o.rk], .string p.nm, .string p.tx, .agg #[.bool p.n, .string p.s, .int .i64 p.k], .bool p.it] w
      fun e w' => e = .returned (if okO p then .tuple #[.agg #[.int .i64 (turnO p o).mi, .int .i64 (turnO p o).mf, .int .i64 (turnO p o).xf, .bool (turnO p o).pl, .bool (turnO p o).rk], .int .i64 0] else .tuple #[.agg #[.int .i64 0, .int .i64 0, .int .i64 0, .bool false, .bool false], .int .i64 1]) ∧ Below w.heap.size w w' := by
  obtain ⟨kk, hk, hN⟩ := hp
  obtain ⟨nm, tx, n, s, k, it⟩ := p
  dsimp only at *
  subst hk
  refine set_core nm tx n s (kk : Int) it _ o.mi o.mf o.xf _ _ _ o.pl o.rk _ _ w (fun h b W hB => ?_) (fun h b W hB => ?_)
  · subst h
    exact setText_any b o.mi o.mf o.xf o.pl o.rk nm tx W hB
  · subst h
    have := setNumber_any b o.mi o.mf o.xf (cntC n s.data.toList kk) o.pl o.rk (cntOk n s.data.toList kk) nm n s (kk : Int) W hB (fun W => count_any n s kk W hN)
    simp only [okO, turnO, Int.toNat_natCast, Bool.false_eq_true, if_false]
    exact this
end Go.Proofs.YtjdpmdheapmanaaGreatDoor

namespace Go.Proofs.YtjdpmdheapmanaaGreatDoor
open Go.RowKit
set_option linter.unusedVariables false
set_option linter.unusedSimpArgs false
def dflO : OP := ⟨1, 0, 3, false, false⟩
theorem opts_bd : ∀ (l : List OPT) (o : OP), (∀ p ∈ l, OkO p) → BdP o → BdP (optsF l o)
  | [], o, _, h => h
  | p :: l, o, hl, h => opts_bd l (setO p o) (fun q hq => hl q (List.mem_cons_of_mem _ hq)) (set_bd (hl p (List.mem_cons_self ..)) h)
theorem dfl_bd : BdP dflO := ⟨⟨by decide, by decide⟩, ⟨by decide, by decide⟩, ⟨by decide, by decide⟩⟩
set_option maxHeartbeats 8000000 in
set_option maxRecDepth 100000 in
theorem opts_any (l : List OPT) (A : Option Addr) (c : Nat) (w : World) (hl : ListO w l A c) (hOk : ∀ p ∈ l, OkO p) :
    Calls Tryz.prog 11 #[.slice A l.length c] w
      fun e w' => e = .returned (.agg #[.int .i64 (optsF l dflO).mi, .int .i64 (optsF l dflO).mf, .int .i64 (optsF l dflO).xf, .bool (optsF l dflO).pl, .bool (optsF l dflO).rk]) ∧ Below w.heap.size w w' := by
  obtain ⟨R, hR⟩ : ∃ R, optsF l dflO = R := ⟨_, rfl⟩
  rw [hR]
  have hbig := len_big hl
  have HL := Lib.hid hl
  have HOk := Lib.hid hOk
  have HR := Lib.hid hR
  clear hl hOk hR
  generalize hL : l.length = L at *
  have HLL := Lib.hid hL
  clear hL
  have Z0 := Lib.hid ((Below.refl w.heap.size w).alloc (Nat.le_refl _) (.cells #[.int .i64 0, .int .i64 0, .int .i64 0, .bool false, .bool false] 26))
  have X0 := Lib.hid (BoxAt.new w #[.int .i64 0, .int .i64 0, .int .i64 0, .bool false, .bool false] 26)
  go_enter Tryz.func11, Tryz.ntmps11
  go_wp2_with fail
  go_at_call 7
  refine (default_any _).mono ?_
  rintro e w1 ⟨rfl, hb1⟩
  have Z1 := Lib.hid (below_new (below_then Z0.out (Nat.le_refl _) hb1) (Nat.le_refl _) (.cells #[.int .i64 1, .int .i64 0, .int .i64 3, .bool false, .bool false] 26))
  have X1 := Lib.hid ((X0.out.later hb1).alloc (.cells #[.int .i64 1, .int .i64 0, .int .i64 3, .bool false, .bool false] 26))
  have Y1 := Lib.hid (BoxAt.new w1 #[.int .i64 1, .int .i64 0, .int .i64 3, .bool false, .bool false] 26)
  have zw1 : w.heap.size < w1.heap.size := (X0.out.later hb1).lt
  clear hb1
  go_wp2_with fail
  go_loopw [11] (fun t wr => ∃ (i : Nat) (mi mf xf : Int) (pl rk : Bool), t = .int .i64 (i : Int) ∧ i ≤ L ∧ Hid (optsF (l.drop i) ⟨mi, mf, xf, pl, rk⟩ = R) ∧ Hid (Below w.heap.size w wr) ∧ Hid (BoxAt wr w1.heap.size #[.int .i64 mi, .int .i64 mf, .int .i64 xf, .bool pl, .bool rk] 26) ∧ Hid (BoxAt wr w.heap.size #[.int .i64 0, .int .i64 0, .int .i64 0, .bool false, .bool false] 26)) (fun t _ => L - (intOf t).toNat)
  case atStart => exact ⟨0, 1, 0, 3, false, false, rfl, Nat.zero_le _, HR, Z1, Y1, X1⟩
  case round =>
    obtain ⟨i, mi, mf, xf, pl, rk, rfl, hi, hF, hB, hY, hX⟩ := hrel
    by_cases hlt : i < L
    · have f1 : decide ((i : Int) < (L : Int)) = true := decide_eq_true (by omega)
      have hil : i < l.length := by rw [HLL.out]; exact hlt
      obtain ⟨q1, q2, q3⟩ := HL.out.later hB.out
      obtain ⟨b, o, rfl, hbz, hp⟩ := q3 (by omega)
      obtain ⟨⟨c0, c1, c2, c3, c4, c5⟩, hd1, hd2, hd3⟩ := hp i l[i] (List.getElem?_eq_getElem hil)
      have hSt := fun W => set_any l[i] ⟨mi, mf, xf, pl, rk⟩ W (HOk.out _ (List.getElem_mem hil))
      have hdr : l.drop i = l[i] :: l.drop (i + 1) := List.drop_eq_getElem_cons hil
      have hF2 := hF.out
      rw [hdr] at hF2
      have hF3 : optsF (l.drop (i + 1)) (setO l[i] ⟨mi, mf, xf, pl, rk⟩) = R := hF2
      unfold setO at hF3
      generalize okO l[i] = ok at *
      generalize turnO l[i] ⟨mi, mf, xf, pl, rk⟩ = o2 at *
      obtain ⟨mi2, mf2, xf2, pl2, rk2⟩ := o2
      generalize l[i] = p at *
      obtain ⟨nm, tx, n, s, k, it⟩ := p
      dsimp only at *
      have HSt := Lib.hid hSt
      have HF3 := Lib.hid hF3
      have y := hY.out
      have zy := y.lt
      have y0 := y.cell 0
      have y1 := y.cell 1
      have y2 := y.cell 2
      have y3 := y.cell 3
      have y4 := y.cell 4
      simp only [List.getElem?_toArray, List.getElem?_cons_zero, List.getElem?_cons_succ] at y0 y1 y2 y3 y4
      have Hy := Lib.hid y
      clear hSt hF2 hF3 hF hdr hp q1 q2 q3 hd1 hd2 hd3 y
      go_wp2_with fail
      go_at_call 8
      refine (HSt.out _).mono ?_
      rintro e w2 ⟨rfl, hb2⟩
      have hB2 := Lib.hid (hB.out.trans ((below_box hb2).mono hB.out.size))
      have hX2 := Lib.hid (hX.out.later (below_box hb2))
      have y := hY.out.later (below_box hb2)
      clear hb2 c0 c1 c2 c3 c4 c5 zy y0 y1 y2 y3 y4 Hy
      have zy := y.lt
      have y0 := y.cell 0
      have y1 := y.cell 1
      have y2 := y.cell 2
      have y3 := y.cell 3
      have y4 := y.cell 4
      simp only [List.getElem?_toArray, List.getElem?_cons_zero, List.getElem?_cons_succ] at y0 y1 y2 y3 y4
      have f0 := y.z 0
      have f1 := y.z 1
      have f2 := y.z 2
      have f3 := y.z 3
      have f4 := y.z 4
      have hY2 := Lib.hid y
      clear y
      cases ok
      case false =>
        as_aux_lemma =>
          simp only [Bool.false_eq_true, if_false]
          go_wp2_with fail
          go_roundw
          case rel => exact ⟨i + 1, mi, mf, xf, pl, rk, by go_num, by omega, by have := HF3.out; simp only [Bool.false_eq_true, if_false] at this; exact Lib.hid this, Lib.hid (below_new hB2.out (Nat.le_refl _) _), Lib.hid (hY2.out.alloc _), Lib.hid (hX2.out.alloc _)⟩
          case measure => simp [intOf]; omega
      case true =>
        as_aux_lemma =>
          simp only [if_true]
          go_wp2_with fail
          go_roundw
          case rel => exact ⟨i + 1, mi2, mf2, xf2, pl2, rk2, by go_num, by omega, by have := HF3.out; simp only [if_true] at this; exact Lib.hid this, Lib.hid (below_new ((bs1 (bs1 (bs1 (bs1 (bs1 hB2.out (by omega : w.heap.size ≤ w1.heap.size) 0 (.int .i64 mi2)) (by omega : w.heap.size ≤ w1.heap.size) 1 (.int .i64 mf2)) (by omega : w.heap.size ≤ w1.heap.size) 2 (.int .i64 xf2)) (by omega : w.heap.size ≤ w1.heap.size) 3 (.bool pl2)) (by omega : w.heap.size ≤ w1.heap.size) 4 (.bool rk2))) (Nat.le_refl _) _), Lib.hid (((((((hY2.out.set 0 (.int .i64 mi2)).set 1 (.int .i64 mf2)).set 2 (.int .i64 xf2)).set 3 (.bool pl2)).set 4 (.bool rk2))).alloc _), Lib.hid (BoxAt.alloc ((BoxAt.setOther (BoxAt.setOther (BoxAt.setOther (BoxAt.setOther (BoxAt.setOther hX2.out ⟨w1.heap.size, 0, none⟩ (.int .i64 mi2) (Nat.ne_of_lt zw1)) ⟨w1.heap.size, 1, none⟩ (.int .i64 mf2) (Nat.ne_of_lt zw1)) ⟨w1.heap.size, 2, none⟩ (.int .i64 xf2) (Nat.ne_of_lt zw1)) ⟨w1.heap.size, 3, none⟩ (.bool pl2) (Nat.ne_of_lt zw1)) ⟨w1.heap.size, 4, none⟩ (.bool rk2) (Nat.ne_of_lt zw1))) _)⟩
          case measure => simp [intOf]; omega
    · obtain rfl : i = L := by omega
      have f1 : decide ((i : Int) < (i : Int)) = false := decide_eq_false (by omega)
      have hnil : l.drop i = [] := List.drop_eq_nil_of_le (by rw [HLL.out]; exact Nat.le_refl _)
      have hF2 := hF.out
      rw [hnil] at hF2
      have hF3 : (⟨mi, mf, xf, pl, rk⟩ : OP) = R := hF2
      subst hF3
      clear hnil hF2 hF
      have y := hY.out
      have x := hX.out
      have zy := y.lt
      have zx := x.lt
      have y0 := y.cell 0
      have y1 := y.cell 1
      have y2 := y.cell 2
      have y3 := y.cell 3
      have y4 := y.cell 4
      simp only [List.getElem?_toArray, List.getElem?_cons_zero, List.getElem?_cons_succ] at y0 y1 y2 y3 y4
      have v0 := x.cell 0
      have v1 := x.cell 1
      have v2 := x.cell 2
      have v3 := x.cell 3
      have v4 := x.cell 4
      simp only [List.getElem?_toArray, List.getElem?_cons_zero, List.getElem?_cons_succ] at v0 v1 v2 v3 v4
      have f0 := x.z 0
      have f1 := x.z 1
      have f2 := x.z 2
      have f3 := x.z 3
      have f4 := x.z 4
      clear y x
      go_wp2
      have hK := Lib.hid (show Below w.heap.size w (((((wr.setCell ⟨w.heap.size, 0, none⟩ (.int .i64 mi)).setCell ⟨w.heap.size, 1, none⟩ (.int .i64 mf)).setCell ⟨w.heap.size, 2, none⟩ (.int .i64 xf)).setCell ⟨w.heap.size, 3, none⟩ (.bool pl)).setCell ⟨w.heap.size, 4, none⟩ (.bool rk)) from (bs1 (bs1 (bs1 (bs1 (bs1 hB.out (Nat.le_refl _) 0 (.int .i64 mi)) (Nat.le_refl _) 1 (.int .i64 mf)) (Nat.le_refl _) 2 (.int .i64 xf)) (Nat.le_refl _) 3 (.bool pl)) (Nat.le_refl _) 4 (.bool rk)))
      have R3 := (((((hX.out.set 0 (.int .i64 mi)).set 1 (.int .i64 mf)).set 2 (.int .i64 xf)).set 3 (.bool pl)).set 4 (.bool rk))
      clear v0 y0 f0 v1 y1 f1 v2 y2 f2 v3 y3 f3 v4 y4 f4
      have v0 := R3.cell 0
      have v1 := R3.cell 1
      have v2 := R3.cell 2
      have v3 := R3.cell 3
      have v4 := R3.cell 4
      simp only [List.getElem?_toArray, List.getElem?_cons_zero, List.getElem?_cons_succ, List.setIfInBounds_toArray, List.set_cons_zero, List.set_cons_succ] at v0 v1 v2 v3 v4
      clear R3
      generalize (((((wr.setCell ⟨w.heap.size, 0, none⟩ (.int .i64 mi)).setCell ⟨w.heap.size, 1, none⟩ (.int .i64 mf)).setCell ⟨w.heap.size, 2, none⟩ (.int .i64 xf)).setCell ⟨w.heap.size, 3, none⟩ (.bool pl)).setCell ⟨w.heap.size, 4, none⟩ (.bool rk)) = W at *
      exact bodyPost_ret (v := .agg #[.int .i64 mi, .int .i64 mf, .int .i64 xf, .bool pl, .bool rk]) (by simp [results, Tryz.results11, go_sem, v0, v1, v2, v3, v4]) rfl ⟨rfl, hK.out⟩
end Go.Proofs.YtjdpmdheapmanaaGreatDoor

namespace Go.Proofs.YtjdpmdheapmanaaGreatDoor
open Go.RowKit
set_option linter.unusedVariables false
set_option linter.unusedSimpArgs false
def InvP (o : OP) : Prop := 1 ≤ o.mi ∧ o.mf ≤ o.xf
theorem set_inv {p : OPT} {o : OP} (hp : OkO p) (h : BdP o) (hi : InvP o) : InvP (setO p o) := by
  obtain ⟨kk, hk, hN⟩ := hp
  have hc := cntC_bd (n := p.n) hN
  obtain ⟨i1, i2⟩ := hi
  unfold setO
  split
  · rename_i hok
    unfold okO at hok
    unfold turnO
    split
    · exact ⟨i1, i2⟩
    · rename_i hit
      rw [if_neg hit] at hok
      rw [hk, Int.toNat_natCast] at hok ⊢
      generalize cntC p.n p.s.data.toList kk = c at *
      generalize cntOk p.n p.s.data.toList kk = q at *
      unfold InvP
      dsimp only
      unfold numOk at hok
      unfold numMi numMf numXf
      rw [Bool.and_eq_true] at hok
      obtain ⟨rfl, hok⟩ := hok
      simp only [Bool.true_and]
      constructor
      · split
        · rename_i ha
          rw [if_pos ha] at hok
          have : c ≠ 0 := by simpa using hok
          omega
        · exact i1
      · split
        · omega
        · split <;> omega
  · exact ⟨i1, i2⟩
end Go.Proofs.YtjdpmdheapmanaaGreatDoor
