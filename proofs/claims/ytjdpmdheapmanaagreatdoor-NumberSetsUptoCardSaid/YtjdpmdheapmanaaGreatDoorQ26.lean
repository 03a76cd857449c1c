/-
  Several texts put together (part 26): what the law and the program call, walked; their contracts.
-/
import Derived.Test.YtjdpmdheapmanaaGreatDoorQ21
import Derived.Test.YtjdpmdheapmanaaGreatDoorQ19
import Derived.Test.YtjdpmdheapmanaaGreatDoorQ25
namespace Go.Proofs.YtjdpmdheapmanaaGreatDoor
open Go.RowKit
set_option linter.unusedVariables false
set_option linter.unusedSimpArgs false
set_option maxHeartbeats 8000000 in
set_option maxRecDepth 100000 in
theorem lawSets (l : List OPT) (A : Option Addr) (c : Nat) (w : World) (hl : ListO w l A c) (hz : ∀ p ∈ l, p.nm.size + p.tx.size + 1 ≤ maxLen) :
    Calls Tryz.prog 3 #[.slice A l.length c] w fun e w' => e = .returned (.bool true) ∧ Below w.heap.size w w' := by
  have hbig := len_big hl
  have HL := Lib.hid hl
  have HZ := Lib.hid hz
  have HFew := Lib.hid (fun W h => few_any l A c W h)
  clear hl hz
  generalize hL : l.length = L at *
  have HLL := Lib.hid hL
  clear hL
  go_enter Tryz.func3, Tryz.ntmps3
  go_wp2_with fail
  go_at_call 5
  refine (head_any _).mono ?_
  rintro e w1 ⟨rfl, b1⟩
  have B1 := Lib.hid b1
  have L1 := Lib.hid (HL.out.later b1)
  clear b1
  go_wp2_with fail
  go_at_call 6
  refine (HFew.out _ L1.out).mono ?_
  rintro e w2 ⟨hE, b2⟩
  have B2 := Lib.hid (B1.out.trans (b2.mono B1.out.size))
  have L2 := Lib.hid (L1.out.later b2)
  clear b2 B1 L1
  rcases hE with rfl | ⟨hOk, hlen, rfl⟩
  · go_wp2
    go_ret
    exact ⟨rfl, B2.out⟩
  have HOk := Lib.hid hOk
  clear hOk
  go_wp2_with fail
  go_at_call 7
  refine (default_any _).mono ?_
  rintro e w3 ⟨rfl, b3⟩
  have B3 := Lib.hid (below_new (B2.out.trans (b3.mono B2.out.size)) (Nat.le_refl _) (.cells #[.int .i64 1, .int .i64 0, .int .i64 3, .bool false, .bool false] 26))
  have L3 := Lib.hid (L2.out.later b3)
  have Y3 := Lib.hid (BoxAt.new w3 #[.int .i64 1, .int .i64 0, .int .i64 3, .bool false, .bool false] 26)
  have zw3 : w.heap.size ≤ w3.heap.size := (B2.out.trans (b3.mono B2.out.size)).size
  clear b3 B2 L2
  go_wp2_with fail
  go_loopw [21] (fun t wr => ∃ (i : Nat) (mi mf xf : Int) (pl rk : Bool), t = .int .i64 (i : Int) ∧ i ≤ L ∧ Hid (BdP ⟨mi, mf, xf, pl, rk⟩ ∧ InvP ⟨mi, mf, xf, pl, rk⟩) ∧ Hid (Below w.heap.size w wr) ∧ Hid (BoxAt wr w3.heap.size #[.int .i64 mi, .int .i64 mf, .int .i64 xf, .bool pl, .bool rk] 26)) (fun t _ => L - (intOf t).toNat)
  case atStart => exact ⟨0, 1, 0, 3, false, false, rfl, Nat.zero_le _, Lib.hid ⟨dfl_bd, by decide, by decide⟩, B3, Y3⟩
  case round =>
    obtain ⟨i, mi, mf, xf, pl, rk, rfl, hi, hI, hB, hY⟩ := hrel
    by_cases hlt : i < L
    · have f1 : decide ((i : Int) < (L : Int)) = true := decide_eq_true (by omega)
      have hil : i < l.length := by rw [HLL.out]; exact hlt
      obtain ⟨q1, q2, q3⟩ := HL.out.later hB.out
      obtain ⟨b, o, rfl, hbz, hp⟩ := q3 (by omega)
      obtain ⟨⟨c0, c1, c2, c3, c4, c5⟩, hd1, hd2, hd3⟩ := hp i l[i] (List.getElem?_eq_getElem hil)
      have hSt := fun W => set_any l[i] ⟨mi, mf, xf, pl, rk⟩ W (HOk.out _ (List.getElem_mem hil))
      have hSl := fun W => set_law l[i] ⟨mi, mf, xf, pl, rk⟩ W (HOk.out _ (List.getElem_mem hil)) (fun _ => HZ.out _ (List.getElem_mem hil))
      have hI2 := And.intro (set_bd (HOk.out _ (List.getElem_mem hil)) hI.out.1) (set_inv (HOk.out _ (List.getElem_mem hil)) hI.out.1 hI.out.2)
      unfold setO at hI2
      generalize okO l[i] = ok at *
      generalize turnO l[i] ⟨mi, mf, xf, pl, rk⟩ = o2 at *
      obtain ⟨mi2, mf2, xf2, pl2, rk2⟩ := o2
      generalize l[i] = p at *
      obtain ⟨nm, tx, n, s, k, it⟩ := p
      dsimp only at *
      have HSt := Lib.hid hSt
      have HSl := Lib.hid hSl
      have HI2 := Lib.hid hI2
      have P0 := Lib.hid (BoxAt.new wr #[.string nm, .string tx, .bool n, .string s, .int .i64 k, .bool it] 31)
      have y := hY.out
      have zy := y.lt
      have y0 := y.cell 0
      have y1 := y.cell 1
      have y2 := y.cell 2
      have y3 := y.cell 3
      have y4 := y.cell 4
      simp only [List.getElem?_toArray, List.getElem?_cons_zero, List.getElem?_cons_succ] at y0 y1 y2 y3 y4
      have Hy := Lib.hid y
      clear hSt hSl hI2 hp q1 q2 q3 hd1 hd2 hd3 y
      go_wp2_with fail
      go_at_call 8
      refine (HSt.out _).mono ?_
      rintro e w4 ⟨rfl, b4⟩
      have B4 := Lib.hid (hB.out.trans ((below_box b4).mono hB.out.size))
      have P4 := Lib.hid (P0.out.later b4)
      have y := hY.out.later (below_box b4)
      have zp4 := P4.out.lt
      clear b4 c0 c1 c2 c3 c4 c5 zy y0 y1 y2 y3 y4 Hy P0
      have zy := y.lt
      have y0 := y.cell 0
      have y1 := y.cell 1
      have y2 := y.cell 2
      have y3 := y.cell 3
      have y4 := y.cell 4
      simp only [List.getElem?_toArray, List.getElem?_cons_zero, List.getElem?_cons_succ] at y0 y1 y2 y3 y4
      have u0 := P4.out.cell 0
      have u1 := P4.out.cell 1
      have u2 := P4.out.cell 2
      have u3 := P4.out.cell 3
      have u4 := P4.out.cell 4
      have u5 := P4.out.cell 5
      simp only [List.getElem?_toArray, List.getElem?_cons_zero, List.getElem?_cons_succ] at u0 u1 u2 u3 u4 u5
      have Y4 := Lib.hid y
      clear y
      cases ok
      case false =>
        as_aux_lemma =>
          simp only [Bool.false_eq_true, if_false] at HSl HI2 ⊢
          have N4 := Lib.hid (BoxAt.new w4 #[.int .i64 0, .int .i64 0, .int .i64 0, .bool false, .bool false] 26)
          go_wp2_with fail
          go_at_call 9
          refine (HSl.out _).mono ?_
          rintro e w5 ⟨rfl, b5⟩
          have B5 := Lib.hid (B4.out.trans ((below_box b5).mono B4.out.size))
          have y := Y4.out.later (below_box b5)
          have n5 := N4.out.later b5
          clear b5 N4 Y4 P4 y0 y1 y2 y3 y4 u0 u1 u2 u3 u4 u5 zy zp4
          have zn := n5.lt
          have zy := y.lt
          have n0 := n5.cell 0
          have n1 := n5.cell 1
          have n2 := n5.cell 2
          have n3 := n5.cell 3
          have n4 := n5.cell 4
          simp only [List.getElem?_toArray, List.getElem?_cons_zero, List.getElem?_cons_succ] at n0 n1 n2 n3 n4
          have N5 := Lib.hid n5
          have Y5 := Lib.hid y
          clear n5 y
          go_wp2_with fail
          go_roundw
          case rel => exact ⟨i + 1, mi, mf, xf, pl, rk, by go_num, by omega, hI, Lib.hid (below_new B5.out (Nat.le_refl _) _), Lib.hid (Y5.out.alloc _)⟩
          case measure => simp [intOf]; omega
      case true =>
        as_aux_lemma =>
          simp only [if_true] at HSl HI2 ⊢
          have N4 := Lib.hid (BoxAt.new w4 #[.int .i64 mi2, .int .i64 mf2, .int .i64 xf2, .bool pl2, .bool rk2] 26)
          go_wp2_with fail
          go_at_call 9
          refine (HSl.out _).mono ?_
          rintro e w5 ⟨rfl, b5⟩
          have B5 := Lib.hid (B4.out.trans ((below_box b5).mono B4.out.size))
          have y := Y4.out.later (below_box b5)
          have n5 := N4.out.later b5
          clear b5 N4 Y4 P4 y0 y1 y2 y3 y4 u0 u1 u2 u3 u4 u5 zy zp4
          have zn := n5.lt
          have zy := y.lt
          have n0 := n5.cell 0
          have n1 := n5.cell 1
          have n2 := n5.cell 2
          have n3 := n5.cell 3
          have n4 := n5.cell 4
          simp only [List.getElem?_toArray, List.getElem?_cons_zero, List.getElem?_cons_succ] at n0 n1 n2 n3 n4
          have y0 := y.cell 0
          have y1 := y.cell 1
          have y2 := y.cell 2
          have y3 := y.cell 3
          have y4 := y.cell 4
          simp only [List.getElem?_toArray, List.getElem?_cons_zero, List.getElem?_cons_succ] at y0 y1 y2 y3 y4
          have f0 := y.z 0
          have f1 := y.z 1
          have f2 := y.z 2
          have f3 := y.z 3
          have f4 := y.z 4
          have N5 := Lib.hid n5
          have Y5 := Lib.hid y
          clear n5 y
          go_wp2_with fail
          go_roundw
          case rel => exact ⟨i + 1, mi2, mf2, xf2, pl2, rk2, by go_num, by omega, HI2, Lib.hid (below_new ((bs1 (bs1 (bs1 (bs1 (bs1 B5.out zw3 0 (.int .i64 mi2)) zw3 1 (.int .i64 mf2)) zw3 2 (.int .i64 xf2)) zw3 3 (.bool pl2)) zw3 4 (.bool rk2))) (Nat.le_refl _) _), Lib.hid (((((((Y5.out.set 0 (.int .i64 mi2)).set 1 (.int .i64 mf2)).set 2 (.int .i64 xf2)).set 3 (.bool pl2)).set 4 (.bool rk2))).alloc _)⟩
          case measure => simp [intOf]; omega
    · obtain rfl : i = L := by omega
      have f1 : decide ((i : Int) < (i : Int)) = false := decide_eq_false (by omega)
      obtain ⟨⟨h1, h2, h3⟩, h4, h5⟩ := hI.out
      dsimp only at h1 h2 h3 h4 h5
      have e1 : decide ((1 : Int) ≤ mi) = true := decide_eq_true h4
      have e2 : decide (mf ≤ xf) = true := decide_eq_true h5
      have e3 : decide (xf ≤ 20) = true := decide_eq_true h3.2
      have y := hY.out
      have zy := y.lt
      have y0 := y.cell 0
      have y1 := y.cell 1
      have y2 := y.cell 2
      have y3 := y.cell 3
      have y4 := y.cell 4
      simp only [List.getElem?_toArray, List.getElem?_cons_zero, List.getElem?_cons_succ] at y0 y1 y2 y3 y4
      clear y h1 h2 h3
      go_wp2
      go_ret
      exact ⟨rfl, hB.out⟩
end Go.Proofs.YtjdpmdheapmanaaGreatDoor
