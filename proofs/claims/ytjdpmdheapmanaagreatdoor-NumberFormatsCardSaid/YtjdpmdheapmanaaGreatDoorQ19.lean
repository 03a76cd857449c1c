/-
  Several texts put together (part 19): what the law and the program call, walked; their contracts.
-/
import Derived.Test.YtjdpmdheapmanaaGreatDoorQ18
namespace Go.Proofs.YtjdpmdheapmanaaGreatDoor
open Go.RowKit
set_option linter.unusedVariables false
set_option linter.unusedSimpArgs false
theorem xW_eq {x : ByteArray} {l : List UInt8} (h : (x.toList == l) = true) : x = ⟨l.toArray⟩ := by
  apply bytes_eq
  rw [← Lib.toList_data, beq_iff_eq.1 h]
def txtOk (nm tx : ByteArray) : Bool :=
  if (nm.toList == [117, 115, 101, 71, 114, 111, 117, 112, 105, 110, 103]) = true then (tx.toList == [102, 97, 108, 115, 101]) || (tx.toList == [116, 114, 117, 101])
  else if (nm.toList == [116, 121, 112, 101]) = true then (tx.toList == [111, 114, 100, 105, 110, 97, 108]) || (tx.toList == [99, 97, 114, 100, 105, 110, 97, 108]) else false
def txtPl (nm tx : ByteArray) (pl : Bool) : Bool := if (nm.toList == [117, 115, 101, 71, 114, 111, 117, 112, 105, 110, 103]) = true then (tx.toList == [102, 97, 108, 115, 101]) else pl
def txtRk (nm tx : ByteArray) (rk : Bool) : Bool := if (nm.toList == [116, 121, 112, 101]) = true then (tx.toList == [111, 114, 100, 105, 110, 97, 108]) else rk
def numOk (nm : ByteArray) (ok : Bool) (c : Int) : Bool :=
  ok && (if (nm.toList == [109, 105, 110, 105, 109, 117, 109, 73, 110, 116, 101, 103, 101, 114, 68, 105, 103, 105, 116, 115]) = true then c != 0 else (nm.toList == [109, 105, 110, 105, 109, 117, 109, 70, 114, 97, 99, 116, 105, 111, 110, 68, 105, 103, 105, 116, 115]) || (nm.toList == [109, 97, 120, 105, 109, 117, 109, 70, 114, 97, 99, 116, 105, 111, 110, 68, 105, 103, 105, 116, 115]))
def numMi (nm : ByteArray) (ok : Bool) (c mi : Int) : Int := if (ok && (nm.toList == [109, 105, 110, 105, 109, 117, 109, 73, 110, 116, 101, 103, 101, 114, 68, 105, 103, 105, 116, 115])) = true then c else mi
def numMf (nm : ByteArray) (ok : Bool) (c mf : Int) : Int := if (ok && (nm.toList == [109, 105, 110, 105, 109, 117, 109, 70, 114, 97, 99, 116, 105, 111, 110, 68, 105, 103, 105, 116, 115])) = true then c else if (ok && (nm.toList == [109, 97, 120, 105, 109, 117, 109, 70, 114, 97, 99, 116, 105, 111, 110, 68, 105, 103, 105, 116, 115])) = true then min c mf else mf
def numXf (nm : ByteArray) (ok : Bool) (c xf : Int) : Int := if (ok && (nm.toList == [109, 105, 110, 105, 109, 117, 109, 70, 114, 97, 99, 116, 105, 111, 110, 68, 105, 103, 105, 116, 115])) = true then max c xf else if (ok && (nm.toList == [109, 97, 120, 105, 109, 117, 109, 70, 114, 97, 99, 116, 105, 111, 110, 68, 105, 103, 105, 116, 115])) = true then c else xf
theorem Kp.set1 {rb : Nat} {a w : World} (h : Kp rb a w) (o : Nat) (v : Value) : Kp rb a (w.setCell ⟨rb, o, none⟩ v) := h.setCell o v
set_option maxHeartbeats 2000000 in
theorem setText_any (b : Nat) (mi mf xf : Int) (pl rk : Bool) (nm tx : ByteArray) (w : World) (hB : BoxAt w b #[.int .i64 mi, .int .i64 mf, .int .i64 xf, .bool pl, .bool rk] 26) :
    Calls Tryz.prog 18 #[.pointer (some ⟨b, 0, none⟩), .string nm, .string tx] w
      fun e w' => e = .returned (.bool (txtOk nm tx)) ∧ BoxAt w' b #[.int .i64 mi, .int .i64 mf, .int .i64 xf, .bool (txtPl nm tx pl), .bool (txtRk nm tx rk)] 26 ∧ Kp b w w' := by
  have c3 := hB.cell 3
  have c4 := hB.cell 4
  have z3 := hB.z 3
  have z4 := hB.z 4
  have zlt := hB.lt
  simp only [List.getElem?_toArray, List.getElem?_cons_zero, List.getElem?_cons_succ] at c3 c4
  have HB := Lib.hid hB
  clear hB
  cases q0 : (nm.toList == [117, 115, 101, 71, 114, 111, 117, 112, 105, 110, 103])
  case true =>
    obtain rfl := xW_eq q0
    have eRk : txtRk ⟨([117, 115, 101, 71, 114, 111, 117, 112, 105, 110, 103] : List UInt8).toArray⟩ tx rk = rk := by unfold txtRk; exact if_neg (by decide +kernel)
    have ePl : txtPl ⟨([117, 115, 101, 71, 114, 111, 117, 112, 105, 110, 103] : List UInt8).toArray⟩ tx pl = (tx.toList == [102, 97, 108, 115, 101]) := by unfold txtPl; exact if_pos q0
    have eOk : txtOk ⟨([117, 115, 101, 71, 114, 111, 117, 112, 105, 110, 103] : List UInt8).toArray⟩ tx = ((tx.toList == [102, 97, 108, 115, 101]) || (tx.toList == [116, 114, 117, 101])) := by unfold txtOk; exact if_pos q0
    rw [eRk, ePl, eOk]
    clear eRk ePl eOk q0
    cases q1 : (tx.toList == [102, 97, 108, 115, 101])
    case true =>
      obtain rfl := xW_eq q1
      clear q1
      go_enter Tryz.func18, Tryz.ntmps18
      go_wp2
      go_ret
      exact ⟨rfl, HB.out.set 3 _, (Kp.refl b w).setCell 3 _⟩
    case false =>
      cases q2 : (tx.toList == [116, 114, 117, 101])
      all_goals
        go_enter Tryz.func18, Tryz.ntmps18
        go_wp2
        go_ret
        exact ⟨rfl, HB.out.set 3 _, (Kp.refl b w).setCell 3 _⟩
  case false =>
    cases q3 : (nm.toList == [116, 121, 112, 101])
    case true =>
      obtain rfl := xW_eq q3
      have ePl : txtPl ⟨([116, 121, 112, 101] : List UInt8).toArray⟩ tx pl = pl := by unfold txtPl; exact if_neg (by decide +kernel)
      have eRk : txtRk ⟨([116, 121, 112, 101] : List UInt8).toArray⟩ tx rk = (tx.toList == [111, 114, 100, 105, 110, 97, 108]) := by unfold txtRk; exact if_pos q3
      have eOk : txtOk ⟨([116, 121, 112, 101] : List UInt8).toArray⟩ tx = ((tx.toList == [111, 114, 100, 105, 110, 97, 108]) || (tx.toList == [99, 97, 114, 100, 105, 110, 97, 108])) := by unfold txtOk; rw [if_neg (by decide +kernel)]; exact if_pos q3
      rw [eRk, ePl, eOk]
      clear eRk ePl eOk q3 q0
      cases q1 : (tx.toList == [111, 114, 100, 105, 110, 97, 108])
      case true =>
        obtain rfl := xW_eq q1
        clear q1
        go_enter Tryz.func18, Tryz.ntmps18
        go_wp2
        go_ret
        exact ⟨rfl, HB.out.set 4 _, (Kp.refl b w).setCell 4 _⟩
      case false =>
        cases q2 : (tx.toList == [99, 97, 114, 100, 105, 110, 97, 108])
        all_goals
          go_enter Tryz.func18, Tryz.ntmps18
          go_wp2
          go_ret
          exact ⟨rfl, HB.out.set 4 _, (Kp.refl b w).setCell 4 _⟩
    case false =>
      have ePl : txtPl nm tx pl = pl := by unfold txtPl; rw [q0]; rfl
      have eRk : txtRk nm tx rk = rk := by unfold txtRk; rw [q3]; rfl
      have eOk : txtOk nm tx = false := by unfold txtOk; rw [q0, q3]; rfl
      rw [eRk, ePl, eOk]
      clear eRk ePl eOk
      go_enter Tryz.func18, Tryz.ntmps18
      go_wp2
      go_ret
      exact ⟨rfl, HB.out, Kp.refl b w⟩
set_option maxHeartbeats 4000000 in
set_option maxRecDepth 1000000 in
theorem setNumber_any (b : Nat) (mi mf xf c : Int) (pl rk ok : Bool) (nm : ByteArray) (n : Bool) (s : ByteArray) (k : Int) (w : World) (hB : BoxAt w b #[.int .i64 mi, .int .i64 mf, .int .i64 xf, .bool pl, .bool rk] 26)
    (hC : ∀ W : World, Calls Tryz.prog 35 #[.agg #[.bool n, .string s, .int .i64 k]] W fun e w' => e = .returned (.tuple #[.int .i64 c, .bool ok]) ∧ Below W.heap.size W w') :
    Calls Tryz.prog 19 #[.pointer (some ⟨b, 0, none⟩), .string nm, .agg #[.bool n, .string s, .int .i64 k]] w
      fun e w' => e = .returned (.bool (numOk nm ok c)) ∧ BoxAt w' b #[.int .i64 (numMi nm ok c mi), .int .i64 (numMf nm ok c mf), .int .i64 (numXf nm ok c xf), .bool pl, .bool rk] 26 ∧ Kp b w w' := by
  have HC := Lib.hid hC
  have HB := Lib.hid hB
  have zlt := hB.lt
  clear hC hB
  obtain ⟨r0, hr0⟩ : ∃ r, numOk nm ok c = r := ⟨_, rfl⟩
  obtain ⟨r1, hr1⟩ : ∃ r, numMi nm ok c mi = r := ⟨_, rfl⟩
  obtain ⟨r2, hr2⟩ : ∃ r, numMf nm ok c mf = r := ⟨_, rfl⟩
  obtain ⟨r3, hr3⟩ : ∃ r, numXf nm ok c xf = r := ⟨_, rfl⟩
  rw [hr0, hr1, hr2, hr3]
  unfold numOk at hr0
  unfold numMi at hr1
  unfold numMf at hr2
  unfold numXf at hr3
  cases ok
  case false =>
    simp only [Bool.false_and, Bool.false_eq_true, if_false] at hr0 hr1 hr2 hr3
    subst hr0 hr1 hr2 hr3
    go_enter Tryz.func19, Tryz.ntmps19
    go_wp2_with fail
    go_at_call 35
    refine (HC.out _).mono ?_
    rintro e w1 ⟨rfl, hb1⟩
    have B1 := (HB.out.alloc (.cells #[.bool n, .string s, .int .i64 k] 29)).later hb1
    have K1 := Lib.hid (Kp.of_below (rb := b) (below_box hb1) (by omega))
    have y0 := B1.cell 0
    have y1 := B1.cell 1
    have y2 := B1.cell 2
    have u0 := B1.z 0
    have u1 := B1.z 1
    have u2 := B1.z 2
    have zl1 := B1.lt
    have HB1 := Lib.hid B1
    simp only [List.getElem?_toArray, List.getElem?_cons_zero, List.getElem?_cons_succ] at y0 y1 y2
    clear hb1 B1
    go_wp2
    go_ret
    exact ⟨rfl, HB1.out, K1.out⟩
  case true =>
    simp only [Bool.true_and] at hr0 hr1 hr2 hr3
    cases q0 : (nm.toList == [109, 105, 110, 105, 109, 117, 109, 73, 110, 116, 101, 103, 101, 114, 68, 105, 103, 105, 116, 115])
    case true =>
      obtain rfl := xW_eq q0
      have f1 : ((⟨([109, 105, 110, 105, 109, 117, 109, 73, 110, 116, 101, 103, 101, 114, 68, 105, 103, 105, 116, 115] : List UInt8).toArray⟩ : ByteArray).toList == [109, 105, 110, 105, 109, 117, 109, 70, 114, 97, 99, 116, 105, 111, 110, 68, 105, 103, 105, 116, 115]) = false := by decide +kernel
      have f2 : ((⟨([109, 105, 110, 105, 109, 117, 109, 73, 110, 116, 101, 103, 101, 114, 68, 105, 103, 105, 116, 115] : List UInt8).toArray⟩ : ByteArray).toList == [109, 97, 120, 105, 109, 117, 109, 70, 114, 97, 99, 116, 105, 111, 110, 68, 105, 103, 105, 116, 115]) = false := by decide +kernel
      simp only [q0, f1, f2, if_true, Bool.false_eq_true, if_false] at hr0 hr1 hr2 hr3
      subst hr1 hr2 hr3
      clear f1 f2 q0
      have Hr0 := Lib.hid hr0
      cases r0
      all_goals
        have e0 := Hr0.out
        clear hr0
        as_aux_lemma =>
          go_enter Tryz.func19, Tryz.ntmps19
          go_wp2_with fail
          go_at_call 35
          refine (HC.out _).mono ?_
          rintro e w1 ⟨rfl, hb1⟩
          have B1 := (HB.out.alloc (.cells #[.bool n, .string s, .int .i64 k] 29)).later hb1
          have K1 := Lib.hid (Kp.of_below (rb := b) (below_box hb1) (by omega))
          have y0 := B1.cell 0
          have y1 := B1.cell 1
          have y2 := B1.cell 2
          have u0 := B1.z 0
          have u1 := B1.z 1
          have u2 := B1.z 2
          have zl1 := B1.lt
          have HB1 := Lib.hid B1
          simp only [List.getElem?_toArray, List.getElem?_cons_zero, List.getElem?_cons_succ] at y0 y1 y2
          clear hb1 B1
          go_wp2
          go_ret
          exact ⟨ret_bool (by first | rfl | exact e0 | exact Hr0.out), (HB1.out.set 0 _), (K1.out.setCell 0 _)⟩
    case false =>
      cases q1 : (nm.toList == [109, 105, 110, 105, 109, 117, 109, 70, 114, 97, 99, 116, 105, 111, 110, 68, 105, 103, 105, 116, 115])
      case true =>
        obtain rfl := xW_eq q1
        simp only [q0, q1, if_true, Bool.false_eq_true, if_false, Bool.true_or] at hr0 hr1 hr2 hr3
        subst hr0 hr1 hr2
        have Hr3 := Lib.hid hr3
        clear hr3 q0 q1
        as_aux_lemma =>
          go_enter Tryz.func19, Tryz.ntmps19
          go_wp2_with fail
          go_at_call 35
          refine (HC.out _).mono ?_
          rintro e w1 ⟨rfl, hb1⟩
          have B1 := (HB.out.alloc (.cells #[.bool n, .string s, .int .i64 k] 29)).later hb1
          have K1 := Lib.hid (Kp.of_below (rb := b) (below_box hb1) (by omega))
          have y0 := B1.cell 0
          have y1 := B1.cell 1
          have y2 := B1.cell 2
          have u0 := B1.z 0
          have u1 := B1.z 1
          have u2 := B1.z 2
          have zl1 := B1.lt
          have HB1 := Lib.hid B1
          simp only [List.getElem?_toArray, List.getElem?_cons_zero, List.getElem?_cons_succ] at y0 y1 y2
          clear hb1 B1
          go_wp2
          go_ret
          rw [← Hr3.out]
          exact ⟨rfl, ((HB1.out.set 1 _).set 2 _), ((K1.out.setCell 1 _).setCell 2 _)⟩
      case false =>
        cases q2 : (nm.toList == [109, 97, 120, 105, 109, 117, 109, 70, 114, 97, 99, 116, 105, 111, 110, 68, 105, 103, 105, 116, 115])
        case true =>
          obtain rfl := xW_eq q2
          simp only [q0, q1, q2, if_true, Bool.false_eq_true, if_false, Bool.or_true, Bool.true_or] at hr0 hr1 hr2 hr3
          subst hr0 hr1 hr3
          have Hr2 := Lib.hid hr2
          clear hr2 q0 q1 q2
          as_aux_lemma =>
            go_enter Tryz.func19, Tryz.ntmps19
            go_wp2_with fail
            go_at_call 35
            refine (HC.out _).mono ?_
            rintro e w1 ⟨rfl, hb1⟩
            have B1 := (HB.out.alloc (.cells #[.bool n, .string s, .int .i64 k] 29)).later hb1
            have K1 := Lib.hid (Kp.of_below (rb := b) (below_box hb1) (by omega))
            have y0 := B1.cell 0
            have y1 := B1.cell 1
            have y2 := B1.cell 2
            have u0 := B1.z 0
            have u1 := B1.z 1
            have u2 := B1.z 2
            have zl1 := B1.lt
            have HB1 := Lib.hid B1
            simp only [List.getElem?_toArray, List.getElem?_cons_zero, List.getElem?_cons_succ] at y0 y1 y2
            clear hb1 B1
            go_wp2
            go_ret
            rw [← Hr2.out]
            exact ⟨rfl, ((HB1.out.set 1 _).set 2 _), ((K1.out.setCell 1 _).setCell 2 _)⟩
        case false =>
          simp only [q0, q1, q2, Bool.false_eq_true, if_false, Bool.or_false, Bool.false_or] at hr0 hr1 hr2 hr3
          subst hr0 hr1 hr2 hr3
          as_aux_lemma =>
            go_enter Tryz.func19, Tryz.ntmps19
            go_wp2_with fail
            go_at_call 35
            refine (HC.out _).mono ?_
            rintro e w1 ⟨rfl, hb1⟩
            have B1 := (HB.out.alloc (.cells #[.bool n, .string s, .int .i64 k] 29)).later hb1
            have K1 := Lib.hid (Kp.of_below (rb := b) (below_box hb1) (by omega))
            have y0 := B1.cell 0
            have y1 := B1.cell 1
            have y2 := B1.cell 2
            have u0 := B1.z 0
            have u1 := B1.z 1
            have u2 := B1.z 2
            have zl1 := B1.lt
            have HB1 := Lib.hid B1
            simp only [List.getElem?_toArray, List.getElem?_cons_zero, List.getElem?_cons_succ] at y0 y1 y2
            clear hb1 B1
            go_wp2
            go_ret
            exact ⟨rfl, HB1.out, K1.out⟩
end Go.Proofs.YtjdpmdheapmanaaGreatDoor
