/-
  Several texts put together (part 18): what the law and the program call, walked; their contracts.
-/
import Derived.Test.YtglennfjeacpoaaGreatDoorQ17
import Derived.StillTailTactics
namespace Go.Proofs.YtglennfjeacpoaaGreatDoor
open Go.RowKit
set_option linter.unusedVariables false
set_option linter.unusedSimpArgs false
def fmtB (neg z pl : Bool) (kr : Int) (P Z Wh Gp Pa : ByteArray) : ByteArray :=
  let a := if pl then Z ++ Wh else Gp
  let c := if neg && !z then ⟨#[45]⟩ ++ a else a
  if kr = 0 then c else c ++ (P ++ Pa)
structure FmS (b n B m : Nat) (co cd : Array Value) (w W : World) : Prop where
  o : BoxAt W B co 30
  d : BoxAt W m cd 23
  ms : MarksAt W b true n
  kp : Kp b w W
theorem FmS.later {b n B m : Nat} {co cd : Array Value} {w W W' : World} (h : FmS b n B m co cd w W) (g : Below W.heap.size W W') : FmS b n B m co cd w W' :=
  ⟨h.o.later g, h.d.later g, h.ms.later g, h.kp.trans (Kp.of_below g (Nat.le_of_lt h.ms.lt))⟩
theorem FmS.drew {b n B m : Nat} {co cd : Array Value} {w W : World} (h : FmS b n B m co cd w W) : FmS b n B m co cd w W.drew := ⟨h.o, h.d, h.ms, h.kp.drew⟩
theorem FmS.cells {b n B m : Nat} {a0 a1 a2 a3 a4 d0 d1 d2 : Value} {w W : World} (h : FmS b n B m #[a0, a1, a2, a3, a4] #[d0, d1, d2] w W) :
    W.cell? ⟨B, 0, none⟩ = some a0 ∧ W.cell? ⟨B, 1, none⟩ = some a1 ∧ W.cell? ⟨B, 2, none⟩ = some a2 ∧ W.cell? ⟨B, 3, none⟩ = some a3 ∧ W.cell? ⟨B, 4, none⟩ = some a4 ∧
    W.cell? ⟨m, 0, none⟩ = some d0 ∧ W.cell? ⟨m, 1, none⟩ = some d1 ∧ W.cell? ⟨m, 2, none⟩ = some d2 :=
  ⟨h.o.cell 0, h.o.cell 1, h.o.cell 2, h.o.cell 3, h.o.cell 4, h.d.cell 0, h.d.cell 1, h.d.cell 2⟩
theorem FmS.z {b n B m : Nat} {co cd : Array Value} {w W : World} (h : FmS b n B m co cd w W) (o : Nat) : W.frozen? ⟨m, o, none⟩ = false := h.d.z o
theorem fmS_keep {b n B m : Nat} {a0 a1 a2 a3 a4 d0 d1 d2 : Value} {w W W' : World} (g : Below W.heap.size W W') (h : W.cell? ⟨B, 0, none⟩ = some a0 ∧ W.cell? ⟨B, 1, none⟩ = some a1 ∧ W.cell? ⟨B, 2, none⟩ = some a2 ∧ W.cell? ⟨B, 3, none⟩ = some a3 ∧ W.cell? ⟨B, 4, none⟩ = some a4 ∧ W.cell? ⟨m, 0, none⟩ = some d0 ∧ W.cell? ⟨m, 1, none⟩ = some d1 ∧ W.cell? ⟨m, 2, none⟩ = some d2 ∧ FmS b n B m #[a0, a1, a2, a3, a4] #[d0, d1, d2] w W) : W'.cell? ⟨B, 0, none⟩ = some a0 ∧ W'.cell? ⟨B, 1, none⟩ = some a1 ∧ W'.cell? ⟨B, 2, none⟩ = some a2 ∧ W'.cell? ⟨B, 3, none⟩ = some a3 ∧ W'.cell? ⟨B, 4, none⟩ = some a4 ∧ W'.cell? ⟨m, 0, none⟩ = some d0 ∧ W'.cell? ⟨m, 1, none⟩ = some d1 ∧ W'.cell? ⟨m, 2, none⟩ = some d2 ∧ FmS b n B m #[a0, a1, a2, a3, a4] #[d0, d1, d2] w W' := by
  obtain ⟨_, _, _, _, _, _, _, _, h⟩ := h
  obtain ⟨e0, e1, e2, e3, e4, e5, e6, e7⟩ := (h.later g).cells
  exact ⟨e0, e1, e2, e3, e4, e5, e6, e7, h.later g⟩
theorem fmS_start {b n B m : Nat} {a0 a1 a2 a3 a4 d0 d1 d2 : Value} {w W : World} (h : FmS b n B m #[a0, a1, a2, a3, a4] #[d0, d1, d2] w W) : W.cell? ⟨B, 0, none⟩ = some a0 ∧ W.cell? ⟨B, 1, none⟩ = some a1 ∧ W.cell? ⟨B, 2, none⟩ = some a2 ∧ W.cell? ⟨B, 3, none⟩ = some a3 ∧ W.cell? ⟨B, 4, none⟩ = some a4 ∧ W.cell? ⟨m, 0, none⟩ = some d0 ∧ W.cell? ⟨m, 1, none⟩ = some d1 ∧ W.cell? ⟨m, 2, none⟩ = some d2 ∧ FmS b n B m #[a0, a1, a2, a3, a4] #[d0, d1, d2] w W := by
  obtain ⟨e0, e1, e2, e3, e4, e5, e6, e7⟩ := h.cells
  exact ⟨e0, e1, e2, e3, e4, e5, e6, e7, h⟩
theorem fmS_out {b n B m : Nat} {a0 a1 a2 a3 a4 d0 d1 d2 : Value} {w W : World} (h : W.cell? ⟨B, 0, none⟩ = some a0 ∧ W.cell? ⟨B, 1, none⟩ = some a1 ∧ W.cell? ⟨B, 2, none⟩ = some a2 ∧ W.cell? ⟨B, 3, none⟩ = some a3 ∧ W.cell? ⟨B, 4, none⟩ = some a4 ∧ W.cell? ⟨m, 0, none⟩ = some d0 ∧ W.cell? ⟨m, 1, none⟩ = some d1 ∧ W.cell? ⟨m, 2, none⟩ = some d2 ∧ FmS b n B m #[a0, a1, a2, a3, a4] #[d0, d1, d2] w W) : FmS b n B m #[a0, a1, a2, a3, a4] #[d0, d1, d2] w W := by
  obtain ⟨_, _, _, _, _, _, _, _, h⟩ := h
  exact h
set_option maxHeartbeats 8000000 in
set_option maxRecDepth 100000 in
theorem format_core (b n : Nat) (made : Bool) (lang P Q s R Z Wh Gp Pa : ByteArray) (mi mf xf k kr : Int) (pl rk neg z : Bool) (w : World) (hM : MarksAt w b made n)
    (hOf : ∀ W : World, MarksAt W b made n → Calls Tryz.prog 34 #[pt b, .string lang] W fun e w' => e = .returned (.tuple #[.string P, .string Q]) ∧ MarksAt w' b true (n + 1) ∧ Kp b W w')
    (hR : ∀ W : World, Calls Tryz.prog 35 #[.agg #[.int .i64 mi, .int .i64 mf, .int .i64 xf, .bool pl, .bool rk], .agg #[.bool neg, .string s, .int .i64 k]] W fun e w' => e = .returned (.agg #[.bool neg, .string R, .int .i64 kr]) ∧ Below W.heap.size W w')
    (hN : ∀ W : World, Calls Tryz.prog 36 #[.agg #[.int .i64 mi, .int .i64 mf, .int .i64 xf, .bool pl, .bool rk], .agg #[.bool neg, .string R, .int .i64 kr]] W fun e w' => e = .returned (.string Z) ∧ Below W.heap.size W w')
    (hW : ∀ W : World, Calls Tryz.prog 37 #[.agg #[.bool neg, .string R, .int .i64 kr]] W fun e w' => e = .returned (.string Wh) ∧ Below W.heap.size W w')
    (hG : ∀ W : World, Calls Tryz.prog 38 #[.string (Z ++ Wh), .string Q] W fun e w' => e = .returned (.string Gp) ∧ Below W.heap.size W w')
    (hZ : ∀ W : World, Calls Tryz.prog 39 #[.agg #[.bool neg, .string R, .int .i64 kr]] W fun e w' => e = .returned (.bool z) ∧ Below W.heap.size W w')
    (hPa : ∀ W : World, Calls Tryz.prog 40 #[.agg #[.bool neg, .string R, .int .i64 kr]] W fun e w' => e = .returned (.string Pa) ∧ Below W.heap.size W w')
    (z1 : Z.size ≤ 1000) (z2 : Wh.size ≤ 1000) (z3 : Gp.size ≤ 10000) (z4 : P.size ≤ 1000) (z5 : Pa.size ≤ 1000) :
    Calls Tryz.prog 10 #[pt b, .string lang, .agg #[.bool neg, .string s, .int .i64 k], .agg #[.int .i64 mi, .int .i64 mf, .int .i64 xf, .bool pl, .bool rk]] w
      fun e w' => e = .returned (.string (fmtB neg z pl kr P Z Wh Gp Pa)) ∧ MarksAt w' b true (n + 1) ∧ Kp b w w' := by
  have HM := Lib.hid hM
  have hlt := hM.lt
  have HOf := Lib.hid hOf
  have HR := Lib.hid hR
  have HN := Lib.hid hN
  have HW := Lib.hid hW
  have HG := Lib.hid hG
  have HZ := Lib.hid hZ
  have HPa := Lib.hid hPa
  have hcat : (Z ++ Wh).size ≤ 2000 := by rw [ByteArray.size_append]; omega
  have hcat2 : (P ++ Pa).size ≤ 2000 := by rw [ByteArray.size_append]; omega
  have n1 : ¬ 9223372036854775807 < Z.size + Wh.size := by omega
  have n2 : ¬ 9223372036854775807 < P.size + Pa.size := by omega
  clear hM hOf hR hN hW hG hZ hPa
  unfold pt at HOf ⊢
  go_enter Tryz.func10, Tryz.ntmps10
  go_wp2_with fail
  go_at_call 34
  refine (HOf.out _ (HM.out.later (((Below.refl _ _).alloc (Nat.le_refl _) _).alloc (by simp) _))).mono ?_
  rintro e w2 ⟨rfl, hm2, hk2⟩
  have B0 := BoxAt.kp (((BoxAt.new w #[.bool neg, .string s, .int .i64 k] 23).alloc (.cells #[.int .i64 mi, .int .i64 mf, .int .i64 xf, .bool pl, .bool rk] 30))) hk2 (by omega)
  have B1 := BoxAt.kp (BoxAt.new' (w.alloc (.cells #[.bool neg, .string s, .int .i64 k] 23)) (w.heap.size + 1) #[.int .i64 mi, .int .i64 mf, .int .i64 xf, .bool pl, .bool rk] 30 (by simp)) hk2 (by omega)
  have F2 := Lib.hid (FmS.mk B1 B0 hm2 ((((Kp.refl b w).alloc (by omega) _).alloc (by simp; omega) _).trans hk2))
  obtain ⟨c0, c1, c2, c3, c4, d0, d1, d2⟩ := F2.out.cells
  clear B0 B1 hm2 hk2
  go_wp2_with fail
  go_at_call 35
  refine (HR.out _).mono ?_
  rintro e w3 ⟨rfl, hb3⟩
  have F3 := Lib.hid (F2.out.later hb3)
  have G0 := F3.out
  have hlt3 := F3.out.ms.lt
  have F4 := Lib.hid (FmS.mk (G0.o.alloc (.cells #[.bool neg, .string R, .int .i64 kr] 23)) (BoxAt.new w3 #[.bool neg, .string R, .int .i64 kr] 23) (G0.ms.later ((Below.refl _ _).alloc (Nat.le_refl _) _)) (G0.kp.alloc (by omega) _))
  clear c0 c1 c2 c3 c4 d0 d1 d2 G0 hb3
  have hmB : w.heap.size + 1 < w3.heap.size := F3.out.o.lt
  go_wp2_with fail
  go_region_held3 (fun w' => w'.cell? ⟨w.heap.size + 1, 0, none⟩ = some (.int .i64 mi) ∧ w'.cell? ⟨w.heap.size + 1, 1, none⟩ = some (.int .i64 mf) ∧ w'.cell? ⟨w.heap.size + 1, 2, none⟩ = some (.int .i64 xf) ∧ w'.cell? ⟨w.heap.size + 1, 3, none⟩ = some (.bool pl) ∧ w'.cell? ⟨w.heap.size + 1, 4, none⟩ = some (.bool rk) ∧ w'.cell? ⟨w3.heap.size, 0, none⟩ = some (.bool neg) ∧ w'.cell? ⟨w3.heap.size, 1, none⟩ = some (.string R) ∧ w'.cell? ⟨w3.heap.size, 2, none⟩ = some (.int .i64 kr) ∧ FmS b (n + 1) (w.heap.size + 1) w3.heap.size #[.int .i64 mi, .int .i64 mf, .int .i64 xf, .bool pl, .bool rk] #[.bool neg, .string R, .int .i64 kr] w w')
    (first | (exact fmS_keep (by assumption) (by assumption)) | (exact fmS_start F4.out.drew) | go_keep)
    (first | (go_at_call 36; refine (HN.out _).mono ?_; rintro e w4 ⟨rfl, hb4⟩) | (go_at_call 37; refine (HW.out _).mono ?_; rintro e w4 ⟨rfl, hb4⟩))
  have F5 := Lib.hid (fmS_out (W := w4) (B := w.heap.size + 1) (m := w3.heap.size) (by assumption))
  obtain ⟨c0, c1, c2, c3, c4, d0, d1, d2⟩ := F5.out.cells
  have n3 : ¬ 9223372036854775807 < 1 + (Z ++ Wh).size := by omega
  have n4 : ¬ 9223372036854775807 < 1 + Gp.size := by omega
  have n5 : (⟨#[45]⟩ ++ (Z ++ Wh) : ByteArray).size ≤ 3000 := by rw [ByteArray.size_append]; show 1 + _ ≤ _; omega
  have n6 : (⟨#[45]⟩ ++ Gp : ByteArray).size ≤ 11000 := by rw [ByteArray.size_append]; show 1 + _ ≤ _; omega
  by_cases hk : kr = 0
  · have hk1 : (kr != 0) = false := by rw [hk]; rfl
    have Hk := Lib.hid hk
    clear hk
    cases pl
    case false =>
      cases neg
      case false =>
        as_aux_lemma =>
          go_wp2_with fail
          go_at_call 38
          refine (HG.out _).mono ?_
          rintro e w6 ⟨rfl, hb6⟩
          have F6 := Lib.hid (F5.out.later hb6)
          obtain ⟨c0, c1, c2, c3, c4, d0, d1, d2⟩ := F6.out.cells
          clear hb6
          go_wp2
          go_ret
          exact ⟨ret_str (by simp [fmtB, Hk.out]), F6.out.ms, F6.out.kp⟩
      case true =>
        cases z
        case false =>
          as_aux_lemma =>
            go_wp2_with fail
            go_at_call 38
            refine (HG.out _).mono ?_
            rintro e w6 ⟨rfl, hb6⟩
            have F6 := Lib.hid (F5.out.later hb6)
            obtain ⟨c0, c1, c2, c3, c4, d0, d1, d2⟩ := F6.out.cells
            clear hb6
            go_wp2_with fail
            go_at_call 39
            refine (HZ.out _).mono ?_
            rintro e w7 ⟨rfl, hb7⟩
            have F7 := Lib.hid (F6.out.later hb7)
            obtain ⟨c0, c1, c2, c3, c4, d0, d1, d2⟩ := F7.out.cells
            clear hb7
            go_wp2
            go_ret
            exact ⟨ret_str (by simp [fmtB, Hk.out]), F7.out.ms, F7.out.kp⟩
        case true =>
          as_aux_lemma =>
            go_wp2_with fail
            go_at_call 38
            refine (HG.out _).mono ?_
            rintro e w6 ⟨rfl, hb6⟩
            have F6 := Lib.hid (F5.out.later hb6)
            obtain ⟨c0, c1, c2, c3, c4, d0, d1, d2⟩ := F6.out.cells
            clear hb6
            go_wp2_with fail
            go_at_call 39
            refine (HZ.out _).mono ?_
            rintro e w7 ⟨rfl, hb7⟩
            have F7 := Lib.hid (F6.out.later hb7)
            obtain ⟨c0, c1, c2, c3, c4, d0, d1, d2⟩ := F7.out.cells
            clear hb7
            go_wp2
            go_ret
            exact ⟨ret_str (by simp [fmtB, Hk.out]), F7.out.ms, F7.out.kp⟩
    case true =>
      cases neg
      case false =>
        as_aux_lemma =>
          go_wp2
          go_ret
          exact ⟨ret_str (by simp [fmtB, Hk.out]), F5.out.ms, F5.out.kp⟩
      case true =>
        cases z
        case false =>
          as_aux_lemma =>
            go_wp2_with fail
            go_at_call 39
            refine (HZ.out _).mono ?_
            rintro e w6 ⟨rfl, hb6⟩
            have F6 := Lib.hid (F5.out.later hb6)
            obtain ⟨c0, c1, c2, c3, c4, d0, d1, d2⟩ := F6.out.cells
            clear hb6
            go_wp2
            go_ret
            exact ⟨ret_str (by simp [fmtB, Hk.out]), F6.out.ms, F6.out.kp⟩
        case true =>
          as_aux_lemma =>
            go_wp2_with fail
            go_at_call 39
            refine (HZ.out _).mono ?_
            rintro e w6 ⟨rfl, hb6⟩
            have F6 := Lib.hid (F5.out.later hb6)
            obtain ⟨c0, c1, c2, c3, c4, d0, d1, d2⟩ := F6.out.cells
            clear hb6
            go_wp2
            go_ret
            exact ⟨ret_str (by simp [fmtB, Hk.out]), F6.out.ms, F6.out.kp⟩
  · have hk1 : (kr != 0) = true := bne_iff_ne.2 hk
    have Hk := Lib.hid hk
    clear hk
    cases pl
    case false =>
      cases neg
      case false =>
        as_aux_lemma =>
          go_wp2_with fail
          go_at_call 38
          refine (HG.out _).mono ?_
          rintro e w6 ⟨rfl, hb6⟩
          have F6 := Lib.hid (F5.out.later hb6)
          obtain ⟨c0, c1, c2, c3, c4, d0, d1, d2⟩ := F6.out.cells
          clear hb6
          go_wp2_with fail
          go_at_call 40
          refine (HPa.out _).mono ?_
          rintro e w7 ⟨rfl, hb7⟩
          have F7 := Lib.hid (F6.out.later hb7)
          obtain ⟨c0, c1, c2, c3, c4, d0, d1, d2⟩ := F7.out.cells
          clear hb7
          go_wp2
          go_ret
          exact ⟨ret_str (by simp [fmtB, Hk.out]), F7.out.ms, F7.out.kp⟩
      case true =>
        cases z
        case false =>
          as_aux_lemma =>
            go_wp2_with fail
            go_at_call 38
            refine (HG.out _).mono ?_
            rintro e w6 ⟨rfl, hb6⟩
            have F6 := Lib.hid (F5.out.later hb6)
            obtain ⟨c0, c1, c2, c3, c4, d0, d1, d2⟩ := F6.out.cells
            clear hb6
            go_wp2_with fail
            go_at_call 39
            refine (HZ.out _).mono ?_
            rintro e w7 ⟨rfl, hb7⟩
            have F7 := Lib.hid (F6.out.later hb7)
            obtain ⟨c0, c1, c2, c3, c4, d0, d1, d2⟩ := F7.out.cells
            clear hb7
            go_wp2_with fail
            go_at_call 40
            refine (HPa.out _).mono ?_
            rintro e w8 ⟨rfl, hb8⟩
            have F8 := Lib.hid (F7.out.later hb8)
            obtain ⟨c0, c1, c2, c3, c4, d0, d1, d2⟩ := F8.out.cells
            clear hb8
            go_wp2
            go_ret
            exact ⟨ret_str (by simp [fmtB, Hk.out]), F8.out.ms, F8.out.kp⟩
        case true =>
          as_aux_lemma =>
            go_wp2_with fail
            go_at_call 38
            refine (HG.out _).mono ?_
            rintro e w6 ⟨rfl, hb6⟩
            have F6 := Lib.hid (F5.out.later hb6)
            obtain ⟨c0, c1, c2, c3, c4, d0, d1, d2⟩ := F6.out.cells
            clear hb6
            go_wp2_with fail
            go_at_call 39
            refine (HZ.out _).mono ?_
            rintro e w7 ⟨rfl, hb7⟩
            have F7 := Lib.hid (F6.out.later hb7)
            obtain ⟨c0, c1, c2, c3, c4, d0, d1, d2⟩ := F7.out.cells
            clear hb7
            go_wp2_with fail
            go_at_call 40
            refine (HPa.out _).mono ?_
            rintro e w8 ⟨rfl, hb8⟩
            have F8 := Lib.hid (F7.out.later hb8)
            obtain ⟨c0, c1, c2, c3, c4, d0, d1, d2⟩ := F8.out.cells
            clear hb8
            go_wp2
            go_ret
            exact ⟨ret_str (by simp [fmtB, Hk.out]), F8.out.ms, F8.out.kp⟩
    case true =>
      cases neg
      case false =>
        as_aux_lemma =>
          go_wp2_with fail
          go_at_call 40
          refine (HPa.out _).mono ?_
          rintro e w6 ⟨rfl, hb6⟩
          have F6 := Lib.hid (F5.out.later hb6)
          obtain ⟨c0, c1, c2, c3, c4, d0, d1, d2⟩ := F6.out.cells
          clear hb6
          go_wp2
          go_ret
          exact ⟨ret_str (by simp [fmtB, Hk.out]), F6.out.ms, F6.out.kp⟩
      case true =>
        cases z
        case false =>
          as_aux_lemma =>
            go_wp2_with fail
            go_at_call 39
            refine (HZ.out _).mono ?_
            rintro e w6 ⟨rfl, hb6⟩
            have F6 := Lib.hid (F5.out.later hb6)
            obtain ⟨c0, c1, c2, c3, c4, d0, d1, d2⟩ := F6.out.cells
            clear hb6
            go_wp2_with fail
            go_at_call 40
            refine (HPa.out _).mono ?_
            rintro e w7 ⟨rfl, hb7⟩
            have F7 := Lib.hid (F6.out.later hb7)
            obtain ⟨c0, c1, c2, c3, c4, d0, d1, d2⟩ := F7.out.cells
            clear hb7
            go_wp2
            go_ret
            exact ⟨ret_str (by simp [fmtB, Hk.out]), F7.out.ms, F7.out.kp⟩
        case true =>
          as_aux_lemma =>
            go_wp2_with fail
            go_at_call 39
            refine (HZ.out _).mono ?_
            rintro e w6 ⟨rfl, hb6⟩
            have F6 := Lib.hid (F5.out.later hb6)
            obtain ⟨c0, c1, c2, c3, c4, d0, d1, d2⟩ := F6.out.cells
            clear hb6
            go_wp2_with fail
            go_at_call 40
            refine (HPa.out _).mono ?_
            rintro e w7 ⟨rfl, hb7⟩
            have F7 := Lib.hid (F6.out.later hb7)
            obtain ⟨c0, c1, c2, c3, c4, d0, d1, d2⟩ := F7.out.cells
            clear hb7
            go_wp2
            go_ret
            exact ⟨ret_str (by simp [fmtB, Hk.out]), F7.out.ms, F7.out.kp⟩
end Go.Proofs.YtglennfjeacpoaaGreatDoor
