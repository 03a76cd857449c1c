/-
  Several texts put together (part 50): what the law and the program call, walked; their contracts.
-/
import Derived.Test.YtpgiboblonlddaaGreatDoorQ49
import Derived.StillTailTactics
namespace Go.Proofs.YtpgiboblonlddaaGreatDoor
open Go.RowKit
set_option linter.unusedVariables false
set_option linter.unusedSimpArgs false
def fmtB (neg z pl : Bool) (kr : Int) (P Z Wh Gp Pa : ByteArray) : ByteArray :=
  let a := if pl then Z ++ Wh else Gp
  let c := if neg && !z then ⟨#[45]⟩ ++ a else a
  if kr = 0 then c else c ++ (P ++ Pa)
structure FmS (b n B m : Nat) (co cd : Array Value) (w W : World) : Prop where
  o : BoxAt W B co 66
  d : BoxAt W m cd 64
  ms : MarksAt W b true n
  kp : Kp b w W
theorem FmS.later {b n B m : Nat} {co cd : Array Value} {w W W' : World} (h : FmS b n B m co cd w W) (g : Below W.heap.size W W') : FmS b n B m co cd w W' :=
  ⟨h.o.later g, h.d.later g, h.ms.later g, h.kp.trans (Kp.of_below g (Nat.le_of_lt h.ms.lt))⟩
theorem FmS.drew {b n B m : Nat} {co cd : Array Value} {w W : World} (h : FmS b n B m co cd w W) : FmS b n B m co cd w W.drew := ⟨h.o, h.d, h.ms, h.kp.drew⟩
theorem FmS.cells {b n B m : Nat} {a0 a1 a2 a3 a4 d0 d1 d2 : Value} {w W : World} (h : FmS b n B m #[a0, a1, a2, a3, a4] #[d0, d1, d2] w W) :
    W.cell? ⟨B, 0, none⟩ = some a0 ∧ W.cell? ⟨B, 1, none⟩ = some a1 ∧ W.cell? ⟨B, 2, none⟩ = some a2 ∧ W.cell? ⟨B, 3, none⟩ = some a3 ∧ W.cell? ⟨B, 4, none⟩ = some a4 ∧
    W.cell? ⟨m, 0, none⟩ = some d0 ∧ W.cell? ⟨m, 1, none⟩ = some d1 ∧ W.cell? ⟨m, 2, none⟩ = some d2 :=
  ⟨h.o.cell 0, h.o.cell 1, h.o.cell 2, h.o.cell 3, h.o.cell 4, h.d.cell 0, h.d.cell 1, h.d.cell 2⟩
theorem FmS.z {b n B m : Nat} {co cd : Array Value} {w W : World} (h : FmS b n B m co cd w W) (o : Nat) : W.frozen? ⟨m, o, none⟩ = false := h.d.z o
theorem fmS_keep {b n B m : Nat} {a0 a1 a2 a3 a4 d0 d1 d2 : Value} {w W W' : World} (g : Below W.heap.size W W') (h : W.cell? ⟨B, 0, none⟩ = some a0 ∧ W.cell? ⟨B, 1, none⟩ = some a1 ∧ W.cell? ⟨B, 2, none⟩ = some a2 ∧ W.cell? ⟨B, 3, none⟩ = some a3 ∧ W.cell? ⟨B, 4, none⟩ = some a4 ∧ W.cell? ⟨m, 0, none⟩ = some d0 ∧ W.cell? ⟨m, 1, none⟩ = some d1 ∧ W.cell? ⟨m, 2, none⟩ = some d2 ∧ FmS b n B m #[a0, a1, a2, a3, a4] #[d0, d1, d2] w W) : W'.cell? ⟨B, 0, none⟩ = some a0 ∧ W'.cell? ⟨B, 1, none⟩ = some a1 ∧ W'.cell? ⟨B, 2, none⟩ = some a2 ∧ W'.cell? ⟨B, 3, none⟩ = some a3 ∧ W'.cell? ⟨B, 4, none⟩ = some a4 ∧ W'.cell? ⟨m, 0, none⟩ = some d0 ∧ W'.cell? ⟨m, 1, none⟩ = some d1 ∧ W'.cell? ⟨m, 2, none⟩ = some d2 ∧ FmS b n B m #[a0, a1, a2, a3, a4] #[d0, d1, d2] w W' := by
  obtain ⟨_, _, _, _, _, _, _, _, h⟩ := h
  obtain ⟨e0, e1, e2, e3, e4, e5, e6, e7⟩ := (h.later g).cells
  exact ⟨e0, e1, e2, e3, e4, e5, e6, e7, h.later g⟩
theorem fmS_start {b n B m : Nat} {a0 a1 a2 a3 a4 d0 d1 d2 : Value} {w W : World} (h : FmS b n B m #[a0, a1, a2, a3, a4] #[d0, d1, d2] w W) : W.cell? ⟨B, 0, none⟩ = some a0 ∧ W.cell? ⟨B, 1, none⟩ = some a1 ∧ W.cell? ⟨B, 2, none⟩ = some a2 ∧ W.cell? ⟨B, 3, none⟩ = some a3 ∧ W.cell? ⟨B, 4, none⟩ = some a4 ∧ W.cell? ⟨m, 0, none⟩ = some d0 ∧ W.cell? ⟨m, 1, none⟩ = some d1 ∧ W.cell? ⟨m, 2, none⟩ = some d2 ∧ FmS b n B m #[a0, a1, a2, a3, a4] #[d0, d1, d2] w W := by
  obtain ⟨e0, e1, e2, e3, e4, e5, e6, e7⟩ := h.cells
  exact ⟨e0, e1, e2, e3, e4, e5, e6, e7, h⟩
theorem fmS_out {b n B m : Nat} {a0 a1 a2 a3 a4 d0 d1 d2 : Value} {w W : World} (h : W.cell? ⟨B, 0, none⟩ = some a0 ∧ W.cell? ⟨B, 1, none⟩ = some a1 ∧ W.cell? ⟨B, 2, none⟩ = some a2 ∧ W.cell? ⟨B, 3, none⟩ = some a3 ∧ W.cell? ⟨B, 4, none⟩ = some a4 ∧ W.cell? ⟨m, 0, none⟩ = some d0 ∧ W.cell? ⟨m, 1, none⟩ = some d1 ∧ W.cell? ⟨m, 2, none⟩ = some d2 ∧ FmS b n B m #[a0, a1, a2, a3, a4] #[d0, d1, d2] w W) : FmS b n B m #[a0, a1, a2, a3, a4] #[d0, d1, d2] w W := by
  obtain ⟨_, _, _, _, _, _, _, _, h⟩ := h
  exact h
set_option maxHeartbeats 8000000 in
set_option maxRecDepth 100000 in
theorem format_core (b n : Nat) (made : Bool) (lang P Q s R Z Wh Gp Pa : ByteArray) (mi mf xf k kr : Int) (pl rk neg z : Bool) (w : World) (hM : MarksAt w b made n)
    (hOf : ∀ W : World, MarksAt W b made n → Calls Tryz.prog 55 #[pt b, .string lang] W fun e w' => e = .returned (.tuple #[.string P, .string Q]) ∧ MarksAt w' b true (n + 1) ∧ Kp b W w')
    (hR : ∀ W : World, Calls Tryz.prog 56 #[.agg #[.int .i64 mi, .int .i64 mf, .int .i64 xf, .bool pl, .bool rk], .agg #[.bool neg, .string s, .int .i64 k]] W fun e w' => e = .returned (.agg #[.bool neg, .string R, .int .i64 kr]) ∧ Below W.heap.size W w')
    (hN : ∀ W : World, Calls Tryz.prog 57 #[.agg #[.int .i64 mi, .int .i64 mf, .int .i64 xf, .bool pl, .bool rk], .agg #[.bool neg, .string R, .int .i64 kr]] W fun e w' => e = .returned (.string Z) ∧ Below W.heap.size W w')
    (hW : ∀ W : World, Calls Tryz.prog 33 #[.agg #[.bool neg, .string R, .int .i64 kr]] W fun e w' => e = .returned (.string Wh) ∧ Below W.heap.size W w')
    (hG : ∀ W : World, Calls Tryz.prog 58 #[.string (Z ++ Wh), .string Q] W fun e w' => e = .returned (.string Gp) ∧ Below W.heap.size W w')
    (hZ : ∀ W : World, Calls Tryz.prog 59 #[.agg #[.bool neg, .string R, .int .i64 kr]] W fun e w' => e = .returned (.bool z) ∧ Below W.heap.size W w')
    (hPa : ∀ W : World, Calls Tryz.prog 34 #[.agg #[.bool neg, .string R, .int .i64 kr]] W fun e w' => e = .returned (.string Pa) ∧ Below W.heap.size W w')
    (z1 : Z.size ≤ 1000) (z2 : Wh.size ≤ 1000) (z3 : Gp.size ≤ 10000) (z4 : P.size ≤ 1000) (z5 : Pa.size ≤ 1000) :
    Calls Tryz.prog 36 #[pt b, .string lang, .agg #[.bool neg, .string s, .int .i64 k], .agg #[.int .i64 mi, .int .i64 mf, .int .i64 xf, .bool pl, .bool rk]] w
      fun e w' => e = .returned (.string (fmtB neg z pl kr P Z Wh Gp Pa)) ∧ MarksAt w' b true (n + 1) ∧ Kp b w w' := by
  have HM := Lib.hid hM
  have hlt := hM.lt
  have HOf := Lib.hid hOf
  have HR := Lib.hid hR
  have HN := Lib.hid hN
  have HW := Lib.hid hW
  have HG := Lib.hid hG
  have HZ := Lib.hid hZ
  have HPa := Lib.hid hPa
  have hcat : (Z ++ Wh).size ≤ 2000 := by rw [ByteArray.size_append]; omega
  have hcat2 : (P ++ Pa).size ≤ 2000 := by rw [ByteArray.size_append]; omega
  have n1 : ¬ 9223372036854775807 < Z.size + Wh.size := by omega
  have n2 : ¬ 9223372036854775807 < P.size + Pa.size := by omega
  clear hM hOf hR hN hW hG hZ hPa
  unfold pt at HOf ⊢
  go_enter Tryz.func36, Tryz.ntmps36
  go_wp2_with fail
  go_at_call 55
  refine (HOf.out _ (HM.out.later (((Below.refl _ _).alloc (Nat.le_refl _) _).alloc (by simp) _))).mono ?_
  rintro e w2 ⟨rfl, hm2, hk2⟩
  have B0 := BoxAt.kp (((BoxAt.new w #[.bool neg, .string s, .int .i64 k] 64).alloc (.cells #[.int .i64 mi, .int .i64 mf, .int .i64 xf, .bool pl, .bool rk] 66))) hk2 (by omega)
  have B1 := BoxAt.kp (BoxAt.new' (w.alloc (.cells #[.bool neg, .string s, .int .i64 k] 64)) (w.heap.size + 1) #[.int .i64 mi, .int .i64 mf, .int .i64 xf, .bool pl, .bool rk] 66 (by simp)) hk2 (by omega)
  have F2 := Lib.hid (FmS.mk B1 B0 hm2 ((((Kp.refl b w).alloc (by omega) _).alloc (by simp; omega) _).trans hk2))
  obtain ⟨c0, c1, c2, c3, c4, d0, d1, d2⟩ := F2.out.cells
  clear B0 B1 hm2 hk2
  go_wp2_with fail
  go_at_call 56
  refine (HR.out _).mono ?_
  rintro e w3 ⟨rfl, hb3⟩
  have F3 := Lib.hid (F2.out.later hb3)
  have G0 := F3.out
  have hlt3 := F3.out.ms.lt
  have F4 := Lib.hid (FmS.mk (G0.o.alloc (.cells #[.bool neg, .string R, .int .i64 kr] 64)) (BoxAt.new w3 #[.bool neg, .string R, .int .i64 kr] 64) (G0.ms.later ((Below.refl _ _).alloc (Nat.le_refl _) _)) (G0.kp.alloc (by omega) _))
  clear c0 c1 c2 c3 c4 d0 d1 d2 G0 hb3
  have hmB : w.heap.size + 1 < w3.heap.size := F3.out.o.lt
  go_wp2_with fail
  go_region_held3 (fun w' => w'.cell? ⟨w.heap.size + 1, 0, none⟩ = some (.int .i64 mi) ∧ w'.cell? ⟨w.heap.size + 1, 1, none⟩ = some (.int .i64 mf) ∧ w'.cell? ⟨w.heap.size + 1, 2, none⟩ = some (.int .i64 xf) ∧ w'.cell? ⟨w.heap.size + 1, 3, none⟩ = some (.bool pl) ∧ w'.cell? ⟨w.heap.size + 1, 4, none⟩ = some (.bool rk) ∧ w'.cell? ⟨w3.heap.size, 0, none⟩ = some (.bool neg) ∧ w'.cell? ⟨w3.heap.size, 1, none⟩ = some (.string R) ∧ w'.cell? ⟨w3.heap.size, 2, none⟩ = some (.int .i64 kr) ∧ FmS b (n + 1) (w.heap.size + 1) w3.heap.size #[.int .i64 mi, .int .i64 mf, .int .i64 xf, .bool pl, .bool rk] #[.bool neg, .string R, .int .i64 kr] w w')
    (first | (exact fmS_keep (by assumption) (by assumption)) | (exact fmS_start F4.out.drew) | go_keep)
    (first | (go_at_call 57; refine (HN.out _).mono ?_; rintro e w4 ⟨rfl, hb4⟩) | (go_at_call 33; refine (HW.out _).mono ?_; rintro e w4 ⟨rfl, hb4⟩))
  have F5 := Lib.hid (fmS_out (W := w4) (B := w.heap.size + 1) (m := w3.heap.size) (by assumption))
  obtain ⟨c0, c1, c2, c3, c4, d0, d1, d2⟩ := F5.out.cells
  have n3 : ¬ 9223372036854775807 < 1 + (Z ++ Wh).size := by omega
  have n4 : ¬ 9223372036854775807 < 1 + Gp.size := by omega
  have n5 : (⟨#[45]⟩ ++ (Z ++ Wh) : ByteArray).size ≤ 3000 := by rw [ByteArray.size_append]; show 1 + _ ≤ _; omega
  have n6 : (⟨#[45]⟩ ++ Gp : ByteArray).size ≤ 11000 := by rw [ByteArray.size_append]; show 1 + _ ≤ _; omega
  by_cases hk : kr = 0
  · have hk1 : (kr != 0) = false := by rw [hk]; rfl
    have Hk := Lib.hid hk
    clear hk
    cases pl
    case false =>
      cases neg
      case false =>
        as_aux_lemma =>
          go_wp2_with fail
          go_at_call 58
          refine (HG.out _).mono ?_
          rintro e w6 ⟨rfl, hb6⟩
          have F6 := Lib.hid (F5.out.later hb6)
          obtain ⟨c0, c1, c2, c3, c4, d0, d1, d2⟩ := F6.out.cells
          clear hb6
          go_wp2
          go_ret
          exact ⟨ret_str (by simp [fmtB, Hk.out]), F6.out.ms, F6.out.kp⟩
      case true =>
        cases z
        case false =>
          as_aux_lemma =>
            go_wp2_with fail
            go_at_call 58
            refine (HG.out _).mono ?_
            rintro e w6 ⟨rfl, hb6⟩
            have F6 := Lib.hid (F5.out.later hb6)
            obtain ⟨c0, c1, c2, c3, c4, d0, d1, d2⟩ := F6.out.cells
            clear hb6
            go_wp2_with fail
            go_at_call 59
            refine (HZ.out _).mono ?_
            rintro e w7 ⟨rfl, hb7⟩
            have F7 := Lib.hid (F6.out.later hb7)
            obtain ⟨c0, c1, c2, c3, c4, d0, d1, d2⟩ := F7.out.cells
            clear hb7
            go_wp2
            go_ret
            exact ⟨ret_str (by simp [fmtB, Hk.out]), F7.out.ms, F7.out.kp⟩
        case true =>
          as_aux_lemma =>
            go_wp2_with fail
            go_at_call 58
            refine (HG.out _).mono ?_
            rintro e w6 ⟨rfl, hb6⟩
            have F6 := Lib.hid (F5.out.later hb6)
            obtain ⟨c0, c1, c2, c3, c4, d0, d1, d2⟩ := F6.out.cells
            clear hb6
            go_wp2_with fail
            go_at_call 59
            refine (HZ.out _).mono ?_
            rintro e w7 ⟨rfl, hb7⟩
            have F7 := Lib.hid (F6.out.later hb7)
            obtain ⟨c0, c1, c2, c3, c4, d0, d1, d2⟩ := F7.out.cells
            clear hb7
            go_wp2
            go_ret
            exact ⟨ret_str (by simp [fmtB, Hk.out]), F7.out.ms, F7.out.kp⟩
    case true =>
      cases neg
      case false =>
        as_aux_lemma =>
          go_wp2
          go_ret
          exact ⟨ret_str (by simp [fmtB, Hk.out]), F5.out.ms, F5.out.kp⟩
      case true =>
        cases z
        case false =>
          as_aux_lemma =>
            go_wp2_with fail
            go_at_call 59
            refine (HZ.out _).mono ?_
            rintro e w6 ⟨rfl, hb6⟩
            have F6 := Lib.hid (F5.out.later hb6)
            obtain ⟨c0, c1, c2, c3, c4, d0, d1, d2⟩ := F6.out.cells
            clear hb6
            go_wp2
            go_ret
            exact ⟨ret_str (by simp [fmtB, Hk.out]), F6.out.ms, F6.out.kp⟩
        case true =>
          as_aux_lemma =>
            go_wp2_with fail
            go_at_call 59
            refine (HZ.out _).mono ?_
            rintro e w6 ⟨rfl, hb6⟩
            have F6 := Lib.hid (F5.out.later hb6)
            obtain ⟨c0, c1, c2, c3, c4, d0, d1, d2⟩ := F6.out.cells
            clear hb6
            go_wp2
            go_ret
            exact ⟨ret_str (by simp [fmtB, Hk.out]), F6.out.ms, F6.out.kp⟩
  · have hk1 : (kr != 0) = true := bne_iff_ne.2 hk
    have Hk := Lib.hid hk
    clear hk
    cases pl
    case false =>
      cases neg
      case false =>
        as_aux_lemma =>
          go_wp2_with fail
          go_at_call 58
          refine (HG.out _).mono ?_
          rintro e w6 ⟨rfl, hb6⟩
          have F6 := Lib.hid (F5.out.later hb6)
          obtain ⟨c0, c1, c2, c3, c4, d0, d1, d2⟩ := F6.out.cells
          clear hb6
          go_wp2_with fail
          go_at_call 34
          refine (HPa.out _).mono ?_
          rintro e w7 ⟨rfl, hb7⟩
          have F7 := Lib.hid (F6.out.later hb7)
          obtain ⟨c0, c1, c2, c3, c4, d0, d1, d2⟩ := F7.out.cells
          clear hb7
          go_wp2
          go_ret
          exact ⟨ret_str (by simp [fmtB, Hk.out]), F7.out.ms, F7.out.kp⟩
      case true =>
        cases z
        case false =>
          as_aux_lemma =>
            go_wp2_with fail
            go_at_call 58
            refine (HG.out _).mono ?_
            rintro e w6 ⟨rfl, hb6⟩
            have F6 := Lib.hid (F5.out.later hb6)
            obtain ⟨c0, c1, c2, c3, c4, d0, d1, d2⟩ := F6.out.cells
            clear hb6
            go_wp2_with fail
            go_at_call 59
            refine (HZ.out _).mono ?_
            rintro e w7 ⟨rfl, hb7⟩
            have F7 := Lib.hid (F6.out.later hb7)
            obtain ⟨c0, c1, c2, c3, c4, d0, d1, d2⟩ := F7.out.cells
            clear hb7
            go_wp2_with fail
            go_at_call 34
            refine (HPa.out _).mono ?_
            rintro e w8 ⟨rfl, hb8⟩
            have F8 := Lib.hid (F7.out.later hb8)
            obtain ⟨c0, c1, c2, c3, c4, d0, d1, d2⟩ := F8.out.cells
            clear hb8
            go_wp2
            go_ret
            exact ⟨ret_str (by simp [fmtB, Hk.out]), F8.out.ms, F8.out.kp⟩
        case true =>
          as_aux_lemma =>
            go_wp2_with fail
            go_at_call 58
            refine (HG.out _).mono ?_
            rintro e w6 ⟨rfl, hb6⟩
            have F6 := Lib.hid (F5.out.later hb6)
            obtain ⟨c0, c1, c2, c3, c4, d0, d1, d2⟩ := F6.out.cells
            clear hb6
            go_wp2_with fail
            go_at_call 59
            refine (HZ.out _).mono ?_
            rintro e w7 ⟨rfl, hb7⟩
            have F7 := Lib.hid (F6.out.later hb7)
            obtain ⟨c0, c1, c2, c3, c4, d0, d1, d2⟩ := F7.out.cells
            clear hb7
            go_wp2_with fail
            go_at_call 34
            refine (HPa.out _).mono ?_
            rintro e w8 ⟨rfl, hb8⟩
            have F8 := Lib.hid (F7.out.later hb8)
            obtain ⟨c0, c1, c2, c3, c4, d0, d1, d2⟩ := F8.out.cells
            clear hb8
            go_wp2
            go_ret
            exact ⟨ret_str (by simp [fmtB, Hk.out]), F8.out.ms, F8.out.kp⟩
    case true =>
      cases neg
      case false =>
        as_aux_lemma =>
          go_wp2_with fail
          go_at_call 34
          refine (HPa.out _).mono ?_
          rintro e w6 ⟨rfl, hb6⟩
          have F6 := Lib.hid (F5.out.later hb6)
          obtain ⟨c0, c1, c2, c3, c4, d0, d1, d2⟩ := F6.out.cells
          clear hb6
          go_wp2
          go_ret
          exact ⟨ret_str (by simp [fmtB, Hk.out]), F6.out.ms, F6.out.kp⟩
      case true =>
        cases z
        case false =>
          as_aux_lemma =>
            go_wp2_with fail
            go_at_call 59
            refine (HZ.out _).mono ?_
            rintro e w6 ⟨rfl, hb6⟩
            have F6 := Lib.hid (F5.out.later hb6)
            obtain ⟨c0, c1, c2, c3, c4, d0, d1, d2⟩ := F6.out.cells
            clear hb6
            go_wp2_with fail
            go_at_call 34
            refine (HPa.out _).mono ?_
            rintro e w7 ⟨rfl, hb7⟩
            have F7 := Lib.hid (F6.out.later hb7)
            obtain ⟨c0, c1, c2, c3, c4, d0, d1, d2⟩ := F7.out.cells
            clear hb7
            go_wp2
            go_ret
            exact ⟨ret_str (by simp [fmtB, Hk.out]), F7.out.ms, F7.out.kp⟩
        case true =>
          as_aux_lemma =>
            go_wp2_with fail
            go_at_call 59
            refine (HZ.out _).mono ?_
            rintro e w6 ⟨rfl, hb6⟩
            have F6 := Lib.hid (F5.out.later hb6)
            obtain ⟨c0, c1, c2, c3, c4, d0, d1, d2⟩ := F6.out.cells
            clear hb6
            go_wp2_with fail
            go_at_call 34
            refine (HPa.out _).mono ?_
            rintro e w7 ⟨rfl, hb7⟩
            have F7 := Lib.hid (F6.out.later hb7)
            obtain ⟨c0, c1, c2, c3, c4, d0, d1, d2⟩ := F7.out.cells
            clear hb7
            go_wp2
            go_ret
            exact ⟨ret_str (by simp [fmtB, Hk.out]), F7.out.ms, F7.out.kp⟩
end Go.Proofs.YtpgiboblonlddaaGreatDoor

namespace Go.Proofs.YtpgiboblonlddaaGreatDoor
open Go.RowKit
set_option linter.unusedVariables false
set_option linter.unusedSimpArgs false
def bL (l : List UInt8) : ByteArray := ⟨l.toArray⟩
theorem bL_list (l : List UInt8) : (bL l).data.toList = l := List.toList_toArray
theorem bL_size (l : List UInt8) : (bL l).size = l.length := by rw [← size_data, bL_list]
def rnd2L (l : List UInt8) (k mf : Nat) : List UInt8 := if mf < k then l.take (l.length - trimZ l k mf) else l
def rnd2K (l : List UInt8) (k mf : Nat) : Nat := if mf < k then k - trimZ l k mf else k
def rndL (l : List UInt8) (k mf xf : Nat) : List UInt8 := rnd2L (roundL l k xf) (min k xf) mf ++ List.replicate (mf - rnd2K (roundL l k xf) (min k xf) mf) 48
def rndK (l : List UInt8) (k mf xf : Nat) : Nat := rnd2K (roundL l k xf) (min k xf) mf + (mf - rnd2K (roundL l k xf) (min k xf) mf)
theorem rnd2_le (l : List UInt8) (k mf : Nat) (hk : k ≤ l.length) : rnd2K l k mf ≤ (rnd2L l k mf).length ∧ (rnd2L l k mf).length ≤ l.length := by
  unfold rnd2K rnd2L
  have := trimZ_le l k mf
  split
  · rw [List.length_take]; omega
  · omega
theorem rnd_le (l : List UInt8) (k mf xf : Nat) (hk : k ≤ l.length) (hl : l.length ≤ 60) (hmf : mf ≤ 40) : rndK l k mf xf ≤ (rndL l k mf xf).length ∧ (rndL l k mf xf).length ≤ 101 := by
  have h1 := roundL_length l k xf hk
  have h2 := rnd2_le (roundL l k xf) (min k xf) mf h1.1
  unfold rndK rndL
  rw [List.length_append, List.length_replicate]
  omega
theorem rounded_any (mi : Int) (mf xf : Nat) (pl rk n : Bool) (s : ByteArray) (k : Nat) (w : World) (hs : s.size ≤ 60) (hk : k ≤ s.size) (hd : s.data.toList.all digB = true) (hmf : mf ≤ 40) (hxf : xf ≤ 40) :
    Calls Tryz.prog 56 #[.agg #[.int .i64 mi, .int .i64 (mf : Int), .int .i64 (xf : Int), .bool pl, .bool rk], .agg #[.bool n, .string s, .int .i64 (k : Int)]] w
      fun e w' => e = .returned (.agg #[.bool n, .string (bL (rndL s.data.toList k mf xf)), .int .i64 (rndK s.data.toList k mf xf : Nat)]) ∧ Below w.heap.size w w' := by
  have h1 := roundL_length s.data.toList k xf (by rw [size_data]; exact hk)
  rw [size_data] at h1
  obtain ⟨L1, hL1⟩ : ∃ L, roundL s.data.toList k xf = L := ⟨_, rfl⟩
  obtain ⟨k1, hk1⟩ : ∃ q, min k xf = q := ⟨_, rfl⟩
  rw [hL1, hk1] at h1
  have hR := fun W => round_any n s k (xf : Int) W (by omega) hk hd (by omega) (by omega)
  simp only [Int.toNat_natCast] at hR
  rw [hL1, hk1] at hR
  have h2 := rnd2_le L1 k1 mf h1.1
  have hT : ∀ W : World, Calls Tryz.prog 88 #[.agg #[.bool n, .string (bL L1), .int .i64 (k1 : Int)], .int .i64 (mf : Int)] W fun e w' => e = .returned (.agg #[.bool n, .string (bL (rnd2L L1 k1 mf)), .int .i64 (rnd2K L1 k1 mf : Nat)]) ∧ Below W.heap.size W w' := by
    intro W
    refine (trim_anyN n (bL L1) k1 mf (mf : Int) W (by rw [bL_size]; omega) (by rw [bL_size]; exact h1.1) (by omega)).mono ?_
    rintro e w' ⟨rfl, hb⟩
    refine ⟨?_, hb⟩
    unfold rnd2L rnd2K
    split
    · rw [bL_list, bL_size]
      have : (bL L1).extract 0 (L1.length - trimZ L1 k1 mf) = bL (L1.take (L1.length - trimZ L1 k1 mf)) := by
        apply bytes_eq
        rw [extract_take, bL_list, bL_list]
      rw [this]
    · rfl
  obtain ⟨L2, hL2⟩ : ∃ L, rnd2L L1 k1 mf = L := ⟨_, rfl⟩
  obtain ⟨k2, hk2⟩ : ∃ q, rnd2K L1 k1 mf = q := ⟨_, rfl⟩
  rw [hL2, hk2] at hT h2
  have hP : ∀ W : World, Calls Tryz.prog 89 #[.agg #[.bool n, .string (bL L2), .int .i64 (k2 : Int)], .int .i64 (mf : Int)] W fun e w' => e = .returned (.agg #[.bool n, .string (bL (L2 ++ List.replicate (mf - k2) 48)), .int .i64 (k2 + (mf - k2) : Nat)]) ∧ Below W.heap.size W w' := by
    intro W
    refine (pad_any n (bL L2) k2 (mf : Int) W (by rw [bL_size]; omega) (by rw [bL_size]; exact h2.1)).mono ?_
    rintro e w' ⟨rfl, hb⟩
    refine ⟨?_, hb⟩
    have hm : (min (mf : Int) 40).toNat = mf := by omega
    rw [hm]
    have : bL L2 ++ (⟨(List.replicate (mf - k2) 48).toArray⟩ : ByteArray) = bL (L2 ++ List.replicate (mf - k2) 48) := by
      apply bytes_eq
      rw [bL_list]
      simp [bL]
    rw [this]
  have hv : rndL s.data.toList k mf xf = L2 ++ List.replicate (mf - k2) 48 := by
    unfold rndL
    rw [hL1, hk1, hL2, hk2]
  have hv2 : rndK s.data.toList k mf xf = k2 + (mf - k2) := by
    unfold rndK
    rw [hL1, hk1, hk2]
  rw [hv, hv2]
  exact rounded_core mi mf xf k k1 k2 _ pl rk n s _ _ _ w hR hT hP
theorem rep_anyN (j : Nat) (h : j ≤ 1000) : RepTo j (bL (List.replicate j 48)) := by
  cases j with
  | zero =>
    intro W
    refine (Tryz.strings_Repeat_zero _ W).mono ?_
    rintro e w' ⟨rfl, rfl⟩
    exact ⟨rfl, Below.refl _ _⟩
  | succ j => exact repTo (j + 1) (by omega) h
theorem noughts_any (mi : Nat) (mf xf : Int) (pl rk n : Bool) (l : List UInt8) (k : Nat) (w : World) (hl : l.length ≤ 200) (hk : k ≤ l.length) (hmi : mi ≤ 40) :
    Calls Tryz.prog 57 #[.agg #[.int .i64 (mi : Int), .int .i64 mf, .int .i64 xf, .bool pl, .bool rk], .agg #[.bool n, .string (bL l), .int .i64 (k : Int)]] w
      fun e w' => e = .returned (.string (bL (List.replicate (mi - (l.length - k)) 48))) ∧ Below w.heap.size w w' := by
  have hz : ((bL l).extract 0 ((bL l).size - k)).size = l.length - k := by rw [ByteArray.size_extract, bL_size]; omega
  have hW := fun W => whole_any n (bL l) k W (by rw [bL_size]; unfold maxLen; omega) (by rw [bL_size]; exact hk)
  refine noughts_core mi mf xf k ((mi : Int) - (l.length - k : Nat)) (mi - (l.length - k)) pl rk n (bL l) _ _ w hW (fun W => rep_anyN _ (by omega) W) ?_ ?_ ?_ ?_
  · rw [hz]; exact IntWalk.i64_in _ (by omega)
  · rw [hz]; exact w64in _ (by omega) (by omega)
  · omega
  · rw [hz]; omega
def ahd (mi : Nat) (l : List UInt8) (k : Nat) : List UInt8 := List.replicate (mi - (l.length - k)) 48
def zeroD (l : List UInt8) : Bool := (Lib.trimB l 48).isEmpty
def fmtL (neg pl : Bool) (l : List UInt8) (k mi : Nat) (p q : List UInt8) : List UInt8 :=
  let a := ahd mi l k ++ l.take (l.length - k)
  let c := if pl then a else grpTo a q a.length
  let c2 := if neg && !zeroD l then 45 :: c else c
  if k = 0 then c2 else c2 ++ (p ++ l.drop (l.length - k))
set_option maxHeartbeats 1000000 in
theorem format_any (b c : Nat) (made : Bool) (lang : ByteArray) (mi mf xf : Nat) (pl rk n : Bool) (s : ByteArray) (k : Nat) (w : World) (hM : MarksAt w b made c) (hc : c ≤ 1000) (hs : s.size ≤ 60) (hk : k ≤ s.size) (hd : s.data.toList.all digB = true) (hmi : mi ≤ 40) (hmf : mf ≤ 40) (hxf : xf ≤ 40) :
    Calls Tryz.prog 36 #[pt b, .string lang, .agg #[.bool n, .string s, .int .i64 (k : Int)], .agg #[.int .i64 (mi : Int), .int .i64 (mf : Int), .int .i64 (xf : Int), .bool pl, .bool rk]] w
      fun e w' => e = .returned (.string (bL (fmtL n pl (rndL s.data.toList k mf xf) (rndK s.data.toList k mf xf) mi (sgn lang).1 (sgn lang).2))) ∧ MarksAt w' b true (c + 1) ∧ Kp b w w' := by
  have hR := fun W => rounded_any mi mf xf pl rk n s k W hs hk hd hmf hxf
  have h := rnd_le s.data.toList k mf xf (by rw [size_data]; exact hk) (by rw [size_data]; exact hs) hmf
  obtain ⟨L, hL⟩ : ∃ L, rndL s.data.toList k mf xf = L := ⟨_, rfl⟩
  obtain ⟨kr, hkr⟩ : ∃ q, rndK s.data.toList k mf xf = q := ⟨_, rfl⟩
  rw [hL, hkr] at hR h ⊢
  have hsg := sgn_len lang
  obtain ⟨P, hP⟩ : ∃ P, (sgn lang).1 = P := ⟨_, rfl⟩
  obtain ⟨Q, hQ⟩ : ∃ Q, (sgn lang).2 = Q := ⟨_, rfl⟩
  have hO := fun (W : World) (hW : MarksAt W b made c) => of_any b c made lang hc W hW
  rw [hP] at hsg hO ⊢
  rw [hQ] at hsg hO ⊢
  have hN := fun W => noughts_any mi mf xf pl rk n L kr W (by omega) h.1 hmi
  have hWh := fun W => whole_any n (bL L) kr W (by rw [bL_size]; unfold maxLen; omega) (by rw [bL_size]; exact h.1)
  have hPa := fun W => part_any n (bL L) kr W (by rw [bL_size]; unfold maxLen; omega) (by rw [bL_size]; exact h.1)
  have hZ := fun W => zero_any n (bL L) kr W (by rw [bL_size]; unfold maxLen; omega)
  rw [bL_list] at hZ
  have ea : bL (List.replicate (mi - (L.length - kr)) 48) ++ (bL L).extract 0 ((bL L).size - kr) = bL (ahd mi L kr ++ L.take (L.length - kr)) := by
    apply bytes_eq
    rw [bL_list, bL_size]
    have := extract_take (bL L) (L.length - kr)
    rw [bL_list] at this
    simp [this, bL_list, ahd]
  have ep : (bL L).extract ((bL L).size - kr) (bL L).size = bL (L.drop (L.length - kr)) := by
    apply bytes_eq
    rw [extract_drop, bL_list, bL_list, bL_size]
  have hG := fun W => group_any (bL (ahd mi L kr ++ L.take (L.length - kr))) (bL Q) W (by
    rw [bL_size, bL_size, List.length_append, List.length_take]
    have : (ahd mi L kr).length ≤ 40 := by unfold ahd; rw [List.length_replicate]; omega
    calc ((ahd mi L kr).length + min (L.length - kr) L.length) * (Q.length + 1) ≤ 200 * 4 := Nat.mul_le_mul (by omega) (by omega)
      _ ≤ _ := by omega)
  rw [bL_list, bL_list, bL_size] at hG
  rw [← ea] at hG
  have hgl := grpTo_length (ahd mi L kr ++ L.take (L.length - kr)) Q (ahd mi L kr ++ L.take (L.length - kr)).length
  have hal : (ahd mi L kr ++ L.take (L.length - kr)).length ≤ 200 := by
    unfold ahd
    rw [List.length_append, List.length_replicate, List.length_take]; omega
  have hgl2 : (ahd mi L kr ++ L.take (L.length - kr)).length * (Q.length + 1) ≤ 200 * 4 := Nat.mul_le_mul hal (by omega)
  rw [ep] at hPa
  refine (format_core b c made lang (bL P) (bL Q) s (bL L) _ _ _ _ mi mf xf k kr pl rk n _ w hM hO hR hN hWh hG hZ hPa (by rw [bL_size, List.length_replicate]; omega) (by rw [ByteArray.size_extract, bL_size]; omega) (by show (bL _).size ≤ _; rw [bL_size]; omega) (by rw [bL_size]; omega) (by rw [bL_size, List.length_drop]; omega)).mono ?_
  rintro e w' ⟨rfl, h2, h3⟩
  refine ⟨ret_str ?_, h2, h3⟩
  unfold fmtB fmtL
  rw [ea]
  apply bytes_eq
  rw [bL_list]
  have ez : (Lib.trimB L 48).isEmpty = zeroD L := rfl
  rw [ez]
  by_cases h0 : kr = 0
  · subst h0
    cases pl <;> cases n <;> cases zeroD L <;> simp [bL]
  · have h1 : ¬ ((kr : Int) = 0) := by omega
    cases pl <;> cases n <;> cases zeroD L <;> simp [bL, h0]
end Go.Proofs.YtpgiboblonlddaaGreatDoor
