/-
  Several texts put together (part 14): what the law and the program call, walked; their contracts.
-/
import Derived.Test.YtjdpmdheapmanaaGreatDoorQ13
import Derived.StillTailTactics
import Derived.Test.YtjdpmdheapmanaaGreatDoorQ10
import Derived.Test.YtjdpmdheapmanaaGreatDoorQ7
namespace Go.Proofs.YtjdpmdheapmanaaGreatDoor
open Go.RowKit
set_option linter.unusedVariables false
set_option linter.unusedSimpArgs false
def fmtB (neg z pl : Bool) (kr : Int) (P Z Wh Gp Pa : ByteArray) : ByteArray :=
  let a := if pl then Z ++ Wh else Gp
  let c := if neg && !z then ⟨#[45]⟩ ++ a else a
  if kr = 0 then c else c ++ (P ++ Pa)
structure FmS (b n B m : Nat) (co cd : Array Value) (w W : World) : Prop where
  o : BoxAt W B co 26
  d : BoxAt W m cd 29
  ms : MarksAt W b true n
  kp : Kp b w W
theorem FmS.later {b n B m : Nat} {co cd : Array Value} {w W W' : World} (h : FmS b n B m co cd w W) (g : Below W.heap.size W W') : FmS b n B m co cd w W' :=
  ⟨h.o.later g, h.d.later g, h.ms.later g, h.kp.trans (Kp.of_below g (Nat.le_of_lt h.ms.lt))⟩
theorem FmS.drew {b n B m : Nat} {co cd : Array Value} {w W : World} (h : FmS b n B m co cd w W) : FmS b n B m co cd w W.drew := ⟨h.o, h.d, h.ms, h.kp.drew⟩
theorem FmS.cells {b n B m : Nat} {a0 a1 a2 a3 a4 d0 d1 d2 : Value} {w W : World} (h : FmS b n B m #[a0, a1, a2, a3, a4] #[d0, d1, d2] w W) :
    W.cell? ⟨B, 0, none⟩ = some a0 ∧ W.cell? ⟨B, 1, none⟩ = some a1 ∧ W.cell? ⟨B, 2, none⟩ = some a2 ∧ W.cell? ⟨B, 3, none⟩ = some a3 ∧ W.cell? ⟨B, 4, none⟩ = some a4 ∧
    W.cell? ⟨m, 0, none⟩ = some d0 ∧ W.cell? ⟨m, 1, none⟩ = some d1 ∧ W.cell? ⟨m, 2, none⟩ = some d2 :=
  ⟨h.o.cell 0, h.o.cell 1, h.o.cell 2, h.o.cell 3, h.o.cell 4, h.d.cell 0, h.d.cell 1, h.d.cell 2⟩
theorem FmS.z {b n B m : Nat} {co cd : Array Value} {w W : World} (h : FmS b n B m co cd w W) (o : Nat) : W.frozen? ⟨m, o, none⟩ = false := h.d.z o
theorem fmS_keep {b n B m : Nat} {a0 a1 a2 a3 a4 d0 d1 d2 : Value} {w W W' : World} (g : Below W.heap.size W W') (h : W.cell? ⟨B, 0, none⟩ = some a0 ∧ W.cell? ⟨B, 1, none⟩ = some a1 ∧ W.cell? ⟨B, 2, none⟩ = some a2 ∧ W.cell? ⟨B, 3, none⟩ = some a3 ∧ W.cell? ⟨B, 4, none⟩ = some a4 ∧ W.cell? ⟨m, 0, none⟩ = some d0 ∧ W.cell? ⟨m, 1, none⟩ = some d1 ∧ W.cell? ⟨m, 2, none⟩ = some d2 ∧ FmS b n B m #[a0, a1, a2, a3, a4] #[d0, d1, d2] w W) : W'.cell? ⟨B, 0, none⟩ = some a0 ∧ W'.cell? ⟨B, 1, none⟩ = some a1 ∧ W'.cell? ⟨B, 2, none⟩ = some a2 ∧ W'.cell? ⟨B, 3, none⟩ = some a3 ∧ W'.cell? ⟨B, 4, none⟩ = some a4 ∧ W'.cell? ⟨m, 0, none⟩ = some d0 ∧ W'.cell? ⟨m, 1, none⟩ = some d1 ∧ W'.cell? ⟨m, 2, none⟩ = some d2 ∧ FmS b n B m #[a0, a1, a2, a3, a4] #[d0, d1, d2] w W' := by
  obtain ⟨_, _, _, _, _, _, _, _, h⟩ := h
  obtain ⟨e0, e1, e2, e3, e4, e5, e6, e7⟩ := (h.later g).cells
  exact ⟨e0, e1, e2, e3, e4, e5, e6, e7, h.later g⟩
theorem fmS_start {b n B m : Nat} {a0 a1 a2 a3 a4 d0 d1 d2 : Value} {w W : World} (h : FmS b n B m #[a0, a1, a2, a3, a4] #[d0, d1, d2] w W) : W.cell? ⟨B, 0, none⟩ = some a0 ∧ W.cell? ⟨B, 1, none⟩ = some a1 ∧ W.cell? ⟨B, 2, none⟩ = some a2 ∧ W.cell? ⟨B, 3, none⟩ = some a3 ∧ W.cell? ⟨B, 4, none⟩ = some a4 ∧ W.cell? ⟨m, 0, none⟩ = some d0 ∧ W.cell? ⟨m, 1, none⟩ = some d1 ∧ W.cell? ⟨m, 2, none⟩ = some d2 ∧ FmS b n B m #[a0, a1, a2, a3, a4] #[d0, d1, d2] w W := by
  obtain ⟨e0, e1, e2, e3, e4, e5, e6, e7⟩ := h.cells
  exact ⟨e0, e1, e2, e3, e4, e5, e6, e7, h⟩
theorem fmS_out {b n B m : Nat} {a0 a1 a2 a3 a4 d0 d1 d2 : Value} {w W : World} (h : W.cell? ⟨B, 0, none⟩ = some a0 ∧ W.cell? ⟨B, 1, none⟩ = some a1 ∧ W.cell? ⟨B, 2, none⟩ = some a2 ∧ W.cell? ⟨B, 3, none⟩ = some a3 ∧ W.cell? ⟨B, 4, none⟩ = some a4 ∧ W.cell? ⟨m, 0, none⟩ = some d0 ∧ W.cell? ⟨m, 1, none⟩ = some d1 ∧ W.cell? ⟨m, 2, none⟩ = some d2 ∧ FmS b n B m #[a0, a1, a2, a3, a4] #[d0, d1, d2] w W) : FmS b n B m #[a0, a1, a2, a3, a4] #[d0, d1, d2] w W := by
  obtain ⟨_, _, _, _, _, _, _, _, h⟩ := h
  exact h
set_option maxHeartbeats 8000000 in
set_option maxRecDepth 100000 in
theorem format_core (b n : Nat) (made : Bool) (lang P Q s R Z Wh Gp Pa : ByteArray) (mi mf xf k kr : Int) (pl rk neg z : Bool) (w : World) (hM : MarksAt w b made n)
    (hOf : ∀ W : World, MarksAt W b made n → Calls Tryz.prog 15 #[pt b, .string lang] W fun e w' => e = .returned (.tuple #[.string P, .string Q]) ∧ MarksAt w' b true (n + 1) ∧ Kp b W w')
    (hR : ∀ W : World, Calls Tryz.prog 22 #[.agg #[.int .i64 mi, .int .i64 mf, .int .i64 xf, .bool pl, .bool rk], .agg #[.bool neg, .string s, .int .i64 k]] W fun e w' => e = .returned (.agg #[.bool neg, .string R, .int .i64 kr]) ∧ Below W.heap.size W w')
    (hN : ∀ W : World, Calls Tryz.prog 23 #[.agg #[.int .i64 mi, .int .i64 mf, .int .i64 xf, .bool pl, .bool rk], .agg #[.bool neg, .string R, .int .i64 kr]] W fun e w' => e = .returned (.string Z) ∧ Below W.heap.size W w')
    (hW : ∀ W : World, Calls Tryz.prog 31 #[.agg #[.bool neg, .string R, .int .i64 kr]] W fun e w' => e = .returned (.string Wh) ∧ Below W.heap.size W w')
    (hG : ∀ W : World, Calls Tryz.prog 32 #[.string (Z ++ Wh), .string Q] W fun e w' => e = .returned (.string Gp) ∧ Below W.heap.size W w')
    (hZ : ∀ W : World, Calls Tryz.prog 33 #[.agg #[.bool neg, .string R, .int .i64 kr]] W fun e w' => e = .returned (.bool z) ∧ Below W.heap.size W w')
    (hPa : ∀ W : World, Calls Tryz.prog 24 #[.agg #[.bool neg, .string R, .int .i64 kr]] W fun e w' => e = .returned (.string Pa) ∧ Below W.heap.size W w')
    (z1 : Z.size ≤ 1000) (z2 : Wh.size ≤ 1000) (z3 : Gp.size ≤ 10000) (z4 : P.size ≤ 1000) (z5 : Pa.size ≤ 1000) :
    Calls Tryz.prog 16 #[pt b, .string lang, .agg #[.bool neg, .string s, .int .i64 k], .agg #[.int .i64 mi, .int .i64 mf, .int .i64 xf, .bool pl, .bool rk]] w
      fun e w' => e = .returned (.string (fmtB neg z pl kr P Z Wh Gp Pa)) ∧ MarksAt w' b true (n + 1) ∧ Kp b w w' := by
  have HM := Lib.hid hM
  have hlt := hM.lt
  have HOf := Lib.hid hOf
  have HR := Lib.hid hR
  have HN := Lib.hid hN
  have HW := Lib.hid hW
  have HG := Lib.hid hG
  have HZ := Lib.hid hZ
  have HPa := Lib.hid hPa
  have hcat : (Z ++ Wh).size ≤ 2000 := by rw [ByteArray.size_append]; omega
  have hcat2 : (P ++ Pa).size ≤ 2000 := by rw [ByteArray.size_append]; omega
  have n1 : ¬ 9223372036854775807 < Z.size + Wh.size := by omega
  have n2 : ¬ 9223372036854775807 < P.size + Pa.size := by omega
  clear hM hOf hR hN hW hG hZ hPa
  unfold pt at HOf ⊢
  go_enter Tryz.func16, Tryz.ntmps16
  go_wp2_with fail
  go_at_call 15
  refine (HOf.out _ (HM.out.later (((Below.refl _ _).alloc (Nat.le_refl _) _).alloc (by simp) _))).mono ?_
  rintro e w2 ⟨rfl, hm2, hk2⟩
  have B0 := BoxAt.kp (((BoxAt.new w #[.bool neg, .string s, .int .i64 k] 29).alloc (.cells #[.int .i64 mi, .int .i64 mf, .int .i64 xf, .bool pl, .bool rk] 26))) hk2 (by omega)
  have B1 := BoxAt.kp (BoxAt.new' (w.alloc (.cells #[.bool neg, .string s, .int .i64 k] 29)) (w.heap.size + 1) #[.int .i64 mi, .int .i64 mf, .int .i64 xf, .bool pl, .bool rk] 26 (by simp)) hk2 (by omega)
  have F2 := Lib.hid (FmS.mk B1 B0 hm2 ((((Kp.refl b w).alloc (by omega) _).alloc (by simp; omega) _).trans hk2))
  obtain ⟨c0, c1, c2, c3, c4, d0, d1, d2⟩ := F2.out.cells
  clear B0 B1 hm2 hk2
  go_wp2_with fail
  go_at_call 22
  refine (HR.out _).mono ?_
  rintro e w3 ⟨rfl, hb3⟩
  have F3 := Lib.hid (F2.out.later hb3)
  have G0 := F3.out
  have hlt3 := F3.out.ms.lt
  have F4 := Lib.hid (FmS.mk (G0.o.alloc (.cells #[.bool neg, .string R, .int .i64 kr] 29)) (BoxAt.new w3 #[.bool neg, .string R, .int .i64 kr] 29) (G0.ms.later ((Below.refl _ _).alloc (Nat.le_refl _) _)) (G0.kp.alloc (by omega) _))
  clear c0 c1 c2 c3 c4 d0 d1 d2 G0 hb3
  have hmB : w.heap.size + 1 < w3.heap.size := F3.out.o.lt
  go_wp2_with fail
  go_region_held3 (fun w' => w'.cell? ⟨w.heap.size + 1, 0, none⟩ = some (.int .i64 mi) ∧ w'.cell? ⟨w.heap.size + 1, 1, none⟩ = some (.int .i64 mf) ∧ w'.cell? ⟨w.heap.size + 1, 2, none⟩ = some (.int .i64 xf) ∧ w'.cell? ⟨w.heap.size + 1, 3, none⟩ = some (.bool pl) ∧ w'.cell? ⟨w.heap.size + 1, 4, none⟩ = some (.bool rk) ∧ w'.cell? ⟨w3.heap.size, 0, none⟩ = some (.bool neg) ∧ w'.cell? ⟨w3.heap.size, 1, none⟩ = some (.string R) ∧ w'.cell? ⟨w3.heap.size, 2, none⟩ = some (.int .i64 kr) ∧ FmS b (n + 1) (w.heap.size + 1) w3.heap.size #[.int .i64 mi, .int .i64 mf, .int .i64 xf, .bool pl, .bool rk] #[.bool neg, .string R, .int .i64 kr] w w')
    (first | (exact fmS_keep (by assumption) (by assumption)) | (exact fmS_start F4.out.drew) | go_keep)
    (first | (go_at_call 23; refine (HN.out _).mono ?_; rintro e w4 ⟨rfl, hb4⟩) | (go_at_call 31; refine (HW.out _).mono ?_; rintro e w4 ⟨rfl, hb4⟩))
  have F5 := Lib.hid (fmS_out (W := w4) (B := w.heap.size + 1) (m := w3.heap.size) (by assumption))
  obtain ⟨c0, c1, c2, c3, c4, d0, d1, d2⟩ := F5.out.cells
  have n3 : ¬ 9223372036854775807 < 1 + (Z ++ Wh).size := by omega
  have n4 : ¬ 9223372036854775807 < 1 + Gp.size := by omega
  have n5 : (⟨#[45]⟩ ++ (Z ++ Wh) : ByteArray).size ≤ 3000 := by rw [ByteArray.size_append]; show 1 + _ ≤ _; omega
  have n6 : (⟨#[45]⟩ ++ Gp : ByteArray).size ≤ 11000 := by rw [ByteArray.size_append]; show 1 + _ ≤ _; omega
  by_cases hk : kr = 0
  · have hk1 : (kr != 0) = false := by rw [hk]; rfl
    have Hk := Lib.hid hk
    clear hk
    cases pl
    case false =>
      cases neg
      case false =>
        as_aux_lemma =>
          go_wp2_with fail
          go_at_call 32
          refine (HG.out _).mono ?_
          rintro e w6 ⟨rfl, hb6⟩
          have F6 := Lib.hid (F5.out.later hb6)
          obtain ⟨c0, c1, c2, c3, c4, d0, d1, d2⟩ := F6.out.cells
          clear hb6
          go_wp2
          go_ret
          exact ⟨ret_str (by simp [fmtB, Hk.out]), F6.out.ms, F6.out.kp⟩
      case true =>
        cases z
        case false =>
          as_aux_lemma =>
            go_wp2_with fail
            go_at_call 32
            refine (HG.out _).mono ?_
            rintro e w6 ⟨rfl, hb6⟩
            have F6 := Lib.hid (F5.out.later hb6)
            obtain ⟨c0, c1, c2, c3, c4, d0, d1, d2⟩ := F6.out.cells
            clear hb6
            go_wp2_with fail
            go_at_call 33
            refine (HZ.out _).mono ?_
            rintro e w7 ⟨rfl, hb7⟩
            have F7 := Lib.hid (F6.out.later hb7)
            obtain ⟨c0, c1, c2, c3, c4, d0, d1, d2⟩ := F7.out.cells
            clear hb7
            go_wp2
            go_ret
            exact ⟨ret_str (by simp [fmtB, Hk.out]), F7.out.ms, F7.out.kp⟩
        case true =>
          as_aux_lemma =>
            go_wp2_with fail
            go_at_call 32
            refine (HG.out _).mono ?_
            rintro e w6 ⟨rfl, hb6⟩
            have F6 := Lib.hid (F5.out.later hb6)
            obtain ⟨c0, c1, c2, c3, c4, d0, d1, d2⟩ := F6.out.cells
            clear hb6
            go_wp2_with fail
            go_at_call 33
            refine (HZ.out _).mono ?_
            rintro e w7 ⟨rfl, hb7⟩
            have F7 := Lib.hid (F6.out.later hb7)
            obtain ⟨c0, c1, c2, c3, c4, d0, d1, d2⟩ := F7.out.cells
            clear hb7
            go_wp2
            go_ret
            exact ⟨ret_str (by simp [fmtB, Hk.out]), F7.out.ms, F7.out.kp⟩
    case true =>
      cases neg
      case false =>
        as_aux_lemma =>
          go_wp2
          go_ret
          exact ⟨ret_str (by simp [fmtB, Hk.out]), F5.out.ms, F5.out.kp⟩
      case true =>
        cases z
        case false =>
          as_aux_lemma =>
            go_wp2_with fail
            go_at_call 33
            refine (HZ.out _).mono ?_
            rintro e w6 ⟨rfl, hb6⟩
            have F6 := Lib.hid (F5.out.later hb6)
            obtain ⟨c0, c1, c2, c3, c4, d0, d1, d2⟩ := F6.out.cells
            clear hb6
            go_wp2
            go_ret
            exact ⟨ret_str (by simp [fmtB, Hk.out]), F6.out.ms, F6.out.kp⟩
        case true =>
          as_aux_lemma =>
            go_wp2_with fail
            go_at_call 33
            refine (HZ.out _).mono ?_
            rintro e w6 ⟨rfl, hb6⟩
            have F6 := Lib.hid (F5.out.later hb6)
            obtain ⟨c0, c1, c2, c3, c4, d0, d1, d2⟩ := F6.out.cells
            clear hb6
            go_wp2
            go_ret
            exact ⟨ret_str (by simp [fmtB, Hk.out]), F6.out.ms, F6.out.kp⟩
  · have hk1 : (kr != 0) = true := bne_iff_ne.2 hk
    have Hk := Lib.hid hk
    clear hk
    cases pl
    case false =>
      cases neg
      case false =>
        as_aux_lemma =>
          go_wp2_with fail
          go_at_call 32
          refine (HG.out _).mono ?_
          rintro e w6 ⟨rfl, hb6⟩
          have F6 := Lib.hid (F5.out.later hb6)
          obtain ⟨c0, c1, c2, c3, c4, d0, d1, d2⟩ := F6.out.cells
          clear hb6
          go_wp2_with fail
          go_at_call 24
          refine (HPa.out _).mono ?_
          rintro e w7 ⟨rfl, hb7⟩
          have F7 := Lib.hid (F6.out.later hb7)
          obtain ⟨c0, c1, c2, c3, c4, d0, d1, d2⟩ := F7.out.cells
          clear hb7
          go_wp2
          go_ret
          exact ⟨ret_str (by simp [fmtB, Hk.out]), F7.out.ms, F7.out.kp⟩
      case true =>
        cases z
        case false =>
          as_aux_lemma =>
            go_wp2_with fail
            go_at_call 32
            refine (HG.out _).mono ?_
            rintro e w6 ⟨rfl, hb6⟩
            have F6 := Lib.hid (F5.out.later hb6)
            obtain ⟨c0, c1, c2, c3, c4, d0, d1, d2⟩ := F6.out.cells
            clear hb6
            go_wp2_with fail
            go_at_call 33
            refine (HZ.out _).mono ?_
            rintro e w7 ⟨rfl, hb7⟩
            have F7 := Lib.hid (F6.out.later hb7)
            obtain ⟨c0, c1, c2, c3, c4, d0, d1, d2⟩ := F7.out.cells
            clear hb7
            go_wp2_with fail
            go_at_call 24
            refine (HPa.out _).mono ?_
            rintro e w8 ⟨rfl, hb8⟩
            have F8 := Lib.hid (F7.out.later hb8)
            obtain ⟨c0, c1, c2, c3, c4, d0, d1, d2⟩ := F8.out.cells
            clear hb8
            go_wp2
            go_ret
            exact ⟨ret_str (by simp [fmtB, Hk.out]), F8.out.ms, F8.out.kp⟩
        case true =>
          as_aux_lemma =>
            go_wp2_with fail
            go_at_call 32
            refine (HG.out _).mono ?_
            rintro e w6 ⟨rfl, hb6⟩
            have F6 := Lib.hid (F5.out.later hb6)
            obtain ⟨c0, c1, c2, c3, c4, d0, d1, d2⟩ := F6.out.cells
            clear hb6
            go_wp2_with fail
            go_at_call 33
            refine (HZ.out _).mono ?_
            rintro e w7 ⟨rfl, hb7⟩
            have F7 := Lib.hid (F6.out.later hb7)
            obtain ⟨c0, c1, c2, c3, c4, d0, d1, d2⟩ := F7.out.cells
            clear hb7
            go_wp2_with fail
            go_at_call 24
            refine (HPa.out _).mono ?_
            rintro e w8 ⟨rfl, hb8⟩
            have F8 := Lib.hid (F7.out.later hb8)
            obtain ⟨c0, c1, c2, c3, c4, d0, d1, d2⟩ := F8.out.cells
            clear hb8
            go_wp2
            go_ret
            exact ⟨ret_str (by simp [fmtB, Hk.out]), F8.out.ms, F8.out.kp⟩
    case true =>
      cases neg
      case false =>
        as_aux_lemma =>
          go_wp2_with fail
          go_at_call 24
          refine (HPa.out _).mono ?_
          rintro e w6 ⟨rfl, hb6⟩
          have F6 := Lib.hid (F5.out.later hb6)
          obtain ⟨c0, c1, c2, c3, c4, d0, d1, d2⟩ := F6.out.cells
          clear hb6
          go_wp2
          go_ret
          exact ⟨ret_str (by simp [fmtB, Hk.out]), F6.out.ms, F6.out.kp⟩
      case true =>
        cases z
        case false =>
          as_aux_lemma =>
            go_wp2_with fail
            go_at_call 33
            refine (HZ.out _).mono ?_
            rintro e w6 ⟨rfl, hb6⟩
            have F6 := Lib.hid (F5.out.later hb6)
            obtain ⟨c0, c1, c2, c3, c4, d0, d1, d2⟩ := F6.out.cells
            clear hb6
            go_wp2_with fail
            go_at_call 24
            refine (HPa.out _).mono ?_
            rintro e w7 ⟨rfl, hb7⟩
            have F7 := Lib.hid (F6.out.later hb7)
            obtain ⟨c0, c1, c2, c3, c4, d0, d1, d2⟩ := F7.out.cells
            clear hb7
            go_wp2
            go_ret
            exact ⟨ret_str (by simp [fmtB, Hk.out]), F7.out.ms, F7.out.kp⟩
        case true =>
          as_aux_lemma =>
            go_wp2_with fail
            go_at_call 33
            refine (HZ.out _).mono ?_
            rintro e w6 ⟨rfl, hb6⟩
            have F6 := Lib.hid (F5.out.later hb6)
            obtain ⟨c0, c1, c2, c3, c4, d0, d1, d2⟩ := F6.out.cells
            clear hb6
            go_wp2_with fail
            go_at_call 24
            refine (HPa.out _).mono ?_
            rintro e w7 ⟨rfl, hb7⟩
            have F7 := Lib.hid (F6.out.later hb7)
            obtain ⟨c0, c1, c2, c3, c4, d0, d1, d2⟩ := F7.out.cells
            clear hb7
            go_wp2
            go_ret
            exact ⟨ret_str (by simp [fmtB, Hk.out]), F7.out.ms, F7.out.kp⟩
end Go.Proofs.YtjdpmdheapmanaaGreatDoor

namespace Go.Proofs.YtjdpmdheapmanaaGreatDoor
open Go.RowKit
set_option linter.unusedVariables false
set_option linter.unusedSimpArgs false
def bL (l : List UInt8) : ByteArray := ⟨l.toArray⟩
theorem bL_list (l : List UInt8) : (bL l).data.toList = l := List.toList_toArray
theorem bL_size (l : List UInt8) : (bL l).size = l.length := by rw [← size_data, bL_list]
theorem bL_data (s : ByteArray) : bL s.data.toList = s := bytes_eq (bL_list _)
def rnd2L (l : List UInt8) (k mf : Nat) : List UInt8 := if mf < k then l.take (l.length - trimZ l k mf) else l
def rnd2K (l : List UInt8) (k mf : Nat) : Nat := if mf < k then k - trimZ l k mf else k
def rndL (l : List UInt8) (k mf xf : Nat) : List UInt8 := rnd2L (roundL l k xf) (min k xf) mf ++ List.replicate (mf - rnd2K (roundL l k xf) (min k xf) mf) 48
def rndK (l : List UInt8) (k mf xf : Nat) : Nat := rnd2K (roundL l k xf) (min k xf) mf + (mf - rnd2K (roundL l k xf) (min k xf) mf)
theorem rnd2_le (l : List UInt8) (k mf : Nat) (hk : k ≤ l.length) : rnd2K l k mf ≤ (rnd2L l k mf).length ∧ (rnd2L l k mf).length ≤ l.length := by
  unfold rnd2K rnd2L
  have := trimZ_le l k mf
  split
  · rw [List.length_take]; omega
  · omega
theorem rnd_le (l : List UInt8) (k mf xf : Nat) (hk : k ≤ l.length) (hl : l.length ≤ 60) (hmf : mf ≤ 40) : rndK l k mf xf ≤ (rndL l k mf xf).length ∧ (rndL l k mf xf).length ≤ 101 := by
  have h1 := roundL_length l k xf hk
  have h2 := rnd2_le (roundL l k xf) (min k xf) mf h1.1
  unfold rndK rndL
  rw [List.length_append, List.length_replicate]
  omega
theorem rounded_any (mi : Int) (mf xf : Nat) (pl rk n : Bool) (s : ByteArray) (k : Nat) (w : World) (hs : s.size ≤ 60) (hk : k ≤ s.size) (hd : s.data.toList.all digB = true) (hmf : mf ≤ 40) (hxf : xf ≤ 40) :
    Calls Tryz.prog 22 #[.agg #[.int .i64 mi, .int .i64 (mf : Int), .int .i64 (xf : Int), .bool pl, .bool rk], .agg #[.bool n, .string s, .int .i64 (k : Int)]] w
      fun e w' => e = .returned (.agg #[.bool n, .string (bL (rndL s.data.toList k mf xf)), .int .i64 (rndK s.data.toList k mf xf : Nat)]) ∧ Below w.heap.size w w' := by
  have h1 := roundL_length s.data.toList k xf (by rw [size_data]; exact hk)
  rw [size_data] at h1
  obtain ⟨L1, hL1⟩ : ∃ L, roundL s.data.toList k xf = L := ⟨_, rfl⟩
  obtain ⟨k1, hk1⟩ : ∃ q, min k xf = q := ⟨_, rfl⟩
  rw [hL1, hk1] at h1
  have hR := fun W => round_any n s k (xf : Int) W (by omega) hk hd (by omega) (by omega)
  simp only [Int.toNat_natCast] at hR
  rw [hL1, hk1] at hR
  have h2 := rnd2_le L1 k1 mf h1.1
  have hT : ∀ W : World, Calls Tryz.prog 36 #[.agg #[.bool n, .string (bL L1), .int .i64 (k1 : Int)], .int .i64 (mf : Int)] W fun e w' => e = .returned (.agg #[.bool n, .string (bL (rnd2L L1 k1 mf)), .int .i64 (rnd2K L1 k1 mf : Nat)]) ∧ Below W.heap.size W w' := by
    intro W
    refine (trim_any n (bL L1) k1 mf (mf : Int) W (by rw [bL_size]; omega) (by rw [bL_size]; exact h1.1) (by omega)).mono ?_
    rintro e w' ⟨rfl, hb⟩
    refine ⟨?_, hb⟩
    unfold rnd2L rnd2K
    split
    · rw [bL_list, bL_size]
      have : (bL L1).extract 0 (L1.length - trimZ L1 k1 mf) = bL (L1.take (L1.length - trimZ L1 k1 mf)) := by
        apply bytes_eq
        rw [extract_take, bL_list, bL_list]
      rw [this]
    · rfl
  obtain ⟨L2, hL2⟩ : ∃ L, rnd2L L1 k1 mf = L := ⟨_, rfl⟩
  obtain ⟨k2, hk2⟩ : ∃ q, rnd2K L1 k1 mf = q := ⟨_, rfl⟩
  rw [hL2, hk2] at hT h2
  have hP : ∀ W : World, Calls Tryz.prog 37 #[.agg #[.bool n, .string (bL L2), .int .i64 (k2 : Int)], .int .i64 (mf : Int)] W fun e w' => e = .returned (.agg #[.bool n, .string (bL (L2 ++ List.replicate (mf - k2) 48)), .int .i64 (k2 + (mf - k2) : Nat)]) ∧ Below W.heap.size W w' := by
    intro W
    refine (pad_any n (bL L2) k2 (mf : Int) W (by rw [bL_size]; omega) (by rw [bL_size]; exact h2.1)).mono ?_
    rintro e w' ⟨rfl, hb⟩
    refine ⟨?_, hb⟩
    have hm : (min (mf : Int) 40).toNat = mf := by omega
    rw [hm]
    have : bL L2 ++ (⟨(List.replicate (mf - k2) 48).toArray⟩ : ByteArray) = bL (L2 ++ List.replicate (mf - k2) 48) := by
      apply bytes_eq
      rw [bL_list]
      simp [bL]
    rw [this]
  have hv : rndL s.data.toList k mf xf = L2 ++ List.replicate (mf - k2) 48 := by
    unfold rndL
    rw [hL1, hk1, hL2, hk2]
  have hv2 : rndK s.data.toList k mf xf = k2 + (mf - k2) := by
    unfold rndK
    rw [hL1, hk1, hk2]
  rw [hv, hv2]
  exact rounded_core mi mf xf k k1 k2 _ pl rk n s _ _ _ w hR hT hP
theorem rep_any (j : Nat) (h : j ≤ 1000) : RepTo j (bL (List.replicate j 48)) := by
  cases j with
  | zero =>
    intro W
    refine (Tryz.strings_Repeat_zero _ W).mono ?_
    rintro e w' ⟨rfl, rfl⟩
    exact ⟨rfl, Below.refl _ _⟩
  | succ j => exact repTo (j + 1) (by omega) h
theorem noughts_any (mi : Nat) (mf xf : Int) (pl rk n : Bool) (l : List UInt8) (k : Nat) (w : World) (hl : l.length ≤ 200) (hk : k ≤ l.length) (hmi : mi ≤ 40) :
    Calls Tryz.prog 23 #[.agg #[.int .i64 (mi : Int), .int .i64 mf, .int .i64 xf, .bool pl, .bool rk], .agg #[.bool n, .string (bL l), .int .i64 (k : Int)]] w
      fun e w' => e = .returned (.string (bL (List.replicate (mi - (l.length - k)) 48))) ∧ Below w.heap.size w w' := by
  have hz : ((bL l).extract 0 ((bL l).size - k)).size = l.length - k := by rw [ByteArray.size_extract, bL_size]; omega
  have hW := fun W => whole_any n (bL l) k W (by rw [bL_size]; unfold maxLen; omega) (by rw [bL_size]; exact hk)
  refine noughts_core mi mf xf k ((mi : Int) - (l.length - k : Nat)) (mi - (l.length - k)) pl rk n (bL l) _ _ w hW (fun W => rep_any _ (by omega) W) ?_ ?_ ?_ ?_
  · rw [hz]; exact IntWalk.i64_in _ (by omega)
  · rw [hz]; exact w64in _ (by omega) (by omega)
  · omega
  · rw [hz]; omega
def ahd (mi : Nat) (l : List UInt8) (k : Nat) : List UInt8 := List.replicate (mi - (l.length - k)) 48
theorem shape_any (mi mf xf : Nat) (pl rk n : Bool) (s : ByteArray) (k : Nat) (w : World) (hs : s.size ≤ 60) (hk : k ≤ s.size) (hd : s.data.toList.all digB = true) (hmi : mi ≤ 40) (hmf : mf ≤ 40) (hxf : xf ≤ 40) :
    Calls Tryz.prog 12 #[.agg #[.int .i64 (mi : Int), .int .i64 (mf : Int), .int .i64 (xf : Int), .bool pl, .bool rk], .agg #[.bool n, .string s, .int .i64 (k : Int)]] w
      fun e w' => e = .returned (.agg #[.bool n, .string (bL (ahd mi (rndL s.data.toList k mf xf) (rndK s.data.toList k mf xf) ++ rndL s.data.toList k mf xf)), .int .i64 (rndK s.data.toList k mf xf : Nat)]) ∧ Below w.heap.size w w' := by
  have h := rnd_le s.data.toList k mf xf (by rw [size_data]; exact hk) (by rw [size_data]; exact hs) hmf
  refine (shape_core mi mf xf k _ pl rk n s _ _ w (fun W => rounded_any mi mf xf pl rk n s k W hs hk hd hmf hxf) (fun W => noughts_any mi mf xf pl rk n _ _ W (by omega) h.1 hmi) (by rw [bL_size, List.length_replicate]; omega) (by rw [bL_size]; omega)).mono ?_
  rintro e w' ⟨rfl, hb⟩
  refine ⟨?_, hb⟩
  have : bL (List.replicate (mi - ((rndL s.data.toList k mf xf).length - rndK s.data.toList k mf xf)) 48) ++ bL (rndL s.data.toList k mf xf) = bL (ahd mi (rndL s.data.toList k mf xf) (rndK s.data.toList k mf xf) ++ rndL s.data.toList k mf xf) := by
    apply bytes_eq
    rw [bL_list]
    simp [bL, ahd]
  rw [this]
def zeroD (l : List UInt8) : Bool := (Lib.trimB l 48).isEmpty
def fmtL (neg pl : Bool) (l : List UInt8) (k mi : Nat) (p q : List UInt8) : List UInt8 :=
  let a := ahd mi l k ++ l.take (l.length - k)
  let c := if pl then a else grpTo a q a.length
  let c2 := if neg && !zeroD l then 45 :: c else c
  if k = 0 then c2 else c2 ++ (p ++ l.drop (l.length - k))
set_option maxHeartbeats 1000000 in
theorem format_any (b c : Nat) (made : Bool) (lang : ByteArray) (mi mf xf : Nat) (pl rk n : Bool) (s : ByteArray) (k : Nat) (w : World) (hM : MarksAt w b made c) (hc : c ≤ 1000) (hs : s.size ≤ 60) (hk : k ≤ s.size) (hd : s.data.toList.all digB = true) (hmi : mi ≤ 40) (hmf : mf ≤ 40) (hxf : xf ≤ 40) :
    Calls Tryz.prog 16 #[pt b, .string lang, .agg #[.bool n, .string s, .int .i64 (k : Int)], .agg #[.int .i64 (mi : Int), .int .i64 (mf : Int), .int .i64 (xf : Int), .bool pl, .bool rk]] w
      fun e w' => e = .returned (.string (bL (fmtL n pl (rndL s.data.toList k mf xf) (rndK s.data.toList k mf xf) mi (sgn lang).1 (sgn lang).2))) ∧ MarksAt w' b true (c + 1) ∧ Kp b w w' := by
  have hR := fun W => rounded_any mi mf xf pl rk n s k W hs hk hd hmf hxf
  have h := rnd_le s.data.toList k mf xf (by rw [size_data]; exact hk) (by rw [size_data]; exact hs) hmf
  obtain ⟨L, hL⟩ : ∃ L, rndL s.data.toList k mf xf = L := ⟨_, rfl⟩
  obtain ⟨kr, hkr⟩ : ∃ q, rndK s.data.toList k mf xf = q := ⟨_, rfl⟩
  rw [hL, hkr] at hR h ⊢
  have hsg := sgn_len lang
  obtain ⟨P, hP⟩ : ∃ P, (sgn lang).1 = P := ⟨_, rfl⟩
  obtain ⟨Q, hQ⟩ : ∃ Q, (sgn lang).2 = Q := ⟨_, rfl⟩
  have hO := fun (W : World) (hW : MarksAt W b made c) => of_any b c made lang hc W hW
  rw [hP] at hsg hO ⊢
  rw [hQ] at hsg hO ⊢
  have hN := fun W => noughts_any mi mf xf pl rk n L kr W (by omega) h.1 hmi
  have hWh := fun W => whole_any n (bL L) kr W (by rw [bL_size]; unfold maxLen; omega) (by rw [bL_size]; exact h.1)
  have hPa := fun W => part_any n (bL L) kr W (by rw [bL_size]; unfold maxLen; omega) (by rw [bL_size]; exact h.1)
  have hZ := fun W => zero_any n (bL L) kr W (by rw [bL_size]; unfold maxLen; omega)
  rw [bL_list] at hZ
  have ea : bL (List.replicate (mi - (L.length - kr)) 48) ++ (bL L).extract 0 ((bL L).size - kr) = bL (ahd mi L kr ++ L.take (L.length - kr)) := by
    apply bytes_eq
    rw [bL_list, bL_size]
    have := extract_take (bL L) (L.length - kr)
    rw [bL_list] at this
    simp [this, bL_list, ahd]
  have ep : (bL L).extract ((bL L).size - kr) (bL L).size = bL (L.drop (L.length - kr)) := by
    apply bytes_eq
    rw [extract_drop, bL_list, bL_list, bL_size]
  have hG := fun W => group_any (bL (ahd mi L kr ++ L.take (L.length - kr))) (bL Q) W (by
    rw [bL_size, bL_size, List.length_append, List.length_take]
    have : (ahd mi L kr).length ≤ 40 := by unfold ahd; rw [List.length_replicate]; omega
    calc ((ahd mi L kr).length + min (L.length - kr) L.length) * (Q.length + 1) ≤ 200 * 4 := Nat.mul_le_mul (by omega) (by omega)
      _ ≤ _ := by omega)
  rw [bL_list, bL_list, bL_size] at hG
  rw [← ea] at hG
  have hgl := grpTo_length (ahd mi L kr ++ L.take (L.length - kr)) Q (ahd mi L kr ++ L.take (L.length - kr)).length
  have hal : (ahd mi L kr ++ L.take (L.length - kr)).length ≤ 200 := by
    unfold ahd
    rw [List.length_append, List.length_replicate, List.length_take]; omega
  have hgl2 : (ahd mi L kr ++ L.take (L.length - kr)).length * (Q.length + 1) ≤ 200 * 4 := Nat.mul_le_mul hal (by omega)
  rw [ep] at hPa
  refine (format_core b c made lang (bL P) (bL Q) s (bL L) _ _ _ _ mi mf xf k kr pl rk n _ w hM hO hR hN hWh hG hZ hPa (by rw [bL_size, List.length_replicate]; omega) (by rw [ByteArray.size_extract, bL_size]; omega) (by show (bL _).size ≤ _; rw [bL_size]; omega) (by rw [bL_size]; omega) (by rw [bL_size, List.length_drop]; omega)).mono ?_
  rintro e w' ⟨rfl, h2, h3⟩
  refine ⟨ret_str ?_, h2, h3⟩
  unfold fmtB fmtL
  rw [ea]
  apply bytes_eq
  rw [bL_list]
  have ez : (Lib.trimB L 48).isEmpty = zeroD L := rfl
  rw [ez]
  by_cases h0 : kr = 0
  · subst h0
    cases pl <;> cases n <;> cases zeroD L <;> simp [bL]
  · have h1 : ¬ ((kr : Int) = 0) := by omega
    cases pl <;> cases n <;> cases zeroD L <;> simp [bL, h0]
end Go.Proofs.YtjdpmdheapmanaaGreatDoor

namespace Go.Proofs.YtjdpmdheapmanaaGreatDoor
open Go.RowKit
set_option linter.unusedVariables false
set_option linter.unusedSimpArgs false
theorem noughts_digs (j : Nat) : (List.replicate j (48 : UInt8)).all digB = true := by
  rw [List.all_eq_true]
  intro c hc
  rw [(List.mem_replicate.1 hc).2]
  rfl
theorem fixF_ahd (l : List UInt8) (k j : Nat) (hk : k ≤ l.length) (h : l.length - k + j ≤ 100) : fixF (List.replicate j 48 ++ l) k = fixF l k := by
  funext p
  unfold fixF fixJ
  have e : (List.replicate j (48 : UInt8) ++ l).length = j + l.length := by rw [List.length_append, List.length_replicate]
  rw [e]
  obtain ⟨o, ho⟩ : ∃ o, 100 - (l.length - k) = o := ⟨_, rfl⟩
  have eo : 100 - (j + l.length - k) = o - j := by omega
  have hoj : j ≤ o := by omega
  rw [eo, ho]
  by_cases h1 : o ≤ p ∧ p < o + l.length
  · rw [if_pos h1, if_pos (by omega), List.getD_eq_getElem?_getD, List.getD_eq_getElem?_getD, List.getElem?_append_right (by rw [List.length_replicate]; omega), List.length_replicate]
    rw [show p - (o - j) - j = p - o by omega]
  · rw [if_neg h1]
    by_cases h2 : o - j ≤ p ∧ p < o - j + (j + l.length)
    · rw [if_pos h2, List.getD_eq_getElem?_getD, List.getElem?_append_left (by rw [List.length_replicate]; omega), List.getElem?_replicate_of_lt (by omega)]
      rfl
    · rw [if_neg h2]
theorem rounded_head (l : List UInt8) (k xf : Nat) (hN : Num l k) : min k xf < (roundL l k xf).length ∧ ((roundL l k xf).head? ≠ some 48 ∨ (roundL l k xf).length = min k xf + 1) := by
  have hlt := hN.lt
  by_cases h : xf < k
  · rw [Nat.min_eq_right (by omega)]
    refine ⟨?_, round_head l k xf hN h⟩
    have := roundL_len l k xf (by omega) h
    omega
  · rw [Nat.min_eq_left (by omega)]
    have : roundL l k xf = l := by unfold roundL; rw [if_neg h]
    rw [this]
    exact ⟨hlt, hN.head⟩
theorem rnd2_head (l : List UInt8) (k mf : Nat) (hk : k < l.length) (hh : l.head? ≠ some 48 ∨ l.length = k + 1) :
    rnd2K l k mf < (rnd2L l k mf).length ∧ ((rnd2L l k mf).head? ≠ some 48 ∨ (rnd2L l k mf).length = rnd2K l k mf + 1) ∧ (rnd2L l k mf).length - rnd2K l k mf = l.length - k := by
  have hz := trimZ_le l k mf
  unfold rnd2K rnd2L
  split
  · rw [List.length_take, head_take _ _ (by omega)]
    refine ⟨by omega, ?_, by omega⟩
    rcases hh with h | h
    · exact Or.inl h
    · right; omega
  · exact ⟨hk, hh, rfl⟩
theorem rnd2_digs {l : List UInt8} (k mf : Nat) (h : l.all digB = true) : (rnd2L l k mf).all digB = true := by
  unfold rnd2L
  split
  · exact all_take h _
  · exact h
theorem rnd_digs {l : List UInt8} (k mf xf : Nat) (h : l.all digB = true) : (rndL l k mf xf).all digB = true := by
  unfold rndL
  rw [List.all_append, rnd2_digs _ _ (roundL_digs l k xf h), noughts_digs, Bool.and_true]
structure ShapeOk (l : List UInt8) (k mi mf xf : Nat) (S : List UInt8) (kr : Nat) : Prop where
  digs : S.all digB = true
  fix : fixF S kr = fixF (roundL l k xf) (min k xf)
  sc : mf ≤ kr
  sc2 : kr ≤ max xf mf
  lt : kr < S.length
  least : mi ≤ S.length - kr
  big : S.length ≤ 110
  whole : S.length - kr ≤ 100
  last : mf < kr → S.getLast? ≠ some 48
  head : mi < S.length - kr → S.head? ≠ some 48
theorem shape_ok (l : List UInt8) (k mi mf xf : Nat) (hN : Num l k) (h1 : 1 ≤ mi) (hmi : mi ≤ 20) (hmf : mf ≤ 20) (hxf : xf ≤ 20) :
    ShapeOk l k mi mf xf (ahd mi (rndL l k mf xf) (rndK l k mf xf) ++ rndL l k mf xf) (rndK l k mf xf) := by
  have h60 := hN.le
  have hlt := hN.lt
  obtain ⟨r1, r2⟩ := rounded_head l k xf hN
  have r3 := (roundL_length l k xf (by omega)).2
  have r4 := roundL_digs l k xf hN.digs
  have hk1 : min k xf ≤ xf := Nat.min_le_right _ _
  have hd := rnd_digs k mf xf hN.digs
  unfold rndL rndK at *
  generalize hL1 : roundL l k xf = L1 at *
  generalize hK1 : min k xf = k1 at *
  obtain ⟨s1, s2, s3⟩ := rnd2_head L1 k1 mf r1 r2
  have s4 := (rnd2_le L1 k1 mf (by omega)).2
  have hkk : rnd2K L1 k1 mf ≤ k1 := by unfold rnd2K; split <;> omega
  have hfx : fixF (rnd2L L1 k1 mf) (rnd2K L1 k1 mf) = fixF L1 k1 := by
    unfold rnd2L rnd2K
    split
    · exact trim_fix L1 k1 mf (by omega) (by assumption)
    · rfl
  have hla : mf < rnd2K L1 k1 mf → (rnd2L L1 k1 mf).getLast? ≠ some 48 := by
    unfold rnd2L rnd2K
    split
    · intro h
      exact trim_last L1 k1 mf (by omega) (by assumption) h
    · intro h
      omega
  generalize rnd2L L1 k1 mf = L2 at *
  generalize rnd2K L1 k1 mf = k2 at *
  have eL : (L2 ++ List.replicate (mf - k2) (48 : UInt8)).length = L2.length + (mf - k2) := by rw [List.length_append, List.length_replicate]
  have eA : (ahd mi (L2 ++ List.replicate (mf - k2) 48) (k2 + (mf - k2))).length = mi - (L2.length - k2) := by
    unfold ahd
    rw [List.length_replicate, eL]; omega
  have eS : (ahd mi (L2 ++ List.replicate (mf - k2) 48) (k2 + (mf - k2)) ++ (L2 ++ List.replicate (mf - k2) 48)).length = mi - (L2.length - k2) + (L2.length + (mf - k2)) := by rw [List.length_append, eA, eL]
  have hL2 : L2 ≠ [] := by intro e; rw [e] at s1; simp at s1
  refine ⟨?_, ?_, ?_, ?_, ?_, ?_, ?_, ?_, ?_, ?_⟩
  · rw [List.all_append, hd, Bool.and_true]
    unfold ahd
    exact noughts_digs _
  · unfold ahd
    rw [fixF_ahd _ _ _ (by rw [eL]; omega) (by rw [eL]; omega), fixF_pad, hfx, hL1, hK1]
  · omega
  · omega
  · rw [eS]; omega
  · rw [eS]; omega
  · rw [eS]; omega
  · rw [eS]; omega
  · intro h
    rw [show mf - k2 = 0 by omega, List.replicate_zero, List.append_nil, List.getLast?_append]
    have h3 := hla (by omega)
    obtain ⟨x, hx⟩ := Option.ne_none_iff_exists'.1 (fun e => hL2 (List.getLast?_eq_none_iff.1 e))
    rw [hx] at h3 ⊢
    exact h3
  · intro h
    rw [eS] at h
    have h0 : mi - (L2.length - k2) = 0 := by omega
    have ea : ahd mi (L2 ++ List.replicate (mf - k2) 48) (k2 + (mf - k2)) = [] := by
      apply List.length_eq_zero_iff.1
      rw [eA]; exact h0
    rw [ea, List.nil_append]
    have h4 : L2.head? ≠ some 48 := by
      rcases s2 with h5 | h5
      · exact h5
      · omega
    cases L2 with
    | nil => exact absurd rfl hL2
    | cons a b => exact h4
def wantD (pl : Bool) (a q : List UInt8) (i : Nat) : List UInt8 := if pl then a.take i else grpTo a q i
theorem want_size (pl : Bool) (a q : List UInt8) (i : Nat) (hi : i ≤ 200) (hq : q.length ≤ 3) : (wantD pl a q i).length ≤ 800 := by
  unfold wantD
  split
  · rw [List.length_take]; omega
  · have := grpTo_length a q i
    have h2 : i * (q.length + 1) ≤ 200 * 4 := Nat.mul_le_mul hi (by omega)
    omega
theorem fmt_want (neg pl : Bool) (l : List UInt8) (k mi : Nat) (p q : List UInt8) (hk : k ≤ l.length) :
    fmtL neg pl l k mi p q = (if neg && !zeroD l then [45] else []) ++ (wantD pl ((ahd mi l k ++ l).take ((ahd mi l k ++ l).length - k)) q ((ahd mi l k ++ l).length - k) ++ if k = 0 then [] else p ++ (ahd mi l k ++ l).drop ((ahd mi l k ++ l).length - k)) := by
  have e1 : (ahd mi l k ++ l).length - k = (ahd mi l k).length + (l.length - k) := by rw [List.length_append]; omega
  have e2 : (ahd mi l k ++ l).take ((ahd mi l k).length + (l.length - k)) = ahd mi l k ++ l.take (l.length - k) := by
    rw [List.take_append, List.take_of_length_le (by omega), show (ahd mi l k).length + (l.length - k) - (ahd mi l k).length = l.length - k by omega]
  have e3 : (ahd mi l k ++ l).drop ((ahd mi l k).length + (l.length - k)) = l.drop (l.length - k) := by
    rw [List.drop_append, List.drop_of_length_le (by omega), List.nil_append, show (ahd mi l k).length + (l.length - k) - (ahd mi l k).length = l.length - k by omega]
  have e4 : (ahd mi l k ++ l.take (l.length - k)).length = (ahd mi l k).length + (l.length - k) := by rw [List.length_append, List.length_take]; omega
  rw [e1, e2, e3]
  unfold fmtL wantD
  dsimp only
  rw [e4]
  have e5 : (ahd mi l k ++ l.take (l.length - k)).take ((ahd mi l k).length + (l.length - k)) = ahd mi l k ++ l.take (l.length - k) := List.take_of_length_le (by rw [e4]; exact Nat.le_refl _)
  rw [e5]
  by_cases h0 : k = 0
  · simp only [h0, if_true, List.append_nil]
    cases pl <;> cases (neg && !zeroD l) <;> simp
  · simp only [h0, if_false]
    cases pl <;> cases (neg && !zeroD l) <;> simp
theorem shape_zero (l : List UInt8) (k mi : Nat) (hd : l.all digB = true) (hk : k ≤ l.length) (hk2 : k ≤ 100) (h : (ahd mi l k ++ l).length - k ≤ 100) : eqF (fixF (ahd mi l k ++ l) k) (fun _ => 0) 200 = zeroD l := by
  have hA : (ahd mi l k ++ l).all digB = true := by
    rw [List.all_append, hd, Bool.and_true]
    unfold ahd
    exact noughts_digs _
  rw [eqF_num (fixF_digs _ _ hA) nought_digs 200, nought_hor, hor_fixF _ _ hA (by rw [List.length_append]; omega) h hk2]
  have e : numL (ahd mi l k ++ l) = numL l := by
    unfold ahd
    rw [numL_append, numL_noughts, Nat.zero_mul, Nat.zero_add]
  rw [e, show zeroD l = zeroB l from rfl, zeroB_num l hd]
  have hp := ten_pos (100 - k)
  apply decide_eq_decide.2
  constructor
  · intro h0
    have h1 : numL l * 10 ^ (100 - k) = 0 := by exact_mod_cast h0
    rcases Nat.mul_eq_zero.1 h1 with h2 | h2
    · exact h2
    · omega
  · intro h0
    rw [h0, Nat.zero_mul]
    rfl
theorem bL_append (a b : List UInt8) : bL a ++ bL b = bL (a ++ b) := by
  apply bytes_eq
  rw [ByteArray.data_append, Array.toList_append, bL_list, bL_list, bL_list]
theorem ext_one (S : ByteArray) (SL : List UInt8) (i : Nat) (hS : S.data.toList = SL) (hi : i < SL.length) : S.extract i (i + 1) = bL [SL.getD i 0] := by
  apply bytes_eq
  rw [bL_list, ByteArray.data_extract, Array.toList_extract, List.extract_eq_take_drop, hS, show i + 1 - i = 1 by omega, List.getD_eq_getElem?_getD, List.getElem?_eq_getElem hi, List.drop_eq_getElem_cons hi]
  rfl
theorem ext_drop (S : ByteArray) (SL : List UInt8) (i : Nat) (hS : S.data.toList = SL) : S.extract i S.size = bL (SL.drop i) := by
  apply bytes_eq
  rw [bL_list, extract_drop, hS]
theorem want_no (pl : Bool) (S : ByteArray) (SL q : List UInt8) (nn i : Nat) (hS : S.data.toList = SL) (hi : i < nn) (hn : nn ≤ SL.length) (h : pl = true ∨ ¬ (0 < i ∧ (nn - i) % 3 = 0)) :
    bL (wantD pl (SL.take nn) q i) ++ S.extract i (i + 1) = bL (wantD pl (SL.take nn) q (i + 1)) := by
  have hl : (SL.take nn).length = nn := by rw [List.length_take]; omega
  rw [ext_one S SL i hS (by omega), bL_append]
  congr 1
  have eg : (SL.take nn).getD i 0 = SL.getD i 0 := by
    rw [List.getD_eq_getElem?_getD, List.getD_eq_getElem?_getD, List.getElem?_take_of_lt hi]
  unfold wantD
  cases pl
  · simp only [Bool.false_eq_true, if_false]
    have h2 : ¬ (0 < i ∧ (nn - i) % 3 = 0) := by
      rcases h with h | h
      · cases h
      · exact h
    rw [grpTo_no _ _ _ (by rw [hl]; exact h2), eg]
  · simp only [if_true]
    rw [List.take_add_one (l := SL.take nn), List.getElem?_take_of_lt hi, List.getD_eq_getElem?_getD, List.getElem?_eq_getElem (by omega : i < SL.length)]
    rfl
theorem want_yes (S : ByteArray) (SL q : List UInt8) (nn i : Nat) (hS : S.data.toList = SL) (hi : i < nn) (hn : nn ≤ SL.length) (h0 : 0 < i) (h3 : (nn - i) % 3 = 0) :
    (bL (wantD false (SL.take nn) q i) ++ bL q) ++ S.extract i (i + 1) = bL (wantD false (SL.take nn) q (i + 1)) := by
  have hl : (SL.take nn).length = nn := by rw [List.length_take]; omega
  rw [ext_one S SL i hS (by omega), bL_append, bL_append]
  congr 1
  have eg : (SL.take nn).getD i 0 = SL.getD i 0 := by
    rw [List.getD_eq_getElem?_getD, List.getD_eq_getElem?_getD, List.getElem?_take_of_lt hi]
  unfold wantD
  simp only [Bool.false_eq_true, if_false]
  rw [grpTo_yes _ _ _ h0 (by rw [hl]; exact h3), eg]
theorem sgn_some (s : ByteArray) (x : List UInt8) (r : List UInt8 × List UInt8) (hs : s.toList = x) (hx : sgn ⟨x.toArray⟩ = r) : sgn s = r := by
  have : s = ⟨x.toArray⟩ := by
    apply bytes_eq
    rw [← Lib.toList_data, hs]
  rw [this, hx]
theorem sgn_none (s : ByteArray) (h : ∀ x ∈ langs, ¬ s.toList = x.1) : sgn s = ([46], [44]) := by
  have e : langs.find? (fun x => s == ⟨x.1.toArray⟩) = none := by
    rw [List.find?_eq_none]
    intro x hx hb
    have h1 : (s.data == x.1.toArray) = true := hb
    have h2 : s.data = x.1.toArray := by simpa using h1
    exact h x hx (by rw [Lib.toList_data, h2])
  unfold sgn
  rw [e]
end Go.Proofs.YtjdpmdheapmanaaGreatDoor
