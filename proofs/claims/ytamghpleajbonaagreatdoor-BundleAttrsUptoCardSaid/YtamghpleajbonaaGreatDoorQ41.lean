/-
  Several texts put together (part 41): what the law and the program call, walked; their contracts.
-/
import Derived.Test.YtamghpleajbonaaGreatDoorQ36
import Derived.Test.YtamghpleajbonaaGreatDoorQ40
import Derived.Test.YtamghpleajbonaaGreatDoorQ39
import Derived.Test.YtamghpleajbonaaGreatDoorQ4
namespace Go.Proofs.YtamghpleajbonaaGreatDoor
open Go.RowKit Go.ChangeMaps
set_option linter.unusedVariables false
set_option linter.unusedSimpArgs false
def lastA (nm : ByteArray) : List AT → Bool × List EL → Bool × List EL
  | [], z => z
  | .mk t p :: r, z => lastA nm r (if t = nm then (true, p) else z)
def attrF (val : List EL) (ats : List AT) (nm : ByteArray) : Bool × List EL := if nm.size = 0 then (decide (0 < val.length), val) else lastA nm ats (false, [])
theorem nil_pat (W : World) : PatAt W [] (.slice none 0 0) := ⟨none, 0, rfl, Nat.le_refl _, Nat.zero_le _, fun h => absurd h (by simp)⟩
theorem lastA_size (nm : ByteArray) : ∀ (l : List AT) (z : Bool × List EL), sizeEs (lastA nm l z).2 ≤ sizeEs z.2 + sizeTs l
  | [], z => by simp [lastA]
  | .mk t p :: r, z => by
    rw [lastA, sizeTs]
    have := lastA_size nm r (if t = nm then (true, p) else z)
    split at this
    · rw [if_pos (by assumption)]; dsimp only at this; omega
    · rw [if_neg (by assumption)]; omega
set_option maxHeartbeats 8000000 in
set_option maxRecDepth 100000 in
theorem attrs_core {W0 : World} (ty lv fr tu : Int) (tx nm0 nm : ByteArray) (val : List EL) (ats : List AT) (v u : Value) (hv : PatAt W0 val v) (hu : LieAt (TsAt W0 ats) u ats.length) (hsz : sizeEs val + sizeTs ats ≤ 4000000)
    (hA : ∀ W, Below W0.heap.size W0 W → Calls Tryz.prog 8 #[entV ty lv tx nm0 v u fr tu, .string nm] W fun e w' => ∃ A n c, e = .returned (.tuple #[.slice A n c, .bool (attrF val ats nm).1]) ∧ PatAt w' (attrF val ats nm).2 (.slice A n c) ∧ Below W.heap.size W w') :
    Calls Tryz.prog 3 #[entV ty lv tx nm0 v u fr tu, .string nm] W0 fun e w' => e = .returned (.bool true) ∧ Below W0.heap.size W0 w' := by
  have HA := Lib.hid hA
  have HSm := Lib.hid (fun W h => small_any ty lv tx nm0 val ats v u fr tu hv hu hsz W h)
  have HV := Lib.hid hv
  have HU := Lib.hid hu
  have Hsz := Lib.hid hsz
  obtain ⟨A1, c1, rfl, _⟩ := hv
  obtain ⟨A2, c2, rfl, _⟩ := hu
  have hal : (ats.length : Int) ≤ 4000000 := by have := sizeTs_length ats; omega
  have hvl : (val.length : Int) ≤ 4000000 := by have := sizeEs_length val; omega
  clear hA hsz
  unfold entV at *
  go_enter Tryz.func3, Tryz.ntmps3
  go_wp2_with fail
  go_at_call 6
  refine (head15_any _).mono ?_
  rintro e w1 ⟨rfl, b1⟩
  have E1 := Lib.hid ((BoxAt.new W0 #[.int .i64 ty, .int .i64 lv, .string tx, .string nm0, .slice A1 val.length c1, .slice A2 ats.length c2, .int .i64 fr, .int .i64 tu] 26).later b1)
  have B1 := Lib.hid (((Below.refl W0.heap.size W0).alloc (Nat.le_refl _) (.cells #[.int .i64 ty, .int .i64 lv, .string tx, .string nm0, .slice A1 val.length c1, .slice A2 ats.length c2, .int .i64 fr, .int .i64 tu] 26)).trans (b1.mono (by simp)))
  clear b1
  obtain ⟨q0, q1, q2, q3, q4, q5, q6, q7, _⟩ := cellsE E1.out
  go_wp2_with fail
  go_at_call 7
  refine (HSm.out _ B1.out).mono ?_
  rintro e w2 ⟨⟨sb, rfl⟩, b2⟩
  have E2 := Lib.hid (E1.out.later b2)
  have B2 := Lib.hid (B1.out.trans (b2.mono B1.out.size))
  clear b2 q0 q1 q2 q3 q4 q5 q6 q7 E1 B1
  obtain ⟨q0, q1, q2, q3, q4, q5, q6, q7, _⟩ := cellsE E2.out
  cases sb with
  | false =>
    go_wp2
    go_ret
    exact ⟨rfl, B2.out⟩
  | true =>
    by_cases h60 : 60 < ats.length
    · have f1 : decide ((60 : Int) < (ats.length : Int)) = true := decide_eq_true (by omega)
      have f1n : decide (60 < ats.length) = true := decide_eq_true h60
      go_wp2
      go_ret
      exact ⟨rfl, B2.out⟩
    have f1 : decide ((60 : Int) < (ats.length : Int)) = false := decide_eq_false (by omega)
    have f1n : decide (60 < ats.length) = false := decide_eq_false h60
    go_wp2_with fail
    go_at_call 8
    refine (HA.out _ B2.out).mono ?_
    rintro e w3 ⟨A3, n3, c3, rfl, hp3, b3⟩
    have E3 := Lib.hid (E2.out.later b3)
    have B3 := Lib.hid (B2.out.trans (b3.mono B2.out.size))
    have HP3 := Lib.hid hp3
    clear b3 q0 q1 q2 q3 q4 q5 q6 q7 E2 B2 hp3
    obtain ⟨q0, q1, q2, q3, q4, q5, q6, q7, _⟩ := cellsE E3.out
    have hzs : (nm.toList.isEmpty) = decide (nm.size = 0) := by
      rw [Lib.toList_data, ← size_data]
      cases nm.data.toList <;> simp
    by_cases hz : nm.size = 0
    · have z1 : nm.toList = [] := by
        rw [Lib.toList_data]
        exact List.eq_nil_of_length_eq_zero (by rw [size_data]; exact hz)
      have z2 : (nm.toList == []) = true := by rw [z1]; rfl
      have z3 : nm.toList.isEmpty = true := by rw [z1]; rfl
      have ea : attrF val ats nm = (decide (0 < val.length), val) := by unfold attrF; rw [if_pos hz]
      rw [ea] at HP3 ⊢
      have d1 : decide ((0 : Int) < (val.length : Int)) = decide (0 < val.length) := by apply decide_eq_decide.2; omega
      have HE := fun W (h : Below w3.heap.size w3 W) => entry_same (W0 := w3) 0 0 ⟨#[]⟩ ⟨#[]⟩ val [] 0 0 0 0 HP3.out (HV.out.later B3.out) (u1 := .slice none 0 0) (u2 := .slice none 0 0) ⟨none, 0, rfl, Nat.le_refl _, Nat.zero_le _, fun h => absurd h (by simp)⟩ ⟨none, 0, rfl, Nat.le_refl _, Nat.zero_le _, fun h => absurd h (by simp)⟩ (by have := Hsz.out; omega) (by simp [sizeTs]) W h
      unfold entV at HE
      have HEE := Lib.hid HE
      clear HE ea hz z1 hzs
      cases hv0 : decide (0 < val.length)
      all_goals
        rw [hv0] at d1
        go_wp2_with fail
        go_at_call 9
        refine (HEE.out _ (Below.refl _ _)).mono ?_
        rintro e w4 ⟨rfl, b4⟩
        go_wp2
        go_ret
        exact ⟨rfl, B3.out.trans (b4.mono B3.out.size)⟩
    · have z1 : ¬ nm.toList = [] := by
        rw [Lib.toList_data]
        intro h
        apply hz
        rw [← size_data, h]
        rfl
      have z2 : (nm.toList == []) = false := by rw [beq_eq_false_iff_ne]; exact z1
      have z3 : nm.toList.isEmpty = false := by rw [hzs]; exact decide_eq_false hz
      have ea : attrF val ats nm = lastA nm ats (false, []) := by unfold attrF; rw [if_neg hz]
      rw [ea] at HP3 ⊢
      have hR := lastA_size nm ats (false, [])
      obtain ⟨R, hRR⟩ : ∃ R, lastA nm ats (false, []) = R := ⟨_, rfl⟩
      rw [hRR] at HP3 hR ⊢
      have HRR := Lib.hid hRR
      have HRs := Lib.hid hR
      clear ea hz z1 hzs hRR hR
      obtain ⟨okR, lR⟩ := R
      dsimp only at *
      go_wp2_with fail
      go_loopw [7, 8, 39] (fun t7 t8 t39 wr => ∃ (i : Nat) (Aw : Option Addr) (nw cw : Nat) (zb : Bool) (zl : List EL), t39 = .int .i64 i ∧ t7 = .slice Aw nw cw ∧ t8 = .bool zb ∧ i ≤ ats.length ∧ Hid (lastA nm (ats.drop i) (zb, zl) = (okR, lR)) ∧ Hid (PatAt W0 zl (.slice Aw nw cw)) ∧ Hid (Below w3.heap.size w3 wr)) (fun _ _ t39 _ => ats.length - (intOf t39).toNat)
      case atStart => exact ⟨0, none, 0, 0, false, [], rfl, rfl, rfl, Nat.zero_le _, HRR, Lib.hid (nil_pat W0), Lib.hid (Below.refl _ _)⟩
      case round =>
        obtain ⟨i, Aw, nw, cw, zb, zl, rfl, rfl, rfl, hi, HL, HZ, HB⟩ := hrel
        have hbel : Below W0.heap.size W0 wr := B3.out.trans (HB.out.mono B3.out.size)
        have hbs := hbel.size
        by_cases hlt : i < ats.length
        · obtain ⟨b, o, c', e, hb, hcs⟩ := ats_get HU.out hlt
          cases e
          obtain ⟨t, p, hel⟩ : ∃ t p, ats[i]? = some (.mk t p) := by
            cases e : ats[i] with
            | mk t p => exact ⟨t, p, by rw [List.getElem?_eq_getElem hlt, e]⟩
          obtain ⟨c0, uv, k1, hpat⟩ := hcs i t p hel
          rw [← hbel.cell (p := ⟨b, o + i * 2, none⟩) hb] at c0
          rw [← hbel.cell (p := ⟨b, o + i * 2 + 1, none⟩) hb] at k1
          have HPt := Lib.hid hpat
          obtain ⟨A4, c4, rfl, _, _, _⟩ := hpat
          have hbw : b < wr.heap.size := by omega
          have f2 : decide ((i : Int) < (ats.length : Int)) = true := decide_eq_true (by omega)
          have hL := HL.out
          have hget : ats[i] = .mk t p := by
            have := List.getElem?_eq_getElem hlt
            rw [hel] at this
            exact (Option.some.inj this).symm
          rw [List.drop_eq_getElem_cons hlt, hget, lastA] at hL
          clear hcs hel hget HL
          by_cases hn : t = nm
          · rw [if_pos hn] at hL
            have n1 : (t.toList == nm.toList) = true := by rw [hn]; exact beq_self_eq_true _
            have HL2 := Lib.hid hL
            clear hL hn
            go_wp2_with fail
            go_roundw
            case rel => exact ⟨i + 1, A4, p.length, c4, true, p, by go_num, rfl, rfl, hlt, HL2, HPt, Lib.hid (below_new HB.out (Nat.le_refl _) _)⟩
            case measure => simp [intOf]; omega
          · rw [if_neg hn] at hL
            have n1 : (t.toList == nm.toList) = false := by
              rw [beq_eq_false_iff_ne]
              intro h
              apply hn
              apply bytes_eq
              rw [Lib.toList_data, Lib.toList_data] at h
              exact h
            have HL2 := Lib.hid hL
            clear hL hn
            go_wp2_with fail
            go_roundw
            case rel => exact ⟨i + 1, Aw, nw, cw, zb, zl, by go_num, rfl, rfl, hlt, HL2, HZ, Lib.hid (below_new HB.out (Nat.le_refl _) _)⟩
            case measure => simp [intOf]; omega
        · obtain rfl : i = ats.length := by omega
          have f2 : decide ((ats.length : Int) < (ats.length : Int)) = false := decide_eq_false (by omega)
          have hL := HL.out
          rw [List.drop_length, lastA] at hL
          obtain ⟨rfl, rfl⟩ := Prod.mk.inj hL
          have HE := entry_same (W0 := wr) 0 0 ⟨#[]⟩ ⟨#[]⟩ zl [] 0 0 0 0 (HP3.out.later HB.out) (HZ.out.later hbel) (u1 := .slice none 0 0) (u2 := .slice none 0 0) ⟨none, 0, rfl, Nat.le_refl _, Nat.zero_le _, fun h => absurd h (by simp)⟩ ⟨none, 0, rfl, Nat.le_refl _, Nat.zero_le _, fun h => absurd h (by simp)⟩ (by have := HRs.out; have := Hsz.out; simp [sizeEs] at *; omega) (by simp [sizeTs]) wr (Below.refl _ _)
          unfold entV at HE
          have HEE := Lib.hid HE
          have HBB := Lib.hid hbel
          clear HE hL hbel
          cases zb
          all_goals
            go_wp2_with fail
            go_at_call 9
            refine HEE.out.mono ?_
            rintro e w4 ⟨rfl, b4⟩
            go_wp2
            go_ret
            exact ⟨rfl, HBB.out.trans (b4.mono HBB.out.size)⟩
end Go.Proofs.YtamghpleajbonaaGreatDoor
