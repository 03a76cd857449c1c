/-
  Several texts put together (part 17): what the law and the program call, walked; their contracts.
-/
import Derived.Test.YtamghpleajbonaaGreatDoorQ16
import Derived.Deep.DeepCutAuto
import Derived.Test.YtamghpleajbonaaGreatDoorQ4
namespace Go.Proofs.YtamghpleajbonaaGreatDoor
open Go.RowKit
set_option linter.unusedVariables false
set_option linter.unusedSimpArgs false
theorem len0 {α : Type} (l : List α) : decide (l.length = 0) = l.isEmpty := by cases l <;> simp
def GotP (rb : Nat) (s : ByteArray) (w : World) (r : Option (List EL × Nat)) (e : Ending) (w' : World) : Prop :=
  Kp rb w w' ∧ ∃ (A : Option Addr) (n c j : Nat), e = .returned (.tuple #[.slice A n c, .bool r.isSome]) ∧ Rd rb s j w' ∧ j ≤ s.size ∧ n ≤ 4000000 ∧ ∀ l m, r = some (l, m) → m = j ∧ l.length = n ∧ PatF w' (Since w.heap.size w') l (.slice A n c)
def PatTo (rb : Nat) (s : ByteArray) (d : Nat) (Q : Nat → Option (List EL × Nat)) : Prop := ∀ (i : Nat) (w : World), Rd rb s i w → i ≤ s.size → Calls Tryz.prog 96 #[pt rb, .int .i64 d] w (GotP rb s w (Q i))
def GotV (rb : Nat) (s : ByteArray) (w : World) (r : Option (VA × Nat)) (e : Ending) (w' : World) : Prop :=
  Kp rb w w' ∧ ∃ (X : ByteArray) (df : Bool) (A : Option Addr) (n c j : Nat), e = .returned (.tuple #[.agg #[.string X, .bool df, .slice A n c], .bool r.isSome]) ∧ Rd rb s j w' ∧ j ≤ s.size ∧ n ≤ 4000000 ∧
    ∀ x m, r = some (x, m) → m = j ∧ ∃ l, x = .mk X df l ∧ l.length = n ∧ PatF w' (Since w.heap.size w') l (.slice A n c)
abbrev zV : Array Value := #[.string ⟨#[]⟩, .bool false, .slice none 0 0]
set_option maxRecDepth 100000 in
theorem res3v {fn : Func} {A M : Nat} {tmps : Array Value} {w : World} {b : Nat} {x0 x1 x2 v : Value} {t : TypeId} (hres : fn.results = #[.cell A 101, .tmp M]) (ha : tmps.getD A undef = .pointer (some ⟨b, 0, none⟩)) (hm : tmps.getD M undef = v)
    (hb : BoxAt w b #[x0, x1, x2] t) : (results fn tmps).run Tryz.prog w = .ok (.tuple #[.agg #[x0, x1, x2], v]) w := by
  obtain ⟨q0, q1, q2, _⟩ := cells3 hb
  have ha' : tmps[A]?.getD undef = .pointer (some ⟨b, 0, none⟩) := by rw [← ha]; simp
  have hm' : tmps[M]?.getD undef = v := by rw [← hm]; simp
  simp [results, hres, ha', hm', go_sem, q0, q1, q2]
theorem end3v {fn : Func} {R : Ending → World → Prop} {a : Act} {w2 : World} {A M b : Nat} {x0 x1 x2 v : Value} {t : TypeId} (hres : fn.results = #[.cell A 101, .tmp M]) (hbox : BoxAt w2 b #[x0, x1, x2] t)
    (ha : a.tmps.getD A undef = .pointer (some ⟨b, 0, none⟩)) (hm : a.tmps.getD M undef = v) (hd : a.defers = []) (hR : R (.returned (.tuple #[.agg #[x0, x1, x2], v])) w2) : bodyPost Tryz.prog fn R .ret a w2 :=
  bodyPost_ret (res3v hres ha hm hbox) hd hR
theorem gotV_none {rb : Nat} {s : ByteArray} {w w2 : World} {j : Nat} (hK : Kp rb w w2) (hR : Rd rb s j w2) (hj : j ≤ s.size) : GotV rb s w none (.returned (.tuple #[.agg zV, .bool false])) w2 :=
  ⟨hK, ⟨#[]⟩, false, none, 0, 0, j, rfl, hR, hj, Nat.zero_le _, fun x m h => by cases h⟩
set_option maxHeartbeats 8000000 in
set_option maxRecDepth 100000 in
theorem variant_any {rb : Nat} {s : ByteArray} {d : Nat} {P : Nat → Res} (hs : s.size ≤ 1000000) (hd : d ≤ 4000) (hPat : PatTo rb s d (patS P s)) (i : Nat) (w : World) (hr : Rd rb s i w) (hi : i ≤ s.size) :
    Calls Tryz.prog 136 #[pt rb, .int .i64 d] w (GotV rb s w (variS P s i)) := by
  have HR := Lib.hid hr
  have hlt := hr.lt
  obtain ⟨R, hRR⟩ : ∃ R, variS P s i = R := ⟨_, rfl⟩
  rw [hRR]
  unfold variS at hRR
  have hT1 := fun W (h : Rd rb s i W) => take_any 42 W h (by omega) hi
  obtain ⟨b1, hb1⟩ : ∃ b, isAt s i 42 = b := ⟨_, rfl⟩
  have hi1 : (if b1 = true then i + 1 else i) ≤ s.size := by
    cases b1
    · exact hi
    · exact isAt_lt hb1
  rw [hb1] at hT1 hRR
  obtain ⟨i1, hi1e⟩ : ∃ i1, (if b1 = true then i + 1 else i) = i1 := ⟨_, rfl⟩
  rw [hi1e] at hT1 hi1 hRR
  have hT2 := fun W (h : Rd rb s i1 W) => take_any 91 W h (by omega) hi1
  obtain ⟨b2, hb2⟩ : ∃ b, isAt s i1 91 = b := ⟨_, rfl⟩
  have hi2 : b2 = true → i1 + 1 ≤ s.size := fun h => isAt_lt (hb2.trans h)
  rw [hb2] at hT2 hRR
  have HT1 := Lib.hid hT1
  have HT2 := Lib.hid hT2
  have Hpat := Lib.hid hPat
  have hd0 : (d : Int) ≤ 4000 := by omega
  clear hr hT1 hb1 hi1e hT2 hb2 hPat
  unfold pt at HT1 HT2 ⊢
  cases b2
  case false =>
    rw [if_neg (by simp)] at hRR
    subst hRR
    go_enter Tryz.func136, Tryz.ntmps136
    go_wp2_with fail
    go_at_call 122
    refine (HT1.out _ (HR.out.alloc _)).mono ?_
    rintro e w1 ⟨rfl, g1, g2⟩
    have G1 := Lib.hid g1
    have HK := Lib.hid (((Kp.refl rb w).alloc (Nat.le_of_lt hlt) _).trans g2)
    have hc := BoxAt.kp (BoxAt.new w zV 101) g2 (by omega)
    have hcl := hc.lt
    have HC := Lib.hid hc
    clear g1 g2 hc
    go_wp2_with fail
    go_at_call 122
    refine (HT2.out _ G1.out).mono ?_
    rintro e w2 ⟨rfl, g3, g4⟩
    have G3 := Lib.hid (show Rd rb s i1 w2 by simpa using g3)
    have HK2 := Lib.hid (HK.out.trans g4)
    have hc2 := BoxAt.kp HC.out g4 (by omega)
    have hcl2 := hc2.lt
    have HC2 := Lib.hid hc2
    obtain ⟨q0, q1, q2, p0, p1, p2⟩ := cells3 hc2
    clear g3 g4 hc2
    go_wp2
    exact end3v Tryz.results136 (box_set3 HC2.out _ _ _) rfl rfl rfl (gotV_none (HK2.out.set3 (Nat.le_refl _) hlt _ _ _) (G3.out.set3 (by omega) _ _ _) hi1)
  have hi3 := hi2 rfl
  rw [if_pos rfl] at hRR
  have hB := bl_ok s (i1 + 1) hi3
  have hP1 := fun W (h : Rd rb s (i1 + 1) W) => pass_any endBlank W h (by omega) hi3
  obtain ⟨a, ha⟩ : ∃ a, bl s (i1 + 1) = a := ⟨_, rfl⟩
  rw [ha] at hB hP1 hRR
  have hP2 := fun W (h : Rd rb s a W) => pass_any endName W h (by omega) hB.2
  have hP3 := fun W (h : Rd rb s a W) => pass_any endNumber W h (by omega) hB.2
  have hn := nm_ok s a hB.2
  have hu := nu_ok s a hB.2
  have he1 := ext_empty s a (nm s a) hn.1 hn.2
  have hk : keyE s a = if nm s a = a then nu s a else nm s a := rfl
  obtain ⟨n1, hn1⟩ : ∃ n1, nm s a = n1 := ⟨_, rfl⟩
  obtain ⟨u1, hu1⟩ : ∃ u1, nu s a = u1 := ⟨_, rfl⟩
  rw [hn1] at hn he1 hk hP2
  rw [hu1] at hu hk hP3
  obtain ⟨k, hke⟩ : ∃ k, keyE s a = k := ⟨_, rfl⟩
  rw [hke] at hk hRR
  have hk2 : a ≤ k ∧ k ≤ s.size := by rw [hk]; split <;> omega
  have he2 := ext_empty s a k hk2.1 hk2.2
  have hP4 := fun W (h : Rd rb s k W) => pass_any endBlank W h (by omega) hk2.2
  have hB2 := bl_ok s k hk2.2
  obtain ⟨m, hm⟩ : ∃ m, bl s k = m := ⟨_, rfl⟩
  rw [hm] at hB2 hP4 hRR
  have hT3 := fun W (h : Rd rb s m W) => take_any 93 W h (by omega) hB2.2
  obtain ⟨b3, hb3⟩ : ∃ b, isAt s m 93 = b := ⟨_, rfl⟩
  have hm1 : b3 = true → m + 1 ≤ s.size := fun h => isAt_lt (hb3.trans h)
  rw [hb3] at hT3 hRR
  obtain ⟨X1, hX1⟩ : ∃ X, s.extract a n1 = X := ⟨_, rfl⟩
  obtain ⟨X, hX⟩ : ∃ X, s.extract a k = X := ⟨_, rfl⟩
  have hX2 : n1 ≠ a → X1 = X := fun h => by rw [← hX1, ← hX, hk, if_neg h]
  have hX3 : n1 = a → s.extract a u1 = X ∧ u1 = k := fun h => by rw [← hX, hk, if_pos h]; exact ⟨rfl, rfl⟩
  have hk5 : n1 ≠ a → n1 = k := fun h => by rw [hk, if_neg h]
  rw [hX1] at he1 hP2
  rw [hX] at he2 hRR
  have HP1 := Lib.hid hP1
  have HP2 := Lib.hid hP2
  have HP3 := Lib.hid hP3
  have HP4 := Lib.hid hP4
  have HT3 := Lib.hid hT3
  have HRR := Lib.hid hRR
  have HE1 := Lib.hid he1
  have HE2 := Lib.hid he2
  have HX2 := Lib.hid hX2
  have HX3 := Lib.hid hX3
  have Hk5 := Lib.hid hk5
  have Hm1 := Lib.hid hm1
  clear hP1 ha hP2 hP3 hk hn1 hu1 hke hP4 hm hT3 hb3 hX1 hX hX2 hX3 hk5 he1 he2 hRR hi2 hm1
  unfold pt at HP1 HP2 HP3 HP4 HT3
  go_enter Tryz.func136, Tryz.ntmps136
  go_wp2_with fail
  go_at_call 122
  refine (HT1.out _ (HR.out.alloc _)).mono ?_
  rintro e w1 ⟨rfl, g1, g2⟩
  have G1 := Lib.hid g1
  have HK := Lib.hid (show Kp rb (w.alloc (.cells zV 101)) w1 from g2)
  clear g1 g2
  go_wp2_with fail
  go_at_call 122
  refine (HT2.out _ G1.out).mono ?_
  rintro e w2 ⟨rfl, g1, g2⟩
  have G1 := Lib.hid (show Rd rb s (i1 + 1) w2 by simpa using g1)
  have HK2 := Lib.hid (HK.out.trans g2)
  clear g1 g2
  go_wp2_with fail
  go_at_call 103
  refine (HP1.out _ G1.out).mono ?_
  rintro e w3 ⟨rfl, g1, g2⟩
  have G3 := Lib.hid g1
  have HK3 := Lib.hid (HK2.out.trans g2)
  clear g1 g2
  go_wp2_with fail
  go_at_call 103
  refine (HP2.out _ G3.out).mono ?_
  rintro e w4 ⟨rfl, g1, g2⟩
  have G4 := Lib.hid g1
  have HK4 := Lib.hid (HK3.out.trans g2)
  clear g1 g2
  obtain ⟨x1, hx1⟩ : ∃ x, X1.toList.isEmpty = x := ⟨_, rfl⟩
  go_upto_if 22 with fail
  go_cut [7] (fun v wx => v = .string X ∧ Hid (Rd rb s k wx) ∧ Hid (Kp rb (w.alloc (.cells zV 101)) wx))
  case first =>
    cases x1
    case false =>
      have hne : n1 ≠ a := fun h => by have := HE1.out; rw [hx1, decide_eq_true h] at this; cases this
      have HX := Lib.hid (HX2.out hne)
      have Hk := Lib.hid (Hk5.out hne)
      clear hne
      go_wp2_with fail
      go_meet
      exact ⟨by rw [HX.out], by rw [← Hk.out]; exact G4.out, HK4.out⟩
    case true =>
      have hne : n1 = a := by have := HE1.out; rw [hx1] at this; exact of_decide_eq_true this.symm
      obtain ⟨hX, hk⟩ := HX3.out hne
      have G4a := Lib.hid (show Rd rb s a w4 by rw [← hne]; exact G4.out)
      have HX := Lib.hid hX
      have Hk := Lib.hid hk
      clear hne hX hk
      go_wp2_with fail
      go_at_call 103
      refine (HP3.out _ G4a.out).mono ?_
      rintro e w5 ⟨rfl, g1, g2⟩
      have G5 := Lib.hid g1
      have HK5 := Lib.hid (HK4.out.trans g2)
      clear g1 g2
      go_wp2_with fail
      go_meet
      exact ⟨by rw [HX.out], by rw [← Hk.out]; exact G5.out, HK5.out⟩
  obtain ⟨rfl, HRk, HKk⟩ := hcut
  clear HP2 HP3 HE1 HX2 HX3 Hk5 G1 G3 G4 HK HK2 HK3 HK4 hx1
  go_wp2_with fail
  go_at_call 103
  refine (HP4.out _ HRk.out).mono ?_
  rintro e w5 ⟨rfl, g1, g2⟩
  have G5 := Lib.hid g1
  have HK5 := Lib.hid (HKk.out.trans g2)
  have hc5 := BoxAt.kp (BoxAt.new w zV 101) HK5.out (by omega)
  have hcl5 := hc5.lt
  have HC5 := Lib.hid hc5
  clear g1 g2
  have HA := Lib.hid ((Kp.refl rb w).alloc (Nat.le_of_lt hlt) (.cells zV 101))
  cases hx2 : X.toList.isEmpty
  case true =>
    have hka : k = a := by have := HE2.out; rw [hx2] at this; exact of_decide_eq_true this.symm
    have hR := HRR.out
    rw [if_pos hka] at hR
    subst hR
    obtain ⟨q0, q1, q2, p0, p1, p2⟩ := cells3 hc5
    clear hka hc5
    go_wp2
    exact end3v Tryz.results136 (box_set3 HC5.out _ _ _) rfl rfl rfl (gotV_none ((HA.out.trans HK5.out).set3 (Nat.le_refl _) hlt _ _ _) (G5.out.set3 (by omega) _ _ _) hB2.2)
  have hka : k ≠ a := fun h => by have := HE2.out; rw [hx2, decide_eq_true h] at this; cases this
  have hR := HRR.out
  rw [if_neg hka] at hR
  have HR2 := Lib.hid hR
  clear hka hR hc5
  cases b3
  case false =>
    have hR := HR2.out
    rw [if_neg (by simp)] at hR
    subst hR
    go_wp2_with fail
    go_at_call 122
    refine (HT3.out _ G5.out).mono ?_
    rintro e w6 ⟨rfl, g1, g2⟩
    have G6 := Lib.hid (show Rd rb s m w6 by simpa using g1)
    have HK6 := Lib.hid (HK5.out.trans g2)
    have hc6 := BoxAt.kp HC5.out g2 (by omega)
    have hcl6 := hc6.lt
    have HC6 := Lib.hid hc6
    obtain ⟨q0, q1, q2, p0, p1, p2⟩ := cells3 hc6
    clear g1 g2 hc6
    go_wp2
    exact end3v Tryz.results136 (box_set3 HC6.out _ _ _) rfl rfl rfl (gotV_none ((HA.out.trans HK6.out).set3 (Nat.le_refl _) hlt _ _ _) (G6.out.set3 (by omega) _ _ _) hB2.2)
  have hR := HR2.out
  rw [if_pos rfl] at hR
  obtain ⟨r, hr⟩ : ∃ r, patS P s (m + 1) = r := ⟨_, rfl⟩
  have hm1 := Hm1.out rfl
  have hPt := fun W h => Hpat.out (m + 1) W h hm1
  rw [hr] at hPt hR
  have HPt := Lib.hid hPt
  have HR3 := Lib.hid hR
  unfold pt at HPt
  clear hR hr hPt
  go_wp2_with fail
  go_at_call 122
  refine (HT3.out _ G5.out).mono ?_
  rintro e w6 ⟨rfl, g1, g2⟩
  have G6 := Lib.hid (show Rd rb s (m + 1) w6 by simpa using g1)
  have HK6 := Lib.hid (HK5.out.trans g2)
  have hs6 := HK6.out.size
  rw [World.size_alloc] at hs6
  clear g1 g2
  go_wp2_with fail
  go_at_call 96
  refine (HPt.out _ G6.out).mono ?_
  rintro e w7 ⟨h1, A, n, c, j, rfl, h2, hj, hn4, h3⟩
  have HK7 := Lib.hid (HK6.out.trans h1)
  have hc7 := BoxAt.kp (BoxAt.new w zV 101) HK7.out (by omega)
  have hcl7 := hc7.lt
  have HC7 := Lib.hid hc7
  have H2 := Lib.hid h2
  have H3 := Lib.hid h3
  have d0 := h2.c0
  have d1 := h2.c1
  have hl7 := h2.lt
  have hj0 : (j : Int) ≤ 1000000 := by omega
  have hss : (s.size : Int) ≤ 1000000 := by omega
  have hn0 : (n : Int) ≤ 4000000 := by omega
  obtain ⟨il, hil⟩ : ∃ b, isAt s j 10 = b := ⟨_, rfl⟩
  have Hil := Lib.hid hil
  clear h1 h2 h3 hc7 HPt hil
  go_upto_region 12 with fail
  go_cut [10] (fun v wx => v = .bool il ∧ wx = w7.drew)
  case first =>
    have hil := Hil.out
    unfold isAt at hil
    by_cases hjl : j < s.size
    · have z1 : decide ((j : Int) < (s.size : Int)) = true := decide_eq_true (by omega)
      have z2 : (j : Int) < (s.size : Int) := by omega
      have z3 : ((s[j].toNat : Int) == 10) = il := by
        rw [decide_eq_true hjl, Bool.true_and, at0_get _ _ (by rw [size_data]; exact hjl)] at hil
        rw [← hil]
        show ((s[j].toNat : Int) == 10) = (s[j] == 10)
        rw [Bool.eq_iff_iff, beq_iff_eq, beq_iff_eq, ← UInt8.toNat_inj]
        simp
        omega
      clear hil
      go_region
      go_wp2_with fail
      go_meet
      exact ⟨rfl, rfl⟩
    · have z1 : decide ((j : Int) < (s.size : Int)) = false := decide_eq_false (by omega)
      rw [decide_eq_false hjl, Bool.false_and] at hil
      subst hil
      go_region
      go_wp2_with fail
      go_meet
      exact ⟨rfl, rfl⟩
  obtain ⟨rfl, rfl⟩ := hcut
  obtain ⟨q0, q1, q2, p0, p1, p2⟩ := cells3 HC7.out
  have hA := HA.out.trans HK7.out
  have HKf := Lib.hid hA.drew
  clear hA d0 d1
  cases r with
  | none =>
    have hR := HR3.out
    dsimp only at hR
    subst hR
    go_wp2
    exact end3v Tryz.results136 (box_set3 HC7.out.drew _ _ _) rfl rfl rfl ⟨HKf.out.set3 (Nat.le_refl _) hlt _ _ _, X, b1, A, n, c, j, rfl, H2.out.drew.set3 (by omega) _ _ _, hj, hn4, fun x q h => by cases h⟩
  | some lm =>
    obtain ⟨l, q⟩ := lm
    obtain ⟨rfl, hln, hpt⟩ := H3.out l q rfl
    have hR := HR3.out
    dsimp only at hR
    rw [Hil.out, ← len0, hln] at hR
    have HR4 := Lib.hid hR
    have HPF := Lib.hid hpt
    have Hln := Lib.hid hln
    clear hR hpt hln
    cases il
    case false =>
      have hR := HR4.out
      rw [Bool.false_and, if_neg (by simp)] at hR
      subst hR
      go_wp2
      exact end3v Tryz.results136 (box_set3 HC7.out.drew _ _ _) rfl rfl rfl ⟨HKf.out.set3 (Nat.le_refl _) hlt _ _ _, X, b1, A, n, c, q, rfl, H2.out.drew.set3 (by omega) _ _ _, hj, hn4, fun x q h => by cases h⟩
    by_cases h0 : 0 < n
    · have z : decide ((0 : Int) < (n : Int)) = true := decide_eq_true (by omega)
      have hR := HR4.out
      rw [decide_eq_false (show ¬ n = 0 by omega), if_pos (by decide)] at hR
      subst hR
      go_wp2
      refine end3v Tryz.results136 (box_set3 HC7.out.drew _ _ _) rfl rfl rfl ⟨HKf.out.set3 (Nat.le_refl _) hlt _ _ _, X, b1, A, n, c, q, rfl, H2.out.drew.set3 (by omega) _ _ _, hj, hn4, fun x q' h => ?_⟩
      cases h
      refine ⟨rfl, l, rfl, Hln.out, PatF.carry (fun z hz => ?_) HPF.out⟩
      obtain ⟨hz1, hz2⟩ := hz
      refine ⟨⟨by omega, ?_⟩, set3_heap w7 w.heap.size (.string X) (.bool b1) (.slice A n c) z (by omega)⟩
      show z < (set3 w7 w.heap.size (.string X) (.bool b1) (.slice A n c)).heap.size
      rw [set3_size]
      exact hz2
    · have z : decide ((0 : Int) < (n : Int)) = false := decide_eq_false (by omega)
      have hR := HR4.out
      rw [decide_eq_true (show n = 0 by omega), if_neg (by decide)] at hR
      subst hR
      go_wp2
      exact end3v Tryz.results136 (box_set3 HC7.out.drew _ _ _) rfl rfl rfl ⟨HKf.out.set3 (Nat.le_refl _) hlt _ _ _, X, b1, A, n, c, q, rfl, H2.out.drew.set3 (by omega) _ _ _, hj, hn4, fun x q h => by cases h⟩
end Go.Proofs.YtamghpleajbonaaGreatDoor

namespace Go.Proofs.YtamghpleajbonaaGreatDoor
open Go.RowKit
set_option linter.unusedVariables false
set_option linter.unusedSimpArgs false
def GotPC (s : ByteArray) (w : World) (r : Option (List EL × Nat)) (e : Ending) (w' : World) : Prop :=
  Below w.heap.size w w' ∧ ∃ (A : Option Addr) (n c j : Nat), e = .returned (.tuple #[.slice A n c, .int .i64 j, .bool r.isSome]) ∧ j ≤ s.size ∧ n ≤ 4000000 ∧
    ∀ l m, r = some (l, m) → m = j ∧ l.length = n ∧ PatF w' (Since w.heap.size w') l (.slice A n c)
def PatCall (s : ByteArray) : Prop := ∀ (i : Nat) (w : World), i ≤ s.size → Calls Tryz.prog 83 #[.string s, .int .i64 i] w (GotPC s w (patS (placeS s 20) s i))
def GotN (s : ByteArray) (w : World) (r : Option (ByteArray × List EL × Nat)) (e : Ending) (w' : World) : Prop :=
  Below w.heap.size w w' ∧ ∃ (X : ByteArray) (A : Option Addr) (n c j : Nat), e = .returned (.tuple #[.agg #[.string X, .slice A n c], .int .i64 j, .bool r.isSome]) ∧ j ≤ s.size ∧ n ≤ 4000000 ∧
    ∀ x l m, r = some (x, l, m) → x = X ∧ m = j ∧ l.length = n ∧ PatF w' (Since w.heap.size w') l (.slice A n c)
abbrev zAt : Array Value := #[.string ⟨#[]⟩, .slice none 0 0]
set_option maxRecDepth 100000 in
theorem res2a {fn : Func} {A M N : Nat} {tmps : Array Value} {w : World} {b : Nat} {x0 x1 u v : Value} {t : TypeId} (hres : fn.results = #[.cell A 32, .tmp M, .tmp N]) (ha : tmps.getD A undef = .pointer (some ⟨b, 0, none⟩)) (hm : tmps.getD M undef = u) (hn : tmps.getD N undef = v)
    (hb : BoxAt w b #[x0, x1] t) : (results fn tmps).run Tryz.prog w = .ok (.tuple #[.agg #[x0, x1], u, v]) w := by
  have q0 := hb.cell 0
  have q1 := hb.cell 1
  simp at q0 q1
  have ha' : tmps[A]?.getD undef = .pointer (some ⟨b, 0, none⟩) := by rw [← ha]; simp
  have hm' : tmps[M]?.getD undef = u := by rw [← hm]; simp
  have hn' : tmps[N]?.getD undef = v := by rw [← hn]; simp
  simp [results, hres, ha', hm', hn', go_sem, q0, q1]
theorem end2a {fn : Func} {R : Ending → World → Prop} {a : Act} {w2 : World} {A M N b : Nat} {x0 x1 u v : Value} {t : TypeId} (hres : fn.results = #[.cell A 32, .tmp M, .tmp N]) (hbox : BoxAt w2 b #[x0, x1] t)
    (ha : a.tmps.getD A undef = .pointer (some ⟨b, 0, none⟩)) (hm : a.tmps.getD M undef = u) (hn : a.tmps.getD N undef = v) (hd : a.defers = []) (hR : R (.returned (.tuple #[.agg #[x0, x1], u, v])) w2) : bodyPost Tryz.prog fn R .ret a w2 :=
  bodyPost_ret (res2a hres ha hm hn hbox) hd hR
theorem box_set2 {w : World} {E : Nat} {x0 x1 : Value} {t : TypeId} (h : BoxAt w E #[x0, x1] t) (y0 y1 : Value) : BoxAt ((w.setCell ⟨E, 0, none⟩ y0).setCell ⟨E, 1, none⟩ y1) E #[y0, y1] t := by
  unfold BoxAt at h ⊢
  simp [World.setCell, Array.getElem?_modify, h]
theorem below_set2 {B : Nat} {a w : World} (h : Below B a w) {b : Nat} (hb : B ≤ b) (x0 x1 : Value) : Below B a ((w.setCell ⟨b, 0, none⟩ x0).setCell ⟨b, 1, none⟩ x1) := (h.setCell (p := ⟨b, 0, none⟩) hb x0).setCell (p := ⟨b, 1, none⟩) hb x1
theorem set2_heap (w : World) (b : Nat) (x0 x1 : Value) (k : Nat) (hk : k ≠ b) : ((w.setCell ⟨b, 0, none⟩ x0).setCell ⟨b, 1, none⟩ x1).heap[k]? = w.heap[k]? := by
  rw [Below.heap_setCell _ _ _ k hk, Below.heap_setCell _ _ _ k hk]
theorem set2_size (w : World) (b : Nat) (x0 x1 : Value) : ((w.setCell ⟨b, 0, none⟩ x0).setCell ⟨b, 1, none⟩ x1).heap.size = w.heap.size := by simp
theorem pat_set2 {w w2 : World} {l : List EL} {v : Value} (h : PatF w2 (Since (w.heap.size + 1) w2) l v) (x0 x1 : Value) : PatF ((w2.setCell ⟨w.heap.size, 0, none⟩ x0).setCell ⟨w.heap.size, 1, none⟩ x1) (Since w.heap.size ((w2.setCell ⟨w.heap.size, 0, none⟩ x0).setCell ⟨w.heap.size, 1, none⟩ x1)) l v :=
  PatF.carry (fun b hb => ⟨⟨by have := hb.1; omega, by rw [set2_size]; exact hb.2⟩, set2_heap _ _ _ _ b (by have := hb.1; omega)⟩) h
set_option maxHeartbeats 2000000 in
set_option maxRecDepth 100000 in
theorem named_call {s : ByteArray} (hPC : PatCall s) (hs : s.size ≤ 1000000) (i : Nat) (hi : i ≤ s.size) (w : World) : Calls Tryz.prog 64 #[.string s, .int .i64 i] w (GotN s w (namedS s i)) := by
  have hN := fun W => ((endName (s := s)).2 i W (by omega) hi).2.2
  have hnk := nm_ok s i hi
  obtain ⟨R, hR⟩ : ∃ R, namedS s i = R := ⟨_, rfl⟩
  rw [hR]
  unfold namedS at hR
  obtain ⟨m, hm⟩ : ∃ m, nm s i = m := ⟨_, rfl⟩
  rw [hm] at hN hnk hR
  have hS := fun W => ((endSpaces (s := s)).2 m W (by omega) hnk.2).2.2
  have hsk : m ≤ sp s m ∧ sp s m ≤ s.size := ⟨sp_ge s m, by have := behN_le spB s.data.toList m (by rw [size_data]; exact hnk.2); rw [size_data] at this; exact this⟩
  obtain ⟨q, hq⟩ : ∃ q, sp s m = q := ⟨_, rfl⟩
  rw [hq] at hS hsk hR
  have hx := isAt_prefix s q 61 hsk.2
  have hp := fun W => Tryz.strings_HasPrefix (s.extract q s.size) ⟨#[61]⟩ W
  rw [hx] at hp
  obtain ⟨b, hb⟩ : ∃ b, isAt s q 61 = b := ⟨_, rfl⟩
  have hq1 : b = true → q + 1 ≤ s.size := fun h => isAt_lt (hb.trans h)
  rw [hb] at hp hR
  have HN := Lib.hid hN
  have HS := Lib.hid hS
  have HP := Lib.hid hp
  have hi0 : (i : Int) ≤ 1000000 := by omega
  have hm0 : (m : Int) ≤ 1000000 := by omega
  have hq0 : (q : Int) ≤ 1000000 := by omega
  have hqs : (q : Int) ≤ (s.size : Int) := by omega
  have hss : (s.size : Int) ≤ 1000000 := by omega
  have hq2 : (0 : Int) ≤ (q : Int) := by omega
  have hc0 := BoxAt.new w zAt 32
  have HC0 := Lib.hid hc0
  clear hN hS hp hx hm hq hb hc0
  go_enter Tryz.func64, Tryz.ntmps64
  go_wp2_with fail
  go_at_call 82
  refine (HN.out _).mono ?_
  rintro e w1 ⟨rfl, hb1⟩
  have HB1 := Lib.hid (((Below.refl w.heap.size w).alloc (Nat.le_refl _) (.cells zAt 32)).trans (hb1.mono (by simp)))
  have HC1 := Lib.hid (BoxAt.later HC0.out hb1)
  clear hb1
  go_wp2_with fail
  go_at_call 39
  refine (HS.out _).mono ?_
  rintro e w2 ⟨rfl, hb2⟩
  have HB2 := Lib.hid (HB1.out.trans (hb2.mono HB1.out.size))
  have hc2 := BoxAt.later HC1.out hb2
  have HC2 := Lib.hid hc2
  have q0 := hc2.cell 0
  have q1 := hc2.cell 1
  have f0 := Lib.frozen_of_heap hc2 0
  have f1 := Lib.frozen_of_heap hc2 1
  have hlt := hc2.lt
  simp at q0 q1
  clear hb2 hc2 HN HS HC0 HC1
  by_cases hmi : m = i
  · rw [if_pos hmi] at hR
    subst hR
    have d1 : ((m : Int) == (i : Int)) = true := beq_iff_eq.2 (by omega)
    clear hmi
    go_wp2
    exact end2a Tryz.results64 (box_set2 HC2.out _ _) rfl rfl rfl rfl ⟨below_set2 HB2.out (Nat.le_refl _) _ _, ⟨#[]⟩, none, 0, 0, 0, rfl, Nat.zero_le _, Nat.zero_le _, fun x l m h => by cases h⟩
  have d1 : ((m : Int) == (i : Int)) = false := beq_eq_false_iff_ne.2 (by omega)
  have d2 : ¬ (m : Int) = (i : Int) := by omega
  rw [if_neg hmi] at hR
  cases b
  case false =>
    rw [if_neg (by simp)] at hR
    subst hR
    clear hmi
    go_wp2_with fail
    go_at_call 63
    refine (HP.out _).mono ?_
    rintro e w3 ⟨rfl, rfl⟩
    go_wp2
    exact end2a Tryz.results64 (box_set2 HC2.out _ _) rfl rfl rfl rfl ⟨below_set2 HB2.out (Nat.le_refl _) _ _, ⟨#[]⟩, none, 0, 0, 0, rfl, Nat.zero_le _, Nat.zero_le _, fun x l m h => by cases h⟩
  rw [if_pos rfl] at hR
  have hq3 := hq1 rfl
  have hPt := fun W => hPC (q + 1) W hq3
  obtain ⟨r, hr⟩ : ∃ r, patS (placeS s 20) s (q + 1) = r := ⟨_, rfl⟩
  rw [hr, show ((q + 1 : Nat) : Int) = (q : Int) + 1 by omega] at hPt
  rw [hr] at hR
  have HPt := Lib.hid hPt
  have HR := Lib.hid hR
  have hmi1 : (i : Int) ≤ (m : Int) := by omega
  have hms : (m : Int) ≤ (s.size : Int) := by omega
  clear hPt hr hR hq1 hmi
  go_wp2_with fail
  go_at_call 63
  refine (HP.out _).mono ?_
  rintro e w3 ⟨rfl, rfl⟩
  go_wp2_with fail
  go_at_call 83
  refine (HPt.out _).mono ?_
  rintro e w4 ⟨hb4, A, n, c, j, rfl, hj, hn4, h3⟩
  have HB4 := Lib.hid (HB2.out.trans (hb4.mono HB2.out.size))
  have hc4 := BoxAt.later HC2.out hb4
  have HC4 := Lib.hid hc4
  have e0 := hc4.cell 0
  have e1 := hc4.cell 1
  have g0 := Lib.frozen_of_heap hc4 0
  have g1 := Lib.frozen_of_heap hc4 1
  have hlt4 := hc4.lt
  simp at e0 e1
  have H3 := Lib.hid h3
  have hs4 := hb4.size
  have hj0 : (j : Int) ≤ 1000000 := by omega
  have hj1 : (0 : Int) ≤ (j : Int) := by omega
  clear hb4 hc4 h3 q0 q1 f0 f1
  obtain ⟨ib, hib⟩ : ∃ ib : Bool, (decide (j = s.size) || isAt s j 10) = ib := ⟨_, rfl⟩
  have hfin : R.isSome = (r.isSome && ib) ∧ ∀ x l m', R = some (x, l, m') → x = s.extract i m ∧ m' = j ∧ l.length = n ∧ PatF w4 (Since (w.heap.size + 1) w4) l (.slice A n c) := by
    have hR := HR.out
    cases r with
    | none => dsimp only at hR; subst hR; exact ⟨rfl, fun x l m' h => by cases h⟩
    | some le =>
      obtain ⟨l, e⟩ := le
      obtain ⟨rfl, h5, h6⟩ := H3.out l e rfl
      dsimp only at hR
      by_cases hc : e = s.size ∨ isAt s e 10 = true
      · rw [if_pos hc] at hR
        subst hR
        have : ib = true := by
          rw [← hib]
          rcases hc with h | h
          · rw [decide_eq_true h]; rfl
          · rw [h, Bool.or_true]
        rw [this]
        refine ⟨rfl, fun x l' m' h => ?_⟩
        cases h
        exact ⟨rfl, rfl, h5, PatF.carry (fun b hb => ⟨⟨by have := hb.1; have := HB2.out.size; omega, hb.2⟩, rfl⟩) h6⟩
      · rw [if_neg hc] at hR
        subst hR
        have : ib = false := by
          rw [← hib]
          simp only [not_or, Bool.not_eq_true] at hc
          rw [decide_eq_false hc.1, hc.2]; rfl
        rw [this, Bool.and_false]
        exact ⟨rfl, fun x l' m' h => by cases h⟩
  obtain ⟨rs, hrs⟩ : ∃ q : Bool, r.isSome = q := ⟨_, rfl⟩
  rw [hrs] at hfin ⊢
  have Hfin := Lib.hid hfin
  clear hfin hrs H3 HR
  by_cases hje : j = s.size
  · have d3 : ((j : Int) == (s.size : Int)) = true := beq_iff_eq.2 (by omega)
    have hib2 : ib = true := by rw [← hib, decide_eq_true hje]; rfl
    subst hib2
    clear hib hje
    cases rs
    all_goals
      go_wp2
      exact end2a Tryz.results64 (box_set2 HC4.out _ _) rfl rfl rfl rfl ⟨below_set2 HB4.out (Nat.le_refl _) _ _, s.extract i m, A, n, c, j, by rw [Hfin.out.1]; rfl, hj, hn4, fun x l m' h => by
        obtain ⟨h1, h2, h3, h4⟩ := Hfin.out.2 x l m' h
        exact ⟨h1, h2, h3, pat_set2 h4 _ _⟩⟩
  · have d3 : ((j : Int) == (s.size : Int)) = false := beq_eq_false_iff_ne.2 (by omega)
    have hjl : j < s.size := by omega
    have d4 : (j : Int) < (s.size : Int) := by omega
    have hg := isAt_get s j hjl 10
    rw [decide_eq_false hje, Bool.false_or] at hib
    rw [hg] at hib
    have hib3 : (((s[j]'hjl).toNat : Int) == 10) = ib := by rw [← hib, Bool.eq_iff_iff, beq_iff_eq, beq_iff_eq]; show _ ↔ (s[j]'hjl).toNat = 10; omega
    clear hib hje hg
    cases rs
    all_goals
      go_wp2
      exact end2a Tryz.results64 (box_set2 HC4.out _ _) rfl rfl rfl rfl ⟨below_set2 HB4.out (Nat.le_refl _) _ _, s.extract i m, A, n, c, j, by rw [Hfin.out.1]; rfl, hj, hn4, fun x l m' h => by
        obtain ⟨h1, h2, h3, h4⟩ := Hfin.out.2 x l m' h
        exact ⟨h1, h2, h3, pat_set2 h4 _ _⟩⟩
end Go.Proofs.YtamghpleajbonaaGreatDoor

namespace Go.Proofs.YtamghpleajbonaaGreatDoor
open Go.RowKit
set_option linter.unusedVariables false
set_option linter.unusedSimpArgs false
theorem at0_byte (s : ByteArray) (q : Nat) (hc : q < s.size) (c : UInt8) : (at0 s.data.toList q == c) = ((s[q]'hc).toNat == c.toNat) := by
  have := isAt_get s q hc c
  unfold isAt at this
  rw [decide_eq_true hc, Bool.true_and] at this
  exact this
theorem pat_fin2 {w w2 : World} {l : List EL} {v : Value} (h : PatF w2 (Since (w.heap.size + 1) w2) l v) (x0 x1 : Value) (o : Obj) : PatF (((w2.setCell ⟨w.heap.size, 0, none⟩ x0).setCell ⟨w.heap.size, 1, none⟩ x1).alloc o).drew (Since w.heap.size (((w2.setCell ⟨w.heap.size, 0, none⟩ x0).setCell ⟨w.heap.size, 1, none⟩ x1).alloc o).drew) l v :=
  PatF.carry (fun b hb => by
    have h2 : b < ((w2.setCell ⟨w.heap.size, 0, none⟩ x0).setCell ⟨w.heap.size, 1, none⟩ x1).heap.size := by rw [set2_size]; exact hb.2
    exact ⟨⟨by have := hb.1; omega, by show b < (World.alloc _ o).heap.size; rw [World.size_alloc]; omega⟩, (Lib.alloc_old _ o b h2).trans (set2_heap _ _ _ _ b (by have := hb.1; omega))⟩) h
set_option maxHeartbeats 4000000 in
set_option maxRecDepth 100000 in
theorem attr_call {s : ByteArray} (hPC : PatCall s) (hs : s.size ≤ 1000000) (i : Nat) (h1i : 1 ≤ i) (hi : i ≤ s.size) (w : World) : Calls Tryz.prog 84 #[.string s, .int .i64 i] w (GotN s w (attrS s i)) := by
  have hBl := fun W => ((endBlank (s := s)).2 i W (by omega) hi).2.2
  have hbk := bl_ok s i hi
  obtain ⟨R, hR⟩ : ∃ R, attrS s i = R := ⟨_, rfl⟩
  rw [hR]
  unfold attrS at hR
  obtain ⟨q, hq⟩ : ∃ q, bl s i = q := ⟨_, rfl⟩
  rw [hq] at hBl hbk hR
  have hx := isAt_prefix s q 46 hbk.2
  have hp := fun W => Tryz.strings_HasPrefix (s.extract q s.size) ⟨#[46]⟩ W
  rw [hx] at hp
  obtain ⟨b, hb⟩ : ∃ b, isAt s q 46 = b := ⟨_, rfl⟩
  have hq1 : b = true → q + 1 ≤ s.size := fun h => isAt_lt (hb.trans h)
  rw [hb] at hp hR
  have HB := Lib.hid hBl
  have HP := Lib.hid hp
  have hq0 : (q : Int) ≤ 1000000 := by omega
  have hqs : (q : Int) ≤ (s.size : Int) := by omega
  have hss : (s.size : Int) ≤ 1000000 := by omega
  have hq2 : (1 : Int) ≤ (q : Int) := by omega
  have hq22 : (0 : Int) ≤ (q : Int) := by omega
  have hc0 := BoxAt.new w zAt 32
  have HC0 := Lib.hid hc0
  clear hBl hp hx hq hb hc0
  go_enter Tryz.func84, Tryz.ntmps84
  go_wp2_with fail
  go_at_call 97
  refine (HB.out _).mono ?_
  rintro e w1 ⟨rfl, hb1⟩
  have HB1 := Lib.hid (((Below.refl w.heap.size w).alloc (Nat.le_refl _) (.cells zAt 32)).trans (hb1.mono (by simp)))
  have hc1 := BoxAt.later HC0.out hb1
  have HC1 := Lib.hid hc1
  have q0 := hc1.cell 0
  have q1 := hc1.cell 1
  have f0 := Lib.frozen_of_heap hc1 0
  have f1 := Lib.frozen_of_heap hc1 1
  have hlt := hc1.lt
  simp at q0 q1
  clear hb1 hc1 HB HC0
  cases b
  case false =>
    rw [Bool.false_and, if_neg (by simp)] at hR
    subst hR
    go_wp2_with fail
    go_at_call 63
    refine (HP.out _).mono ?_
    rintro e w3 ⟨rfl, rfl⟩
    go_wp2
    exact end2a Tryz.results84 (box_set2 HC1.out _ _) rfl rfl rfl rfl ⟨below_set2 HB1.out (Nat.le_refl _) _ _, ⟨#[]⟩, none, 0, 0, 0, rfl, Nat.zero_le _, Nat.zero_le _, fun x l m h => by cases h⟩
  have hq3 := hq1 rfl
  rw [Bool.true_and, at0_byte s (q - 1) (by omega) 32] at hR
  obtain ⟨k, rfl⟩ : ∃ k, q = k + 1 := ⟨q - 1, by omega⟩
  have hkl : k < s.size := by omega
  have hk1 : (k : Int) < (s.size : Int) := by omega
  have hk0 : (0 : Int) ≤ (k : Int) := by omega
  have hR2 : (if ((s[k]'hkl).toNat == (32 : UInt8).toNat) = true then (match namedS s (k + 1 + 1) with
      | none => none
      | some (x, l, e) => if l.isEmpty = true then none else some (x, l, e)) else none) = R := hR
  obtain ⟨c, hc⟩ : ∃ c, (s[k]'hkl).toNat = c := ⟨_, rfl⟩
  rw [hc, show (32 : UInt8).toNat = 32 from rfl] at hR2
  clear hR hq1
  by_cases h32 : c = 32
  case neg =>
    have d1 : ((c : Int) != 32) = true := by rw [bne_iff_ne]; omega
    rw [if_neg (by rw [beq_iff_eq]; exact h32)] at hR2
    subst hR2
    clear h32
    go_wp2_with fail
    go_at_call 63
    refine (HP.out _).mono ?_
    rintro e w3 ⟨rfl, rfl⟩
    go_wp2
    exact end2a Tryz.results84 (box_set2 HC1.out _ _) rfl rfl rfl rfl ⟨below_set2 HB1.out (Nat.le_refl _) _ _, ⟨#[]⟩, none, 0, 0, 0, rfl, Nat.zero_le _, Nat.zero_le _, fun x l m h => by cases h⟩
  have d1 : ((c : Int) != 32) = false := by rw [bne_eq_false_iff_eq]; omega
  rw [if_pos (by rw [beq_iff_eq]; exact h32)] at hR2
  have hNm := fun W => named_call hPC hs (k + 1 + 1) hq3 W
  obtain ⟨r, hr⟩ : ∃ r, namedS s (k + 1 + 1) = r := ⟨_, rfl⟩
  rw [hr, show ((k + 1 + 1 : Nat) : Int) = (k : Int) + 1 + 1 by omega] at hNm
  rw [hr] at hR2
  have HNm := Lib.hid hNm
  have HR := Lib.hid hR2
  clear hNm hr hR2 h32
  go_wp2_with fail
  go_at_call 63
  refine (HP.out _).mono ?_
  rintro e w3 ⟨rfl, rfl⟩
  go_wp2_with fail
  go_at_call 64
  refine (HNm.out _).mono ?_
  rintro e w4 ⟨hb4, X, A, n, cp, j, rfl, hj, hn4, h3⟩
  have HB4 := Lib.hid (HB1.out.trans (hb4.mono HB1.out.size))
  have hc4 := BoxAt.later HC1.out hb4
  have HC4 := Lib.hid hc4
  have hlt4 := hc4.lt
  have e0 := hc4.cell 0
  have e1 := hc4.cell 1
  have g0 := Lib.frozen_of_heap hc4 0
  have g1 := Lib.frozen_of_heap hc4 1
  simp at e0 e1
  have H3 := Lib.hid h3
  have hs4 := hb4.size
  have hj0 : (j : Int) ≤ 1000000 := by omega
  have hn0 : (n : Int) ≤ 4000000 := by omega
  have hfin : R.isSome = (r.isSome && decide (0 < n)) ∧ ∀ x l m', R = some (x, l, m') → x = X ∧ m' = j ∧ l.length = n ∧ PatF w4 (Since (w.heap.size + 1) w4) l (.slice A n cp) := by
    have hR := HR.out
    cases r with
    | none => dsimp only at hR; subst hR; exact ⟨rfl, fun x l m' h => by cases h⟩
    | some le =>
      obtain ⟨x, l, e⟩ := le
      obtain ⟨h4, h5, h6, h7⟩ := H3.out x l e rfl
      dsimp only at hR
      by_cases hl : l = []
      · rw [hl] at hR
        simp at hR
        subst hR
        rw [hl] at h6
        have : n = 0 := h6.symm
        rw [this]
        exact ⟨rfl, fun x l' m' h => by cases h⟩
      · have hle : l.isEmpty = false := by cases l with
          | nil => exact absurd rfl hl
          | cons a b => rfl
        rw [hle] at hR
        simp at hR
        subst hR
        have hl0 : 0 < n := by rw [← h6]; exact List.length_pos_iff.2 hl
        rw [decide_eq_true hl0]
        refine ⟨rfl, fun x' l' m' h => ?_⟩
        cases h
        exact ⟨h4, h5, h6, PatF.carry (fun b hb => ⟨⟨by have := hb.1; have := HB1.out.size; omega, hb.2⟩, rfl⟩) h7⟩
  obtain ⟨rs, hrs⟩ : ∃ q : Bool, r.isSome = q := ⟨_, rfl⟩
  rw [hrs] at hfin ⊢
  have Hfin := Lib.hid hfin
  clear hb4 hc4 h3 hfin hrs H3 HR q0 q1 f0 f1
  cases rs
  all_goals
    go_wp2_with fail
    go_region
    all_goals (go_wp2_with fail)
    exact end2a Tryz.results84 (((box_set2 HC4.out _ _).alloc _)) rfl rfl rfl rfl ⟨((below_set2 HB4.out (Nat.le_refl _) _ _).alloc (by rw [set2_size]; omega) _).drew, X, A, n, cp, j, by rw [Hfin.out.1]; rfl, hj, hn4, fun x l m' h => by
      obtain ⟨h1, h2, h3, h4⟩ := Hfin.out.2 x l m' h
      exact ⟨h1, h2, h3, pat_fin2 h4 _ _ _⟩⟩
end Go.Proofs.YtamghpleajbonaaGreatDoor

namespace Go.Proofs.YtamghpleajbonaaGreatDoor
open Go.RowKit
set_option linter.unusedVariables false
set_option linter.unusedSimpArgs false
def VZip (W : World) (F : Nat → Prop) : List VA → List Value → Prop
  | [], xs => xs = []
  | .mk k d l :: r, xs => ∃ A n c ys, xs = .string k :: .bool d :: .slice A n c :: ys ∧ l.length = n ∧ PatF W F l (.slice A n c) ∧ VZip W F r ys
theorem VZip.snoc {W : World} {F : Nat → Prop} {k : ByteArray} {d : Bool} {l : List EL} {A : Option Addr} {n c : Nat} (hl : l.length = n) (hp : PatF W F l (.slice A n c)) : ∀ (acc : List VA) (xs : List Value), VZip W F acc xs → VZip W F (acc ++ [.mk k d l]) (xs ++ [.string k, .bool d, .slice A n c])
  | [], xs, h => by
    rw [VZip] at h
    subst h
    exact ⟨A, n, c, [], rfl, hl, hp, rfl⟩
  | .mk k' d' l' :: r, xs, h => by
    rw [VZip] at h
    obtain ⟨A', n', c', ys, rfl, h1, h2, h3⟩ := h
    exact ⟨A', n', c', _, rfl, h1, h2, VZip.snoc hl hp r ys h3⟩
theorem VZip.carry {W W' : World} {F F' : Nat → Prop} (g : ∀ b, F b → F' b ∧ W'.heap[b]? = W.heap[b]?) : ∀ (acc : List VA) (xs : List Value), VZip W F acc xs → VZip W' F' acc xs
  | [], xs, h => by rw [VZip] at h ⊢; exact h
  | .mk k' d' l' :: r, xs, h => by
    rw [VZip] at h
    obtain ⟨A', n', c', ys, rfl, h1, h2, h3⟩ := h
    exact ⟨A', n', c', ys, rfl, h1, h2.carry g, VZip.carry g r ys h3⟩
theorem VZip.vs {W : World} {F : Nat → Prop} {g : Nat} (hg : F g) : ∀ (acc : List VA) (xs : List Value) (o : Nat), (∀ j x, xs[j]? = some x → W.cell? ⟨g, o + j, none⟩ = some x) → VZip W F acc xs → VsF W F acc g o
  | [], xs, o, hc, h => by rw [VsF]; trivial
  | .mk k' d' l' :: r, xs, o, hc, h => by
    rw [VZip] at h
    obtain ⟨A', n', c', ys, rfl, h1, h2, h3⟩ := h
    rw [VsF]
    refine ⟨hg, hc 0 _ rfl, hc 1 _ rfl, ⟨_, hc 2 _ rfl, h2⟩, VZip.vs hg r ys (o + 3) (fun j x hx => ?_) h3⟩
    have := hc (j + 3) x (by simpa using hx)
    rw [show o + 3 + j = o + (j + 3) by omega]
    exact this
def OwnSet (B : Nat) (W : World) (v : Value) (b : Nat) : Prop := Since B W b ∧ some b ≠ v.ownBlock
theorem Kp.grownBy {rb : Nat} {W W' : World} (h : Kp rb W W') : W.grownBy W' (some rb) := ⟨h.below.os, h.below.tape, h.below.output, h.below.size, fun k hk hn => h.others k hk (fun e => hn (by rw [e]))⟩
theorem Kp.grown {rb : Nat} {a W W' : World} {row : Option Nat} (h : Kp rb a W) (hg : W.grownBy W' row) (hrow : ∀ k, row = some k → a.heap.size ≤ k) (hr : rb < a.heap.size) : Kp rb a W' :=
  ⟨h.below.grown hg (by have := h.size; omega) (fun k e => by have := hrow k e; omega), fun k hk hn => (hg.block k (Nat.lt_of_lt_of_le hk h.size) (fun e => by have := hrow k e.symm; omega)).trans (h.others k hk hn)⟩
theorem Rd.grown {rb : Nat} {s : ByteArray} {i : Nat} {W W' : World} {row : Option Nat} (h : Rd rb s i W) (hg : W.grownBy W' row) (hrow : ∀ k, row = some k → rb < k) : Rd rb s i W' :=
  (hg.block rb h.lt (fun e => by have := hrow rb e.symm; omega)).trans h
def OwnV (B : Nat) (W : World) (v : Value) (acc : List VA) : Prop := ∃ xs, W.ownsRow B 101 3 v acc.length xs ∧ VZip W (OwnSet B W v) acc xs
theorem OwnV.nil (B : Nat) (W : World) : OwnV B W (.slice none 0 0) [] := ⟨[], World.ownsRow_nil _ _ _ _, rfl⟩
theorem OwnV.kp {rb B : Nat} {W W' : World} {v : Value} {acc : List VA} (h : OwnV B W v acc) (g : Kp rb W W') (hrb : rb < B) : OwnV B W' v acc := by
  obtain ⟨xs, h1, h2⟩ := h
  refine ⟨xs, h1.kept g.grownBy (.inr (fun e => by have := (h1.lt rb e).1; omega)), VZip.carry (fun b hb => ?_) _ _ h2⟩
  obtain ⟨⟨hb1, hb2⟩, hb3⟩ := hb
  exact ⟨⟨⟨hb1, Nat.lt_of_lt_of_le hb2 g.size⟩, hb3⟩, g.others b hb2 (by omega)⟩
theorem OwnV.more {B : Nat} {W W' : World} {v v' : Value} {acc : List VA} {xs : List Value} {k : ByteArray} {d : Bool} {l : List EL} {A : Option Addr} {n c : Nat} (h2 : VZip W (OwnSet B W v) acc xs)
    (ho : W'.ownsRow B 101 3 v' (acc.length + 1) (xs ++ [.string k, .bool d, .slice A n c])) (hg : W.grownBy W' v.ownBlock) (hw : v'.ownBlock = v.ownBlock ∨ v'.ownBlock = some W.heap.size) (hl : l.length = n) (hp : PatF W (OwnSet B W v) l (.slice A n c)) :
    OwnV B W' v' (acc ++ [.mk k d l]) := by
  refine ⟨_, by rw [List.length_append]; exact ho, ?_⟩
  have g : ∀ b, OwnSet B W v b → OwnSet B W' v' b ∧ W'.heap[b]? = W.heap[b]? := fun b hb => by
    obtain ⟨⟨hb1, hb2⟩, hb3⟩ := hb
    refine ⟨⟨⟨hb1, Nat.lt_of_lt_of_le hb2 hg.size⟩, ?_⟩, hg.block b hb2 hb3⟩
    rcases hw with e | e
    · rw [e]; exact hb3
    · rw [e]; intro e2; have := Option.some.inj e2; omega
  exact VZip.carry g _ _ (VZip.snoc hl hp acc xs h2)
theorem OwnV.lie {B : Nat} {W : World} {v : Value} {acc : List VA} (h : OwnV B W v acc) : ∃ A c, v = .slice A acc.length c ∧ LieAt (VsF W (Since B W) acc) v acc.length := by
  obtain ⟨xs, h1, h2⟩ := h
  rcases h1.2 with ⟨rfl, h0⟩ | ⟨g, cap, cur, rfl, hb, hg, hc1, hc2, hcs, htk⟩
  · have : acc = [] := List.eq_nil_of_length_eq_zero h0
    subst this
    exact ⟨none, 0, rfl, none, 0, rfl, Nat.le_refl _, Nat.zero_le _, fun h => absurd h (by simp)⟩
  · refine ⟨_, _, rfl, _, _, rfl, hc1, hc2, fun _ => ⟨g, 0, rfl, VZip.vs ⟨hb, (Array.getElem?_eq_some_iff.1 hg).1⟩ acc xs 0 (fun j x hx => ?_) (VZip.carry (fun b hb => ⟨hb.1, rfl⟩) _ _ h2)⟩⟩
    have := h1.cells (g := g) rfl j x hx
    rw [Addr.add_mid] at this
    exact this
def posOf (rb : Nat) (w : World) : Nat := match w.cell? ⟨rb, 1, none⟩ with
  | some (.int _ i) => i.toNat
  | _ => 0
theorem Rd.pos {rb : Nat} {s : ByteArray} {i : Nat} {w : World} (h : Rd rb s i w) : posOf rb w = i := by
  unfold posOf
  rw [h.c1]
  simp
def GotVs (rb : Nat) (s : ByteArray) (w : World) (r : Option (List VA × Nat)) (e : Ending) (w' : World) : Prop :=
  Kp rb w w' ∧ ∃ (A : Option Addr) (n c j : Nat), e = .returned (.tuple #[.slice A n c, .bool r.isSome]) ∧ Rd rb s j w' ∧ j ≤ s.size ∧
    ∀ l m, r = some (l, m) → m = j ∧ l.length = n ∧ LieAt (VsF w' (Since w.heap.size w') l) (.slice A n c) n
theorem parts_pos {s : ByteArray} {P : Nat → Res} : ∀ (m : Nat) (acc : List EL) (i : Nat), s.size - i ≤ m → i ≤ s.size → ∀ ps j, partsS P s acc i = some (ps, j) → i ≤ j ∧ j ≤ s.size := by
  intro m
  induction m with
  | zero =>
    intro acc i hm hi ps j h
    have ht : i ≤ tx s i := behN_ge _ _ _
    have ht2 : tx s i ≤ s.size := by have := behN_le txB s.data.toList i (by rw [size_data]; exact hi); rw [size_data] at this; exact this
    rw [partsS] at h
    split at h
    · next hc => have := isAt_lt hc; omega
    · cases h; omega
  | succ m ih =>
    intro acc i hm hi ps j h
    have ht : i ≤ tx s i := behN_ge _ _ _
    have ht2 : tx s i ≤ s.size := by have := behN_le txB s.data.toList i (by rw [size_data]; exact hi); rw [size_data] at this; exact this
    rw [partsS] at h
    split at h
    · split at h
      · cases h
      · split at h
        · next hg => have := ih _ _ (by omega) hg.2 ps j h; omega
        · cases h
    · cases h; omega
theorem lines_pos {s : ByteArray} {P : Nat → Res} : ∀ (m : Nat) (acc : List LN) (f p i : Nat), s.size - i ≤ m → i ≤ s.size → ∀ ls j, linesS P s acc f p i = some (ls, j) → i ≤ j ∧ j ≤ s.size := by
  intro m
  induction m with
  | zero =>
    intro acc f p i hm hi ls j h
    rw [linesS] at h
    split at h
    · cases h
    · next hp =>
      have h1 := parts_pos _ _ _ (Nat.le_refl _) hi _ _ hp
      split at h
      · cases h; exact h1
      · split at h
        · next hg => omega
        · cases h
  | succ m ih =>
    intro acc f p i hm hi ls j h
    rw [linesS] at h
    split at h
    · cases h
    · next hp =>
      have h1 := parts_pos _ _ _ (Nat.le_refl _) hi _ _ hp
      split at h
      · cases h; exact h1
      · split at h
        · next hg => have := ih _ _ _ _ (by omega) hg.2 ls j h; omega
        · cases h
theorem pat_pos {s : ByteArray} {P : Nat → Res} (i : Nat) (hi : i ≤ s.size) (l : List EL) (j : Nat) (h : patS P s i = some (l, j)) : i ≤ j ∧ j ≤ s.size := by
  unfold patS at h
  split at h
  · cases h
  · next hl =>
    cases h
    have h2 := sp_ok s i hi
    have := lines_pos _ _ _ _ _ (Nat.le_refl _) h2.2 _ _ hl
    omega
theorem vari_pos {s : ByteArray} {P : Nat → Res} (i : Nat) (hi : i ≤ s.size) (v : VA) (j : Nat) (h : variS P s i = some (v, j)) : i < j ∧ j ≤ s.size := by
  unfold variS at h
  have hii : i ≤ (if isAt s i 42 then i + 1 else i) := by split <;> omega
  generalize (if isAt s i 42 then i + 1 else i) = i1 at h hii
  split at h
  · next h1 =>
    have h2 := isAt_lt h1
    have h3 := bl_ok s (i1 + 1) h2
    generalize bl s (i1 + 1) = a at h h3
    split at h
    · cases h
    · have h4 : a ≤ keyE s a ∧ keyE s a ≤ s.size := by
        have := nm_ok s a h3.2
        have := nu_ok s a h3.2
        unfold keyE; split <;> omega
      generalize keyE s a = k at h h4
      have h5 := bl_ok s k h4.2
      generalize bl s k = m at h h5
      split at h
      · next h6 =>
        have h7 := isAt_lt h6
        split at h
        · cases h
        · next hp =>
          have h8 := pat_pos _ h7 _ _ hp
          split at h
          · cases h; omega
          · cases h
      · cases h
  · cases h
end Go.Proofs.YtamghpleajbonaaGreatDoor
