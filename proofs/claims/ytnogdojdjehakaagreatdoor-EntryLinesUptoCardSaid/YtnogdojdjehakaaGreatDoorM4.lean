/-
  Several texts put together (part 4): what the law and the program call, walked; their contracts.
-/
import Derived.Deep.DeepCutAuto
import Derived.Test.YtnogdojdjehakaaGreatDoorM3
/-
  Package expr: variant, given pattern.
-/
namespace Go.Proofs.YtnogdojdjehakaaGreatDoor
open Go.RowKit
set_option linter.unusedVariables false
set_option linter.unusedSimpArgs false

theorem len0 {α : Type} (l : List α) : decide (l.length = 0) = l.isEmpty := by cases l <;> simp
/-- What reading a pattern gives. -/
def GotP (rb : Nat) (s : ByteArray) (w : World) (r : Option (List EL × Nat)) (e : Ending) (w' : World) : Prop :=
  Kp rb w w' ∧ ∃ (A : Option Addr) (n c j : Nat), e = .returned (.tuple #[.slice A n c, .bool r.isSome]) ∧ Rd rb s j w' ∧ j ≤ s.size ∧ n ≤ 4000000 ∧ ∀ l m, r = some (l, m) → m = j ∧ l.length = n ∧ PatF w' (Since w.heap.size w') l (.slice A n c)
def PatTo (rb : Nat) (s : ByteArray) (d : Nat) (Q : Nat → Option (List EL × Nat)) : Prop := ∀ (i : Nat) (w : World), Rd rb s i w → i ≤ s.size → Calls Tryz.prog 46 #[pt rb, .int .i64 d] w (GotP rb s w (Q i))
/-- What reading a variant gives. -/
def GotV (rb : Nat) (s : ByteArray) (w : World) (r : Option (VA × Nat)) (e : Ending) (w' : World) : Prop :=
  Kp rb w w' ∧ ∃ (X : ByteArray) (df : Bool) (A : Option Addr) (n c j : Nat), e = .returned (.tuple #[.agg #[.string X, .bool df, .slice A n c], .bool r.isSome]) ∧ Rd rb s j w' ∧ j ≤ s.size ∧ n ≤ 4000000 ∧
    ∀ x m, r = some (x, m) → m = j ∧ ∃ l, x = .mk X df l ∧ l.length = n ∧ PatF w' (Since w.heap.size w') l (.slice A n c)
abbrev zV : Array Value := #[.string ⟨#[]⟩, .bool false, .slice none 0 0]
set_option maxRecDepth 100000 in
theorem res3v {fn : Func} {A M : Nat} {tmps : Array Value} {w : World} {b : Nat} {x0 x1 x2 v : Value} {t : TypeId} (hres : fn.results = #[.cell A 69, .tmp M]) (ha : tmps.getD A undef = .pointer (some ⟨b, 0, none⟩)) (hm : tmps.getD M undef = v)
    (hb : BoxAt w b #[x0, x1, x2] t) : (results fn tmps).run Tryz.prog w = .ok (.tuple #[.agg #[x0, x1, x2], v]) w := by
  obtain ⟨q0, q1, q2, _⟩ := cells3 hb
  have ha' : tmps[A]?.getD undef = .pointer (some ⟨b, 0, none⟩) := by rw [← ha]; simp
  have hm' : tmps[M]?.getD undef = v := by rw [← hm]; simp
  simp [results, hres, ha', hm', go_sem, q0, q1, q2]
theorem end3v {fn : Func} {R : Ending → World → Prop} {a : Act} {w2 : World} {A M b : Nat} {x0 x1 x2 v : Value} {t : TypeId} (hres : fn.results = #[.cell A 69, .tmp M]) (hbox : BoxAt w2 b #[x0, x1, x2] t)
    (ha : a.tmps.getD A undef = .pointer (some ⟨b, 0, none⟩)) (hm : a.tmps.getD M undef = v) (hd : a.defers = []) (hR : R (.returned (.tuple #[.agg #[x0, x1, x2], v])) w2) : bodyPost Tryz.prog fn R .ret a w2 :=
  bodyPost_ret (res3v hres ha hm hbox) hd hR
/-- Nothing was read: what variant gives then. -/
theorem gotV_none {rb : Nat} {s : ByteArray} {w w2 : World} {j : Nat} (hK : Kp rb w w2) (hR : Rd rb s j w2) (hj : j ≤ s.size) : GotV rb s w none (.returned (.tuple #[.agg zV, .bool false])) w2 :=
  ⟨hK, ⟨#[]⟩, false, none, 0, 0, j, rfl, hR, hj, Nat.zero_le _, fun x m h => by cases h⟩
set_option maxHeartbeats 8000000 in
set_option maxRecDepth 100000 in
theorem variant_any {rb : Nat} {s : ByteArray} {d : Nat} {P : Nat → Res} (hs : s.size ≤ 1000000) (hd : d ≤ 4000) (hPat : PatTo rb s d (patS P s)) (i : Nat) (w : World) (hr : Rd rb s i w) (hi : i ≤ s.size) :
    Calls Tryz.prog 79 #[pt rb, .int .i64 d] w (GotV rb s w (variS P s i)) := by
  have HR := Lib.hid hr
  have hlt := hr.lt
  obtain ⟨R, hRR⟩ : ∃ R, variS P s i = R := ⟨_, rfl⟩
  rw [hRR]
  unfold variS at hRR
  have hT1 := fun W (h : Rd rb s i W) => take_any 42 W h (by omega) hi
  obtain ⟨b1, hb1⟩ : ∃ b, isAt s i 42 = b := ⟨_, rfl⟩
  have hi1 : (if b1 = true then i + 1 else i) ≤ s.size := by
    cases b1
    · exact hi
    · exact isAt_lt hb1
  rw [hb1] at hT1 hRR
  obtain ⟨i1, hi1e⟩ : ∃ i1, (if b1 = true then i + 1 else i) = i1 := ⟨_, rfl⟩
  rw [hi1e] at hT1 hi1 hRR
  have hT2 := fun W (h : Rd rb s i1 W) => take_any 91 W h (by omega) hi1
  obtain ⟨b2, hb2⟩ : ∃ b, isAt s i1 91 = b := ⟨_, rfl⟩
  have hi2 : b2 = true → i1 + 1 ≤ s.size := fun h => isAt_lt (hb2.trans h)
  rw [hb2] at hT2 hRR
  have HT1 := Lib.hid hT1
  have HT2 := Lib.hid hT2
  have Hpat := Lib.hid hPat
  have hd0 : (d : Int) ≤ 4000 := by omega
  clear hr hT1 hb1 hi1e hT2 hb2 hPat
  unfold pt at HT1 HT2 ⊢
  cases b2
  case false =>
    rw [if_neg (by simp)] at hRR
    subst hRR
    go_enter Tryz.func79, Tryz.ntmps79
    go_wp2_with fail
    go_at_call 48
    refine (HT1.out _ (HR.out.alloc _)).mono ?_
    rintro e w1 ⟨rfl, g1, g2⟩
    have G1 := Lib.hid g1
    have HK := Lib.hid (((Kp.refl rb w).alloc (Nat.le_of_lt hlt) _).trans g2)
    have hc := BoxAt.kp (BoxAt.new w zV 69) g2 (by omega)
    have hcl := hc.lt
    have HC := Lib.hid hc
    clear g1 g2 hc
    go_wp2_with fail
    go_at_call 48
    refine (HT2.out _ G1.out).mono ?_
    rintro e w2 ⟨rfl, g3, g4⟩
    have G3 := Lib.hid (show Rd rb s i1 w2 by simpa using g3)
    have HK2 := Lib.hid (HK.out.trans g4)
    have hc2 := BoxAt.kp HC.out g4 (by omega)
    have hcl2 := hc2.lt
    have HC2 := Lib.hid hc2
    obtain ⟨q0, q1, q2, p0, p1, p2⟩ := cells3 hc2
    clear g3 g4 hc2
    go_wp2
    exact end3v Tryz.results79 (box_set3 HC2.out _ _ _) rfl rfl rfl (gotV_none (HK2.out.set3 (Nat.le_refl _) hlt _ _ _) (G3.out.set3 (by omega) _ _ _) hi1)
  have hi3 := hi2 rfl
  rw [if_pos rfl] at hRR
  have hB := bl_ok s (i1 + 1) hi3
  have hP1 := fun W (h : Rd rb s (i1 + 1) W) => pass_any endBlank W h (by omega) hi3
  obtain ⟨a, ha⟩ : ∃ a, bl s (i1 + 1) = a := ⟨_, rfl⟩
  rw [ha] at hB hP1 hRR
  have hP2 := fun W (h : Rd rb s a W) => pass_any endName W h (by omega) hB.2
  have hP3 := fun W (h : Rd rb s a W) => pass_any endNumber W h (by omega) hB.2
  have hn := nm_ok s a hB.2
  have hu := nu_ok s a hB.2
  have he1 := ext_empty s a (nm s a) hn.1 hn.2
  have hk : keyE s a = if nm s a = a then nu s a else nm s a := rfl
  obtain ⟨n1, hn1⟩ : ∃ n1, nm s a = n1 := ⟨_, rfl⟩
  obtain ⟨u1, hu1⟩ : ∃ u1, nu s a = u1 := ⟨_, rfl⟩
  rw [hn1] at hn he1 hk hP2
  rw [hu1] at hu hk hP3
  obtain ⟨k, hke⟩ : ∃ k, keyE s a = k := ⟨_, rfl⟩
  rw [hke] at hk hRR
  have hk2 : a ≤ k ∧ k ≤ s.size := by rw [hk]; split <;> omega
  have he2 := ext_empty s a k hk2.1 hk2.2
  have hP4 := fun W (h : Rd rb s k W) => pass_any endBlank W h (by omega) hk2.2
  have hB2 := bl_ok s k hk2.2
  obtain ⟨m, hm⟩ : ∃ m, bl s k = m := ⟨_, rfl⟩
  rw [hm] at hB2 hP4 hRR
  have hT3 := fun W (h : Rd rb s m W) => take_any 93 W h (by omega) hB2.2
  obtain ⟨b3, hb3⟩ : ∃ b, isAt s m 93 = b := ⟨_, rfl⟩
  have hm1 : b3 = true → m + 1 ≤ s.size := fun h => isAt_lt (hb3.trans h)
  rw [hb3] at hT3 hRR
  obtain ⟨X1, hX1⟩ : ∃ X, s.extract a n1 = X := ⟨_, rfl⟩
  obtain ⟨X, hX⟩ : ∃ X, s.extract a k = X := ⟨_, rfl⟩
  have hX2 : n1 ≠ a → X1 = X := fun h => by rw [← hX1, ← hX, hk, if_neg h]
  have hX3 : n1 = a → s.extract a u1 = X ∧ u1 = k := fun h => by rw [← hX, hk, if_pos h]; exact ⟨rfl, rfl⟩
  have hk5 : n1 ≠ a → n1 = k := fun h => by rw [hk, if_neg h]
  rw [hX1] at he1 hP2
  rw [hX] at he2 hRR
  have HP1 := Lib.hid hP1
  have HP2 := Lib.hid hP2
  have HP3 := Lib.hid hP3
  have HP4 := Lib.hid hP4
  have HT3 := Lib.hid hT3
  have HRR := Lib.hid hRR
  have HE1 := Lib.hid he1
  have HE2 := Lib.hid he2
  have HX2 := Lib.hid hX2
  have HX3 := Lib.hid hX3
  have Hk5 := Lib.hid hk5
  have Hm1 := Lib.hid hm1
  clear hP1 ha hP2 hP3 hk hn1 hu1 hke hP4 hm hT3 hb3 hX1 hX hX2 hX3 hk5 he1 he2 hRR hi2 hm1
  unfold pt at HP1 HP2 HP3 HP4 HT3
  go_enter Tryz.func79, Tryz.ntmps79
  go_wp2_with fail
  go_at_call 48
  refine (HT1.out _ (HR.out.alloc _)).mono ?_
  rintro e w1 ⟨rfl, g1, g2⟩
  have G1 := Lib.hid g1
  have HK := Lib.hid (show Kp rb (w.alloc (.cells zV 69)) w1 from g2)
  clear g1 g2
  go_wp2_with fail
  go_at_call 48
  refine (HT2.out _ G1.out).mono ?_
  rintro e w2 ⟨rfl, g1, g2⟩
  have G1 := Lib.hid (show Rd rb s (i1 + 1) w2 by simpa using g1)
  have HK2 := Lib.hid (HK.out.trans g2)
  clear g1 g2
  go_wp2_with fail
  go_at_call 49
  refine (HP1.out _ G1.out).mono ?_
  rintro e w3 ⟨rfl, g1, g2⟩
  have G3 := Lib.hid g1
  have HK3 := Lib.hid (HK2.out.trans g2)
  clear g1 g2
  go_wp2_with fail
  go_at_call 49
  refine (HP2.out _ G3.out).mono ?_
  rintro e w4 ⟨rfl, g1, g2⟩
  have G4 := Lib.hid g1
  have HK4 := Lib.hid (HK3.out.trans g2)
  clear g1 g2
  obtain ⟨x1, hx1⟩ : ∃ x, X1.toList.isEmpty = x := ⟨_, rfl⟩
  go_upto_if 22 with fail
  go_cut [7] (fun v wx => v = .string X ∧ Hid (Rd rb s k wx) ∧ Hid (Kp rb (w.alloc (.cells zV 69)) wx))
  case first =>
    cases x1
    case false =>
      have hne : n1 ≠ a := fun h => by have := HE1.out; rw [hx1, decide_eq_true h] at this; cases this
      have HX := Lib.hid (HX2.out hne)
      have Hk := Lib.hid (Hk5.out hne)
      clear hne
      go_wp2_with fail
      go_meet
      exact ⟨by rw [HX.out], by rw [← Hk.out]; exact G4.out, HK4.out⟩
    case true =>
      have hne : n1 = a := by have := HE1.out; rw [hx1] at this; exact of_decide_eq_true this.symm
      obtain ⟨hX, hk⟩ := HX3.out hne
      have G4a := Lib.hid (show Rd rb s a w4 by rw [← hne]; exact G4.out)
      have HX := Lib.hid hX
      have Hk := Lib.hid hk
      clear hne hX hk
      go_wp2_with fail
      go_at_call 49
      refine (HP3.out _ G4a.out).mono ?_
      rintro e w5 ⟨rfl, g1, g2⟩
      have G5 := Lib.hid g1
      have HK5 := Lib.hid (HK4.out.trans g2)
      clear g1 g2
      go_wp2_with fail
      go_meet
      exact ⟨by rw [HX.out], by rw [← Hk.out]; exact G5.out, HK5.out⟩
  obtain ⟨rfl, HRk, HKk⟩ := hcut
  clear HP2 HP3 HE1 HX2 HX3 Hk5 G1 G3 G4 HK HK2 HK3 HK4 hx1
  go_wp2_with fail
  go_at_call 49
  refine (HP4.out _ HRk.out).mono ?_
  rintro e w5 ⟨rfl, g1, g2⟩
  have G5 := Lib.hid g1
  have HK5 := Lib.hid (HKk.out.trans g2)
  have hc5 := BoxAt.kp (BoxAt.new w zV 69) HK5.out (by omega)
  have hcl5 := hc5.lt
  have HC5 := Lib.hid hc5
  clear g1 g2
  have HA := Lib.hid ((Kp.refl rb w).alloc (Nat.le_of_lt hlt) (.cells zV 69))
  cases hx2 : X.toList.isEmpty
  case true =>
    have hka : k = a := by have := HE2.out; rw [hx2] at this; exact of_decide_eq_true this.symm
    have hR := HRR.out
    rw [if_pos hka] at hR
    subst hR
    obtain ⟨q0, q1, q2, p0, p1, p2⟩ := cells3 hc5
    clear hka hc5
    go_wp2
    exact end3v Tryz.results79 (box_set3 HC5.out _ _ _) rfl rfl rfl (gotV_none ((HA.out.trans HK5.out).set3 (Nat.le_refl _) hlt _ _ _) (G5.out.set3 (by omega) _ _ _) hB2.2)
  have hka : k ≠ a := fun h => by have := HE2.out; rw [hx2, decide_eq_true h] at this; cases this
  have hR := HRR.out
  rw [if_neg hka] at hR
  have HR2 := Lib.hid hR
  clear hka hR hc5
  cases b3
  case false =>
    have hR := HR2.out
    rw [if_neg (by simp)] at hR
    subst hR
    go_wp2_with fail
    go_at_call 48
    refine (HT3.out _ G5.out).mono ?_
    rintro e w6 ⟨rfl, g1, g2⟩
    have G6 := Lib.hid (show Rd rb s m w6 by simpa using g1)
    have HK6 := Lib.hid (HK5.out.trans g2)
    have hc6 := BoxAt.kp HC5.out g2 (by omega)
    have hcl6 := hc6.lt
    have HC6 := Lib.hid hc6
    obtain ⟨q0, q1, q2, p0, p1, p2⟩ := cells3 hc6
    clear g1 g2 hc6
    go_wp2
    exact end3v Tryz.results79 (box_set3 HC6.out _ _ _) rfl rfl rfl (gotV_none ((HA.out.trans HK6.out).set3 (Nat.le_refl _) hlt _ _ _) (G6.out.set3 (by omega) _ _ _) hB2.2)
  have hR := HR2.out
  rw [if_pos rfl] at hR
  obtain ⟨r, hr⟩ : ∃ r, patS P s (m + 1) = r := ⟨_, rfl⟩
  have hm1 := Hm1.out rfl
  have hPt := fun W h => Hpat.out (m + 1) W h hm1
  rw [hr] at hPt hR
  have HPt := Lib.hid hPt
  have HR3 := Lib.hid hR
  unfold pt at HPt
  clear hR hr hPt
  go_wp2_with fail
  go_at_call 48
  refine (HT3.out _ G5.out).mono ?_
  rintro e w6 ⟨rfl, g1, g2⟩
  have G6 := Lib.hid (show Rd rb s (m + 1) w6 by simpa using g1)
  have HK6 := Lib.hid (HK5.out.trans g2)
  have hs6 := HK6.out.size
  rw [World.size_alloc] at hs6
  clear g1 g2
  go_wp2_with fail
  go_at_call 46
  refine (HPt.out _ G6.out).mono ?_
  rintro e w7 ⟨h1, A, n, c, j, rfl, h2, hj, hn4, h3⟩
  have HK7 := Lib.hid (HK6.out.trans h1)
  have hc7 := BoxAt.kp (BoxAt.new w zV 69) HK7.out (by omega)
  have hcl7 := hc7.lt
  have HC7 := Lib.hid hc7
  have H2 := Lib.hid h2
  have H3 := Lib.hid h3
  have d0 := h2.c0
  have d1 := h2.c1
  have hl7 := h2.lt
  have hj0 : (j : Int) ≤ 1000000 := by omega
  have hss : (s.size : Int) ≤ 1000000 := by omega
  have hn0 : (n : Int) ≤ 4000000 := by omega
  obtain ⟨il, hil⟩ : ∃ b, isAt s j 10 = b := ⟨_, rfl⟩
  have Hil := Lib.hid hil
  clear h1 h2 h3 hc7 HPt hil
  go_upto_region 12 with fail
  go_cut [10] (fun v wx => v = .bool il ∧ wx = w7.drew)
  case first =>
    have hil := Hil.out
    unfold isAt at hil
    by_cases hjl : j < s.size
    · have z1 : decide ((j : Int) < (s.size : Int)) = true := decide_eq_true (by omega)
      have z2 : (j : Int) < (s.size : Int) := by omega
      have z3 : ((s[j].toNat : Int) == 10) = il := by
        rw [decide_eq_true hjl, Bool.true_and, at0_get _ _ (by rw [size_data]; exact hjl)] at hil
        rw [← hil]
        show ((s[j].toNat : Int) == 10) = (s[j] == 10)
        rw [Bool.eq_iff_iff, beq_iff_eq, beq_iff_eq, ← UInt8.toNat_inj]
        simp
        omega
      clear hil
      go_region
      go_wp2_with fail
      go_meet
      exact ⟨rfl, rfl⟩
    · have z1 : decide ((j : Int) < (s.size : Int)) = false := decide_eq_false (by omega)
      rw [decide_eq_false hjl, Bool.false_and] at hil
      subst hil
      go_region
      go_wp2_with fail
      go_meet
      exact ⟨rfl, rfl⟩
  obtain ⟨rfl, rfl⟩ := hcut
  obtain ⟨q0, q1, q2, p0, p1, p2⟩ := cells3 HC7.out
  have hA := HA.out.trans HK7.out
  have HKf := Lib.hid hA.drew
  clear hA d0 d1
  cases r with
  | none =>
    have hR := HR3.out
    dsimp only at hR
    subst hR
    go_wp2
    exact end3v Tryz.results79 (box_set3 HC7.out.drew _ _ _) rfl rfl rfl ⟨HKf.out.set3 (Nat.le_refl _) hlt _ _ _, X, b1, A, n, c, j, rfl, H2.out.drew.set3 (by omega) _ _ _, hj, hn4, fun x q h => by cases h⟩
  | some lm =>
    obtain ⟨l, q⟩ := lm
    obtain ⟨rfl, hln, hpt⟩ := H3.out l q rfl
    have hR := HR3.out
    dsimp only at hR
    rw [Hil.out, ← len0, hln] at hR
    have HR4 := Lib.hid hR
    have HPF := Lib.hid hpt
    have Hln := Lib.hid hln
    clear hR hpt hln
    cases il
    case false =>
      have hR := HR4.out
      rw [Bool.false_and, if_neg (by simp)] at hR
      subst hR
      go_wp2
      exact end3v Tryz.results79 (box_set3 HC7.out.drew _ _ _) rfl rfl rfl ⟨HKf.out.set3 (Nat.le_refl _) hlt _ _ _, X, b1, A, n, c, q, rfl, H2.out.drew.set3 (by omega) _ _ _, hj, hn4, fun x q h => by cases h⟩
    by_cases h0 : 0 < n
    · have z : decide ((0 : Int) < (n : Int)) = true := decide_eq_true (by omega)
      have hR := HR4.out
      rw [decide_eq_false (show ¬ n = 0 by omega), if_pos (by decide)] at hR
      subst hR
      go_wp2
      refine end3v Tryz.results79 (box_set3 HC7.out.drew _ _ _) rfl rfl rfl ⟨HKf.out.set3 (Nat.le_refl _) hlt _ _ _, X, b1, A, n, c, q, rfl, H2.out.drew.set3 (by omega) _ _ _, hj, hn4, fun x q' h => ?_⟩
      cases h
      refine ⟨rfl, l, rfl, Hln.out, PatF.carry (fun z hz => ?_) HPF.out⟩
      obtain ⟨hz1, hz2⟩ := hz
      refine ⟨⟨by omega, ?_⟩, set3_heap w7 w.heap.size (.string X) (.bool b1) (.slice A n c) z (by omega)⟩
      show z < (set3 w7 w.heap.size (.string X) (.bool b1) (.slice A n c)).heap.size
      rw [set3_size]
      exact hz2
    · have z : decide ((0 : Int) < (n : Int)) = false := decide_eq_false (by omega)
      have hR := HR4.out
      rw [decide_eq_true (show n = 0 by omega), if_neg (by decide)] at hR
      subst hR
      go_wp2
      exact end3v Tryz.results79 (box_set3 HC7.out.drew _ _ _) rfl rfl rfl ⟨HKf.out.set3 (Nat.le_refl _) hlt _ _ _, X, b1, A, n, c, q, rfl, H2.out.drew.set3 (by omega) _ _ _, hj, hn4, fun x q h => by cases h⟩
end Go.Proofs.YtnogdojdjehakaaGreatDoor

/-
  Package entry: named, given expr.Pattern.
-/
namespace Go.Proofs.YtnogdojdjehakaaGreatDoor
open Go.RowKit
set_option linter.unusedVariables false
set_option linter.unusedSimpArgs false

/-- What Pattern gives. -/
def GotPC (s : ByteArray) (w : World) (r : Option (List EL × Nat)) (e : Ending) (w' : World) : Prop :=
  Below w.heap.size w w' ∧ ∃ (A : Option Addr) (n c j : Nat), e = .returned (.tuple #[.slice A n c, .int .i64 j, .bool r.isSome]) ∧ j ≤ s.size ∧ n ≤ 4000000 ∧
    ∀ l m, r = some (l, m) → m = j ∧ l.length = n ∧ PatF w' (Since w.heap.size w') l (.slice A n c)
def PatCall (s : ByteArray) : Prop := ∀ (i : Nat) (w : World), i ≤ s.size → Calls Tryz.prog 23 #[.string s, .int .i64 i] w (GotPC s w (patS (placeS s 20) s i))
/-- What reading a name and a pattern gives. -/
def GotN (s : ByteArray) (w : World) (r : Option (ByteArray × List EL × Nat)) (e : Ending) (w' : World) : Prop :=
  Below w.heap.size w w' ∧ ∃ (X : ByteArray) (A : Option Addr) (n c j : Nat), e = .returned (.tuple #[.agg #[.string X, .slice A n c], .int .i64 j, .bool r.isSome]) ∧ j ≤ s.size ∧ n ≤ 4000000 ∧
    ∀ x l m, r = some (x, l, m) → x = X ∧ m = j ∧ l.length = n ∧ PatF w' (Since w.heap.size w') l (.slice A n c)
abbrev zAt : Array Value := #[.string ⟨#[]⟩, .slice none 0 0]
set_option maxRecDepth 100000 in
theorem res2a {fn : Func} {A M N : Nat} {tmps : Array Value} {w : World} {b : Nat} {x0 x1 u v : Value} {t : TypeId} (hres : fn.results = #[.cell A 82, .tmp M, .tmp N]) (ha : tmps.getD A undef = .pointer (some ⟨b, 0, none⟩)) (hm : tmps.getD M undef = u) (hn : tmps.getD N undef = v)
    (hb : BoxAt w b #[x0, x1] t) : (results fn tmps).run Tryz.prog w = .ok (.tuple #[.agg #[x0, x1], u, v]) w := by
  have q0 := hb.cell 0
  have q1 := hb.cell 1
  simp at q0 q1
  have ha' : tmps[A]?.getD undef = .pointer (some ⟨b, 0, none⟩) := by rw [← ha]; simp
  have hm' : tmps[M]?.getD undef = u := by rw [← hm]; simp
  have hn' : tmps[N]?.getD undef = v := by rw [← hn]; simp
  simp [results, hres, ha', hm', hn', go_sem, q0, q1]
theorem end2a {fn : Func} {R : Ending → World → Prop} {a : Act} {w2 : World} {A M N b : Nat} {x0 x1 u v : Value} {t : TypeId} (hres : fn.results = #[.cell A 82, .tmp M, .tmp N]) (hbox : BoxAt w2 b #[x0, x1] t)
    (ha : a.tmps.getD A undef = .pointer (some ⟨b, 0, none⟩)) (hm : a.tmps.getD M undef = u) (hn : a.tmps.getD N undef = v) (hd : a.defers = []) (hR : R (.returned (.tuple #[.agg #[x0, x1], u, v])) w2) : bodyPost Tryz.prog fn R .ret a w2 :=
  bodyPost_ret (res2a hres ha hm hn hbox) hd hR
theorem box_set2 {w : World} {E : Nat} {x0 x1 : Value} {t : TypeId} (h : BoxAt w E #[x0, x1] t) (y0 y1 : Value) : BoxAt ((w.setCell ⟨E, 0, none⟩ y0).setCell ⟨E, 1, none⟩ y1) E #[y0, y1] t := by
  unfold BoxAt at h ⊢
  simp [World.setCell, Array.getElem?_modify, h]
theorem below_set2 {B : Nat} {a w : World} (h : Below B a w) {b : Nat} (hb : B ≤ b) (x0 x1 : Value) : Below B a ((w.setCell ⟨b, 0, none⟩ x0).setCell ⟨b, 1, none⟩ x1) := (h.setCell (p := ⟨b, 0, none⟩) hb x0).setCell (p := ⟨b, 1, none⟩) hb x1
theorem set2_heap (w : World) (b : Nat) (x0 x1 : Value) (k : Nat) (hk : k ≠ b) : ((w.setCell ⟨b, 0, none⟩ x0).setCell ⟨b, 1, none⟩ x1).heap[k]? = w.heap[k]? := by
  rw [Below.heap_setCell _ _ _ k hk, Below.heap_setCell _ _ _ k hk]
theorem set2_size (w : World) (b : Nat) (x0 x1 : Value) : ((w.setCell ⟨b, 0, none⟩ x0).setCell ⟨b, 1, none⟩ x1).heap.size = w.heap.size := by simp
/-- What is read lies in what was made since, but for the result's own cell. -/
theorem pat_set2 {w w2 : World} {l : List EL} {v : Value} (h : PatF w2 (Since (w.heap.size + 1) w2) l v) (x0 x1 : Value) : PatF ((w2.setCell ⟨w.heap.size, 0, none⟩ x0).setCell ⟨w.heap.size, 1, none⟩ x1) (Since w.heap.size ((w2.setCell ⟨w.heap.size, 0, none⟩ x0).setCell ⟨w.heap.size, 1, none⟩ x1)) l v :=
  PatF.carry (fun b hb => ⟨⟨by have := hb.1; omega, by rw [set2_size]; exact hb.2⟩, set2_heap _ _ _ _ b (by have := hb.1; omega)⟩) h
set_option maxHeartbeats 2000000 in
set_option maxRecDepth 100000 in
theorem named_call {s : ByteArray} (hPC : PatCall s) (hs : s.size ≤ 1000000) (i : Nat) (hi : i ≤ s.size) (w : World) : Calls Tryz.prog 85 #[.string s, .int .i64 i] w (GotN s w (namedS s i)) := by
  have hN := fun W => ((endName (s := s)).2 i W (by omega) hi).2.2
  have hnk := nm_ok s i hi
  obtain ⟨R, hR⟩ : ∃ R, namedS s i = R := ⟨_, rfl⟩
  rw [hR]
  unfold namedS at hR
  obtain ⟨m, hm⟩ : ∃ m, nm s i = m := ⟨_, rfl⟩
  rw [hm] at hN hnk hR
  have hS := fun W => ((endSpaces (s := s)).2 m W (by omega) hnk.2).2.2
  have hsk : m ≤ sp s m ∧ sp s m ≤ s.size := ⟨sp_ge s m, by have := behN_le spB s.data.toList m (by rw [size_data]; exact hnk.2); rw [size_data] at this; exact this⟩
  obtain ⟨q, hq⟩ : ∃ q, sp s m = q := ⟨_, rfl⟩
  rw [hq] at hS hsk hR
  have hx := isAt_prefix s q 61 hsk.2
  have hp := fun W => Tryz.strings_HasPrefix (s.extract q s.size) ⟨#[61]⟩ W
  rw [hx] at hp
  obtain ⟨b, hb⟩ : ∃ b, isAt s q 61 = b := ⟨_, rfl⟩
  have hq1 : b = true → q + 1 ≤ s.size := fun h => isAt_lt (hb.trans h)
  rw [hb] at hp hR
  have HN := Lib.hid hN
  have HS := Lib.hid hS
  have HP := Lib.hid hp
  have hi0 : (i : Int) ≤ 1000000 := by omega
  have hm0 : (m : Int) ≤ 1000000 := by omega
  have hq0 : (q : Int) ≤ 1000000 := by omega
  have hqs : (q : Int) ≤ (s.size : Int) := by omega
  have hss : (s.size : Int) ≤ 1000000 := by omega
  have hq2 : (0 : Int) ≤ (q : Int) := by omega
  have hc0 := BoxAt.new w zAt 82
  have HC0 := Lib.hid hc0
  clear hN hS hp hx hm hq hb hc0
  go_enter Tryz.func85, Tryz.ntmps85
  go_wp2_with fail
  go_at_call 110
  refine (HN.out _).mono ?_
  rintro e w1 ⟨rfl, hb1⟩
  have HB1 := Lib.hid (((Below.refl w.heap.size w).alloc (Nat.le_refl _) (.cells zAt 82)).trans (hb1.mono (by simp)))
  have HC1 := Lib.hid (BoxAt.later HC0.out hb1)
  clear hb1
  go_wp2_with fail
  go_at_call 62
  refine (HS.out _).mono ?_
  rintro e w2 ⟨rfl, hb2⟩
  have HB2 := Lib.hid (HB1.out.trans (hb2.mono HB1.out.size))
  have hc2 := BoxAt.later HC1.out hb2
  have HC2 := Lib.hid hc2
  have q0 := hc2.cell 0
  have q1 := hc2.cell 1
  have f0 := Lib.frozen_of_heap hc2 0
  have f1 := Lib.frozen_of_heap hc2 1
  have hlt := hc2.lt
  simp at q0 q1
  clear hb2 hc2 HN HS HC0 HC1
  by_cases hmi : m = i
  · rw [if_pos hmi] at hR
    subst hR
    have d1 : ((m : Int) == (i : Int)) = true := beq_iff_eq.2 (by omega)
    clear hmi
    go_wp2
    exact end2a Tryz.results85 (box_set2 HC2.out _ _) rfl rfl rfl rfl ⟨below_set2 HB2.out (Nat.le_refl _) _ _, ⟨#[]⟩, none, 0, 0, 0, rfl, Nat.zero_le _, Nat.zero_le _, fun x l m h => by cases h⟩
  have d1 : ((m : Int) == (i : Int)) = false := beq_eq_false_iff_ne.2 (by omega)
  have d2 : ¬ (m : Int) = (i : Int) := by omega
  rw [if_neg hmi] at hR
  cases b
  case false =>
    rw [if_neg (by simp)] at hR
    subst hR
    clear hmi
    go_wp2_with fail
    go_at_call 72
    refine (HP.out _).mono ?_
    rintro e w3 ⟨rfl, rfl⟩
    go_wp2
    exact end2a Tryz.results85 (box_set2 HC2.out _ _) rfl rfl rfl rfl ⟨below_set2 HB2.out (Nat.le_refl _) _ _, ⟨#[]⟩, none, 0, 0, 0, rfl, Nat.zero_le _, Nat.zero_le _, fun x l m h => by cases h⟩
  rw [if_pos rfl] at hR
  have hq3 := hq1 rfl
  have hPt := fun W => hPC (q + 1) W hq3
  obtain ⟨r, hr⟩ : ∃ r, patS (placeS s 20) s (q + 1) = r := ⟨_, rfl⟩
  rw [hr, show ((q + 1 : Nat) : Int) = (q : Int) + 1 by omega] at hPt
  rw [hr] at hR
  have HPt := Lib.hid hPt
  have HR := Lib.hid hR
  have hmi1 : (i : Int) ≤ (m : Int) := by omega
  have hms : (m : Int) ≤ (s.size : Int) := by omega
  clear hPt hr hR hq1 hmi
  go_wp2_with fail
  go_at_call 72
  refine (HP.out _).mono ?_
  rintro e w3 ⟨rfl, rfl⟩
  go_wp2_with fail
  go_at_call 23
  refine (HPt.out _).mono ?_
  rintro e w4 ⟨hb4, A, n, c, j, rfl, hj, hn4, h3⟩
  have HB4 := Lib.hid (HB2.out.trans (hb4.mono HB2.out.size))
  have hc4 := BoxAt.later HC2.out hb4
  have HC4 := Lib.hid hc4
  have e0 := hc4.cell 0
  have e1 := hc4.cell 1
  have g0 := Lib.frozen_of_heap hc4 0
  have g1 := Lib.frozen_of_heap hc4 1
  have hlt4 := hc4.lt
  simp at e0 e1
  have H3 := Lib.hid h3
  have hs4 := hb4.size
  have hj0 : (j : Int) ≤ 1000000 := by omega
  have hj1 : (0 : Int) ≤ (j : Int) := by omega
  clear hb4 hc4 h3 q0 q1 f0 f1
  obtain ⟨ib, hib⟩ : ∃ ib : Bool, (decide (j = s.size) || isAt s j 10) = ib := ⟨_, rfl⟩
  have hfin : R.isSome = (r.isSome && ib) ∧ ∀ x l m', R = some (x, l, m') → x = s.extract i m ∧ m' = j ∧ l.length = n ∧ PatF w4 (Since (w.heap.size + 1) w4) l (.slice A n c) := by
    have hR := HR.out
    cases r with
    | none => dsimp only at hR; subst hR; exact ⟨rfl, fun x l m' h => by cases h⟩
    | some le =>
      obtain ⟨l, e⟩ := le
      obtain ⟨rfl, h5, h6⟩ := H3.out l e rfl
      dsimp only at hR
      by_cases hc : e = s.size ∨ isAt s e 10 = true
      · rw [if_pos hc] at hR
        subst hR
        have : ib = true := by
          rw [← hib]
          rcases hc with h | h
          · rw [decide_eq_true h]; rfl
          · rw [h, Bool.or_true]
        rw [this]
        refine ⟨rfl, fun x l' m' h => ?_⟩
        cases h
        exact ⟨rfl, rfl, h5, PatF.carry (fun b hb => ⟨⟨by have := hb.1; have := HB2.out.size; omega, hb.2⟩, rfl⟩) h6⟩
      · rw [if_neg hc] at hR
        subst hR
        have : ib = false := by
          rw [← hib]
          simp only [not_or, Bool.not_eq_true] at hc
          rw [decide_eq_false hc.1, hc.2]; rfl
        rw [this, Bool.and_false]
        exact ⟨rfl, fun x l' m' h => by cases h⟩
  obtain ⟨rs, hrs⟩ : ∃ q : Bool, r.isSome = q := ⟨_, rfl⟩
  rw [hrs] at hfin ⊢
  have Hfin := Lib.hid hfin
  clear hfin hrs H3 HR
  by_cases hje : j = s.size
  · have d3 : ((j : Int) == (s.size : Int)) = true := beq_iff_eq.2 (by omega)
    have hib2 : ib = true := by rw [← hib, decide_eq_true hje]; rfl
    subst hib2
    clear hib hje
    cases rs
    all_goals
      go_wp2
      exact end2a Tryz.results85 (box_set2 HC4.out _ _) rfl rfl rfl rfl ⟨below_set2 HB4.out (Nat.le_refl _) _ _, s.extract i m, A, n, c, j, by rw [Hfin.out.1]; rfl, hj, hn4, fun x l m' h => by
        obtain ⟨h1, h2, h3, h4⟩ := Hfin.out.2 x l m' h
        exact ⟨h1, h2, h3, pat_set2 h4 _ _⟩⟩
  · have d3 : ((j : Int) == (s.size : Int)) = false := beq_eq_false_iff_ne.2 (by omega)
    have hjl : j < s.size := by omega
    have d4 : (j : Int) < (s.size : Int) := by omega
    have hg := isAt_get s j hjl 10
    rw [decide_eq_false hje, Bool.false_or] at hib
    rw [hg] at hib
    have hib3 : (((s[j]'hjl).toNat : Int) == 10) = ib := by rw [← hib, Bool.eq_iff_iff, beq_iff_eq, beq_iff_eq]; show _ ↔ (s[j]'hjl).toNat = 10; omega
    clear hib hje hg
    cases rs
    all_goals
      go_wp2
      exact end2a Tryz.results85 (box_set2 HC4.out _ _) rfl rfl rfl rfl ⟨below_set2 HB4.out (Nat.le_refl _) _ _, s.extract i m, A, n, c, j, by rw [Hfin.out.1]; rfl, hj, hn4, fun x l m' h => by
        obtain ⟨h1, h2, h3, h4⟩ := Hfin.out.2 x l m' h
        exact ⟨h1, h2, h3, pat_set2 h4 _ _⟩⟩
end Go.Proofs.YtnogdojdjehakaaGreatDoor

/-
  Package entry: attribute, given expr.Pattern.
-/
namespace Go.Proofs.YtnogdojdjehakaaGreatDoor
open Go.RowKit
set_option linter.unusedVariables false
set_option linter.unusedSimpArgs false

theorem at0_byte (s : ByteArray) (q : Nat) (hc : q < s.size) (c : UInt8) : (at0 s.data.toList q == c) = ((s[q]'hc).toNat == c.toNat) := by
  have := isAt_get s q hc c
  unfold isAt at this
  rw [decide_eq_true hc, Bool.true_and] at this
  exact this
theorem pat_fin2 {w w2 : World} {l : List EL} {v : Value} (h : PatF w2 (Since (w.heap.size + 1) w2) l v) (x0 x1 : Value) (o : Obj) : PatF (((w2.setCell ⟨w.heap.size, 0, none⟩ x0).setCell ⟨w.heap.size, 1, none⟩ x1).alloc o).drew (Since w.heap.size (((w2.setCell ⟨w.heap.size, 0, none⟩ x0).setCell ⟨w.heap.size, 1, none⟩ x1).alloc o).drew) l v :=
  PatF.carry (fun b hb => by
    have h2 : b < ((w2.setCell ⟨w.heap.size, 0, none⟩ x0).setCell ⟨w.heap.size, 1, none⟩ x1).heap.size := by rw [set2_size]; exact hb.2
    exact ⟨⟨by have := hb.1; omega, by show b < (World.alloc _ o).heap.size; rw [World.size_alloc]; omega⟩, (Lib.alloc_old _ o b h2).trans (set2_heap _ _ _ _ b (by have := hb.1; omega))⟩) h
set_option maxHeartbeats 4000000 in
set_option maxRecDepth 100000 in
theorem attr_call {s : ByteArray} (hPC : PatCall s) (hs : s.size ≤ 1000000) (i : Nat) (h1i : 1 ≤ i) (hi : i ≤ s.size) (w : World) : Calls Tryz.prog 116 #[.string s, .int .i64 i] w (GotN s w (attrS s i)) := by
  have hBl := fun W => ((endBlank (s := s)).2 i W (by omega) hi).2.2
  have hbk := bl_ok s i hi
  obtain ⟨R, hR⟩ : ∃ R, attrS s i = R := ⟨_, rfl⟩
  rw [hR]
  unfold attrS at hR
  obtain ⟨q, hq⟩ : ∃ q, bl s i = q := ⟨_, rfl⟩
  rw [hq] at hBl hbk hR
  have hx := isAt_prefix s q 46 hbk.2
  have hp := fun W => Tryz.strings_HasPrefix (s.extract q s.size) ⟨#[46]⟩ W
  rw [hx] at hp
  obtain ⟨b, hb⟩ : ∃ b, isAt s q 46 = b := ⟨_, rfl⟩
  have hq1 : b = true → q + 1 ≤ s.size := fun h => isAt_lt (hb.trans h)
  rw [hb] at hp hR
  have HB := Lib.hid hBl
  have HP := Lib.hid hp
  have hq0 : (q : Int) ≤ 1000000 := by omega
  have hqs : (q : Int) ≤ (s.size : Int) := by omega
  have hss : (s.size : Int) ≤ 1000000 := by omega
  have hq2 : (1 : Int) ≤ (q : Int) := by omega
  have hq22 : (0 : Int) ≤ (q : Int) := by omega
  have hc0 := BoxAt.new w zAt 82
  have HC0 := Lib.hid hc0
  clear hBl hp hx hq hb hc0
  go_enter Tryz.func116, Tryz.ntmps116
  go_wp2_with fail
  go_at_call 50
  refine (HB.out _).mono ?_
  rintro e w1 ⟨rfl, hb1⟩
  have HB1 := Lib.hid (((Below.refl w.heap.size w).alloc (Nat.le_refl _) (.cells zAt 82)).trans (hb1.mono (by simp)))
  have hc1 := BoxAt.later HC0.out hb1
  have HC1 := Lib.hid hc1
  have q0 := hc1.cell 0
  have q1 := hc1.cell 1
  have f0 := Lib.frozen_of_heap hc1 0
  have f1 := Lib.frozen_of_heap hc1 1
  have hlt := hc1.lt
  simp at q0 q1
  clear hb1 hc1 HB HC0
  cases b
  case false =>
    rw [Bool.false_and, if_neg (by simp)] at hR
    subst hR
    go_wp2_with fail
    go_at_call 72
    refine (HP.out _).mono ?_
    rintro e w3 ⟨rfl, rfl⟩
    go_wp2
    exact end2a Tryz.results116 (box_set2 HC1.out _ _) rfl rfl rfl rfl ⟨below_set2 HB1.out (Nat.le_refl _) _ _, ⟨#[]⟩, none, 0, 0, 0, rfl, Nat.zero_le _, Nat.zero_le _, fun x l m h => by cases h⟩
  have hq3 := hq1 rfl
  rw [Bool.true_and, at0_byte s (q - 1) (by omega) 32] at hR
  obtain ⟨k, rfl⟩ : ∃ k, q = k + 1 := ⟨q - 1, by omega⟩
  have hkl : k < s.size := by omega
  have hk1 : (k : Int) < (s.size : Int) := by omega
  have hk0 : (0 : Int) ≤ (k : Int) := by omega
  have hR2 : (if ((s[k]'hkl).toNat == (32 : UInt8).toNat) = true then (match namedS s (k + 1 + 1) with
      | none => none
      | some (x, l, e) => if l.isEmpty = true then none else some (x, l, e)) else none) = R := hR
  obtain ⟨c, hc⟩ : ∃ c, (s[k]'hkl).toNat = c := ⟨_, rfl⟩
  rw [hc, show (32 : UInt8).toNat = 32 from rfl] at hR2
  clear hR hq1
  by_cases h32 : c = 32
  case neg =>
    have d1 : ((c : Int) != 32) = true := by rw [bne_iff_ne]; omega
    rw [if_neg (by rw [beq_iff_eq]; exact h32)] at hR2
    subst hR2
    clear h32
    go_wp2_with fail
    go_at_call 72
    refine (HP.out _).mono ?_
    rintro e w3 ⟨rfl, rfl⟩
    go_wp2
    exact end2a Tryz.results116 (box_set2 HC1.out _ _) rfl rfl rfl rfl ⟨below_set2 HB1.out (Nat.le_refl _) _ _, ⟨#[]⟩, none, 0, 0, 0, rfl, Nat.zero_le _, Nat.zero_le _, fun x l m h => by cases h⟩
  have d1 : ((c : Int) != 32) = false := by rw [bne_eq_false_iff_eq]; omega
  rw [if_pos (by rw [beq_iff_eq]; exact h32)] at hR2
  have hNm := fun W => named_call hPC hs (k + 1 + 1) hq3 W
  obtain ⟨r, hr⟩ : ∃ r, namedS s (k + 1 + 1) = r := ⟨_, rfl⟩
  rw [hr, show ((k + 1 + 1 : Nat) : Int) = (k : Int) + 1 + 1 by omega] at hNm
  rw [hr] at hR2
  have HNm := Lib.hid hNm
  have HR := Lib.hid hR2
  clear hNm hr hR2 h32
  go_wp2_with fail
  go_at_call 72
  refine (HP.out _).mono ?_
  rintro e w3 ⟨rfl, rfl⟩
  go_wp2_with fail
  go_at_call 85
  refine (HNm.out _).mono ?_
  rintro e w4 ⟨hb4, X, A, n, cp, j, rfl, hj, hn4, h3⟩
  have HB4 := Lib.hid (HB1.out.trans (hb4.mono HB1.out.size))
  have hc4 := BoxAt.later HC1.out hb4
  have HC4 := Lib.hid hc4
  have hlt4 := hc4.lt
  have e0 := hc4.cell 0
  have e1 := hc4.cell 1
  have g0 := Lib.frozen_of_heap hc4 0
  have g1 := Lib.frozen_of_heap hc4 1
  simp at e0 e1
  have H3 := Lib.hid h3
  have hs4 := hb4.size
  have hj0 : (j : Int) ≤ 1000000 := by omega
  have hn0 : (n : Int) ≤ 4000000 := by omega
  have hfin : R.isSome = (r.isSome && decide (0 < n)) ∧ ∀ x l m', R = some (x, l, m') → x = X ∧ m' = j ∧ l.length = n ∧ PatF w4 (Since (w.heap.size + 1) w4) l (.slice A n cp) := by
    have hR := HR.out
    cases r with
    | none => dsimp only at hR; subst hR; exact ⟨rfl, fun x l m' h => by cases h⟩
    | some le =>
      obtain ⟨x, l, e⟩ := le
      obtain ⟨h4, h5, h6, h7⟩ := H3.out x l e rfl
      dsimp only at hR
      by_cases hl : l = []
      · rw [hl] at hR
        simp at hR
        subst hR
        rw [hl] at h6
        have : n = 0 := h6.symm
        rw [this]
        exact ⟨rfl, fun x l' m' h => by cases h⟩
      · have hle : l.isEmpty = false := by cases l with
          | nil => exact absurd rfl hl
          | cons a b => rfl
        rw [hle] at hR
        simp at hR
        subst hR
        have hl0 : 0 < n := by rw [← h6]; exact List.length_pos_iff.2 hl
        rw [decide_eq_true hl0]
        refine ⟨rfl, fun x' l' m' h => ?_⟩
        cases h
        exact ⟨h4, h5, h6, PatF.carry (fun b hb => ⟨⟨by have := hb.1; have := HB1.out.size; omega, hb.2⟩, rfl⟩) h7⟩
  obtain ⟨rs, hrs⟩ : ∃ q : Bool, r.isSome = q := ⟨_, rfl⟩
  rw [hrs] at hfin ⊢
  have Hfin := Lib.hid hfin
  clear hb4 hc4 h3 hfin hrs H3 HR q0 q1 f0 f1
  cases rs
  all_goals
    go_wp2_with fail
    go_region
    all_goals (go_wp2_with fail)
    exact end2a Tryz.results116 (((box_set2 HC4.out _ _).alloc _)) rfl rfl rfl rfl ⟨((below_set2 HB4.out (Nat.le_refl _) _ _).alloc (by rw [set2_size]; omega) _).drew, X, A, n, cp, j, by rw [Hfin.out.1]; rfl, hj, hn4, fun x l m' h => by
      obtain ⟨h1, h2, h3, h4⟩ := Hfin.out.2 x l m' h
      exact ⟨h1, h2, h3, pat_fin2 h4 _ _ _⟩⟩
end Go.Proofs.YtnogdojdjehakaaGreatDoor

/-
  Package expr: variants, given pattern.
-/
namespace Go.Proofs.YtnogdojdjehakaaGreatDoor
open Go.RowKit
set_option linter.unusedVariables false
set_option linter.unusedSimpArgs false

/-- The values of a row of variants. -/
def VZip (W : World) (F : Nat → Prop) : List VA → List Value → Prop
  | [], xs => xs = []
  | .mk k d l :: r, xs => ∃ A n c ys, xs = .string k :: .bool d :: .slice A n c :: ys ∧ l.length = n ∧ PatF W F l (.slice A n c) ∧ VZip W F r ys
theorem VZip.snoc {W : World} {F : Nat → Prop} {k : ByteArray} {d : Bool} {l : List EL} {A : Option Addr} {n c : Nat} (hl : l.length = n) (hp : PatF W F l (.slice A n c)) : ∀ (acc : List VA) (xs : List Value), VZip W F acc xs → VZip W F (acc ++ [.mk k d l]) (xs ++ [.string k, .bool d, .slice A n c])
  | [], xs, h => by
    rw [VZip] at h
    subst h
    exact ⟨A, n, c, [], rfl, hl, hp, rfl⟩
  | .mk k' d' l' :: r, xs, h => by
    rw [VZip] at h
    obtain ⟨A', n', c', ys, rfl, h1, h2, h3⟩ := h
    exact ⟨A', n', c', _, rfl, h1, h2, VZip.snoc hl hp r ys h3⟩
theorem VZip.carry {W W' : World} {F F' : Nat → Prop} (g : ∀ b, F b → F' b ∧ W'.heap[b]? = W.heap[b]?) : ∀ (acc : List VA) (xs : List Value), VZip W F acc xs → VZip W' F' acc xs
  | [], xs, h => by rw [VZip] at h ⊢; exact h
  | .mk k' d' l' :: r, xs, h => by
    rw [VZip] at h
    obtain ⟨A', n', c', ys, rfl, h1, h2, h3⟩ := h
    exact ⟨A', n', c', ys, rfl, h1, h2.carry g, VZip.carry g r ys h3⟩
theorem VZip.vs {W : World} {F : Nat → Prop} {g : Nat} (hg : F g) : ∀ (acc : List VA) (xs : List Value) (o : Nat), (∀ j x, xs[j]? = some x → W.cell? ⟨g, o + j, none⟩ = some x) → VZip W F acc xs → VsF W F acc g o
  | [], xs, o, hc, h => by rw [VsF]; trivial
  | .mk k' d' l' :: r, xs, o, hc, h => by
    rw [VZip] at h
    obtain ⟨A', n', c', ys, rfl, h1, h2, h3⟩ := h
    rw [VsF]
    refine ⟨hg, hc 0 _ rfl, hc 1 _ rfl, ⟨_, hc 2 _ rfl, h2⟩, VZip.vs hg r ys (o + 3) (fun j x hx => ?_) h3⟩
    have := hc (j + 3) x (by simpa using hx)
    rw [show o + 3 + j = o + (j + 3) by omega]
    exact this
/-- The blocks made since, but for a row's own. -/
def OwnSet (B : Nat) (W : World) (v : Value) (b : Nat) : Prop := Since B W b ∧ some b ≠ v.ownBlock
theorem Kp.grownBy {rb : Nat} {W W' : World} (h : Kp rb W W') : W.grownBy W' (some rb) := ⟨h.below.os, h.below.tape, h.below.output, h.below.size, fun k hk hn => h.others k hk (fun e => hn (by rw [e]))⟩
theorem Kp.grown {rb : Nat} {a W W' : World} {row : Option Nat} (h : Kp rb a W) (hg : W.grownBy W' row) (hrow : ∀ k, row = some k → a.heap.size ≤ k) (hr : rb < a.heap.size) : Kp rb a W' :=
  ⟨h.below.grown hg (by have := h.size; omega) (fun k e => by have := hrow k e; omega), fun k hk hn => (hg.block k (Nat.lt_of_lt_of_le hk h.size) (fun e => by have := hrow k e.symm; omega)).trans (h.others k hk hn)⟩
theorem Rd.grown {rb : Nat} {s : ByteArray} {i : Nat} {W W' : World} {row : Option Nat} (h : Rd rb s i W) (hg : W.grownBy W' row) (hrow : ∀ k, row = some k → rb < k) : Rd rb s i W' :=
  (hg.block rb h.lt (fun e => by have := hrow rb e.symm; omega)).trans h
/-- A row of variants of the call's own. -/
def OwnV (B : Nat) (W : World) (v : Value) (acc : List VA) : Prop := ∃ xs, W.ownsRow B 69 3 v acc.length xs ∧ VZip W (OwnSet B W v) acc xs
theorem OwnV.nil (B : Nat) (W : World) : OwnV B W (.slice none 0 0) [] := ⟨[], World.ownsRow_nil _ _ _ _, rfl⟩
theorem OwnV.kp {rb B : Nat} {W W' : World} {v : Value} {acc : List VA} (h : OwnV B W v acc) (g : Kp rb W W') (hrb : rb < B) : OwnV B W' v acc := by
  obtain ⟨xs, h1, h2⟩ := h
  refine ⟨xs, h1.kept g.grownBy (.inr (fun e => by have := (h1.lt rb e).1; omega)), VZip.carry (fun b hb => ?_) _ _ h2⟩
  obtain ⟨⟨hb1, hb2⟩, hb3⟩ := hb
  exact ⟨⟨⟨hb1, Nat.lt_of_lt_of_le hb2 g.size⟩, hb3⟩, g.others b hb2 (by omega)⟩
theorem OwnV.more {B : Nat} {W W' : World} {v v' : Value} {acc : List VA} {xs : List Value} {k : ByteArray} {d : Bool} {l : List EL} {A : Option Addr} {n c : Nat} (h2 : VZip W (OwnSet B W v) acc xs)
    (ho : W'.ownsRow B 69 3 v' (acc.length + 1) (xs ++ [.string k, .bool d, .slice A n c])) (hg : W.grownBy W' v.ownBlock) (hw : v'.ownBlock = v.ownBlock ∨ v'.ownBlock = some W.heap.size) (hl : l.length = n) (hp : PatF W (OwnSet B W v) l (.slice A n c)) :
    OwnV B W' v' (acc ++ [.mk k d l]) := by
  refine ⟨_, by rw [List.length_append]; exact ho, ?_⟩
  have g : ∀ b, OwnSet B W v b → OwnSet B W' v' b ∧ W'.heap[b]? = W.heap[b]? := fun b hb => by
    obtain ⟨⟨hb1, hb2⟩, hb3⟩ := hb
    refine ⟨⟨⟨hb1, Nat.lt_of_lt_of_le hb2 hg.size⟩, ?_⟩, hg.block b hb2 hb3⟩
    rcases hw with e | e
    · rw [e]; exact hb3
    · rw [e]; intro e2; have := Option.some.inj e2; omega
  exact VZip.carry g _ _ (VZip.snoc hl hp acc xs h2)
/-- What a row of the call's own is, seen from without. -/
theorem OwnV.lie {B : Nat} {W : World} {v : Value} {acc : List VA} (h : OwnV B W v acc) : ∃ A c, v = .slice A acc.length c ∧ LieAt (VsF W (Since B W) acc) v acc.length := by
  obtain ⟨xs, h1, h2⟩ := h
  rcases h1.2 with ⟨rfl, h0⟩ | ⟨g, cap, cur, rfl, hb, hg, hc1, hc2, hcs, htk⟩
  · have : acc = [] := List.eq_nil_of_length_eq_zero h0
    subst this
    exact ⟨none, 0, rfl, none, 0, rfl, Nat.le_refl _, Nat.zero_le _, fun h => absurd h (by simp)⟩
  · refine ⟨_, _, rfl, _, _, rfl, hc1, hc2, fun _ => ⟨g, 0, rfl, VZip.vs ⟨hb, (Array.getElem?_eq_some_iff.1 hg).1⟩ acc xs 0 (fun j x hx => ?_) (VZip.carry (fun b hb => ⟨hb.1, rfl⟩) _ _ h2)⟩⟩
    have := h1.cells (g := g) rfl j x hx
    rw [Addr.add_mid] at this
    exact this
/-- How far the reader is. -/
def posOf (rb : Nat) (w : World) : Nat := match w.cell? ⟨rb, 1, none⟩ with
  | some (.int _ i) => i.toNat
  | _ => 0
theorem Rd.pos {rb : Nat} {s : ByteArray} {i : Nat} {w : World} (h : Rd rb s i w) : posOf rb w = i := by
  unfold posOf
  rw [h.c1]
  simp
/-- What reading variants gives. -/
def GotVs (rb : Nat) (s : ByteArray) (w : World) (r : Option (List VA × Nat)) (e : Ending) (w' : World) : Prop :=
  Kp rb w w' ∧ ∃ (A : Option Addr) (n c j : Nat), e = .returned (.tuple #[.slice A n c, .bool r.isSome]) ∧ Rd rb s j w' ∧ j ≤ s.size ∧
    ∀ l m, r = some (l, m) → m = j ∧ l.length = n ∧ LieAt (VsF w' (Since w.heap.size w') l) (.slice A n c) n
theorem parts_pos {s : ByteArray} {P : Nat → Res} : ∀ (m : Nat) (acc : List EL) (i : Nat), s.size - i ≤ m → i ≤ s.size → ∀ ps j, partsS P s acc i = some (ps, j) → i ≤ j ∧ j ≤ s.size := by
  intro m
  induction m with
  | zero =>
    intro acc i hm hi ps j h
    have ht : i ≤ tx s i := behN_ge _ _ _
    have ht2 : tx s i ≤ s.size := by have := behN_le txB s.data.toList i (by rw [size_data]; exact hi); rw [size_data] at this; exact this
    rw [partsS] at h
    split at h
    · next hc => have := isAt_lt hc; omega
    · cases h; omega
  | succ m ih =>
    intro acc i hm hi ps j h
    have ht : i ≤ tx s i := behN_ge _ _ _
    have ht2 : tx s i ≤ s.size := by have := behN_le txB s.data.toList i (by rw [size_data]; exact hi); rw [size_data] at this; exact this
    rw [partsS] at h
    split at h
    · split at h
      · cases h
      · split at h
        · next hg => have := ih _ _ (by omega) hg.2 ps j h; omega
        · cases h
    · cases h; omega
theorem lines_pos {s : ByteArray} {P : Nat → Res} : ∀ (m : Nat) (acc : List LN) (f p i : Nat), s.size - i ≤ m → i ≤ s.size → ∀ ls j, linesS P s acc f p i = some (ls, j) → i ≤ j ∧ j ≤ s.size := by
  intro m
  induction m with
  | zero =>
    intro acc f p i hm hi ls j h
    rw [linesS] at h
    split at h
    · cases h
    · next hp =>
      have h1 := parts_pos _ _ _ (Nat.le_refl _) hi _ _ hp
      split at h
      · cases h; exact h1
      · split at h
        · next hg => omega
        · cases h
  | succ m ih =>
    intro acc f p i hm hi ls j h
    rw [linesS] at h
    split at h
    · cases h
    · next hp =>
      have h1 := parts_pos _ _ _ (Nat.le_refl _) hi _ _ hp
      split at h
      · cases h; exact h1
      · split at h
        · next hg => have := ih _ _ _ _ (by omega) hg.2 ls j h; omega
        · cases h
theorem pat_pos {s : ByteArray} {P : Nat → Res} (i : Nat) (hi : i ≤ s.size) (l : List EL) (j : Nat) (h : patS P s i = some (l, j)) : i ≤ j ∧ j ≤ s.size := by
  unfold patS at h
  split at h
  · cases h
  · next hl =>
    cases h
    have h2 := sp_ok s i hi
    have := lines_pos _ _ _ _ _ (Nat.le_refl _) h2.2 _ _ hl
    omega
theorem vari_pos {s : ByteArray} {P : Nat → Res} (i : Nat) (hi : i ≤ s.size) (v : VA) (j : Nat) (h : variS P s i = some (v, j)) : i < j ∧ j ≤ s.size := by
  unfold variS at h
  have hii : i ≤ (if isAt s i 42 then i + 1 else i) := by split <;> omega
  generalize (if isAt s i 42 then i + 1 else i) = i1 at h hii
  split at h
  · next h1 =>
    have h2 := isAt_lt h1
    have h3 := bl_ok s (i1 + 1) h2
    generalize bl s (i1 + 1) = a at h h3
    split at h
    · cases h
    · have h4 : a ≤ keyE s a ∧ keyE s a ≤ s.size := by
        have := nm_ok s a h3.2
        have := nu_ok s a h3.2
        unfold keyE; split <;> omega
      generalize keyE s a = k at h h4
      have h5 := bl_ok s k h4.2
      generalize bl s k = m at h h5
      split at h
      · next h6 =>
        have h7 := isAt_lt h6
        split at h
        · cases h
        · next hp =>
          have h8 := pat_pos _ h7 _ _ hp
          split at h
          · cases h; omega
          · cases h
      · cases h
  · cases h
end Go.Proofs.YtnogdojdjehakaaGreatDoor

/-
  Package expr: variants, given pattern: the walk.
-/
namespace Go.Proofs.YtnogdojdjehakaaGreatDoor
open Go.RowKit
set_option linter.unusedVariables false
set_option linter.unusedSimpArgs false

theorem infoV : (Tryz.prog.info? 69).map (fun i => (i.zero, i.size, i.bytes)) = some (some (.agg #[.string ⟨#[]⟩, .bool false, .slice none 0 0]), 3, 48) := by kernel_rfl
theorem own_slice {w : World} {B : Nat} {e : TypeId} {size : Nat} {v : Value} {n : Nat} {xs : List Value} (h : w.ownsRow B e size v n xs) (hn : 0 < n) : ∃ A c, v = .slice A n c := by
  rcases h.2 with ⟨_, h0⟩ | ⟨g, cap, cur, rfl, _⟩
  · omega
  · exact ⟨_, _, rfl⟩
theorem ownV_push {rb B : Nat} {w5 w6 : World} {v : Value} {acc : List VA} {xs : List Value} {X : ByteArray} {df : Bool} {l : List EL} {A : Option Addr} {n c : Nat} {o1 o2 : Obj} {W3 : World} {v' : Value} (hrb : rb < B) (hB : B ≤ w5.heap.size)
    (hs : w5.heap.size ≤ w6.heap.size) (hv : ∀ k, v.ownBlock = some k → B ≤ k ∧ k < w5.heap.size) (hz : VZip w6 (OwnSet B w6 v) acc xs) (hp : PatF w6 (Since w5.heap.size w6) l (.slice A n c)) (hl : l.length = n)
    (ho : W3.ownsRow B 69 3 v' (acc.length + 1) (xs ++ [.string X, .bool df, .slice A n c])) (hg : ((w6.alloc o1).alloc o2).grownBy W3 v.ownBlock)
    (hw : v'.ownBlock = v.ownBlock ∨ v'.ownBlock = some ((w6.alloc o1).alloc o2).heap.size) : OwnV B W3 v' (acc ++ [.mk X df l]) := by
  have K : Kp rb w6 ((w6.alloc o1).alloc o2) := ((Kp.refl rb w6).alloc (by omega) _).alloc (by simp; omega) _
  refine OwnV.more (VZip.carry (fun b hb => ?_) _ _ hz) ho hg hw hl (PatF.carry (fun b hb => ?_) hp)
  · obtain ⟨⟨hb1, hb2⟩, hb3⟩ := hb
    exact ⟨⟨⟨hb1, Nat.lt_of_lt_of_le hb2 K.size⟩, hb3⟩, K.others b hb2 (by omega)⟩
  · obtain ⟨hb1, hb2⟩ := hb
    exact ⟨⟨⟨by omega, Nat.lt_of_lt_of_le hb2 K.size⟩, fun e => by have := hv b e.symm; omega⟩, K.others b hb2 (by omega)⟩
set_option maxHeartbeats 8000000 in
set_option maxRecDepth 100000 in
theorem variants_any {rb : Nat} {s : ByteArray} {d : Nat} {P : Nat → Res} (hs : s.size ≤ 1000000) (hd : d ≤ 4000) (hPat : PatTo rb s d (patS P s)) (i : Nat) (w : World) (hr : Rd rb s i w) (hi : i ≤ s.size) :
    Calls Tryz.prog 54 #[pt rb, .int .i64 d] w (GotVs rb s w (selS P s i)) := by
  obtain ⟨i0, hi0, hz0, hz1, hz2⟩ := info_parts infoV
  have HR := Lib.hid hr
  have hlt := hr.lt
  obtain ⟨R, hRR⟩ : ∃ R, selS P s i = R := ⟨_, rfl⟩
  rw [hRR]
  unfold selS at hRR
  have hS := sp_ok s i hi
  have hP1 := fun W (h : Rd rb s i W) => pass_any endSpaces W h (by omega) hi
  obtain ⟨p, hp⟩ : ∃ p, sp s i = p := ⟨_, rfl⟩
  rw [hp] at hS hP1 hRR
  have hT1 := fun W (h : Rd rb s p W) => take_any 10 W h (by omega) hS.2
  obtain ⟨b1, hb1⟩ : ∃ b, isAt s p 10 = b := ⟨_, rfl⟩
  have hp1 : b1 = true → p + 1 ≤ s.size := fun h => isAt_lt (hb1.trans h)
  rw [hb1] at hT1 hRR
  have HP1 := Lib.hid hP1
  have HT1 := Lib.hid hT1
  have HV := Lib.hid (fun j W h1 h2 => variant_any (rb := rb) hs hd hPat j W h1 h2)
  clear hr hP1 hp hT1 hb1 hPat
  unfold pt at HP1 HT1 HV ⊢
  cases b1
  case false =>
    rw [if_neg (by simp)] at hRR
    subst hRR
    go_enter Tryz.func54, Tryz.ntmps54
    go_wp2_with fail
    go_at_call 49
    refine (HP1.out _ HR.out).mono ?_
    rintro e w1 ⟨rfl, g1, g2⟩
    have G1 := Lib.hid g1
    have HK := Lib.hid g2
    clear g1 g2
    go_wp2_with fail
    go_at_call 48
    refine (HT1.out _ G1.out).mono ?_
    rintro e w2 ⟨rfl, g3, g4⟩
    have G3 := Lib.hid (show Rd rb s p w2 by simpa using g3)
    have HK2 := Lib.hid (HK.out.trans g4)
    clear g3 g4
    go_wp2
    go_ret2
    exact ⟨HK2.out, none, 0, 0, p, rfl, G3.out, hS.2, fun l m h => by cases h⟩
  have hp2 := hp1 rfl
  rw [if_pos rfl] at hRR
  have hB := bl_ok s (p + 1) hp2
  have hP2 := fun W (h : Rd rb s (p + 1) W) => pass_any endBlank W h (by omega) hp2
  obtain ⟨q, hq⟩ : ∃ q, bl s (p + 1) = q := ⟨_, rfl⟩
  rw [hq] at hB hP2 hRR
  have HP2 := Lib.hid hP2
  have HRR := Lib.hid hRR
  have hd0 : (d : Int) ≤ 4000 := by omega
  unfold pt at HP2
  clear hP2 hq hRR hp1
  go_enter Tryz.func54, Tryz.ntmps54
  go_wp2_with fail
  go_at_call 49
  refine (HP1.out _ HR.out).mono ?_
  rintro e w1 ⟨rfl, g1, g2⟩
  have G1 := Lib.hid g1
  have HK := Lib.hid g2
  clear g1 g2
  go_wp2_with fail
  go_at_call 48
  refine (HT1.out _ G1.out).mono ?_
  rintro e w2 ⟨rfl, g3, g4⟩
  have G3 := Lib.hid (show Rd rb s (p + 1) w2 by simpa using g3)
  have HK2 := Lib.hid (HK.out.trans g4)
  clear g3 g4
  go_wp2_with fail
  go_at_call 49
  refine (HP2.out _ G3.out).mono ?_
  rintro e w3 ⟨rfl, g3, g4⟩
  have G4 := Lib.hid g3
  have HK3 := Lib.hid (HK2.out.trans g4)
  clear g3 g4
  go_wp2
  go_loopw [6, 7] (fun t6 t7 wr => ∃ (acc : List VA) (j : Nat) (A : Option Addr) (c : Nat), t6 = .slice A acc.length c ∧ t7 = .int .i64 (acc.countP vaDflt : Nat) ∧ j ≤ s.size ∧ acc.length ≤ j ∧ Hid (varsS P s acc j = R) ∧ Hid (Rd rb s j wr) ∧ Hid (Kp rb w wr) ∧ Hid (OwnV w.heap.size wr (.slice A acc.length c) acc)) (fun _ _ wr => s.size - posOf rb wr)
  case atStart => exact ⟨[], q, none, 0, rfl, rfl, hB.2, Nat.zero_le _, HRR.out, G4.out, HK3.out, OwnV.nil _ _⟩
  case round =>
    obtain ⟨acc, j, A, c, rfl, rfl, hj, hal, Hans, HRd, HK, HO⟩ := hrel
    have hT := fun W (h : Rd rb s j W) => take_any 125 W h (by omega) hj
    obtain ⟨b, hb⟩ : ∃ b, isAt s j 125 = b := ⟨_, rfl⟩
    have hj1 : b = true → j + 1 ≤ s.size := fun h => isAt_lt (hb.trans h)
    have hans := Hans.out
    rw [varsS] at hans
    rw [hb] at hT hans
    have HT := Lib.hid hT
    have hcnt : acc.countP vaDflt ≤ acc.length := List.countP_le_length
    obtain ⟨cn, hcn⟩ : ∃ cn, acc.countP vaDflt = cn := ⟨_, rfl⟩
    rw [hcn] at hcnt hans ⊢
    have Hcn := Lib.hid hcn
    have hcn0 : (cn : Int) ≤ 1000000 := by omega
    have Hpos := Lib.hid HRd.out.pos
    unfold pt at HT
    clear hT hb hcn
    cases b
    case true =>
      rw [if_pos rfl] at hans
      have HRn := Lib.hid hans
      have Hj1 := Lib.hid (hj1 rfl)
      clear hans hj1
      go_wp2_with fail
      go_at_call 48
      refine (HT.out _ HRd.out).mono ?_
      rintro e w5 ⟨rfl, g1, g2⟩
      have G5 := Lib.hid (show Rd rb s (j + 1) w5 by simpa using g1)
      have HK5 := Lib.hid (HK.out.trans g2)
      have HO5 := Lib.hid (HO.out.kp g2 hlt)
      clear g1 g2
      by_cases h1 : cn = 1
      · have h11 : ((cn : Int) == 1) = true := beq_iff_eq.2 (by omega)
        have hR := HRn.out
        rw [if_pos h1] at hR
        subst hR
        clear h1
        go_wp2
        go_ret2
        obtain ⟨A', c', e1, hl⟩ := HO5.out.lie
        exact ⟨HK5.out, A, acc.length, c, j + 1, rfl, G5.out, Hj1.out, fun l m h => by cases h; exact ⟨rfl, rfl, hl⟩⟩
      · have h11 : ((cn : Int) == 1) = false := beq_eq_false_iff_ne.2 (by omega)
        have hR := HRn.out
        rw [if_neg h1] at hR
        subst hR
        clear h1
        go_wp2
        go_ret2
        exact ⟨HK5.out, A, acc.length, c, j + 1, rfl, G5.out, Hj1.out, fun l m h => by cases h⟩
    rw [if_neg (by simp)] at hans
    have hv := vari_pos (P := P) j hj
    obtain ⟨r, hr⟩ : ∃ r, variS P s j = r := ⟨_, rfl⟩
    rw [hr] at hans hv
    have hVj := fun W h => HV.out j W h hj
    rw [hr] at hVj
    have HVj := Lib.hid hVj
    have Hv := Lib.hid hv
    have HRn := Lib.hid hans
    clear hans hv hr hVj hj1
    go_wp2_with fail
    go_at_call 48
    refine (HT.out _ HRd.out).mono ?_
    rintro e w5 ⟨rfl, g1, g2⟩
    have G5 := Lib.hid (show Rd rb s j w5 by simpa using g1)
    have HK5 := Lib.hid (HK.out.trans g2)
    have HO5 := Lib.hid (HO.out.kp g2 hlt)
    clear g1 g2
    go_wp2_with fail
    go_at_call 79
    refine (HVj.out _ G5.out).mono ?_
    rintro e w6 ⟨h1, X, df, A', n, c', m, rfl, h2, hm, hn, h3⟩
    have HK6 := Lib.hid (HK5.out.trans h1)
    have HO6 := Lib.hid (HO5.out.kp h1 hlt)
    have H2 := Lib.hid h2
    have H3 := Lib.hid h3
    have hl6 := h2.lt
    have hs5 := h1.size
    clear h1 h2 h3
    cases r with
    | none =>
      have hR := HRn.out
      dsimp only at hR
      subst hR
      go_wp2
      go_ret2
      exact ⟨HK6.out.alloc (Nat.le_of_lt hl6) _, none, 0, 0, m, rfl, H2.out.alloc _, hm, fun l m h => by cases h⟩
    | some vm =>
      obtain ⟨v, m'⟩ := vm
      obtain ⟨rfl, l, rfl, hln, hpt⟩ := H3.out v m' rfl
      have hv2 := Hv.out _ _ rfl
      have HL := Lib.hid hln
      have HPF := Lib.hid hpt
      have hB7 := bl_ok s m' hm
      have hP7 := fun W (h : Rd rb s m' W) => pass_any endBlank W h (by omega) hm
      have hR := HRn.out
      dsimp only at hR
      obtain ⟨q7, hq7⟩ : ∃ q, bl s m' = q := ⟨_, rfl⟩
      rw [hq7] at hB7 hP7 hR
      rw [dif_pos (show j < q7 ∧ q7 ≤ s.size from ⟨by omega, hB7.2⟩)] at hR
      have HR7 := Lib.hid hR
      have HP7 := Lib.hid hP7
      unfold pt at HP7
      clear hR hln hpt hP7 hq7
      have hn0 : (n : Int) ≤ 4000000 := by omega
      have hacc : (acc.length : Int) ≤ 1000000 := by omega
      obtain ⟨xs6, ho6, hz6⟩ := HO6.out
      have hown1 := (ho6.alloc (.cells #[.string X, .bool df, .slice A' n c'] 69)).alloc (.cells #[.string X, .bool df, .slice A' n c'] 69)
      obtain ⟨xs5, ho5, hz5⟩ := HO5.out
      have Hv5 := Lib.hid (fun k e => ho5.lt k e)
      have hs0 := HK5.out.size
      clear ho6 ho5 hz5
      cases df
      case false =>
        go_wp2_with (at_builtin; refine wpList_append_where _ rfl _ _ 27 rfl w.heap.size 69 i0 (.agg zV) 3 48 Tryz.underlying27 hi0 hz0 hz1 hz2 rfl (by decide) _ _ _ rfl hown1 ⟨w6.heap.size + 1, 0, none⟩ 1 1 [.string X, .bool false, .slice A' n c'] rfl rfl ?c1 ?c2 ?c3 ?c4 ?c5 ?c6 ?_)
        case c1 =>
          intro j u hj
          match j, hj with
          | 0, hj => simp at hj; subst hj; simp [Addr.add]
          | 1, hj => simp at hj; subst hj; simp [Addr.add]
          | 2, hj => simp at hj; subst hj; simp [Addr.add]
        case c2 => intro u hu; simp at hu; rcases hu with rfl | rfl | rfl <;> rfl
        case c3 => unfold maxLen; omega
        case c4 => omega
        case c5 => simp; omega
        case c6 => decide
        intro v' w8 hown' hgrow hwh
        have HO8 := Lib.hid (ownV_push hlt (by omega) hs5 Hv5.out hz6 HPF.out HL.out hown' hgrow (by simpa using hwh))
        have G8 := Lib.hid (((H2.out.alloc _).alloc _).grown hgrow (fun k e => by have := Hv5.out k e; omega))
        have HK8 := Lib.hid (Kp.grown ((HK6.out.alloc (Nat.le_of_lt hl6) _).alloc (by simp; omega) _) hgrow (fun k e => (Hv5.out k e).1) hlt)
        obtain ⟨A2, c2, rfl⟩ := own_slice hown' (by omega)
        clear hown' hgrow hwh
        go_wp2_with fail
        go_at_call 49
        refine (HP7.out _ G8.out).mono ?_
        rintro e w9 ⟨rfl, g1, g2⟩
        have G9 := Lib.hid g1
        have HK9 := Lib.hid (HK8.out.trans g2)
        have HO9 := Lib.hid (HO8.out.kp g2 hlt)
        clear g1 g2
        go_wp2
        go_roundw
        case rel =>
          refine ⟨acc ++ [.mk X false l], q7, A2, c2, ?_, ?_, hB7.2, ?_, HR7, G9, HK9, ?_⟩
          · show Value.slice A2 _ c2 = _
            simp
          · show Value.int .i64 _ = _
            rw [List.countP_append, Hcn.out]
            simp [vaDflt]
          · rw [List.length_append, List.length_singleton]; omega
          · show Hid (OwnV w.heap.size _ (.slice A2 (acc ++ [VA.mk X false l]).length c2) _)
            rw [List.length_append, List.length_singleton]
            exact HO9
        case measure =>
          show s.size - posOf rb _ < s.size - posOf rb wr
          rw [G9.out.pos, Hpos.out]
          omega
      case true =>
        go_wp2_with (at_builtin; refine wpList_append_where _ rfl _ _ 27 rfl w.heap.size 69 i0 (.agg zV) 3 48 Tryz.underlying27 hi0 hz0 hz1 hz2 rfl (by decide) _ _ _ rfl hown1 ⟨w6.heap.size + 1, 0, none⟩ 1 1 [.string X, .bool true, .slice A' n c'] rfl rfl ?c1 ?c2 ?c3 ?c4 ?c5 ?c6 ?_)
        case c1 =>
          intro j u hj
          match j, hj with
          | 0, hj => simp at hj; subst hj; simp [Addr.add]
          | 1, hj => simp at hj; subst hj; simp [Addr.add]
          | 2, hj => simp at hj; subst hj; simp [Addr.add]
        case c2 => intro u hu; simp at hu; rcases hu with rfl | rfl | rfl <;> rfl
        case c3 => unfold maxLen; omega
        case c4 => omega
        case c5 => simp; omega
        case c6 => decide
        intro v' w8 hown' hgrow hwh
        have HO8 := Lib.hid (ownV_push hlt (by omega) hs5 Hv5.out hz6 HPF.out HL.out hown' hgrow (by simpa using hwh))
        have G8 := Lib.hid (((H2.out.alloc _).alloc _).grown hgrow (fun k e => by have := Hv5.out k e; omega))
        have HK8 := Lib.hid (Kp.grown ((HK6.out.alloc (Nat.le_of_lt hl6) _).alloc (by simp; omega) _) hgrow (fun k e => (Hv5.out k e).1) hlt)
        obtain ⟨A2, c2, rfl⟩ := own_slice hown' (by omega)
        clear hown' hgrow hwh
        go_wp2_with fail
        go_at_call 49
        refine (HP7.out _ G8.out).mono ?_
        rintro e w9 ⟨rfl, g1, g2⟩
        have G9 := Lib.hid g1
        have HK9 := Lib.hid (HK8.out.trans g2)
        have HO9 := Lib.hid (HO8.out.kp g2 hlt)
        clear g1 g2
        go_wp2
        go_roundw
        case rel =>
          refine ⟨acc ++ [.mk X true l], q7, A2, c2, ?_, ?_, hB7.2, ?_, HR7, G9, HK9, ?_⟩
          · show Value.slice A2 _ c2 = _
            simp
          · show Value.int .i64 _ = _
            rw [List.countP_append, Hcn.out]
            simp [vaDflt]
          · rw [List.length_append, List.length_singleton]; omega
          · show Hid (OwnV w.heap.size _ (.slice A2 (acc ++ [VA.mk X true l]).length c2) _)
            rw [List.length_append, List.length_singleton]
            exact HO9
        case measure =>
          show s.size - posOf rb _ < s.size - posOf rb wr
          rw [G9.out.pos, Hpos.out]
          omega
end Go.Proofs.YtnogdojdjehakaaGreatDoor

/-
  Package entry: attributes, given expr.Pattern.
-/
namespace Go.Proofs.YtnogdojdjehakaaGreatDoor
open Go.RowKit
set_option linter.unusedVariables false
set_option linter.unusedSimpArgs false

theorem infoT : (Tryz.prog.info? 82).map (fun i => (i.zero, i.size, i.bytes)) = some (some (.agg #[.string ⟨#[]⟩, .slice none 0 0]), 2, 40) := by kernel_rfl
def TsF (W : World) (F : Nat → Prop) : List AT → Nat → Nat → Prop
  | [], _, _ => True
  | .mk n v :: r, b, o => F b ∧ W.cell? ⟨b, o, none⟩ = some (.string n) ∧ (∃ u, W.cell? ⟨b, o + 1, none⟩ = some u ∧ PatF W F v u) ∧ TsF W F r b (o + 2)
def AtsF (W : World) (F : Nat → Prop) (l : List AT) (v : Value) : Prop := LieAt (TsF W F l) v l.length
theorem TsF.carry {W W' : World} {F F' : Nat → Prop} (g : ∀ b, F b → F' b ∧ W'.heap[b]? = W.heap[b]?) : ∀ (l : List AT) (b o : Nat), TsF W F l b o → TsF W' F' l b o
  | [], b, o, _ => by rw [TsF]; trivial
  | .mk n v :: r, b, o, h => by
    rw [TsF] at h ⊢
    obtain ⟨hb, h1, ⟨u, h2, h3⟩, h4⟩ := h
    exact ⟨(g b hb).1, (cell_same (g b hb).2 _).trans h1, ⟨u, (cell_same (g b hb).2 _).trans h2, h3.carry g⟩, TsF.carry g r b _ h4⟩
theorem AtsF.carry {W W' : World} {F F' : Nat → Prop} (g : ∀ b, F b → F' b ∧ W'.heap[b]? = W.heap[b]?) {l : List AT} {v : Value} (h : AtsF W F l v) : AtsF W' F' l v := LieAt.imp h (fun b o => TsF.carry g l b o)
theorem AtsF.nil (W : World) (F : Nat → Prop) : AtsF W F [] (.slice none 0 0) := ⟨none, 0, rfl, Nat.le_refl _, Nat.zero_le _, fun h => absurd h (by simp)⟩
/-- The values of a row of attributes. -/
def TZip (W : World) (F : Nat → Prop) : List AT → List Value → Prop
  | [], xs => xs = []
  | .mk n v :: r, xs => ∃ u ys, xs = .string n :: u :: ys ∧ PatF W F v u ∧ TZip W F r ys
theorem TZip.snoc {W : World} {F : Nat → Prop} {t : ByteArray} {p : List EL} {u : Value} (hp : PatF W F p u) : ∀ (acc : List AT) (xs : List Value), TZip W F acc xs → TZip W F (acc ++ [.mk t p]) (xs ++ [.string t, u])
  | [], xs, h => by
    rw [TZip] at h
    subst h
    exact ⟨u, [], rfl, hp, rfl⟩
  | .mk t' p' :: r, xs, h => by
    rw [TZip] at h
    obtain ⟨u', ys, rfl, h2, h3⟩ := h
    exact ⟨u', _, rfl, h2, TZip.snoc hp r ys h3⟩
theorem TZip.carry {W W' : World} {F F' : Nat → Prop} (g : ∀ b, F b → F' b ∧ W'.heap[b]? = W.heap[b]?) : ∀ (acc : List AT) (xs : List Value), TZip W F acc xs → TZip W' F' acc xs
  | [], xs, h => by rw [TZip] at h ⊢; exact h
  | .mk t' p' :: r, xs, h => by
    rw [TZip] at h
    obtain ⟨u', ys, rfl, h2, h3⟩ := h
    exact ⟨u', ys, rfl, h2.carry g, TZip.carry g r ys h3⟩
theorem TZip.es {W : World} {F : Nat → Prop} {g : Nat} (hg : F g) : ∀ (acc : List AT) (xs : List Value) (o : Nat), (∀ j x, xs[j]? = some x → W.cell? ⟨g, o + j, none⟩ = some x) → TZip W F acc xs → TsF W F acc g o
  | [], xs, o, hc, h => by rw [TsF]; trivial
  | .mk t' p' :: r, xs, o, hc, h => by
    rw [TZip] at h
    obtain ⟨u', ys, rfl, h2, h3⟩ := h
    rw [TsF]
    refine ⟨hg, hc 0 _ rfl, ⟨_, hc 1 _ rfl, h2⟩, TZip.es hg r ys (o + 2) (fun j x hx => ?_) h3⟩
    have := hc (j + 2) x (by simpa using hx)
    rw [show o + 2 + j = o + (j + 2) by omega]
    exact this
def OwnT (B : Nat) (W : World) (v : Value) (acc : List AT) : Prop := ∃ xs, W.ownsRow B 82 2 v acc.length xs ∧ TZip W (OwnSet B W v) acc xs
theorem OwnT.nil (B : Nat) (W : World) : OwnT B W (.slice none 0 0) [] := ⟨[], World.ownsRow_nil _ _ _ _, rfl⟩
theorem OwnT.below {B : Nat} {W W' : World} {v : Value} {acc : List AT} (h : OwnT B W v acc) (g : Below W.heap.size W W') : OwnT B W' v acc := by
  obtain ⟨xs, h1, h2⟩ := h
  refine ⟨xs, h1.kept (⟨g.os, g.tape, g.output, g.size, fun k hk _ => g.block k hk⟩ : W.grownBy W' none) (by by_cases h : v.ownBlock = none; exact .inl h; exact .inr h), TZip.carry (fun b hb => ?_) _ _ h2⟩
  obtain ⟨⟨hb1, hb2⟩, hb3⟩ := hb
  exact ⟨⟨⟨hb1, Nat.lt_of_lt_of_le hb2 g.size⟩, hb3⟩, g.block b hb2⟩
theorem OwnT.push {B : Nat} {w1 W2 W3 : World} {v v' : Value} {acc : List AT} {xs : List Value} {t : ByteArray} {p : List EL} {u : Value} (K : Below w1.heap.size w1 W2) (hz : TZip w1 (OwnSet B w1 v) acc xs) (hp : PatF W2 (OwnSet B W2 v) p u)
    (ho : W3.ownsRow B 82 2 v' (acc.length + 1) (xs ++ [.string t, u])) (hg : W2.grownBy W3 v.ownBlock) (hw : v'.ownBlock = v.ownBlock ∨ v'.ownBlock = some W2.heap.size) : OwnT B W3 v' (acc ++ [.mk t p]) := by
  refine ⟨_, by rw [List.length_append]; exact ho, ?_⟩
  have hz2 : TZip W2 (OwnSet B W2 v) acc xs := TZip.carry (fun b hb => by
    obtain ⟨⟨hb1, hb2⟩, hb3⟩ := hb
    exact ⟨⟨⟨hb1, Nat.lt_of_lt_of_le hb2 K.size⟩, hb3⟩, K.block b hb2⟩) _ _ hz
  have g : ∀ b, OwnSet B W2 v b → OwnSet B W3 v' b ∧ W3.heap[b]? = W2.heap[b]? := fun b hb => by
    obtain ⟨⟨hb1, hb2⟩, hb3⟩ := hb
    refine ⟨⟨⟨hb1, Nat.lt_of_lt_of_le hb2 hg.size⟩, ?_⟩, hg.block b hb2 hb3⟩
    rcases hw with e | e
    · rw [e]; exact hb3
    · rw [e]; intro e2; have := Option.some.inj e2; omega
  exact TZip.carry g _ _ (TZip.snoc hp acc xs hz2)
theorem OwnT.ats {B : Nat} {W : World} {v : Value} {acc : List AT} (h : OwnT B W v acc) : ∃ A c, v = .slice A acc.length c ∧ AtsF W (Since B W) acc v := by
  obtain ⟨xs, h1, h2⟩ := h
  rcases h1.2 with ⟨rfl, h0⟩ | ⟨g, cap, cur, rfl, hb, hg, hc1, hc2, hcs, htk⟩
  · have : acc = [] := List.eq_nil_of_length_eq_zero h0
    subst this
    exact ⟨none, 0, rfl, AtsF.nil _ _⟩
  · refine ⟨_, _, rfl, _, _, rfl, hc1, hc2, fun _ => ⟨g, 0, rfl, TZip.es ⟨hb, (Array.getElem?_eq_some_iff.1 hg).1⟩ acc xs 0 (fun j x hx => ?_) (TZip.carry (fun b hb => ⟨hb.1, rfl⟩) _ _ h2)⟩⟩
    have := h1.cells (g := g) rfl j x hx
    rw [Addr.add_mid] at this
    exact this
theorem named_pos {s : ByteArray} {i : Nat} (hi : i ≤ s.size) {x : ByteArray} {l : List EL} {e : Nat} (h : namedS s i = some (x, l, e)) : i < e ∧ e ≤ s.size := by
  unfold namedS at h
  have h1 := nm_ok s i hi
  have h2 := sp_ge s (nm s i)
  split at h
  · cases h
  · split at h
    · next hc =>
      have h3 := isAt_lt hc
      split at h
      · cases h
      · next hp =>
        have h4 := pat_pos _ h3 _ _ hp
        split at h
        · cases h; omega
        · cases h
    · cases h
theorem attr_pos {s : ByteArray} {i : Nat} (hi : i ≤ s.size) {x : ByteArray} {l : List EL} {e : Nat} (h : attrS s i = some (x, l, e)) : i < e ∧ e ≤ s.size := by
  unfold attrS at h
  have h1 := bl_ok s i hi
  split at h
  · next hc =>
    rw [Bool.and_eq_true] at hc
    have h2 := isAt_lt hc.1
    split at h
    · cases h
    · next hn =>
      have h3 := named_pos h2 hn
      split at h
      · cases h
      · cases h; omega
  · cases h
set_option maxHeartbeats 4000000 in
set_option maxRecDepth 100000 in
theorem attrs_call {s : ByteArray} (hPC : PatCall s) (hs : s.size ≤ 1000000) (i : Nat) (h1i : 1 ≤ i) (hi : i ≤ s.size) (w : World) : Calls Tryz.prog 86 #[.string s, .int .i64 i] w fun e w' =>
    Below w.heap.size w w' ∧ ∃ (A : Option Addr) (n c : Nat), e = .returned (.tuple #[.slice A n c, .int .i64 ((atsS s [] i).2 : Nat)]) ∧ (atsS s [] i).2 ≤ s.size ∧ i ≤ (atsS s [] i).2 ∧ (atsS s [] i).1.length = n ∧ n ≤ s.size ∧ AtsF w' (Since w.heap.size w') (atsS s [] i).1 (.slice A n c) := by
  obtain ⟨i0, hi0, hz0, hz1, hz2⟩ := info_parts infoT
  obtain ⟨RL, hRL⟩ : ∃ R, atsS s [] i = R := ⟨_, rfl⟩
  rw [hRL]
  have HR := Lib.hid hRL
  have HA := Lib.hid (fun j W (h1 : 1 ≤ j) (hj : j ≤ s.size) => attr_call hPC hs j h1 hj W)
  clear hRL
  go_enter Tryz.func86, Tryz.ntmps86
  go_wp2
  go_loopw [1, 6] (fun t1 t6 wr => ∃ (acc : List AT) (j : Nat) (A : Option Addr) (c : Nat), t1 = .int .i64 j ∧ t6 = .slice A acc.length c ∧ i ≤ j ∧ j ≤ s.size ∧ acc.length ≤ j ∧ Hid (atsS s acc j = RL) ∧ Hid (Below w.heap.size w wr) ∧ Hid (OwnT w.heap.size wr (.slice A acc.length c) acc)) (fun t1 _ _ => s.size - (intOf t1).toNat)
  case atStart => exact ⟨[], i, none, 0, rfl, rfl, Nat.le_refl _, hi, Nat.zero_le _, HR, Below.refl _ _, OwnT.nil _ _⟩
  case round =>
    obtain ⟨acc, j, A, c, rfl, rfl, hij, hj, hal, Hans, HBel, HO⟩ := hrel
    have hj0 : (j : Int) ≤ 1000000 := by omega
    have hA := fun W => HA.out j W (by omega) hj
    have hans := Hans.out
    rw [atsS] at hans
    have hpos := fun x l e h => attr_pos hj (x := x) (l := l) (e := e) h
    obtain ⟨r, hr⟩ : ∃ r, attrS s j = r := ⟨_, rfl⟩
    rw [hr] at hA hans hpos
    have HAj := Lib.hid hA
    have Hans2 := Lib.hid hans
    have Hpos := Lib.hid hpos
    clear hA hans hr hpos
    go_wp2_with fail
    go_at_call 116
    refine (HAj.out _).mono ?_
    rintro e w1 ⟨hb1, X, A', n, c', m, rfl, hm, hn4, h3⟩
    have HB1 := Lib.hid (HBel.out.trans (hb1.mono HBel.out.size))
    have HO1 := Lib.hid (HO.out.below hb1)
    have H3 := Lib.hid h3
    have hs1 := hb1.size
    have hs0 := HBel.out.size
    clear hb1 h3
    cases r with
    | none =>
      have hR := Hans2.out
      dsimp only at hR
      subst hR
      have HR' := Lib.hid HR.out
      go_wp2
      refine bodyPost_ret (v := .tuple #[.slice A acc.length c, .int .i64 j]) (by simp [results, Tryz.results86, go_sem]) rfl ?_
      obtain ⟨A2, c2, e2, hats⟩ := HO1.out.ats
      refine ⟨HB1.out.alloc (by omega) _, A, acc.length, c, rfl, rfl, by omega, AtsF.carry (fun b hb => ⟨⟨hb.1, by rw [World.size_alloc]; have := hb.2; omega⟩, Lib.alloc_old _ _ b hb.2⟩) hats⟩
    | some v =>
      obtain ⟨x, l, e⟩ := v
      obtain ⟨rfl, rfl, rfl, hpat⟩ := H3.out x l e rfl
      obtain ⟨hp1, hp2⟩ := Hpos.out _ _ _ rfl
      have hR := Hans2.out
      dsimp only at hR
      rw [dif_pos ⟨hp1, hp2⟩] at hR
      have Hans3 := Lib.hid hR
      obtain ⟨xs6, ho6, hz6⟩ := HO1.out
      obtain ⟨xs5, ho5, _⟩ := HO.out
      have Hv5 := Lib.hid (fun k e => ho5.lt k e)
      have HZ6 := Lib.hid hz6
      have HPat := Lib.hid hpat
      have hown1 := (ho6.alloc (.cells #[.string x, .slice A' l.length c'] 82)).alloc (.cells #[.string x, .slice A' l.length c'] 82)
      have hacc : (acc.length : Int) ≤ 1000000 := by omega
      clear ho6 ho5 hR hz6 hpat
      go_wp2_with (at_builtin; refine wpList_append_where _ rfl _ _ 43 rfl w.heap.size 82 i0 (.agg #[.string ⟨#[]⟩, .slice none 0 0]) 2 40 Tryz.underlying43 hi0 hz0 hz1 hz2 rfl (by decide) _ _ _ rfl hown1 ⟨w1.heap.size + 1, 0, none⟩ 1 1 [.string x, .slice A' l.length c'] rfl rfl ?c1 ?c2 ?c3 ?c4 ?c5 ?c6 ?_)
      case c1 =>
        intro j u hj
        match j, hj with
        | 0, hj => simp at hj; subst hj; simp [Addr.add] <;> rfl
        | 1, hj => simp at hj; subst hj; simp [Addr.add]
      case c2 => intro u hu; simp at hu; rcases hu with rfl | rfl <;> rfl
      case c3 => unfold maxLen; omega
      case c4 => omega
      case c5 => simp; omega
      case c6 => decide
      intro v' w8 hown' hgrow hwh
      have K1 : Below w1.heap.size w1 ((w1.alloc (.cells #[.string x, .slice A' l.length c'] 82)).alloc (.cells #[.string x, .slice A' l.length c'] 82)) := ((Below.refl _ _).alloc (Nat.le_refl _) _).alloc (by simp) _
      have hpo : PatF ((w1.alloc (.cells #[.string x, .slice A' l.length c'] 82)).alloc (.cells #[.string x, .slice A' l.length c'] 82)) (OwnSet w.heap.size ((w1.alloc (.cells #[.string x, .slice A' l.length c'] 82)).alloc (.cells #[.string x, .slice A' l.length c'] 82)) (.slice A acc.length c)) l (.slice A' l.length c') :=
        PatF.carry (fun b hb => ⟨⟨⟨by have := hb.1; omega, by rw [World.size_alloc, World.size_alloc]; have := hb.2; omega⟩, fun e => by have := Hv5.out b e.symm; have := hb.1; omega⟩, K1.block b hb.2⟩) HPat.out
      have HO8 := Lib.hid (OwnT.push K1 HZ6.out hpo hown' hgrow (by simpa using hwh))
      have HB8 := Lib.hid ((HB1.out.trans (K1.mono (by omega))).grown hgrow (by simp; omega) (fun k e => (Hv5.out k e).1))
      obtain ⟨A3, c3, rfl⟩ := own_slice hown' (by omega)
      clear hown' hgrow hwh K1 hpo
      go_wp2
      go_roundw
      case rel =>
        refine ⟨acc ++ [.mk x l], e, A3, c3, rfl, ?_, by omega, hp2, ?_, Hans3, HB8, ?_⟩
        · show Value.slice A3 _ c3 = _
          simp
        · rw [List.length_append, List.length_singleton]; omega
        · rw [List.length_append, List.length_singleton]
          exact HO8
      case measure => simp [intOf]; omega
end Go.Proofs.YtnogdojdjehakaaGreatDoor

/-
  Package entry: message, given expr.Pattern.
-/
namespace Go.Proofs.YtnogdojdjehakaaGreatDoor
open Go.RowKit
set_option linter.unusedVariables false
set_option linter.unusedSimpArgs false

/-- An entry in memory, all of whose blocks are such. -/
def EnF (W : World) (F : Nat → Prop) (x : EN) (v : Value) : Prop := ∃ (A : Option Addr) (c : Nat) (B : Option Addr) (d : Nat), v = entV x.ty x.lv x.tx x.nm (.slice A x.val.length c) (.slice B x.ats.length d) x.fr x.tu ∧
  PatF W F x.val (.slice A x.val.length c) ∧ AtsF W F x.ats (.slice B x.ats.length d)
theorem EnF.carry {W W' : World} {F F' : Nat → Prop} (g : ∀ b, F b → F' b ∧ W'.heap[b]? = W.heap[b]?) {x : EN} {v : Value} (h : EnF W F x v) : EnF W' F' x v := by
  obtain ⟨A, c, B, d, h1, h2, h3⟩ := h
  exact ⟨A, c, B, d, h1, h2.carry g, h3.carry g⟩
/-- What reading an entry gives. -/
def GotE (s : ByteArray) (w : World) (r : Option EN) (e : Ending) (w' : World) : Prop :=
  Below w.heap.size w w' ∧ ∃ (ty lv : Int) (tx nm : ByteArray) (A : Option Addr) (n c : Nat) (B : Option Addr) (m d : Nat) (fr tu : Int), e = .returned (.tuple #[entV ty lv tx nm (.slice A n c) (.slice B m d) fr tu, .bool r.isSome]) ∧
    ∀ x, r = some x → EnF w' (Since w.heap.size w') x (entV ty lv tx nm (.slice A n c) (.slice B m d) fr tu)
set_option maxRecDepth 100000 in
theorem res8e {fn : Func} {A M : Nat} {tmps : Array Value} {w : World} {b : Nat} {x0 x1 x2 x3 x4 x5 x6 x7 v : Value} {t : TypeId} (hres : fn.results = #[.cell A 45, .tmp M]) (ha : tmps.getD A undef = .pointer (some ⟨b, 0, none⟩)) (hm : tmps.getD M undef = v)
    (hb : BoxAt w b #[x0, x1, x2, x3, x4, x5, x6, x7] t) : (results fn tmps).run Tryz.prog w = .ok (.tuple #[.agg #[x0, x1, x2, x3, x4, x5, x6, x7], v]) w := by
  obtain ⟨q0, q1, q2, q3, q4, q5, q6, q7, _⟩ := cellsE hb
  have ha' : tmps[A]?.getD undef = .pointer (some ⟨b, 0, none⟩) := by rw [← ha]; simp
  have hm' : tmps[M]?.getD undef = v := by rw [← hm]; simp
  simp [results, hres, ha', hm', go_sem, q0, q1, q2, q3, q4, q5, q6, q7]
theorem end8e {fn : Func} {R : Ending → World → Prop} {a : Act} {w2 : World} {A M b : Nat} {x0 x1 x2 x3 x4 x5 x6 x7 v : Value} {t : TypeId} (hres : fn.results = #[.cell A 45, .tmp M]) (hbox : BoxAt w2 b #[x0, x1, x2, x3, x4, x5, x6, x7] t)
    (ha : a.tmps.getD A undef = .pointer (some ⟨b, 0, none⟩)) (hm : a.tmps.getD M undef = v) (hd : a.defers = []) (hR : R (.returned (.tuple #[.agg #[x0, x1, x2, x3, x4, x5, x6, x7], v])) w2) : bodyPost Tryz.prog fn R .ret a w2 :=
  bodyPost_ret (res8e hres ha hm hbox) hd hR
theorem box_e34 {w : World} {E : Nat} {x0 x1 x2 x3 x4 x5 x6 x7 : Value} {t : TypeId} (h : BoxAt w E #[x0, x1, x2, x3, x4, x5, x6, x7] t) (y3 y4 : Value) :
    BoxAt ((w.setCell ⟨E, 3, none⟩ y3).setCell ⟨E, 4, none⟩ y4) E #[x0, x1, x2, y3, y4, x5, x6, x7] t := by
  unfold BoxAt at h ⊢
  simp [World.setCell, Array.getElem?_modify, h]
theorem box_e0 {w : World} {E : Nat} {x0 x1 x2 x3 x4 x5 x6 x7 : Value} {t : TypeId} (h : BoxAt w E #[x0, x1, x2, x3, x4, x5, x6, x7] t) (y : Value) :
    BoxAt (w.setCell ⟨E, 0, none⟩ y) E #[y, x1, x2, x3, x4, x5, x6, x7] t := by
  unfold BoxAt at h ⊢
  simp [World.setCell, Array.getElem?_modify, h]
theorem box_e5 {w : World} {E : Nat} {x0 x1 x2 x3 x4 x5 x6 x7 : Value} {t : TypeId} (h : BoxAt w E #[x0, x1, x2, x3, x4, x5, x6, x7] t) (y : Value) :
    BoxAt (w.setCell ⟨E, 5, none⟩ y) E #[x0, x1, x2, x3, x4, y, x6, x7] t := by
  unfold BoxAt at h ⊢
  simp [World.setCell, Array.getElem?_modify, h]
theorem box_e7 {w : World} {E : Nat} {x0 x1 x2 x3 x4 x5 x6 x7 : Value} {t : TypeId} (h : BoxAt w E #[x0, x1, x2, x3, x4, x5, x6, x7] t) (y : Value) :
    BoxAt (w.setCell ⟨E, 7, none⟩ y) E #[x0, x1, x2, x3, x4, x5, x6, y] t := by
  unfold BoxAt at h ⊢
  simp [World.setCell, Array.getElem?_modify, h]
theorem msg_car {w w2 : World} (a b x0 x1 x2 x3 x4 x5 x6 x7 : Value) : ∀ z, Since (w.heap.size + 2) w2 z → Since w.heap.size (set8 ((w2.setCell ⟨w.heap.size + 1, 5, none⟩ a).setCell ⟨w.heap.size + 1, 7, none⟩ b) w.heap.size x0 x1 x2 x3 x4 x5 x6 x7) z ∧
    (set8 ((w2.setCell ⟨w.heap.size + 1, 5, none⟩ a).setCell ⟨w.heap.size + 1, 7, none⟩ b) w.heap.size x0 x1 x2 x3 x4 x5 x6 x7).heap[z]? = w2.heap[z]? := fun z hz => by
  obtain ⟨z1, z2⟩ := hz
  refine ⟨⟨by omega, by rw [set8_size]; simpa using z2⟩, ?_⟩
  rw [set8_heap _ _ _ _ _ _ _ _ _ _ z (by omega), Below.heap_setCell _ _ _ z (by show z ≠ w.heap.size + 1; omega), Below.heap_setCell _ _ _ z (by show z ≠ w.heap.size + 1; omega)]
set_option maxHeartbeats 4000000 in
set_option maxRecDepth 100000 in
theorem message_call {s : ByteArray} (hPC : PatCall s) (hs : s.size ≤ 1000000) (i : Nat) (hi : i ≤ s.size) (w : World) : Calls Tryz.prog 65 #[.string s, .int .i64 i] w (GotE s w (msgS s i)) := by
  obtain ⟨R, hR⟩ : ∃ R, msgS s i = R := ⟨_, rfl⟩
  rw [hR]
  unfold msgS at hR
  have hx := isAt_prefix s i 45 hi
  have hp := fun W => Tryz.strings_HasPrefix (s.extract i s.size) ⟨#[45]⟩ W
  rw [hx] at hp
  obtain ⟨b, hb⟩ : ∃ b, isAt s i 45 = b := ⟨_, rfl⟩
  have hq1 : b = true → i + 1 ≤ s.size := fun h => isAt_lt (hb.trans h)
  rw [hb] at hp hR
  have HP := Lib.hid hp
  have hi0 : (i : Int) ≤ 1000000 := by omega
  have hss : (s.size : Int) ≤ 1000000 := by omega
  obtain ⟨q, hq⟩ : ∃ q, (if b = true then i + 1 else i) = q := ⟨_, rfl⟩
  rw [hq] at hR
  have hqs : q ≤ s.size := by
    cases b
    · simp at hq; omega
    · simp at hq; have := hq1 rfl; omega
  have hN := fun W => named_call hPC hs q hqs W
  have hpos := fun x l e h => named_pos hqs (x := x) (l := l) (e := e) h
  obtain ⟨r, hr⟩ : ∃ r, namedS s q = r := ⟨_, rfl⟩
  rw [hr] at hN hR hpos
  obtain ⟨ty, hty⟩ : ∃ ty : Int, (if b = true then 2 else 1) = ty := ⟨_, rfl⟩
  have hc0 : BoxAt ((w.alloc (.cells zEn 45)).alloc (.cells #[.int .i64 1, .int .i64 0, .string ⟨#[]⟩, .string ⟨#[]⟩, .slice none 0 0, .slice none 0 0, .int .i64 i, .int .i64 0] 45)) w.heap.size zEn 45 := (BoxAt.new w zEn 45).alloc _
  have hd0 : BoxAt ((w.alloc (.cells zEn 45)).alloc (.cells #[.int .i64 1, .int .i64 0, .string ⟨#[]⟩, .string ⟨#[]⟩, .slice none 0 0, .slice none 0 0, .int .i64 i, .int .i64 0] 45)) (w.heap.size + 1) #[.int .i64 1, .int .i64 0, .string ⟨#[]⟩, .string ⟨#[]⟩, .slice none 0 0, .slice none 0 0, .int .i64 i, .int .i64 0] 45 := BoxAt.new' _ _ _ _ (by simp)
  have HC0 := Lib.hid hc0
  have HD0 := Lib.hid hd0
  have HN := Lib.hid hN
  have HR := Lib.hid hR
  have Hpos := Lib.hid hpos
  have HA := Lib.hid (fun j W (h1 : 1 ≤ j) (hj : j ≤ s.size) => attrs_call hPC hs j h1 hj W)
  have HBe := Lib.hid (fun j W (hj : j ≤ s.size) => behind_any s j (by omega) hj W)
  clear hp hx hb hc0 hd0 hN hR hpos hr hPC
  cases b
  case false =>
    obtain rfl : i = q := by simpa using hq
    have hTy : ty = 1 := by rw [← hty]; rfl
    subst hTy
    clear hq hty
    go_enter Tryz.func65, Tryz.ntmps65
    go_wp2_with fail
    go_at_call 72
    refine (HP.out _).mono ?_
    rintro e w1 ⟨rfl, rfl⟩
    go_wp2_with fail
    go_at_call 85
    refine (HN.out _).mono ?_
    rintro e w1 ⟨hb1, X, A, n, c, j, rfl, hj, hn4, h3⟩
    have HB1 := Lib.hid ((((Below.refl w.heap.size w).alloc (Nat.le_refl _) (.cells zEn 45)).alloc (by simp) (.cells #[.int .i64 1, .int .i64 0, .string ⟨#[]⟩, .string ⟨#[]⟩, .slice none 0 0, .slice none 0 0, .int .i64 i, .int .i64 0] 45)).trans (hb1.mono (by simp; omega)))
    have hc1 := BoxAt.later HC0.out hb1
    have hd1 := BoxAt.later HD0.out hb1
    have hs1 := hb1.size
    rw [World.size_alloc, World.size_alloc] at hs1
    have HC1 := Lib.hid hc1
    have HD1 := Lib.hid hd1
    obtain ⟨q0, q1, q2, q3, q4, q5, q6, q7, p0, p1, p2, p3, p4, p5, p6, p7⟩ := cellsE hd1
    obtain ⟨u0, u1, u2, u3, u4, u5, u6, u7, v0, v1, v2, v3, v4, v5, v6, v7⟩ := cellsE hc1
    have hl1 := hd1.lt
    have hlc := hc1.lt
    have H3 := Lib.hid h3
    have hj0 : (j : Int) ≤ 1000000 := by omega
    have hn0 : (n : Int) ≤ 4000000 := by omega
    clear hb1 hc1 hd1 h3 HC0 HD0
    cases r with
    | none =>
      have hR := HR.out
      dsimp only at hR
      subst hR
      go_wp2
      exact end8e Tryz.results65 ((box_set8 HC1.out _ _ _ _ _ _ _ _).alloc _) rfl rfl rfl ⟨(below_set8 HB1.out (Nat.le_refl _) _ _ _ _ _ _ _ _).alloc (by rw [set8_size]; omega) _, 0, 0, ⟨#[]⟩, ⟨#[]⟩, none, 0, 0, none, 0, 0, 0, 0, rfl, fun x h => by cases h⟩
    | some v =>
      obtain ⟨x, l, e⟩ := v
      obtain ⟨rfl, rfl, rfl, hpat⟩ := H3.out x l e rfl
      obtain ⟨he1, he2⟩ := Hpos.out _ _ _ rfl
      have hAt := fun W => HA.out e W (by omega) he2
      have hR := HR.out
      dsimp only at hR
      obtain ⟨RL, hRL⟩ : ∃ R, atsS s [] e = R := ⟨_, rfl⟩
      rw [hRL] at hAt hR
      obtain ⟨Lt, k⟩ := RL
      dsimp only at hAt hR
      have HAt := Lib.hid hAt
      have HRl := Lib.hid hR
      have HPat := Lib.hid hpat
      clear hAt hR hRL hpat
      go_wp2_with fail
      go_region
      all_goals (go_wp2_with fail)
      go_at_call 86
      generalize hWA : World.drew (((w1.setCell ⟨w.heap.size + 1, 3, none⟩ (.string x)).setCell ⟨w.heap.size + 1, 4, none⟩ (.slice A l.length c)).alloc (.cells #[.string x, .slice A l.length c] 82)) = WA
      have hsz : WA.heap.size = w1.heap.size + 1 := by
        rw [← hWA]
        show (World.alloc _ _).heap.size = _
        simp
      have hdA : BoxAt WA (w.heap.size + 1) #[.int .i64 1, .int .i64 0, .string ⟨#[]⟩, .string x, .slice A l.length c, .slice none 0 0, .int .i64 i, .int .i64 0] 45 := by
        rw [← hWA]
        exact (box_e34 HD1.out (.string x) (.slice A l.length c)).alloc (.cells #[.string x, .slice A l.length c] 82)
      have hcA : BoxAt WA w.heap.size zEn 45 := by
        rw [← hWA]
        exact ((HC1.out.setOther ⟨w.heap.size + 1, 3, none⟩ (.string x) (by simp)).setOther ⟨w.heap.size + 1, 4, none⟩ (.slice A l.length c) (by simp)).alloc (.cells #[.string x, .slice A l.length c] 82)
      have hbA : Below w.heap.size w WA := by
        rw [← hWA]
        exact (((HB1.out.setCell (p := ⟨w.heap.size + 1, 3, none⟩) (by simp) (.string x)).setCell (p := ⟨w.heap.size + 1, 4, none⟩) (by simp) (.slice A l.length c)).alloc (by simp; omega) (.cells #[.string x, .slice A l.length c] 82)).drew
      have hpA : PatF WA (Since (w.heap.size + 2) WA) l (.slice A l.length c) := PatF.carry (fun z hz => by
        obtain ⟨z1, z2⟩ := hz
        rw [World.size_alloc, World.size_alloc] at z1
        refine ⟨⟨by omega, by omega⟩, ?_⟩
        rw [← hWA]
        refine (Lib.alloc_old _ _ z (by simpa using z2)).trans ?_
        rw [Below.heap_setCell _ _ _ z (by show z ≠ w.heap.size + 1; omega), Below.heap_setCell _ _ _ z (by show z ≠ w.heap.size + 1; omega)]) HPat.out
      clear hWA
      refine (HAt.out _).mono ?_
      rintro e2 w2 ⟨hb2, A2, n2, c2, rfl, hk, hek, hlen, hn2, hats⟩
      subst hlen
      have hd2 := BoxAt.later hdA hb2
      have hc2 := BoxAt.later hcA hb2
      have hs2 := hb2.size
      have HB2 := Lib.hid (hbA.trans (hb2.mono hbA.size))
      have HC2 := Lib.hid hc2
      have HD2 := Lib.hid hd2
      have HP2 := Lib.hid (PatF.carry (F' := Since (w.heap.size + 2) w2) (fun z hz => ⟨⟨hz.1, Nat.lt_of_lt_of_le hz.2 hs2⟩, hb2.block z hz.2⟩) hpA)
      have HA2 := Lib.hid (AtsF.carry (F' := Since (w.heap.size + 2) w2) (fun z hz => ⟨⟨by have := hz.1; omega, hz.2⟩, rfl⟩) hats)
      have hBk := fun W => HBe.out k W hk
      obtain ⟨tu, htu⟩ : ∃ tu, beh s k = tu := ⟨_, rfl⟩
      have hR := HRl.out
      rw [htu] at hBk hR
      have HBk := Lib.hid hBk
      have HR3 := Lib.hid hR
      obtain ⟨r0, r1, r2, r3, r4, r5, r6, r7, f0, f1, f2, f3, f4, f5, f6, f7⟩ := cellsE hd2
      obtain ⟨m0, m1, m2, m3, m4, m5, m6, m7, g0, g1, g2, g3, g4, g5, g6, g7⟩ := cellsE hc2
      have hl2 := hd2.lt
      have hlc2 := hc2.lt
      have hk0 : (k : Int) ≤ 1000000 := by omega
      have hn20 : (Lt.length : Int) ≤ 1000000 := by omega
      clear hb2 hats hdA hcA hbA hpA hc2 hd2 hBk hR htu HRl HC1 HD1 HB1 HPat q0 q1 q2 q3 q4 q5 q6 q7 p0 p1 p2 p3 p4 p5 p6 p7 u0 u1 u2 u3 u4 u5 u6 u7 v0 v1 v2 v3 v4 v5 v6 v7
      go_wp2_with fail
      go_at_call 63
      refine (HBk.out _).mono ?_
      rintro e3 w3 ⟨rfl, rfl⟩
      have hfin : ∀ (W : World), (∀ z, Since (w.heap.size + 2) w2 z → Since w.heap.size W z ∧ W.heap[z]? = w2.heap[z]?) → ∀ x', R = some x' → EnF W (Since w.heap.size W) x' (entV 1 0 ⟨#[]⟩ x (.slice A l.length c) (.slice A2 Lt.length c2) i tu) := fun W g x' h => by
        rw [← HR3.out] at h
        split at h
        · cases h
          exact ⟨A, c, A2, c2, rfl, HP2.out.carry g, HA2.out.carry g⟩
        · cases h
      have Hfin := Lib.hid hfin
      have hsome : R.isSome = (decide (0 < l.length) || decide (0 < Lt.length)) := by
        rw [← HR3.out]
        cases l <;> cases Lt <;> simp
      have Hsome := Lib.hid hsome
      clear hfin hsome HR3 HP2 HA2
      have hend : ∀ y5 y7 z0 z1 z2 z3 z4 z5 z6 z7, BoxAt (set8 ((w2.setCell ⟨w.heap.size + 1, 5, none⟩ y5).setCell ⟨w.heap.size + 1, 7, none⟩ y7) w.heap.size z0 z1 z2 z3 z4 z5 z6 z7) w.heap.size #[z0, z1, z2, z3, z4, z5, z6, z7] 45 := fun _ _ _ _ _ _ _ _ _ _ => box_set8 ((HC2.out.setOther ⟨w.heap.size + 1, 5, none⟩ _ (by simp)).setOther ⟨w.heap.size + 1, 7, none⟩ _ (by simp)) _ _ _ _ _ _ _ _
      have hbel : ∀ y5 y7 z0 z1 z2 z3 z4 z5 z6 z7, Below w.heap.size w (set8 ((w2.setCell ⟨w.heap.size + 1, 5, none⟩ y5).setCell ⟨w.heap.size + 1, 7, none⟩ y7) w.heap.size z0 z1 z2 z3 z4 z5 z6 z7) := fun _ _ _ _ _ _ _ _ _ _ => below_set8 ((HB2.out.setCell (p := ⟨w.heap.size + 1, 5, none⟩) (by simp) _).setCell (p := ⟨w.heap.size + 1, 7, none⟩) (by simp) _) (Nat.le_refl _) _ _ _ _ _ _ _ _
      have Hend := Lib.hid hend
      have Hbel := Lib.hid hbel
      clear hend hbel HC2 HD2 HB2
      by_cases hl0 : 0 < l.length
      · have d1 : decide ((0 : Int) < (l.length : Int)) = true := decide_eq_true (by omega)
        have d2 : (0 : Int) < (l.length : Int) := by omega
        by_cases hL0 : 0 < Lt.length
        · have d3 : decide ((0 : Int) < (Lt.length : Int)) = true := decide_eq_true (by omega)
          have d4 : (0 : Int) < (Lt.length : Int) := by omega
          go_wp2
          exact end8e Tryz.results65 (Hend.out _ _ _ _ _ _ _ _ _ _) rfl rfl rfl ⟨Hbel.out _ _ _ _ _ _ _ _ _ _, _, _, _, _, _, _, _, _, _, _, _, _, by rw [Hsome.out, decide_eq_true hl0]; rfl, Hfin.out _ (msg_car _ _ _ _ _ _ _ _ _ _)⟩
        · have d3 : decide ((0 : Int) < (Lt.length : Int)) = false := decide_eq_false (by omega)
          have d4 : ¬ (0 : Int) < (Lt.length : Int) := by omega
          go_wp2
          exact end8e Tryz.results65 (Hend.out _ _ _ _ _ _ _ _ _ _) rfl rfl rfl ⟨Hbel.out _ _ _ _ _ _ _ _ _ _, _, _, _, _, _, _, _, _, _, _, _, _, by rw [Hsome.out, decide_eq_true hl0]; rfl, Hfin.out _ (msg_car _ _ _ _ _ _ _ _ _ _)⟩
      · have d1 : decide ((0 : Int) < (l.length : Int)) = false := decide_eq_false (by omega)
        have d2 : ¬ (0 : Int) < (l.length : Int) := by omega
        by_cases hL0 : 0 < Lt.length
        · have d3 : decide ((0 : Int) < (Lt.length : Int)) = true := decide_eq_true (by omega)
          have d4 : (0 : Int) < (Lt.length : Int) := by omega
          go_wp2
          exact end8e Tryz.results65 (Hend.out _ _ _ _ _ _ _ _ _ _) rfl rfl rfl ⟨Hbel.out _ _ _ _ _ _ _ _ _ _, _, _, _, _, _, _, _, _, _, _, _, _, by rw [Hsome.out, decide_eq_false hl0, decide_eq_true hL0]; rfl, Hfin.out _ (msg_car _ _ _ _ _ _ _ _ _ _)⟩
        · have d3 : decide ((0 : Int) < (Lt.length : Int)) = false := decide_eq_false (by omega)
          have d4 : ¬ (0 : Int) < (Lt.length : Int) := by omega
          go_wp2
          exact end8e Tryz.results65 (Hend.out _ _ _ _ _ _ _ _ _ _) rfl rfl rfl ⟨Hbel.out _ _ _ _ _ _ _ _ _ _, _, _, _, _, _, _, _, _, _, _, _, _, by rw [Hsome.out, decide_eq_false hl0, decide_eq_false hL0]; rfl, Hfin.out _ (msg_car _ _ _ _ _ _ _ _ _ _)⟩
  case true =>
    obtain rfl : i + 1 = q := by simpa using hq
    have hTy : ty = 2 := by rw [← hty]; rfl
    subst hTy
    clear hq hty
    have hsi := hq1 rfl
    have hN2 := HN.out
    rw [show ((i + 1 : Nat) : Int) = (i : Int) + 1 by omega] at hN2
    have HN2 := Lib.hid hN2
    have hc0b : BoxAt ((w.alloc (.cells zEn 45)).alloc (.cells #[.int .i64 2, .int .i64 0, .string ⟨#[]⟩, .string ⟨#[]⟩, .slice none 0 0, .slice none 0 0, .int .i64 i, .int .i64 0] 45)) w.heap.size zEn 45 := (BoxAt.new w zEn 45).alloc _
    have hd0b : BoxAt ((w.alloc (.cells zEn 45)).alloc (.cells #[.int .i64 2, .int .i64 0, .string ⟨#[]⟩, .string ⟨#[]⟩, .slice none 0 0, .slice none 0 0, .int .i64 i, .int .i64 0] 45)) (w.heap.size + 1) #[.int .i64 2, .int .i64 0, .string ⟨#[]⟩, .string ⟨#[]⟩, .slice none 0 0, .slice none 0 0, .int .i64 i, .int .i64 0] 45 := BoxAt.new' _ _ _ _ (by simp)
    have HC0b := Lib.hid hc0b
    have HD0b := Lib.hid hd0b
    clear hN2 hc0b hd0b HN HC0 HD0
    go_enter Tryz.func65, Tryz.ntmps65
    go_wp2_with fail
    go_at_call 72
    refine (HP.out _).mono ?_
    rintro e w1 ⟨rfl, rfl⟩
    go_wp2_with fail
    go_at_call 85
    refine (HN2.out _).mono ?_
    rintro e w1 ⟨hb1, X, A, n, c, j, rfl, hj, hn4, h3⟩
    have HB1 := Lib.hid ((((Below.refl w.heap.size w).alloc (Nat.le_refl _) (.cells zEn 45)).alloc (by simp) (.cells #[.int .i64 2, .int .i64 0, .string ⟨#[]⟩, .string ⟨#[]⟩, .slice none 0 0, .slice none 0 0, .int .i64 i, .int .i64 0] 45)).trans (hb1.mono (by simp; omega)))
    have hc1 := BoxAt.later HC0b.out hb1
    have hd1 := BoxAt.later HD0b.out hb1
    have hs1 := hb1.size
    rw [World.size_alloc, World.size_alloc] at hs1
    have HC1 := Lib.hid hc1
    have HD1 := Lib.hid hd1
    obtain ⟨q0, q1, q2, q3, q4, q5, q6, q7, p0, p1, p2, p3, p4, p5, p6, p7⟩ := cellsE hd1
    obtain ⟨u0, u1, u2, u3, u4, u5, u6, u7, v0, v1, v2, v3, v4, v5, v6, v7⟩ := cellsE hc1
    have hl1 := hd1.lt
    have hlc := hc1.lt
    have H3 := Lib.hid h3
    have hj0 : (j : Int) ≤ 1000000 := by omega
    have hn0 : (n : Int) ≤ 4000000 := by omega
    clear hb1 hc1 hd1 h3 HC0b HD0b
    cases r with
    | none =>
      have hR := HR.out
      dsimp only at hR
      subst hR
      go_wp2
      exact end8e Tryz.results65 ((box_set8 HC1.out _ _ _ _ _ _ _ _).alloc _) rfl rfl rfl ⟨(below_set8 HB1.out (Nat.le_refl _) _ _ _ _ _ _ _ _).alloc (by rw [set8_size]; omega) _, 0, 0, ⟨#[]⟩, ⟨#[]⟩, none, 0, 0, none, 0, 0, 0, 0, rfl, fun x h => by cases h⟩
    | some v =>
      obtain ⟨x, l, e⟩ := v
      obtain ⟨rfl, rfl, rfl, hpat⟩ := H3.out x l e rfl
      obtain ⟨he1, he2⟩ := Hpos.out _ _ _ rfl
      have hAt := fun W => HA.out e W (by omega) he2
      have hR := HR.out
      dsimp only at hR
      obtain ⟨RL, hRL⟩ : ∃ R, atsS s [] e = R := ⟨_, rfl⟩
      rw [hRL] at hAt hR
      obtain ⟨Lt, k⟩ := RL
      dsimp only at hAt hR
      have HAt := Lib.hid hAt
      have HRl := Lib.hid hR
      have HPat := Lib.hid hpat
      clear hAt hR hRL hpat
      go_wp2_with fail
      go_region
      all_goals (go_wp2_with fail)
      go_at_call 86
      generalize hWA : World.drew (((w1.setCell ⟨w.heap.size + 1, 3, none⟩ (.string x)).setCell ⟨w.heap.size + 1, 4, none⟩ (.slice A l.length c)).alloc (.cells #[.string x, .slice A l.length c] 82)) = WA
      have hsz : WA.heap.size = w1.heap.size + 1 := by
        rw [← hWA]
        show (World.alloc _ _).heap.size = _
        simp
      have hdA : BoxAt WA (w.heap.size + 1) #[.int .i64 2, .int .i64 0, .string ⟨#[]⟩, .string x, .slice A l.length c, .slice none 0 0, .int .i64 i, .int .i64 0] 45 := by
        rw [← hWA]
        exact (box_e34 HD1.out (.string x) (.slice A l.length c)).alloc (.cells #[.string x, .slice A l.length c] 82)
      have hcA : BoxAt WA w.heap.size zEn 45 := by
        rw [← hWA]
        exact ((HC1.out.setOther ⟨w.heap.size + 1, 3, none⟩ (.string x) (by simp)).setOther ⟨w.heap.size + 1, 4, none⟩ (.slice A l.length c) (by simp)).alloc (.cells #[.string x, .slice A l.length c] 82)
      have hbA : Below w.heap.size w WA := by
        rw [← hWA]
        exact (((HB1.out.setCell (p := ⟨w.heap.size + 1, 3, none⟩) (by simp) (.string x)).setCell (p := ⟨w.heap.size + 1, 4, none⟩) (by simp) (.slice A l.length c)).alloc (by simp; omega) (.cells #[.string x, .slice A l.length c] 82)).drew
      have hpA : PatF WA (Since (w.heap.size + 2) WA) l (.slice A l.length c) := PatF.carry (fun z hz => by
        obtain ⟨z1, z2⟩ := hz
        rw [World.size_alloc, World.size_alloc] at z1
        refine ⟨⟨by omega, by omega⟩, ?_⟩
        rw [← hWA]
        refine (Lib.alloc_old _ _ z (by simpa using z2)).trans ?_
        rw [Below.heap_setCell _ _ _ z (by show z ≠ w.heap.size + 1; omega), Below.heap_setCell _ _ _ z (by show z ≠ w.heap.size + 1; omega)]) HPat.out
      clear hWA
      refine (HAt.out _).mono ?_
      rintro e2 w2 ⟨hb2, A2, n2, c2, rfl, hk, hek, hlen, hn2, hats⟩
      subst hlen
      have hd2 := BoxAt.later hdA hb2
      have hc2 := BoxAt.later hcA hb2
      have hs2 := hb2.size
      have HB2 := Lib.hid (hbA.trans (hb2.mono hbA.size))
      have HC2 := Lib.hid hc2
      have HD2 := Lib.hid hd2
      have HP2 := Lib.hid (PatF.carry (F' := Since (w.heap.size + 2) w2) (fun z hz => ⟨⟨hz.1, Nat.lt_of_lt_of_le hz.2 hs2⟩, hb2.block z hz.2⟩) hpA)
      have HA2 := Lib.hid (AtsF.carry (F' := Since (w.heap.size + 2) w2) (fun z hz => ⟨⟨by have := hz.1; omega, hz.2⟩, rfl⟩) hats)
      have hBk := fun W => HBe.out k W hk
      obtain ⟨tu, htu⟩ : ∃ tu, beh s k = tu := ⟨_, rfl⟩
      have hR := HRl.out
      rw [htu] at hBk hR
      have HBk := Lib.hid hBk
      have HR3 := Lib.hid hR
      obtain ⟨r0, r1, r2, r3, r4, r5, r6, r7, f0, f1, f2, f3, f4, f5, f6, f7⟩ := cellsE hd2
      obtain ⟨m0, m1, m2, m3, m4, m5, m6, m7, g0, g1, g2, g3, g4, g5, g6, g7⟩ := cellsE hc2
      have hl2 := hd2.lt
      have hlc2 := hc2.lt
      have hk0 : (k : Int) ≤ 1000000 := by omega
      have hn20 : (Lt.length : Int) ≤ 1000000 := by omega
      clear hb2 hats hdA hcA hbA hpA hc2 hd2 hBk hR htu HRl HC1 HD1 HB1 HPat q0 q1 q2 q3 q4 q5 q6 q7 p0 p1 p2 p3 p4 p5 p6 p7 u0 u1 u2 u3 u4 u5 u6 u7 v0 v1 v2 v3 v4 v5 v6 v7
      go_wp2_with fail
      go_at_call 63
      refine (HBk.out _).mono ?_
      rintro e3 w3 ⟨rfl, rfl⟩
      have hfin : ∀ (W : World), (∀ z, Since (w.heap.size + 2) w2 z → Since w.heap.size W z ∧ W.heap[z]? = w2.heap[z]?) → ∀ x', R = some x' → EnF W (Since w.heap.size W) x' (entV 2 0 ⟨#[]⟩ x (.slice A l.length c) (.slice A2 Lt.length c2) i tu) := fun W g x' h => by
        rw [← HR3.out] at h
        split at h
        · cases h
          exact ⟨A, c, A2, c2, rfl, HP2.out.carry g, HA2.out.carry g⟩
        · cases h
      have Hfin := Lib.hid hfin
      have hsome : R.isSome = decide (0 < l.length) := by
        rw [← HR3.out]
        cases l <;> simp
      have Hsome := Lib.hid hsome
      clear hfin hsome HR3 HP2 HA2
      have hend : ∀ y5 y7 z0 z1 z2 z3 z4 z5 z6 z7, BoxAt (set8 ((w2.setCell ⟨w.heap.size + 1, 5, none⟩ y5).setCell ⟨w.heap.size + 1, 7, none⟩ y7) w.heap.size z0 z1 z2 z3 z4 z5 z6 z7) w.heap.size #[z0, z1, z2, z3, z4, z5, z6, z7] 45 := fun _ _ _ _ _ _ _ _ _ _ => box_set8 ((HC2.out.setOther ⟨w.heap.size + 1, 5, none⟩ _ (by simp)).setOther ⟨w.heap.size + 1, 7, none⟩ _ (by simp)) _ _ _ _ _ _ _ _
      have hbel : ∀ y5 y7 z0 z1 z2 z3 z4 z5 z6 z7, Below w.heap.size w (set8 ((w2.setCell ⟨w.heap.size + 1, 5, none⟩ y5).setCell ⟨w.heap.size + 1, 7, none⟩ y7) w.heap.size z0 z1 z2 z3 z4 z5 z6 z7) := fun _ _ _ _ _ _ _ _ _ _ => below_set8 ((HB2.out.setCell (p := ⟨w.heap.size + 1, 5, none⟩) (by simp) _).setCell (p := ⟨w.heap.size + 1, 7, none⟩) (by simp) _) (Nat.le_refl _) _ _ _ _ _ _ _ _
      have Hend := Lib.hid hend
      have Hbel := Lib.hid hbel
      clear hend hbel HC2 HD2 HB2
      by_cases hl0 : 0 < l.length
      · have d1 : decide ((0 : Int) < (l.length : Int)) = true := decide_eq_true (by omega)
        have d2 : (0 : Int) < (l.length : Int) := by omega
        by_cases hL0 : 0 < Lt.length
        · have d3 : decide ((0 : Int) < (Lt.length : Int)) = true := decide_eq_true (by omega)
          have d4 : (0 : Int) < (Lt.length : Int) := by omega
          go_wp2
          exact end8e Tryz.results65 (Hend.out _ _ _ _ _ _ _ _ _ _) rfl rfl rfl ⟨Hbel.out _ _ _ _ _ _ _ _ _ _, _, _, _, _, _, _, _, _, _, _, _, _, by rw [Hsome.out, decide_eq_true hl0]; rfl, Hfin.out _ (msg_car _ _ _ _ _ _ _ _ _ _)⟩
        · have d3 : decide ((0 : Int) < (Lt.length : Int)) = false := decide_eq_false (by omega)
          have d4 : ¬ (0 : Int) < (Lt.length : Int) := by omega
          go_wp2
          exact end8e Tryz.results65 (Hend.out _ _ _ _ _ _ _ _ _ _) rfl rfl rfl ⟨Hbel.out _ _ _ _ _ _ _ _ _ _, _, _, _, _, _, _, _, _, _, _, _, _, by rw [Hsome.out, decide_eq_true hl0]; rfl, Hfin.out _ (msg_car _ _ _ _ _ _ _ _ _ _)⟩
      · have d1 : decide ((0 : Int) < (l.length : Int)) = false := decide_eq_false (by omega)
        have d2 : ¬ (0 : Int) < (l.length : Int) := by omega
        by_cases hL0 : 0 < Lt.length
        · have d3 : decide ((0 : Int) < (Lt.length : Int)) = true := decide_eq_true (by omega)
          have d4 : (0 : Int) < (Lt.length : Int) := by omega
          go_wp2
          exact end8e Tryz.results65 (Hend.out _ _ _ _ _ _ _ _ _ _) rfl rfl rfl ⟨Hbel.out _ _ _ _ _ _ _ _ _ _, _, _, _, _, _, _, _, _, _, _, _, _, by rw [Hsome.out, decide_eq_false hl0]; rfl, Hfin.out _ (msg_car _ _ _ _ _ _ _ _ _ _)⟩
        · have d3 : decide ((0 : Int) < (Lt.length : Int)) = false := decide_eq_false (by omega)
          have d4 : ¬ (0 : Int) < (Lt.length : Int) := by omega
          go_wp2
          exact end8e Tryz.results65 (Hend.out _ _ _ _ _ _ _ _ _ _) rfl rfl rfl ⟨Hbel.out _ _ _ _ _ _ _ _ _ _, _, _, _, _, _, _, _, _, _, _, _, _, by rw [Hsome.out, decide_eq_false hl0]; rfl, Hfin.out _ (msg_car _ _ _ _ _ _ _ _ _ _)⟩
end Go.Proofs.YtnogdojdjehakaaGreatDoor

/-
  Package entry: comment.
-/
namespace Go.Proofs.YtnogdojdjehakaaGreatDoor
open Go.RowKit
set_option linter.unusedVariables false
set_option linter.unusedSimpArgs false

theorem infoS : (Tryz.prog.info? 9).map (fun i => (i.zero, i.size, i.bytes)) = some (some (.string ⟨#[]⟩), 1, 16) := by kernel_rfl
theorem com_lt (s : ByteArray) (i : Nat) (hi : i ≤ s.size) (h : (comL s i).1 ≠ 0) : i < s.size := by
  have h1 := hs_ok s i hi
  have h2 := li_ok s i hi
  unfold comL at h
  split at h
  · exact absurd rfl h
  · dsimp only at h; omega
theorem com_le (s : ByteArray) (i : Nat) (hi : i ≤ s.size) : (comL s i).1 ≤ 3 ∧ (comL s i).2.size ≤ s.size := by
  have h2 := li_ok s i hi
  unfold comL
  split
  · exact ⟨by omega, by show E0.size ≤ _; exact Nat.zero_le _⟩
  · next hc =>
    refine ⟨by dsimp only; omega, ?_⟩
    dsimp only
    split
    · rw [ByteArray.size_extract]; omega
    · exact Nat.zero_le _
theorem comGo_step (s : ByteArray) (lv : Nat) (acc : List ByteArray) (k : Nat) (x : ByteArray) (hk : k < s.size) :
    comGo s lv acc k x = if (comL s (beh s k)).1 = lv then comGo s lv (acc ++ [x]) (beh s k) (comL s (beh s k)).2 else (acc ++ [x], beh s k) := by
  have h := beh_ok s k (Nat.le_of_lt hk)
  rw [comGo]
  by_cases h1 : (comL s (beh s k)).1 = lv
  · rw [dif_pos ⟨h1, h.2.2 hk, h.2.1⟩, if_pos h1]
  · rw [dif_neg (fun e => h1 e.1), if_neg h1]
theorem join_len (m : Nat) : ∀ l : List ByteArray, (∀ x ∈ l, x.size ≤ m) → (Lib.join (l.map (·.data.toList)) [10]).length ≤ l.length * (m + 1)
  | [], _ => by simp [Lib.join]
  | [a], h => by
    have := h a (by simp)
    simp [Lib.join, size_data]
    omega
  | a :: b :: l, h => by
    have h1 := h a (by simp)
    have h2 := join_len m (b :: l) (fun x hx => h x (by simp [hx]))
    have h3 : (a :: b :: l).length * (m + 1) = (b :: l).length * (m + 1) + (m + 1) := by rw [List.length_cons, Nat.succ_mul]
    rw [h3]
    simp [Lib.join, size_data] at h2 ⊢
    omega
abbrev bV (x : ByteArray) : Value := .string x
set_option maxHeartbeats 4000000 in
set_option maxRecDepth 100000 in
theorem comment_call {s : ByteArray} (hs : s.size ≤ 1000000) (i : Nat) (hi : i ≤ s.size) (w : World) : Calls Tryz.prog 64 #[.string s, .int .i64 i] w (GotE s w (comS s i)) := by
  obtain ⟨i0, hi0, hz0, hz1, hz2⟩ := info_parts infoS
  obtain ⟨R, hR⟩ : ∃ R, comS s i = R := ⟨_, rfl⟩
  rw [hR]
  unfold comS at hR
  have hL := fun W => commentLine_any s i (by omega) hi W
  have hle := com_le s i hi
  have hlt := com_lt s i hi
  obtain ⟨lw, hlw⟩ : ∃ lw, comL s i = lw := ⟨_, rfl⟩
  rw [hlw] at hL hle hlt hR
  obtain ⟨lv, x0⟩ := lw
  dsimp only at hL hle hlt hR
  have HL := Lib.hid hL
  have HR := Lib.hid hR
  have HLc := Lib.hid (fun j W (hj : j ≤ s.size) => commentLine_any s j (by omega) hj W)
  have HBe := Lib.hid (fun j W (hj : j ≤ s.size) => behind_any s j (by omega) hj W)
  have hii : (i : Int) ≤ 1000000 := by omega
  have hc0 := BoxAt.new w zEn 45
  have HC0 := Lib.hid hc0
  obtain ⟨u0, u1, u2, u3, u4, u5, u6, u7, v0, v1, v2, v3, v4, v5, v6, v7⟩ := cellsE hc0
  clear hL hR hlw hc0
  have hlv : (lv : Int) ≤ 3 := by omega
  by_cases h0 : lv = 0
  · have d1 : ((lv : Int) == 0) = true := beq_iff_eq.2 (by omega)
    have hR := HR.out
    rw [if_pos h0] at hR
    subst hR
    clear h0
    go_enter Tryz.func64, Tryz.ntmps64
    go_wp2_with fail
    go_at_call 83
    refine (HL.out _).mono ?_
    rintro e w1 ⟨rfl, rfl⟩
    go_wp2
    exact end8e Tryz.results64 HC0.out rfl rfl rfl ⟨(Below.refl _ _).alloc (Nat.le_refl _) _, 0, 0, ⟨#[]⟩, ⟨#[]⟩, none, 0, 0, none, 0, 0, 0, 0, rfl, fun x h => by cases h⟩
  have d1 : ((lv : Int) == 0) = false := beq_eq_false_iff_ne.2 (by omega)
  have hR := HR.out
  rw [if_neg h0] at hR
  obtain ⟨RG, hRG⟩ : ∃ R, comGo s lv [] i x0 = R := ⟨_, rfl⟩
  rw [hRG] at hR
  have HG := Lib.hid hRG
  have HR2 := Lib.hid hR
  clear hR hRG HR
  go_enter Tryz.func64, Tryz.ntmps64
  go_wp2_with fail
  go_at_call 83
  refine (HL.out _).mono ?_
  rintro e w1 ⟨rfl, rfl⟩
  go_wp2
  go_loopw [7, 8, 9, 10] (fun t7 t8 t9 t10 wr => ∃ (acc : List ByteArray) (x : ByteArray) (k nx : Nat) (A : Option Addr) (c : Nat), t7 = .string x ∧ t8 = .slice A acc.length c ∧ t9 = .int .i64 k ∧ t10 = .int .i64 nx ∧ i ≤ k ∧ k ≤ s.size ∧ nx ≤ 3 ∧ acc.length ≤ k ∧ (nx = lv → k < s.size) ∧ Hid ((∀ y ∈ acc, y.size ≤ s.size) ∧ x.size ≤ s.size) ∧ (nx ≠ lv → 0 < acc.length) ∧ Hid ((if nx = lv then comGo s lv acc k x else (acc, k)) = RG) ∧ Hid (BoxAt wr w.heap.size zEn 45) ∧ Hid (Below w.heap.size w wr) ∧ Hid (wr.ownsRow (w.heap.size + 1) 9 1 (.slice A acc.length c) acc.length (acc.map bV))) (fun _ _ t9 _ _ => s.size - (intOf t9).toNat)
  case atStart => exact ⟨[], x0, i, lv, none, 0, rfl, rfl, rfl, rfl, Nat.le_refl _, hi, hle.1, Nat.zero_le _, fun _ => hlt h0, ⟨fun y h => by simp at h, hle.2⟩, fun h => absurd rfl h, by rw [if_pos rfl]; exact HG.out, HC0.out, (Below.refl _ _).alloc (Nat.le_refl _) _, World.ownsRow_nil _ _ _ _⟩
  case round =>
    obtain ⟨acc, x, k, nx, A, c, rfl, rfl, rfl, rfl, hik, hk, hnx, hacc, hkl, Hsz, hpos, HRG, HC, HBel, HO⟩ := hrel
    have hk0 : (k : Int) ≤ 1000000 := by omega
    have hnx0 : (nx : Int) ≤ 3 := by omega
    have haccI : (acc.length : Int) ≤ 1000000 := by omega
    obtain ⟨q0, q1, q2, q3, q4, q5, q6, q7, p0, p1, p2, p3, p4, p5, p6, p7⟩ := cellsE HC.out
    have hl := HC.out.lt
    by_cases hn : nx = lv
    · have d2 : ((nx : Int) == (lv : Int)) = true := beq_iff_eq.2 (by omega)
      have hkl' := hkl hn
      have hRG := HRG.out
      rw [if_pos hn, comGo_step s lv acc k x hkl'] at hRG
      have hb := beh_ok s k hk
      have hbl := hb.2.2 hkl'
      have hBk := fun W => HBe.out k W hk
      have hLk := fun W => HLc.out (beh s k) W hb.2.1
      have hsz2 := com_le s (beh s k) hb.2.1
      have hltk := com_lt s (beh s k) hb.2.1
      obtain ⟨kb, hkb⟩ : ∃ kb, beh s k = kb := ⟨_, rfl⟩
      rw [hkb] at hRG hb hbl hBk hLk hsz2 hltk
      obtain ⟨cx, hcx⟩ : ∃ cx, comL s kb = cx := ⟨_, rfl⟩
      rw [hcx] at hRG hLk hsz2 hltk
      obtain ⟨nx', x'⟩ := cx
      dsimp only at hRG hLk hsz2 hltk
      have HBk := Lib.hid hBk
      have HLk := Lib.hid hLk
      have HRG2 := Lib.hid hRG
      have Hltk := Lib.hid hltk
      have hbs := HBel.out.size
      have hnew : BoxAt (wr.alloc (.cells #[.string x] 9)) wr.heap.size #[.string x] 9 := BoxAt.new' _ _ _ _ rfl
      have hown1 := HO.out.alloc (.cells #[.string x] 9)
      have Hv5 := Lib.hid (fun g e => HO.out.lt g e)
      have hkb0 : (kb : Int) ≤ 1000000 := by omega
      have hcb := HC.out.alloc (.cells #[.string x] 9)
      have HCb := Lib.hid hcb
      clear hBk hLk hRG hltk hkb hcx HRG hcb
      go_wp2_with (at_builtin; refine wpList_append_where _ rfl _ _ 49 rfl (w.heap.size + 1) 9 i0 (.string ⟨#[]⟩) 1 16 Tryz.underlying49 hi0 hz0 hz1 hz2 rfl (by decide) _ _ _ rfl hown1 ⟨wr.heap.size, 0, none⟩ 1 1 [.string x] rfl rfl ?c1 ?c2 ?c3 ?c4 ?c5 ?c6 ?_)
      case c1 =>
        intro j u hj
        match j, hj with
        | 0, hj => simp at hj; subst hj; exact hnew.cell 0
      case c2 => intro u hu; simp at hu; subst hu; rfl
      case c3 => unfold maxLen; omega
      case c4 => omega
      case c5 => simp; omega
      case c6 => decide
      intro v' w8 hown' hgrow hwh
      have HC8 := Lib.hid (show BoxAt w8 w.heap.size zEn 45 from (hgrow.block w.heap.size HCb.out.lt (fun e => by have := (Hv5.out _ e.symm).1; omega)).trans HCb.out)
      have HB8 := Lib.hid ((HBel.out.alloc (by omega) (.cells #[.string x] 9)).grown hgrow (by simp; omega) (fun g e => by have := (Hv5.out g e).1; omega))
      obtain ⟨A3, c3, rfl⟩ := own_slice hown' (by omega)
      have HO8 := Lib.hid hown'
      clear hown' hgrow hwh hnew hown1 q0 q1 q2 q3 q4 q5 q6 q7 p0 p1 p2 p3 p4 p5 p6 p7
      go_wp2_with fail
      go_at_call 63
      refine (HBk.out _).mono ?_
      rintro e w9 ⟨rfl, rfl⟩
      go_wp2_with fail
      go_at_call 83
      refine (HLk.out _).mono ?_
      rintro e w9 ⟨rfl, rfl⟩
      go_wp2
      go_roundw
      case rel =>
        refine ⟨acc ++ [x], x', kb, nx', A3, c3, rfl, ?_, rfl, rfl, by omega, hb.2.1, hsz2.1, ?_, fun h => Hltk.out (by omega), ⟨fun y hy => ?_, hsz2.2⟩, fun _ => by simp, HRG2.out, HC8, HB8, ?_⟩
        · show Value.slice A3 _ c3 = _
          simp
        · rw [List.length_append, List.length_singleton]; omega
        · rcases List.mem_append.1 hy with h | h
          · exact Hsz.out.1 y h
          · simp at h; rw [h]; exact Hsz.out.2
        · rw [List.length_append, List.length_singleton, List.map_append]
          exact Lib.hid HO8.out
      case measure => simp [intOf]; omega
    · have d2 : ((nx : Int) == (lv : Int)) = false := beq_eq_false_iff_ne.2 (by omega)
      have hRG := HRG.out
      rw [if_neg hn] at hRG
      subst hRG
      have h00 := hpos hn
      rcases HO.out.2 with ⟨_, hz⟩ | ⟨g, cap, cur, hv, hb, hg, hc1, hc2, hcs, htk⟩
      · omega
      cases hv
      have hjl := join_len s.size acc Hsz.out.1
      have hj2 : acc.length * (s.size + 1) ≤ 1000000 * 1000001 := Nat.mul_le_mul (by omega) (by omega)
      have hJ := Tryz.strings_Join g 0 c acc ⟨#[10]⟩ wr (fun j y hy => by
        have := HO.out.cells (g := g) rfl j (bV y) (by rw [List.getElem?_map, hy]; rfl)
        rw [Addr.add_mid] at this
        exact this) (Array.getElem?_eq_some_iff.1 hg).1 (by omega) hc1 (by
          rw [show (⟨#[10]⟩ : ByteArray).data.toList = [10] from rfl]
          omega)
      rw [show (⟨#[10]⟩ : ByteArray).data.toList = [10] from rfl] at hJ
      have HJ := Lib.hid hJ
      have hR := HR2.out
      dsimp only at hR
      obtain ⟨T, hT⟩ : ∃ T : ByteArray, ⟨(Lib.join (acc.map (·.data.toList)) [10]).toArray⟩ = T := ⟨_, rfl⟩
      have hT2 : mkB (Lib.join (acc.map (·.data.toList)) [10]) = T := hT
      rw [hT2] at hR
      subst hR
      have hJ := HJ.out
      rw [hT] at hJ
      have HJ2 := Lib.hid hJ
      clear hJ HJ hT hT2 hjl hj2 hcs htk hg
      go_wp2_with fail
      go_at_call 84
      refine (HJ2.out).mono ?_
      rintro e w2 ⟨rfl, hb2⟩
      have hc2 := BoxAt.later HC.out hb2
      have HC2 := Lib.hid hc2
      have HB2 := Lib.hid (HBel.out.trans (hb2.mono HBel.out.size))
      obtain ⟨m0, m1, m2, m3, m4, m5, m6, m7, g0, g1, g2, g3, g4, g5, g6, g7⟩ := cellsE hc2
      have hl2 := hc2.lt
      clear hb2 hc2 q0 q1 q2 q3 q4 q5 q6 q7 p0 p1 p2 p3 p4 p5 p6 p7
      go_wp2
      exact end8e Tryz.results64 (box_set8 HC2.out _ _ _ _ _ _ _ _) rfl rfl rfl ⟨below_set8 HB2.out (Nat.le_refl _) _ _ _ _ _ _ _ _, _, _, _, _, _, _, _, _, _, _, _, _, rfl, fun x h => by
        cases h
        exact ⟨none, 0, none, 0, rfl, ⟨none, 0, rfl, Nat.le_refl _, Nat.zero_le _, fun h => absurd h (by simp)⟩, AtsF.nil _ _⟩⟩
end Go.Proofs.YtnogdojdjehakaaGreatDoor

/-
  Package entry: read.
-/
namespace Go.Proofs.YtnogdojdjehakaaGreatDoor
open Go.RowKit
set_option linter.unusedVariables false
set_option linter.unusedSimpArgs false

theorem endE8 {fn : Func} {R : Ending → World → Prop} {a : Act} {w2 : World} {A b : Nat} {ty lv : Int} {tx nm : ByteArray} {v u : Value} {fr tu : Int} {t : TypeId} (hres : fn.results = #[.cell A 45])
    (hbox : BoxAt w2 b #[.int .i64 ty, .int .i64 lv, .string tx, .string nm, v, u, .int .i64 fr, .int .i64 tu] t)
    (ha : a.tmps.getD A undef = .pointer (some ⟨b, 0, none⟩)) (hd : a.defers = []) (hR : R (.returned (entV ty lv tx nm v u fr tu)) w2) : bodyPost Tryz.prog fn R .ret a w2 :=
  endE hres hbox ha hd hR
theorem EnF.fields {W : World} {F : Nat → Prop} {x : EN} {ty lv : Int} {tx nm : ByteArray} {v u : Value} {fr tu : Int} (h : EnF W F x (entV ty lv tx nm v u fr tu)) :
    ty = x.ty ∧ lv = x.lv ∧ tx = x.tx ∧ nm = x.nm ∧ fr = x.fr ∧ tu = x.tu := by
  obtain ⟨A, c, B, d, h1, _⟩ := h
  unfold entV at h1
  cases h1
  exact ⟨rfl, rfl, rfl, rfl, rfl, rfl⟩
/-- What an entry's reading gives, by itself. -/
def GotR (w : World) (x : EN) (e : Ending) (w' : World) : Prop :=
  Below w.heap.size w w' ∧ ∃ v, e = .returned v ∧ EnF w' (Since w.heap.size w') x v
theorem carry_set8a {w w2 : World} {B : Nat} (hB : w.heap.size + 1 ≤ B) (o : Obj) (x0 x1 x2 x3 x4 x5 x6 x7 : Value) : ∀ z, Since B w2 z → Since w.heap.size ((set8 w2 w.heap.size x0 x1 x2 x3 x4 x5 x6 x7).alloc o) z ∧ ((set8 w2 w.heap.size x0 x1 x2 x3 x4 x5 x6 x7).alloc o).heap[z]? = w2.heap[z]? := fun z hz => by
  obtain ⟨z1, z2⟩ := hz
  exact ⟨⟨by omega, by rw [World.size_alloc, set8_size]; omega⟩, (Lib.alloc_old _ _ z (by rw [set8_size]; exact z2)).trans (set8_heap _ _ _ _ _ _ _ _ _ _ z (by omega))⟩
set_option maxHeartbeats 4000000 in
set_option maxRecDepth 100000 in
theorem read_call {s : ByteArray} (hPC : PatCall s) (hs : s.size ≤ 1000000) (i : Nat) (hi : i < s.size) (w : World) : Calls Tryz.prog 41 #[.string s, .int .i64 i] w (GotR w (readS s i)) := by
  obtain ⟨R, hR⟩ : ∃ R, readS s i = R := ⟨_, rfl⟩
  rw [hR]
  unfold readS at hR
  have hC := fun W => comment_call hs i (Nat.le_of_lt hi) W
  have hM := fun W => message_call hPC hs i (Nat.le_of_lt hi) W
  have hJ := fun W => junk_any s i (by omega) hi W
  have hJs : junkS s i = ⟨3, 0, s.extract i (junkTo s (beh s i)), E0, [], [], i, junkTo s (beh s i)⟩ := rfl
  rw [hJs] at hR
  obtain ⟨jt, hjt⟩ : ∃ j, junkTo s (beh s i) = j := ⟨_, rfl⟩
  obtain ⟨jx, hjx⟩ : ∃ x, s.extract i jt = x := ⟨_, rfl⟩
  rw [hjt, hjx] at hJ hR
  obtain ⟨rc, hrc⟩ : ∃ r, comS s i = r := ⟨_, rfl⟩
  obtain ⟨rm, hrm⟩ : ∃ r, msgS s i = r := ⟨_, rfl⟩
  rw [hrc] at hC hR
  rw [hrm] at hM hR
  have HC := Lib.hid hC
  have HM := Lib.hid hM
  have HJ := Lib.hid hJ
  have HR := Lib.hid hR
  have hi0 : (i : Int) ≤ 1000000 := by omega
  have HX0 := Lib.hid (BoxAt.new w zEn 45)
  clear hC hM hJ hR hJs hrc hrm hjt hjx hPC
  unfold GotE at HC HM
  unfold entV at HC HM HJ
  go_enter Tryz.func41, Tryz.ntmps41
  go_wp2_with fail
  go_at_call 64
  refine (HC.out _).mono ?_
  rintro e w1 ⟨hb1, ty, lv, tx, nm, A, n, c, B, m, d, fr, tu, rfl, h1⟩
  have hx1 := BoxAt.later HX0.out hb1
  have HX1 := Lib.hid hx1
  have HB1 := Lib.hid (((Below.refl w.heap.size w).alloc (Nat.le_refl _) (.cells zEn 45)).trans (hb1.mono (by simp)))
  have H1 := Lib.hid h1
  obtain ⟨q0, q1, q2, q3, q4, q5, q6, q7, p0, p1, p2, p3, p4, p5, p6, p7⟩ := cellsE hx1
  have hl1 := hx1.lt
  have hs1 := hb1.size
  rw [World.size_alloc] at hs1
  clear hb1 h1 hx1
  cases rc with
  | some x =>
    have hR := HR.out
    dsimp only at hR
    subst hR
    go_wp2
    exact endE8 Tryz.results41 ((box_set8 HX1.out _ _ _ _ _ _ _ _).alloc _) rfl rfl ⟨(below_set8 HB1.out (Nat.le_refl _) _ _ _ _ _ _ _ _).alloc (by rw [set8_size]; omega) _, _, rfl, EnF.carry (carry_set8a (by simp; try omega) _ _ _ _ _ _ _ _ _) (H1.out x rfl)⟩
  | none =>
    have hR := HR.out
    dsimp only at hR
    have HR2 := Lib.hid hR
    clear hR HR H1
    go_wp2_with fail
    go_at_call 65
    refine (HM.out _).mono ?_
    rintro e w2 ⟨hb2, ty', lv', tx', nm', A', n', c', B', m', d', fr', tu', rfl, h2⟩
    have hx2 := BoxAt.later (HX1.out.alloc (.cells #[.int .i64 ty, .int .i64 lv, .string tx, .string nm, .slice A n c, .slice B m d, .int .i64 fr, .int .i64 tu] 45)) hb2
    have HX2 := Lib.hid hx2
    have HB2 := Lib.hid ((HB1.out.alloc (by omega) (.cells #[.int .i64 ty, .int .i64 lv, .string tx, .string nm, .slice A n c, .slice B m d, .int .i64 fr, .int .i64 tu] 45)).trans (hb2.mono (by simp; omega)))
    have H2 := Lib.hid h2
    obtain ⟨r0, r1, r2, r3, r4, r5, r6, r7, f0, f1, f2, f3, f4, f5, f6, f7⟩ := cellsE hx2
    have hl2 := hx2.lt
    have hs2 := hb2.size
    rw [World.size_alloc] at hs2
    clear hb2 h2 hx2 q0 q1 q2 q3 q4 q5 q6 q7 p0 p1 p2 p3 p4 p5 p6 p7
    cases rm with
    | some x =>
      have hR := HR2.out
      dsimp only at hR
      subst hR
      go_wp2
      exact endE8 Tryz.results41 ((box_set8 HX2.out _ _ _ _ _ _ _ _).alloc _) rfl rfl ⟨(below_set8 HB2.out (Nat.le_refl _) _ _ _ _ _ _ _ _).alloc (by rw [set8_size]; omega) _, _, rfl, EnF.carry (carry_set8a (by simp; try omega) _ _ _ _ _ _ _ _ _) (H2.out x rfl)⟩
    | none =>
      have hR := HR2.out
      dsimp only at hR
      subst hR
      clear H2 HR2
      go_wp2_with fail
      go_at_call 66
      refine (HJ.out _).mono ?_
      rintro e w3 ⟨rfl, hb3⟩
      have hx3 := BoxAt.later (HX2.out.alloc (.cells #[.int .i64 ty', .int .i64 lv', .string tx', .string nm', .slice A' n' c', .slice B' m' d', .int .i64 fr', .int .i64 tu'] 45)) hb3
      have HX3 := Lib.hid hx3
      have HB3 := Lib.hid ((HB2.out.alloc (by omega) (.cells #[.int .i64 ty', .int .i64 lv', .string tx', .string nm', .slice A' n' c', .slice B' m' d', .int .i64 fr', .int .i64 tu'] 45)).trans (hb3.mono (by simp; omega)))
      obtain ⟨q0, q1, q2, q3, q4, q5, q6, q7, p0, p1, p2, p3, p4, p5, p6, p7⟩ := cellsE hx3
      have hl3 := hx3.lt
      clear hb3 hx3 r0 r1 r2 r3 r4 r5 r6 r7 f0 f1 f2 f3 f4 f5 f6 f7
      go_wp2
      exact endE8 Tryz.results41 (box_set8 HX3.out _ _ _ _ _ _ _ _) rfl rfl ⟨below_set8 HB3.out (Nat.le_refl _) _ _ _ _ _ _ _ _, _, rfl, none, 0, none, 0, rfl, ⟨none, 0, rfl, Nat.le_refl _, Nat.zero_le _, fun h => absurd h (by simp)⟩, AtsF.nil _ _⟩
end Go.Proofs.YtnogdojdjehakaaGreatDoor

/-
  Package entry: Parse.
-/
namespace Go.Proofs.YtnogdojdjehakaaGreatDoor
open Go.RowKit
set_option linter.unusedVariables false
set_option linter.unusedSimpArgs false

theorem infoEn : (Tryz.prog.info? 45).map (fun i => (i.zero, i.size, i.bytes)) = some (some (.agg #[.int .i64 0, .int .i64 0, .string ⟨#[]⟩, .string ⟨#[]⟩, .slice none 0 0, .slice none 0 0, .int .i64 0, .int .i64 0]), 8, 112) := by kernel_rfl
/-- A row of entries in memory. -/
def NsF (W : World) (F : Nat → Prop) : List EN → Nat → Nat → Prop
  | [], _, _ => True
  | x :: r, b, o => F b ∧ (∃ (A : Option Addr) (c : Nat) (B : Option Addr) (d : Nat), W.cell? ⟨b, o, none⟩ = some (.int .i64 x.ty) ∧ W.cell? ⟨b, o + 1, none⟩ = some (.int .i64 x.lv) ∧ W.cell? ⟨b, o + 2, none⟩ = some (.string x.tx) ∧ W.cell? ⟨b, o + 3, none⟩ = some (.string x.nm) ∧
      W.cell? ⟨b, o + 4, none⟩ = some (.slice A x.val.length c) ∧ W.cell? ⟨b, o + 5, none⟩ = some (.slice B x.ats.length d) ∧ W.cell? ⟨b, o + 6, none⟩ = some (.int .i64 x.fr) ∧ W.cell? ⟨b, o + 7, none⟩ = some (.int .i64 x.tu) ∧
      PatF W F x.val (.slice A x.val.length c) ∧ AtsF W F x.ats (.slice B x.ats.length d)) ∧ NsF W F r b (o + 8)
theorem NsF.carry {W W' : World} {F F' : Nat → Prop} (g : ∀ b, F b → F' b ∧ W'.heap[b]? = W.heap[b]?) : ∀ (l : List EN) (b o : Nat), NsF W F l b o → NsF W' F' l b o
  | [], b, o, _ => by rw [NsF]; trivial
  | x :: r, b, o, h => by
    rw [NsF] at h ⊢
    obtain ⟨hb, ⟨A, c, B, d, h0, h1, h2, h3, h4, h5, h6, h7, h8, h9⟩, hr⟩ := h
    have e := (g b hb).2
    exact ⟨(g b hb).1, ⟨A, c, B, d, (cell_same e _).trans h0, (cell_same e _).trans h1, (cell_same e _).trans h2, (cell_same e _).trans h3, (cell_same e _).trans h4, (cell_same e _).trans h5, (cell_same e _).trans h6, (cell_same e _).trans h7, h8.carry g, h9.carry g⟩, NsF.carry g r b _ hr⟩
/-- The values of a row of entries. -/
def NZip (W : World) (F : Nat → Prop) : List EN → List Value → Prop
  | [], xs => xs = []
  | x :: r, xs => ∃ (A : Option Addr) (c : Nat) (B : Option Addr) (d : Nat) (ys : List Value), xs = .int .i64 x.ty :: .int .i64 x.lv :: .string x.tx :: .string x.nm :: .slice A x.val.length c :: .slice B x.ats.length d :: .int .i64 x.fr :: .int .i64 x.tu :: ys ∧
      PatF W F x.val (.slice A x.val.length c) ∧ AtsF W F x.ats (.slice B x.ats.length d) ∧ NZip W F r ys
theorem NZip.snoc {W : World} {F : Nat → Prop} {x : EN} {A : Option Addr} {c : Nat} {B : Option Addr} {d : Nat} (hp : PatF W F x.val (.slice A x.val.length c)) (hq : AtsF W F x.ats (.slice B x.ats.length d)) : ∀ (acc : List EN) (xs : List Value), NZip W F acc xs →
    NZip W F (acc ++ [x]) (xs ++ [.int .i64 x.ty, .int .i64 x.lv, .string x.tx, .string x.nm, .slice A x.val.length c, .slice B x.ats.length d, .int .i64 x.fr, .int .i64 x.tu])
  | [], xs, h => by
    rw [NZip] at h
    subst h
    exact ⟨A, c, B, d, [], rfl, hp, hq, rfl⟩
  | y :: r, xs, h => by
    rw [NZip] at h
    obtain ⟨A', c', B', d', ys, rfl, h2, h3, h4⟩ := h
    exact ⟨A', c', B', d', _, rfl, h2, h3, NZip.snoc hp hq r ys h4⟩
theorem NZip.carry {W W' : World} {F F' : Nat → Prop} (g : ∀ b, F b → F' b ∧ W'.heap[b]? = W.heap[b]?) : ∀ (acc : List EN) (xs : List Value), NZip W F acc xs → NZip W' F' acc xs
  | [], xs, h => by rw [NZip] at h ⊢; exact h
  | y :: r, xs, h => by
    rw [NZip] at h
    obtain ⟨A', c', B', d', ys, rfl, h2, h3, h4⟩ := h
    exact ⟨A', c', B', d', ys, rfl, h2.carry g, h3.carry g, NZip.carry g r ys h4⟩
theorem NZip.ns {W : World} {F : Nat → Prop} {g : Nat} (hg : F g) : ∀ (acc : List EN) (xs : List Value) (o : Nat), (∀ j x, xs[j]? = some x → W.cell? ⟨g, o + j, none⟩ = some x) → NZip W F acc xs → NsF W F acc g o
  | [], xs, o, hc, h => by rw [NsF]; trivial
  | y :: r, xs, o, hc, h => by
    rw [NZip] at h
    obtain ⟨A', c', B', d', ys, rfl, h2, h3, h4⟩ := h
    rw [NsF]
    refine ⟨hg, ⟨A', c', B', d', hc 0 _ rfl, hc 1 _ rfl, hc 2 _ rfl, hc 3 _ rfl, hc 4 _ rfl, hc 5 _ rfl, hc 6 _ rfl, hc 7 _ rfl, h2, h3⟩, NZip.ns hg r ys (o + 8) (fun j x hx => ?_) h4⟩
    have := hc (j + 8) x (by simpa using hx)
    rw [show o + 8 + j = o + (j + 8) by omega]
    exact this
def OwnN (B : Nat) (W : World) (v : Value) (acc : List EN) : Prop := ∃ xs, W.ownsRow B 45 8 v acc.length xs ∧ NZip W (OwnSet B W v) acc xs
theorem OwnN.nil (B : Nat) (W : World) : OwnN B W (.slice none 0 0) [] := ⟨[], World.ownsRow_nil _ _ _ _, rfl⟩
theorem OwnN.below {B : Nat} {W W' : World} {v : Value} {acc : List EN} (h : OwnN B W v acc) (g : Below W.heap.size W W') : OwnN B W' v acc := by
  obtain ⟨xs, h1, h2⟩ := h
  refine ⟨xs, h1.kept (⟨g.os, g.tape, g.output, g.size, fun k hk _ => g.block k hk⟩ : W.grownBy W' none) (by by_cases h : v.ownBlock = none; exact .inl h; exact .inr h), NZip.carry (fun b hb => ?_) _ _ h2⟩
  obtain ⟨⟨hb1, hb2⟩, hb3⟩ := hb
  exact ⟨⟨⟨hb1, Nat.lt_of_lt_of_le hb2 g.size⟩, hb3⟩, g.block b hb2⟩
theorem OwnN.push {B : Nat} {w1 W2 W3 : World} {v v' : Value} {acc : List EN} {xs : List Value} {x : EN} {A' : Option Addr} {c' : Nat} {B' : Option Addr} {d' : Nat} (K : Below w1.heap.size w1 W2) (hz : NZip w1 (OwnSet B w1 v) acc xs)
    (hp : PatF W2 (OwnSet B W2 v) x.val (.slice A' x.val.length c')) (hq : AtsF W2 (OwnSet B W2 v) x.ats (.slice B' x.ats.length d'))
    (ho : W3.ownsRow B 45 8 v' (acc.length + 1) (xs ++ [.int .i64 x.ty, .int .i64 x.lv, .string x.tx, .string x.nm, .slice A' x.val.length c', .slice B' x.ats.length d', .int .i64 x.fr, .int .i64 x.tu])) (hg : W2.grownBy W3 v.ownBlock) (hw : v'.ownBlock = v.ownBlock ∨ v'.ownBlock = some W2.heap.size) : OwnN B W3 v' (acc ++ [x]) := by
  refine ⟨_, by rw [List.length_append]; exact ho, ?_⟩
  have hz2 : NZip W2 (OwnSet B W2 v) acc xs := NZip.carry (fun b hb => by
    obtain ⟨⟨hb1, hb2⟩, hb3⟩ := hb
    exact ⟨⟨⟨hb1, Nat.lt_of_lt_of_le hb2 K.size⟩, hb3⟩, K.block b hb2⟩) _ _ hz
  have g : ∀ b, OwnSet B W2 v b → OwnSet B W3 v' b ∧ W3.heap[b]? = W2.heap[b]? := fun b hb => by
    obtain ⟨⟨hb1, hb2⟩, hb3⟩ := hb
    refine ⟨⟨⟨hb1, Nat.lt_of_lt_of_le hb2 hg.size⟩, ?_⟩, hg.block b hb2 hb3⟩
    rcases hw with e | e
    · rw [e]; exact hb3
    · rw [e]; intro e2; have := Option.some.inj e2; omega
  exact NZip.carry g _ _ (NZip.snoc hp hq acc xs hz2)
/-- A list of entries in memory. -/
def ListF (W : World) (F : Nat → Prop) (l : List EN) (v : Value) : Prop := LieAt (NsF W F l) v l.length
theorem OwnN.list {B : Nat} {W : World} {v : Value} {acc : List EN} (h : OwnN B W v acc) : ∃ A c, v = .slice A acc.length c ∧ ListF W (Since B W) acc v := by
  obtain ⟨xs, h1, h2⟩ := h
  rcases h1.2 with ⟨rfl, h0⟩ | ⟨g, cap, cur, rfl, hb, hg, hc1, hc2, hcs, htk⟩
  · have : acc = [] := List.eq_nil_of_length_eq_zero h0
    subst this
    exact ⟨none, 0, rfl, none, 0, rfl, Nat.le_refl _, Nat.zero_le _, fun h => absurd h (by simp)⟩
  · refine ⟨_, _, rfl, _, _, rfl, hc1, hc2, fun _ => ⟨g, 0, rfl, NZip.ns ⟨hb, (Array.getElem?_eq_some_iff.1 hg).1⟩ acc xs 0 (fun j x hx => ?_) (NZip.carry (fun b hb => ⟨hb.1, rfl⟩) _ _ h2)⟩⟩
    have := h1.cells (g := g) rfl j x hx
    rw [Addr.add_mid] at this
    exact this
end Go.Proofs.YtnogdojdjehakaaGreatDoor
