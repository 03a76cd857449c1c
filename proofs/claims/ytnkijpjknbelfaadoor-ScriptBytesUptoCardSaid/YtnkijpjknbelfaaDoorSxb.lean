/-
  Package script: the law's Right; a step's bytes cut off.
-/
import Derived.Test.YtnkijpjknbelfaaDoorSxa
import Derived.Test.YtnkijpjknbelfaaDoorSwr
namespace Go.Proofs.YtnkijpjknbelfaaDoor
open Go.RowKit
set_option linter.unusedVariables false
set_option linter.unusedSimpArgs false

theorem dec_cut {x : ST} (hv : ValS x) {k : Nat} (h0 : 0 < k) (hk : k < (encS x).length) (hs : (encS x).length ≤ 262144) : decD (mkS ((encS x).take k)) = ([], 0, 2) := by
  have hl : ((encS x).take k).length = k := by rw [List.length_take]; omega
  unfold decD
  rw [size_mkS, hl, if_neg (by omega), decG, if_neg (by rw [size_mkS, hl]; omega)]
  have hf : (stepG (mkS ((encS x).take k), false)).2.2 = true := by
    cases h : (stepG (mkS ((encS x).take k), false)).2.2
    · exfalso
      have hg := rds_step.got h
      have h2 := hg.2.2
      dsimp only at h2
      rw [mkS_data] at h2
      have he : encS x = encS (stepG (mkS ((encS x).take k), false)).1 ++ ((stepG (mkS ((encS x).take k), false)).2.1.data.toList ++ (encS x).drop k) := by
        rw [← List.append_assoc, ← h2, List.take_append_drop]
      have q1 := rds_step.to (mkS (encS x)) _ (mkS ((stepG (mkS ((encS x).take k), false)).2.1.data.toList ++ (encS x).drop k)) hg.2.1 (by rw [mkS_data, mkS_data]; exact he)
      have q2 := rds_step.to (mkS (encS x)) x eS hv (by rw [mkS_data]; simp [eS])
      rw [q2] at q1
      have q3 := congrArg (fun z => z.2.1.size) q1
      dsimp only at q3
      rw [size_mkS, List.length_append, List.length_drop, show eS.size = 0 from rfl] at q3
      omega
    · rfl
  rw [if_pos (.inl hf), size_mkS, hl, Nat.sub_self]
theorem dec_none : decD (mkS []) = ([], 0, 0) := by
  have := decD_enc [] (fun x h => by cases h) (by decide) (by decide)
  exact this
theorem dec_more {x : ST} {l : List ST} (hx : ValS x) (hr : rightS x = true) (hv : ∀ y ∈ l, ValS y) (hl : l.all rightS = true) (hn : l.length ≤ 20) (hs : (encS x ++ encL l).length ≤ 262144) : decD (mkS (encS x ++ encL l)) = (x :: l, (encS x ++ encL l).length, 0) := by
  have := decD_enc (x :: l) (fun y hy => by
    rcases List.mem_cons.1 hy with rfl | hy
    · exact ⟨hx, hr⟩
    · exact ⟨hv y hy, List.all_eq_true.1 hl y hy⟩) (by rw [List.length_cons]; omega) (by rw [encL_cons]; exact hs)
  rw [encL_cons] at this
  exact this
theorem one_sts {W : World} {g : Nat} {x : ST} {A1 A2 : Option Addr} {c1 c2 : Nat} (hb : BoxAt W g (stA x A1 c1 A2 c2) 29) (hf : StF W (Old W) x A1 A2) : StsIn W (Old W) [x] (some ⟨g, 0, none⟩) := fun _ =>
  ⟨g, 0, rfl, hb.lt, fun j y hy => by
    match j, hy with
    | 0, hy =>
      simp at hy
      subst hy
      exact ⟨A1, c1, A2, c2, fun i u hu => by
        rw [Nat.zero_mul, Nat.zero_add, hb.cell i]
        simpa [stL, stA] using hu, hf⟩⟩
theorem StF.later {W W' : World} {x : ST} {A1 A2 : Option Addr} (h : StF W (Old W) x A1 A2) (g : Below W.heap.size W W') : StF W' (Old W') x A1 A2 :=
  ⟨h.1.carry fun b hb => ⟨Nat.lt_of_lt_of_le hb g.size, g.block b hb⟩, h.2.carry fun b hb => ⟨Nat.lt_of_lt_of_le hb g.size, g.block b hb⟩⟩
set_option maxHeartbeats 8000000 in
set_option maxRecDepth 4000000 in
theorem lright_0 (tag by_ nm at_ : ByteArray) (ov : Bool) (A1 A2 : Option Addr) (n1 c1 c2 : Nat) (args : List SA) (w : World) (hE : Env w) (hin : AsIn w (Old w) args A2) (hn1 : n1 ≤ 4000000) (hn : args.length ≤ 4000000) (hs : ∀ a ∈ args, a.text.size ≤ 100000) :
    Calls Tryd.prog 12 #[.agg #[.int .i64 0, .string tag, .string by_, .bool ov, .slice A1 n1 c1, .string nm, .string at_, .slice A2 args.length c2]] w fun e w' => e = .returned (.bool (args.all okA && ((!(!nm.toList.isEmpty || !at_.toList.isEmpty || decide (0 < args.length))) && !decide (0 < n1)))) ∧ Below w.heap.size w w' := by
  have HE := Lib.hid hE
  have HI := Lib.hid hin
  have HS := Lib.hid hs
  have hi1 : (n1 : Int) ≤ 4000000 := by omega
  have hn0 : (args.length : Int) ≤ 4000000 := by omega
  have HZ := Lib.hid (show ((n1 : Int) == 0) = !decide (0 < n1) by rw [Bool.eq_iff_iff]; simp)
  clear hE hin hs
  go_enter Tryd.func12, Tryd.ntmps12
  go_upto_region 1 with fail
  have X0 := BoxAt.new w #[.int .i64 0, .string tag, .string by_, .bool ov, .slice A1 n1 c1, .string nm, .string at_, .slice A2 args.length c2] 29
  have K0 := Lib.hid ((Below.refl w.heap.size w).alloc (Nat.le_refl _) (.cells #[.int .i64 0, .string tag, .string by_, .bool ov, .slice A1 n1 c1, .string nm, .string at_, .slice A2 args.length c2] 29))
  generalize w.alloc (.cells #[.int .i64 0, .string tag, .string by_, .bool ov, .slice A1 n1 c1, .string nm, .string at_, .slice A2 args.length c2] 29) = W at *
  have HX := Lib.hid X0
  obtain ⟨a0, a1, a2, a3, a4, a5, a6, a7, _⟩ := cellsB8 X0
  clear X0
  go_wp2_with fail
  go_loopw [12] (fun t12 wr => ∃ i : Nat, t12 = .int .i64 i ∧ i ≤ args.length ∧ Hid ((args.take i).all okA = true) ∧ Hid (Below W.heap.size W wr)) (fun t12 _ => args.length - (intOf t12).toNat)
  case atStart => exact ⟨0, rfl, Nat.zero_le _, Lib.hid rfl, Lib.hid (Below.refl _ _)⟩
  case round =>
    clear a0 a1 a2 a3 a4 a5 a6 a7
    generalize wr = w1 at *
    obtain ⟨i, rfl, hi, HA, HB⟩ := hrel
    have hi0 : (i : Int) ≤ 4000000 := by omega
    by_cases hlt : i < args.length
    · have d1 : decide ((i : Int) < (args.length : Int)) = true := decide_eq_true (by omega)
      have d2 : (i : Int) < (args.length : Int) := by omega
      obtain ⟨b, o, rfl, hb, hcs⟩ := HI.out (by omega)
      obtain ⟨a, ha⟩ : ∃ a, args[i]? = some a := ⟨_, List.getElem?_eq_getElem hlt⟩
      obtain ⟨k0, k1, k2⟩ := hcs i a ha
      have hBw : Below w.heap.size w w1 := K0.out.trans (HB.out.mono K0.out.size)
      have k0 := (hBw.cell (p := ⟨b, o + i * 3, none⟩) hb).trans k0
      have k1 := (hBw.cell (p := ⟨b, o + i * 3 + 1, none⟩) hb).trans k1
      have k2 := (hBw.cell (p := ⟨b, o + i * 3 + 2, none⟩) hb).trans k2
      have hbr : b < w1.heap.size := Nat.lt_of_lt_of_le hb hBw.size
      have HEw := Lib.hid (HE.out.below hBw)
      have HV := Lib.hid (lval_any (HS.out a (List.mem_of_getElem? ha)))
      have HAk := Lib.hid (take_all okA args i a ha)
      have HN := Lib.hid (fun h => List.all_eq_false.2 ⟨a, List.mem_of_getElem? ha, by rw [h]; simp⟩ : okA a = false → args.all okA = false)
      clear hcs ha hBw
      obtain ⟨nm', kd, tx⟩ := a
      dsimp only at k0 k1 k2
      unfold ValTo at HV
      dsimp only at HV
      obtain ⟨ok, hok⟩ : ∃ ok, okA ⟨nm', kd, tx⟩ = ok := ⟨_, rfl⟩
      rw [hok] at HV HAk HN
      clear hok
      obtain ⟨vk, vt, vn, vs, vc, vi, vf, vx, vp, vr, ve, vy, hcv⟩ := valC_form ⟨nm', kd, tx⟩
      rw [hcv] at HV
      clear hcv
      unfold valA at HV
      go_wp2_with fail
      go_at_call 18
      have hE1 := HEw.out.below ((Below.refl _ _).alloc (Nat.le_refl _) (.cells #[.string nm', .int .i64 kd, .string tx] 44))
      refine (HV.out _ hE1).mono ?_
      rintro e w2 ⟨rfl, hb1⟩
      have HB1 := Lib.hid (HB.out.trans ((below_box hb1).mono HB.out.size))
      clear hb1 hE1
      cases ok
      · go_wp2
        go_ret
        exact ⟨ret_bool (by rw [HN.out (by first | rfl | trivial)]; rfl), K0.out.trans ((HB1.out.alloc HB1.out.size _).mono K0.out.size)⟩
      · go_wp2
        go_roundw
        case rel => exact ⟨i + 1, by go_num, by omega, Lib.hid (by rw [HAk.out, HA.out]; rfl), Lib.hid (HB1.out.alloc HB1.out.size _)⟩
        case measure => simp [intOf]; omega
    · have d1 : decide ((i : Int) < (args.length : Int)) = false := decide_eq_false (by omega)
      have d2 : ¬ (i : Int) < (args.length : Int) := by omega
      have hA := HA.out
      rw [List.take_of_length_le (l := args) (by omega)] at hA
      have HA2 := Lib.hid hA
      clear hA
      obtain ⟨a0, a1, a2, a3, a4, a5, a6, a7, _⟩ := cellsB8 (HX.out.later HB.out)
      go_wp2
      all_goals
        go_ret
        refine ⟨ret_bool ?_, K0.out.trans (HB.out.mono K0.out.size)⟩
        have hz0 := HA2.out
        try rw [hz0, Bool.true_and]
        clear d1 d2 hlt hi hi0 hz0 a0 a1 a2 a3 a4 a5 a6 a7
        have hzz := HZ.out
        first | rfl | exact hzz | (rw [hzz]; simp_all; done) | (simp_all; done) | (generalize decide (0 < n1) = gz at *; cases gz <;> simp_all; done) | (simp_all; omega)
set_option maxHeartbeats 8000000 in
set_option maxRecDepth 4000000 in
theorem lright_1 (tag by_ nm at_ : ByteArray) (ov : Bool) (A1 A2 : Option Addr) (n1 c1 c2 : Nat) (args : List SA) (w : World) (hE : Env w) (hin : AsIn w (Old w) args A2) (hn1 : n1 ≤ 4000000) (hn : args.length ≤ 4000000) (hs : ∀ a ∈ args, a.text.size ≤ 100000) :
    Calls Tryd.prog 12 #[.agg #[.int .i64 1, .string tag, .string by_, .bool ov, .slice A1 n1 c1, .string nm, .string at_, .slice A2 args.length c2]] w fun e w' => e = .returned (.bool (args.all okA && ((!(!nm.toList.isEmpty || !at_.toList.isEmpty || decide (0 < args.length))) && !(!by_.toList.isEmpty || ov)))) ∧ Below w.heap.size w w' := by
  have HE := Lib.hid hE
  have HI := Lib.hid hin
  have HS := Lib.hid hs
  have hi1 : (n1 : Int) ≤ 4000000 := by omega
  have hn0 : (args.length : Int) ≤ 4000000 := by omega
  have HZ := Lib.hid (show ((n1 : Int) == 0) = !decide (0 < n1) by rw [Bool.eq_iff_iff]; simp)
  clear hE hin hs
  go_enter Tryd.func12, Tryd.ntmps12
  go_upto_region 1 with fail
  have X0 := BoxAt.new w #[.int .i64 1, .string tag, .string by_, .bool ov, .slice A1 n1 c1, .string nm, .string at_, .slice A2 args.length c2] 29
  have K0 := Lib.hid ((Below.refl w.heap.size w).alloc (Nat.le_refl _) (.cells #[.int .i64 1, .string tag, .string by_, .bool ov, .slice A1 n1 c1, .string nm, .string at_, .slice A2 args.length c2] 29))
  generalize w.alloc (.cells #[.int .i64 1, .string tag, .string by_, .bool ov, .slice A1 n1 c1, .string nm, .string at_, .slice A2 args.length c2] 29) = W at *
  have HX := Lib.hid X0
  obtain ⟨a0, a1, a2, a3, a4, a5, a6, a7, _⟩ := cellsB8 X0
  clear X0
  go_wp2_with fail
  go_loopw [12] (fun t12 wr => ∃ i : Nat, t12 = .int .i64 i ∧ i ≤ args.length ∧ Hid ((args.take i).all okA = true) ∧ Hid (Below W.heap.size W wr)) (fun t12 _ => args.length - (intOf t12).toNat)
  case atStart => exact ⟨0, rfl, Nat.zero_le _, Lib.hid rfl, Lib.hid (Below.refl _ _)⟩
  case round =>
    clear a0 a1 a2 a3 a4 a5 a6 a7
    generalize wr = w1 at *
    obtain ⟨i, rfl, hi, HA, HB⟩ := hrel
    have hi0 : (i : Int) ≤ 4000000 := by omega
    by_cases hlt : i < args.length
    · have d1 : decide ((i : Int) < (args.length : Int)) = true := decide_eq_true (by omega)
      have d2 : (i : Int) < (args.length : Int) := by omega
      obtain ⟨b, o, rfl, hb, hcs⟩ := HI.out (by omega)
      obtain ⟨a, ha⟩ : ∃ a, args[i]? = some a := ⟨_, List.getElem?_eq_getElem hlt⟩
      obtain ⟨k0, k1, k2⟩ := hcs i a ha
      have hBw : Below w.heap.size w w1 := K0.out.trans (HB.out.mono K0.out.size)
      have k0 := (hBw.cell (p := ⟨b, o + i * 3, none⟩) hb).trans k0
      have k1 := (hBw.cell (p := ⟨b, o + i * 3 + 1, none⟩) hb).trans k1
      have k2 := (hBw.cell (p := ⟨b, o + i * 3 + 2, none⟩) hb).trans k2
      have hbr : b < w1.heap.size := Nat.lt_of_lt_of_le hb hBw.size
      have HEw := Lib.hid (HE.out.below hBw)
      have HV := Lib.hid (lval_any (HS.out a (List.mem_of_getElem? ha)))
      have HAk := Lib.hid (take_all okA args i a ha)
      have HN := Lib.hid (fun h => List.all_eq_false.2 ⟨a, List.mem_of_getElem? ha, by rw [h]; simp⟩ : okA a = false → args.all okA = false)
      clear hcs ha hBw
      obtain ⟨nm', kd, tx⟩ := a
      dsimp only at k0 k1 k2
      unfold ValTo at HV
      dsimp only at HV
      obtain ⟨ok, hok⟩ : ∃ ok, okA ⟨nm', kd, tx⟩ = ok := ⟨_, rfl⟩
      rw [hok] at HV HAk HN
      clear hok
      obtain ⟨vk, vt, vn, vs, vc, vi, vf, vx, vp, vr, ve, vy, hcv⟩ := valC_form ⟨nm', kd, tx⟩
      rw [hcv] at HV
      clear hcv
      unfold valA at HV
      go_wp2_with fail
      go_at_call 18
      have hE1 := HEw.out.below ((Below.refl _ _).alloc (Nat.le_refl _) (.cells #[.string nm', .int .i64 kd, .string tx] 44))
      refine (HV.out _ hE1).mono ?_
      rintro e w2 ⟨rfl, hb1⟩
      have HB1 := Lib.hid (HB.out.trans ((below_box hb1).mono HB.out.size))
      clear hb1 hE1
      cases ok
      · go_wp2
        go_ret
        exact ⟨ret_bool (by rw [HN.out (by first | rfl | trivial)]; rfl), K0.out.trans ((HB1.out.alloc HB1.out.size _).mono K0.out.size)⟩
      · go_wp2
        go_roundw
        case rel => exact ⟨i + 1, by go_num, by omega, Lib.hid (by rw [HAk.out, HA.out]; rfl), Lib.hid (HB1.out.alloc HB1.out.size _)⟩
        case measure => simp [intOf]; omega
    · have d1 : decide ((i : Int) < (args.length : Int)) = false := decide_eq_false (by omega)
      have d2 : ¬ (i : Int) < (args.length : Int) := by omega
      have hA := HA.out
      rw [List.take_of_length_le (l := args) (by omega)] at hA
      have HA2 := Lib.hid hA
      clear hA
      obtain ⟨a0, a1, a2, a3, a4, a5, a6, a7, _⟩ := cellsB8 (HX.out.later HB.out)
      go_wp2
      all_goals
        go_ret
        refine ⟨ret_bool ?_, K0.out.trans (HB.out.mono K0.out.size)⟩
        have hz0 := HA2.out
        try rw [hz0, Bool.true_and]
        clear d1 d2 hlt hi hi0 hz0 a0 a1 a2 a3 a4 a5 a6 a7
        have hzz := HZ.out
        first | rfl | exact hzz | (rw [hzz]; simp_all; done) | (simp_all; done) | (generalize decide (0 < n1) = gz at *; cases gz <;> simp_all; done) | (simp_all; omega)
set_option maxHeartbeats 8000000 in
set_option maxRecDepth 4000000 in
theorem lright_2 (tag by_ nm at_ : ByteArray) (ov : Bool) (A1 A2 : Option Addr) (n1 c1 c2 : Nat) (args : List SA) (w : World) (hE : Env w) (hin : AsIn w (Old w) args A2) (hn1 : n1 ≤ 4000000) (hn : args.length ≤ 4000000) (hs : ∀ a ∈ args, a.text.size ≤ 100000) :
    Calls Tryd.prog 12 #[.agg #[.int .i64 2, .string tag, .string by_, .bool ov, .slice A1 n1 c1, .string nm, .string at_, .slice A2 args.length c2]] w fun e w' => e = .returned (.bool (args.all okA && ((!(!by_.toList.isEmpty || ov)) && tag.toList.isEmpty && !decide (0 < n1)))) ∧ Below w.heap.size w w' := by
  have HE := Lib.hid hE
  have HI := Lib.hid hin
  have HS := Lib.hid hs
  have hi1 : (n1 : Int) ≤ 4000000 := by omega
  have hn0 : (args.length : Int) ≤ 4000000 := by omega
  have HZ := Lib.hid (show ((n1 : Int) == 0) = !decide (0 < n1) by rw [Bool.eq_iff_iff]; simp)
  clear hE hin hs
  go_enter Tryd.func12, Tryd.ntmps12
  go_upto_region 1 with fail
  have X0 := BoxAt.new w #[.int .i64 2, .string tag, .string by_, .bool ov, .slice A1 n1 c1, .string nm, .string at_, .slice A2 args.length c2] 29
  have K0 := Lib.hid ((Below.refl w.heap.size w).alloc (Nat.le_refl _) (.cells #[.int .i64 2, .string tag, .string by_, .bool ov, .slice A1 n1 c1, .string nm, .string at_, .slice A2 args.length c2] 29))
  generalize w.alloc (.cells #[.int .i64 2, .string tag, .string by_, .bool ov, .slice A1 n1 c1, .string nm, .string at_, .slice A2 args.length c2] 29) = W at *
  have HX := Lib.hid X0
  obtain ⟨a0, a1, a2, a3, a4, a5, a6, a7, _⟩ := cellsB8 X0
  clear X0
  go_wp2_with fail
  go_loopw [12] (fun t12 wr => ∃ i : Nat, t12 = .int .i64 i ∧ i ≤ args.length ∧ Hid ((args.take i).all okA = true) ∧ Hid (Below W.heap.size W wr)) (fun t12 _ => args.length - (intOf t12).toNat)
  case atStart => exact ⟨0, rfl, Nat.zero_le _, Lib.hid rfl, Lib.hid (Below.refl _ _)⟩
  case round =>
    clear a0 a1 a2 a3 a4 a5 a6 a7
    generalize wr = w1 at *
    obtain ⟨i, rfl, hi, HA, HB⟩ := hrel
    have hi0 : (i : Int) ≤ 4000000 := by omega
    by_cases hlt : i < args.length
    · have d1 : decide ((i : Int) < (args.length : Int)) = true := decide_eq_true (by omega)
      have d2 : (i : Int) < (args.length : Int) := by omega
      obtain ⟨b, o, rfl, hb, hcs⟩ := HI.out (by omega)
      obtain ⟨a, ha⟩ : ∃ a, args[i]? = some a := ⟨_, List.getElem?_eq_getElem hlt⟩
      obtain ⟨k0, k1, k2⟩ := hcs i a ha
      have hBw : Below w.heap.size w w1 := K0.out.trans (HB.out.mono K0.out.size)
      have k0 := (hBw.cell (p := ⟨b, o + i * 3, none⟩) hb).trans k0
      have k1 := (hBw.cell (p := ⟨b, o + i * 3 + 1, none⟩) hb).trans k1
      have k2 := (hBw.cell (p := ⟨b, o + i * 3 + 2, none⟩) hb).trans k2
      have hbr : b < w1.heap.size := Nat.lt_of_lt_of_le hb hBw.size
      have HEw := Lib.hid (HE.out.below hBw)
      have HV := Lib.hid (lval_any (HS.out a (List.mem_of_getElem? ha)))
      have HAk := Lib.hid (take_all okA args i a ha)
      have HN := Lib.hid (fun h => List.all_eq_false.2 ⟨a, List.mem_of_getElem? ha, by rw [h]; simp⟩ : okA a = false → args.all okA = false)
      clear hcs ha hBw
      obtain ⟨nm', kd, tx⟩ := a
      dsimp only at k0 k1 k2
      unfold ValTo at HV
      dsimp only at HV
      obtain ⟨ok, hok⟩ : ∃ ok, okA ⟨nm', kd, tx⟩ = ok := ⟨_, rfl⟩
      rw [hok] at HV HAk HN
      clear hok
      obtain ⟨vk, vt, vn, vs, vc, vi, vf, vx, vp, vr, ve, vy, hcv⟩ := valC_form ⟨nm', kd, tx⟩
      rw [hcv] at HV
      clear hcv
      unfold valA at HV
      go_wp2_with fail
      go_at_call 18
      have hE1 := HEw.out.below ((Below.refl _ _).alloc (Nat.le_refl _) (.cells #[.string nm', .int .i64 kd, .string tx] 44))
      refine (HV.out _ hE1).mono ?_
      rintro e w2 ⟨rfl, hb1⟩
      have HB1 := Lib.hid (HB.out.trans ((below_box hb1).mono HB.out.size))
      clear hb1 hE1
      cases ok
      · go_wp2
        go_ret
        exact ⟨ret_bool (by rw [HN.out (by first | rfl | trivial)]; rfl), K0.out.trans ((HB1.out.alloc HB1.out.size _).mono K0.out.size)⟩
      · go_wp2
        go_roundw
        case rel => exact ⟨i + 1, by go_num, by omega, Lib.hid (by rw [HAk.out, HA.out]; rfl), Lib.hid (HB1.out.alloc HB1.out.size _)⟩
        case measure => simp [intOf]; omega
    · have d1 : decide ((i : Int) < (args.length : Int)) = false := decide_eq_false (by omega)
      have d2 : ¬ (i : Int) < (args.length : Int) := by omega
      have hA := HA.out
      rw [List.take_of_length_le (l := args) (by omega)] at hA
      have HA2 := Lib.hid hA
      clear hA
      obtain ⟨a0, a1, a2, a3, a4, a5, a6, a7, _⟩ := cellsB8 (HX.out.later HB.out)
      go_wp2
      all_goals
        go_ret
        refine ⟨ret_bool ?_, K0.out.trans (HB.out.mono K0.out.size)⟩
        have hz0 := HA2.out
        try rw [hz0, Bool.true_and]
        clear d1 d2 hlt hi hi0 hz0 a0 a1 a2 a3 a4 a5 a6 a7
        have hzz := HZ.out
        first | rfl | exact hzz | (rw [hzz]; simp_all; done) | (simp_all; done) | (generalize decide (0 < n1) = gz at *; cases gz <;> simp_all; done) | (simp_all; omega)
set_option maxHeartbeats 8000000 in
set_option maxRecDepth 4000000 in
theorem lright_k (k : Int) (h0 : k ≠ 0) (h1 : k ≠ 1) (h2 : k ≠ 2) (tag by_ nm at_ : ByteArray) (ov : Bool) (A1 A2 : Option Addr) (n1 c1 c2 : Nat) (args : List SA) (w : World) (hE : Env w) (hin : AsIn w (Old w) args A2) (hn1 : n1 ≤ 4000000) (hn : args.length ≤ 4000000) (hs : ∀ a ∈ args, a.text.size ≤ 100000) :
    Calls Tryd.prog 12 #[.agg #[.int .i64 k, .string tag, .string by_, .bool ov, .slice A1 n1 c1, .string nm, .string at_, .slice A2 args.length c2]] w fun e w' => e = .returned (.bool (args.all okA && (false))) ∧ Below w.heap.size w w' := by
  have HE := Lib.hid hE
  have HI := Lib.hid hin
  have HS := Lib.hid hs
  have hi1 : (n1 : Int) ≤ 4000000 := by omega
  have hn0 : (args.length : Int) ≤ 4000000 := by omega
  have e0 : (k == 0) = false := by rw [beq_eq_false_iff_ne]; exact h0
  have e1 : (k == 1) = false := by rw [beq_eq_false_iff_ne]; exact h1
  have e2 : (k == 2) = false := by rw [beq_eq_false_iff_ne]; exact h2
  clear h0 h1 h2
  have HZ := Lib.hid (show ((n1 : Int) == 0) = !decide (0 < n1) by rw [Bool.eq_iff_iff]; simp)
  clear hE hin hs
  go_enter Tryd.func12, Tryd.ntmps12
  go_upto_region 1 with fail
  have X0 := BoxAt.new w #[.int .i64 k, .string tag, .string by_, .bool ov, .slice A1 n1 c1, .string nm, .string at_, .slice A2 args.length c2] 29
  have K0 := Lib.hid ((Below.refl w.heap.size w).alloc (Nat.le_refl _) (.cells #[.int .i64 k, .string tag, .string by_, .bool ov, .slice A1 n1 c1, .string nm, .string at_, .slice A2 args.length c2] 29))
  generalize w.alloc (.cells #[.int .i64 k, .string tag, .string by_, .bool ov, .slice A1 n1 c1, .string nm, .string at_, .slice A2 args.length c2] 29) = W at *
  have HX := Lib.hid X0
  obtain ⟨a0, a1, a2, a3, a4, a5, a6, a7, _⟩ := cellsB8 X0
  clear X0
  go_wp2_with fail
  go_loopw [12] (fun t12 wr => ∃ i : Nat, t12 = .int .i64 i ∧ i ≤ args.length ∧ Hid ((args.take i).all okA = true) ∧ Hid (Below W.heap.size W wr)) (fun t12 _ => args.length - (intOf t12).toNat)
  case atStart => exact ⟨0, rfl, Nat.zero_le _, Lib.hid rfl, Lib.hid (Below.refl _ _)⟩
  case round =>
    clear a0 a1 a2 a3 a4 a5 a6 a7
    generalize wr = w1 at *
    obtain ⟨i, rfl, hi, HA, HB⟩ := hrel
    have hi0 : (i : Int) ≤ 4000000 := by omega
    by_cases hlt : i < args.length
    · have d1 : decide ((i : Int) < (args.length : Int)) = true := decide_eq_true (by omega)
      have d2 : (i : Int) < (args.length : Int) := by omega
      obtain ⟨b, o, rfl, hb, hcs⟩ := HI.out (by omega)
      obtain ⟨a, ha⟩ : ∃ a, args[i]? = some a := ⟨_, List.getElem?_eq_getElem hlt⟩
      obtain ⟨k0, k1, k2⟩ := hcs i a ha
      have hBw : Below w.heap.size w w1 := K0.out.trans (HB.out.mono K0.out.size)
      have k0 := (hBw.cell (p := ⟨b, o + i * 3, none⟩) hb).trans k0
      have k1 := (hBw.cell (p := ⟨b, o + i * 3 + 1, none⟩) hb).trans k1
      have k2 := (hBw.cell (p := ⟨b, o + i * 3 + 2, none⟩) hb).trans k2
      have hbr : b < w1.heap.size := Nat.lt_of_lt_of_le hb hBw.size
      have HEw := Lib.hid (HE.out.below hBw)
      have HV := Lib.hid (lval_any (HS.out a (List.mem_of_getElem? ha)))
      have HAk := Lib.hid (take_all okA args i a ha)
      have HN := Lib.hid (fun h => List.all_eq_false.2 ⟨a, List.mem_of_getElem? ha, by rw [h]; simp⟩ : okA a = false → args.all okA = false)
      clear hcs ha hBw
      obtain ⟨nm', kd, tx⟩ := a
      dsimp only at k0 k1 k2
      unfold ValTo at HV
      dsimp only at HV
      obtain ⟨ok, hok⟩ : ∃ ok, okA ⟨nm', kd, tx⟩ = ok := ⟨_, rfl⟩
      rw [hok] at HV HAk HN
      clear hok
      obtain ⟨vk, vt, vn, vs, vc, vi, vf, vx, vp, vr, ve, vy, hcv⟩ := valC_form ⟨nm', kd, tx⟩
      rw [hcv] at HV
      clear hcv
      unfold valA at HV
      go_wp2_with fail
      go_at_call 18
      have hE1 := HEw.out.below ((Below.refl _ _).alloc (Nat.le_refl _) (.cells #[.string nm', .int .i64 kd, .string tx] 44))
      refine (HV.out _ hE1).mono ?_
      rintro e w2 ⟨rfl, hb1⟩
      have HB1 := Lib.hid (HB.out.trans ((below_box hb1).mono HB.out.size))
      clear hb1 hE1
      cases ok
      · go_wp2
        go_ret
        exact ⟨ret_bool (by rw [HN.out (by first | rfl | trivial)]; rfl), K0.out.trans ((HB1.out.alloc HB1.out.size _).mono K0.out.size)⟩
      · go_wp2
        go_roundw
        case rel => exact ⟨i + 1, by go_num, by omega, Lib.hid (by rw [HAk.out, HA.out]; rfl), Lib.hid (HB1.out.alloc HB1.out.size _)⟩
        case measure => simp [intOf]; omega
    · have d1 : decide ((i : Int) < (args.length : Int)) = false := decide_eq_false (by omega)
      have d2 : ¬ (i : Int) < (args.length : Int) := by omega
      have hA := HA.out
      rw [List.take_of_length_le (l := args) (by omega)] at hA
      have HA2 := Lib.hid hA
      clear hA
      obtain ⟨a0, a1, a2, a3, a4, a5, a6, a7, _⟩ := cellsB8 (HX.out.later HB.out)
      go_wp2
      all_goals
        go_ret
        refine ⟨ret_bool ?_, K0.out.trans (HB.out.mono K0.out.size)⟩
        have hz0 := HA2.out
        try rw [hz0, Bool.true_and]
        clear d1 d2 hlt hi hi0 hz0 a0 a1 a2 a3 a4 a5 a6 a7
        have hzz := HZ.out
        first | rfl | exact hzz | (rw [hzz]; simp_all; done) | (simp_all; done) | (generalize decide (0 < n1) = gz at *; cases gz <;> simp_all; done) | (simp_all; omega)
theorem lright_any (x : ST) (A1 A2 : Option Addr) (c1 c2 : Nat) (w : World) (hE : Env w) (hin : StF w (Old w) x A1 A2) (hn1 : x.wishes.length ≤ 4000000) (hn2 : x.args.length ≤ 4000000) (hs : ∀ a ∈ x.args, a.text.size ≤ 100000) :
    Calls Tryd.prog 12 #[.agg (stA x A1 c1 A2 c2)] w fun e w' => e = .returned (.bool (rightS x)) ∧ Below w.heap.size w w' := by
  obtain ⟨k, tag, by_, ov, wi, nm, at_, ar⟩ := x
  unfold stA rightS addsS asksS
  dsimp only at *
  rw [tl_empty, tl_empty, tl_empty, tl_empty]
  have p1 : (decide (0 < wi.length)) = !wi.isEmpty := by cases wi <;> simp
  have p2 : (decide (0 < ar.length)) = !ar.isEmpty := by cases ar <;> simp
  have p3 : ar.isEmpty = true → ar.all okA = true := fun h => by rw [List.isEmpty_iff.1 h]; rfl
  by_cases h0 : k = 0
  · subst h0
    rw [if_pos rfl]
    have := lright_0 tag by_ nm at_ ov A1 A2 wi.length c1 c2 ar w hE hin.2 hn1 hn2 hs
    rw [p1, p2] at this
    have e : (ar.all okA && ((!(!nm.toList.isEmpty || !at_.toList.isEmpty || !ar.isEmpty)) && !!wi.isEmpty)) = (wi.isEmpty && !(!nm.toList.isEmpty || !at_.toList.isEmpty || !ar.isEmpty)) := by
      cases hz : ar.isEmpty
      · simp
      · rw [p3 hz]; simp [Bool.and_comm]
    rw [e] at this
    exact this
  · rw [if_neg h0]
    by_cases h1 : k = 1
    · subst h1
      rw [if_pos rfl]
      have := lright_1 tag by_ nm at_ ov A1 A2 wi.length c1 c2 ar w hE hin.2 hn1 hn2 hs
      rw [p2] at this
      have e : (ar.all okA && ((!(!nm.toList.isEmpty || !at_.toList.isEmpty || !ar.isEmpty)) && !(!by_.toList.isEmpty || ov))) = (!(!by_.toList.isEmpty || ov) && !(!nm.toList.isEmpty || !at_.toList.isEmpty || !ar.isEmpty)) := by
        cases hz : ar.isEmpty
        · simp
        · rw [p3 hz, Bool.true_and, Bool.and_comm]
      rw [e] at this
      exact this
    · rw [if_neg h1]
      by_cases h2 : k = 2
      · subst h2
        rw [if_pos rfl]
        have := lright_2 tag by_ nm at_ ov A1 A2 wi.length c1 c2 ar w hE hin.2 hn1 hn2 hs
        rw [p1] at this
        have e : (ar.all okA && ((!(!by_.toList.isEmpty || ov)) && tag.toList.isEmpty && !!wi.isEmpty)) = (!(!by_.toList.isEmpty || ov) && wi.isEmpty && tag.toList.isEmpty && ar.all okA) := by
          rw [Bool.not_not, Bool.and_comm, Bool.and_assoc (!(!by_.toList.isEmpty || ov)), Bool.and_comm tag.toList.isEmpty, ← Bool.and_assoc]
        rw [e] at this
        exact this
      · rw [if_neg h2]
        have := lright_k k h0 h1 h2 tag by_ nm at_ ov A1 A2 wi.length c1 c2 ar w hE hin.2 hn1 hn2 hs
        rw [Bool.and_false] at this
        exact this
end Go.Proofs.YtnkijpjknbelfaaDoor
