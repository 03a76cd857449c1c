/-
  Several texts put together (part 27): what the law and the program call, walked; their contracts.
-/
import Derived.Test.YtpgiboblonlddaaGreatDoorQ26
namespace Go.Proofs.YtpgiboblonlddaaGreatDoor
open Go.RowKit Go.ChangeMaps
set_option linter.unusedVariables false
set_option linter.unusedSimpArgs false
set_option maxHeartbeats 16000000 in
set_option maxRecDepth 100000 in
theorem val3_yes {R : RL} (H : R.Ok) {P : PlG} (hP : PlaceTo R P) (e : EX) (eb eo : Nat) (a : Sc) (av : Value) (op : List ByteArray) (s s' : RSt) (r : Option VV) (W : World) (hx : ExW R e eb eo) (hsz : e.size ≤ 4000000) (hg : valG R P e a op s = some (r, s')) (hw : WrAt R W op s) (ha : ScAt R W a av) (hkk : exK e = 3) (x : Ent) (hl : R.ent false (exN e) = some x) :
    Calls Tryz.prog 145 #[.pointer (some ⟨R.wb, 0, none⟩), .pointer (some ⟨eb, eo, none⟩), av] W fun e' w' => e' = .returned (.tuple #[(r.getD (strV ⟨#[]⟩)).v, .bool r.isSome]) ∧ WrAt R w' op s' ∧ WK R W w' := by
  have HF := Lib.hid H.toFar
  have HH := Lib.hid H
  have HP := Lib.hid hP
  have hns := nameE_size e hsz
  have hl3 : R.wb < W.heap.size ∧ R.ob < W.heap.size ∧ R.km < W.heap.size := by
    obtain ⟨ev, h1, _⟩ := hw.box
    obtain ⟨m0, h3⟩ := hw.ms
    exact ⟨h1.lt, hw.om.lt, h3.lt⟩
  obtain ⟨l1, l2, l3⟩ := hl3
  have hw0 := hw.bf.size
  have HWr := Lib.hid (fun (V : World) (c : Int) (s s' : RSt) (h : WrAt R V op s) (hb : badG c (nameE e) s = some s') => wrong_any H.toFar c (exK e) (exN e) (exA e) eb eo V h hb (hx.cells h.bf).2.1 (hx.cells h.bf).2.2.2.1 (hx.cells h.bf).2.2.2.2.1 hns)
  have hA1 := (Below.refl W.heap.size W).alloc (Nat.le_refl _) (.cells zVal 69)
  have HW1 := Lib.hid (hw.later hA1)
  have HK1 := Lib.hid (hw.wk hA1)
  have HO1 := Lib.hid (BoxAt.new' W W.heap.size zVal 69 rfl)
  have HA1 := Lib.hid (ha.later hA1)
  have HVs := Lib.hid (show (W.alloc (.cells zVal 69)).heap.size = W.heap.size + 1 by simp)
  obtain ⟨ao, rfl⟩ := ha.nilmap
  obtain ⟨hel, k0, k1, k2, k3, u5, k5, hu5⟩ := hx.cells HW1.out.bf
  have HC := Lib.hid (fun V hb => ExW.cells hx (W := V) hb)
  have HX := Lib.hid hx
  have HS := Lib.hid hsz
  obtain ⟨kd, hkd⟩ : ∃ k, exK e = k := ⟨_, rfl⟩
  rw [hkd] at k0
  have HU5 := Lib.hid hu5
  have HKd := Lib.hid hkd
  unfold valG at hg
  rw [hkd] at hg hkk
  clear H hP hx hsz hw ha hA1 hu5 hkd
  rw [if_neg (by omega), if_neg (by omega), if_neg (by omega), if_pos hkk] at hg
  have HMs := Lib.hid (fun V hb => HH.out.msg (exN e) V hb)
  have f0 : (kd == 0) = false := beq_eq_false_iff_ne.2 (by omega)
  have f1 : (kd == 1) = false := beq_eq_false_iff_ne.2 (by omega)
  have f2 : (kd == 2) = false := beq_eq_false_iff_ne.2 (by omega)
  have f3 : (kd == 3) = true := beq_iff_eq.2 hkk
  clear hkk
  obtain ⟨ev, hbx, _⟩ := HW1.out.box
  have b0 : (W.alloc (.cells zVal 69)).cell? ⟨R.wb, 0, none⟩ = some (.pointer (some ⟨R.b, 0, none⟩)) := hbx.cell 0
  clear hbx
  rw [hl] at hg HMs
  have HRf := Lib.hid (fun V h1 h2 => ref_any HH.out HP.out false (exN e) x hl e eb eo a (.map ao) s s' r V HX.out HS.out hg h1 h2)
  obtain ⟨ty, lv, tx, xnm, A1, n1, c1, A2, n2, c2, fr, tu, pat⟩ := x
  unfold Ent.v at HMs HRf
  dsimp only [Option.getD_some, Option.isSome_some] at HMs HRf
  clear hg hl
  obtain ⟨rv, hrv⟩ : ∃ v, r.getD (strV ⟨#[]⟩) = v := ⟨_, rfl⟩
  rw [hrv] at HRf ⊢
  clear hrv
  obtain ⟨v0, v1, v2, v3, v4, v5, v6, v7, v8, v9, v10, v11⟩ := rv
  unfold VV.v VV.cells at HRf ⊢
  dsimp only at HRf ⊢
  go_enter Tryz.func145, Tryz.ntmps145
  go_upto_region 1 with fail
  generalize W.alloc (.cells zVal 69) = V at *
  have hbf := Lib.hid HW1.out.bf
  have hwl : R.wb < V.heap.size := by have := HVs.out; omega
  have hebl : eb < V.heap.size := by have := HVs.out; omega
  have hwv : R.w0.heap.size ≤ V.heap.size := by have := HVs.out; omega
  have hn1 : V.heap.size ≠ R.wb := by have := HVs.out; omega
  have hn3 : V.heap.size ≠ R.km := by have := HVs.out; omega
  have hn4 : W.heap.size ≠ V.heap.size := by have := HVs.out; omega
  go_upto_region 11 with fail
  refine wp_region_held_drew (S := (fun w' => Below V.heap.size V w')) (by kernel_rfl) ((Below.refl _ _).drew) (fun hHeld => ?_)
  refine wpAnyH_take (i := 0) (v := ?_) rfl (by kernel_rfl) (by kernel_rfl) (by kernel_rfl) (fun _ _ _ h => h) (Or.inl ⟨by kernel_rfl, ?_⟩) (by assumption) ?_
  rotate_left
  · intro w0 hSw; (try dsimp only at hSw); (go_simp <;> with_reducible rfl)
  try simp only [Act.put, List.setIfInBounds_toArray, List.set_cons_zero, List.set_cons_succ]
  refine wpAnyH_take (i := 1) (v := ?_) rfl (by kernel_rfl) (by kernel_rfl) (by kernel_rfl) (fun _ _ _ h => h) (Or.inl ⟨by kernel_rfl, ?_⟩) (by assumption) ?_
  rotate_left
  · intro w0 hSw; (try dsimp only at hSw); (go_simp <;> with_reducible rfl)
  try simp only [Act.put, List.setIfInBounds_toArray, List.set_cons_zero, List.set_cons_succ]
  refine wpAnyH_take (i := 2) (v := ?_) rfl (by kernel_rfl) (by kernel_rfl) (by kernel_rfl) (fun _ _ _ h => h) (Or.inl ⟨by kernel_rfl, ?_⟩) (by assumption) ?_
  rotate_left
  · intro w0 hSw; (try dsimp only at hSw); (go_simp <;> with_reducible rfl)
  try simp only [Act.put, List.setIfInBounds_toArray, List.set_cons_zero, List.set_cons_succ]
  refine wpAnyH_take (i := 3) (v := ?_) rfl (by kernel_rfl) (by kernel_rfl) (by kernel_rfl) (fun _ _ _ h => h) (Or.inl ⟨by kernel_rfl, ?_⟩) (by assumption) ?_
  rotate_left
  · intro w0 hSw; have c0 := (hSw.cell (p := ⟨R.wb, 0, none⟩) hwl).trans b0; (go_simp <;> with_reducible rfl)
  try simp only [Act.put, List.setIfInBounds_toArray, List.set_cons_zero, List.set_cons_succ]
  refine wpAnyH_take (i := 4) (v := ?_) rfl (by kernel_rfl) (by kernel_rfl) (by kernel_rfl) (fun _ _ _ h => h) (Or.inl ⟨by kernel_rfl, ?_⟩) (by assumption) ?_
  rotate_left
  · intro w0 hSw; (try dsimp only at hSw); (go_simp <;> with_reducible rfl)
  try simp only [Act.put, List.setIfInBounds_toArray, List.set_cons_zero, List.set_cons_succ]
  refine wpAnyH_take (i := 5) (v := ?_) rfl (by kernel_rfl) (by kernel_rfl) (by kernel_rfl) (fun _ _ _ h => h) (Or.inl ⟨by kernel_rfl, ?_⟩) (by assumption) ?_
  rotate_left
  · intro w0 hSw; (try dsimp only at hSw); (go_simp <;> with_reducible rfl)
  try simp only [Act.put, List.setIfInBounds_toArray, List.set_cons_zero, List.set_cons_succ]
  refine wpAnyH_take (i := 6) (v := ?_) rfl (by kernel_rfl) (by kernel_rfl) (by kernel_rfl) (fun _ _ _ h => h) (Or.inl ⟨by kernel_rfl, ?_⟩) (by assumption) ?_
  rotate_left
  · intro w0 hSw; (try dsimp only at hSw); (go_simp <;> with_reducible rfl)
  try simp only [Act.put, List.setIfInBounds_toArray, List.set_cons_zero, List.set_cons_succ]
  refine wpAnyH_take (i := 7) (v := ?_) rfl (by kernel_rfl) (by kernel_rfl) (by kernel_rfl) (fun _ _ _ h => h) (Or.inl ⟨by kernel_rfl, ?_⟩) (by assumption) ?_
  rotate_left
  · intro w0 hSw; have c2 := (hSw.cell (p := ⟨eb, eo + 2, none⟩) hebl).trans k2; (go_simp <;> with_reducible rfl)
  try simp only [Act.put, List.setIfInBounds_toArray, List.set_cons_zero, List.set_cons_succ]
  clear hHeld k0 k1 k2 k3 k5 b0
  refine wpAnyH_ready (rs := [8, 12]) (by kernel_rfl) (by simp) ?_
  refine AllReadyH.cons rfl (fun K hK => ?_) (AllReadyH.cons rfl (fun K hK => ?_) AllReadyH.nil)
  · go_simp
    go_at_call 22
    refine (HMs.out _ (hbf.out.drew)).mono ?_
    rintro e' w2 ⟨rfl, hb2⟩
    have hbV : Below V.heap.size V w2 := (Below.refl _ _).drew.trans hb2
    have HW2 := Lib.hid (HW1.out.later hbV)
    have HK2 := Lib.hid (HK1.out.trans (HW1.out.wk hbV))
    have HO2 := Lib.hid (HO1.out.later hbV)
    have HA2 := Lib.hid (HA1.out.later hbV)
    have hs2 := hbV.size
    clear hb2
    go_wp2_with fail
    refine hK.out _ _ hbV (fun _ => ?_)
    clear hK K
    try simp only [Act.put, List.setIfInBounds_toArray, List.set_cons_zero, List.set_cons_succ]
    refine wpAnyH_take (i := 9) (v := ?_) rfl (by kernel_rfl) (by kernel_rfl) (by kernel_rfl) (fun _ _ _ h => h) (Or.inl ⟨by kernel_rfl, ?_⟩) (by assumption) ?_
    rotate_left
    · intro w0 hSw; (try dsimp only at hSw); (go_simp <;> with_reducible rfl)
    try simp only [Act.put, List.setIfInBounds_toArray, List.set_cons_zero, List.set_cons_succ]
    refine wpAnyH_take (i := 10) (v := ?_) rfl (by kernel_rfl) (by kernel_rfl) (by kernel_rfl) (fun _ _ _ h => h) (Or.inl ⟨by kernel_rfl, ?_⟩) (by assumption) ?_
    rotate_left
    · intro w0 hSw; (try dsimp only at hSw); (go_simp <;> with_reducible rfl)
    try simp only [Act.put, List.setIfInBounds_toArray, List.set_cons_zero, List.set_cons_succ]
    refine wpAnyH_take (i := 11) (v := ?_) rfl (by kernel_rfl) (by kernel_rfl) (by kernel_rfl) (fun _ _ _ h => h) (Or.inl ⟨by kernel_rfl, ?_⟩) (by assumption) ?_
    rotate_left
    · intro w0 hSw; (try dsimp only at hSw); (go_simp <;> with_reducible rfl)
    try simp only [Act.put, List.setIfInBounds_toArray, List.set_cons_zero, List.set_cons_succ]
    refine wpAnyH_ready (rs := [12]) (by kernel_rfl) (by simp) ?_
    refine AllReadyH.cons rfl (fun K hK => ?_) AllReadyH.nil
    go_simp
    refine hK.out _ _ (hbV.alloc hs2 _) (fun _ => ?_)
    clear hK K
    try simp only [Act.put, List.setIfInBounds_toArray, List.set_cons_zero, List.set_cons_succ]
    refine wpAnyH_ready (rs := [13]) (by kernel_rfl) (by simp) ?_
    refine AllReadyH.cons rfl (fun K hK => ?_) AllReadyH.nil
    go_simp
    refine hK.out _ _ (hbV.alloc hs2 _) (fun _ => ?_)
    clear hK K
    try simp only [Act.put, List.setIfInBounds_toArray, List.set_cons_zero, List.set_cons_succ]
    refine wpAnyH_take (i := 14) (v := ?_) rfl (by kernel_rfl) (by kernel_rfl) (by kernel_rfl) (fun _ _ _ h => h) (Or.inl ⟨by kernel_rfl, ?_⟩) (by assumption) ?_
    rotate_left
    · intro w0 hSw; (try dsimp only at hSw); (go_simp <;> with_reducible rfl)
    try simp only [Act.put, List.setIfInBounds_toArray, List.set_cons_zero, List.set_cons_succ]
    refine wpAnyH_done (by kernel_rfl) ?_ _
    have hA3 := (Below.refl w2.heap.size w2).alloc (Nat.le_refl _) (.cells #[.int .i64 ty, .int .i64 lv, .string tx, .string xnm, .slice A1 n1 c1, .slice A2 n2 c2, .int .i64 fr, .int .i64 tu] 89)
    have HW3 := Lib.hid (HW2.out.later hA3)
    have HK3 := Lib.hid (HK2.out.trans (HW2.out.wk hA3))
    have HO3 := Lib.hid (HO2.out.later hA3)
    have HA3 := Lib.hid (HA2.out.later hA3)
    have HX3 := Lib.hid (BoxAt.new' w2 w2.heap.size #[.int .i64 ty, .int .i64 lv, .string tx, .string xnm, .slice A1 n1 c1, .slice A2 n2 c2, .int .i64 fr, .int .i64 tu] 89 rfl)
    clear hA3 hbV HW2 HK2 HO2 HA2 hs2
    generalize w2.alloc (.cells #[.int .i64 ty, .int .i64 lv, .string tx, .string xnm, .slice A1 n1 c1, .slice A2 n2 c2, .int .i64 fr, .int .i64 tu] 89) = w3 at *
    generalize w2.heap.size = bx at *
    have x0 := BoxAt.cell HX3.out 0
    have x1 := BoxAt.cell HX3.out 1
    have x2 := BoxAt.cell HX3.out 2
    have x3 := BoxAt.cell HX3.out 3
    have x4 := BoxAt.cell HX3.out 4
    have x5 := BoxAt.cell HX3.out 5
    have x6 := BoxAt.cell HX3.out 6
    have x7 := BoxAt.cell HX3.out 7
    simp only [List.getElem?_toArray, List.getElem?_cons_zero, List.getElem?_cons_succ] at x0 x1 x2 x3 x4 x5 x6 x7
    go_wp2_with fail
    go_at_call 171
    refine (HRf.out w3 HW3.out HA3.out).mono ?_
    rintro e' w5 ⟨rfl, hw5, hk5⟩
    have HO5 := Lib.hid (box_wk HO3.out hk5 (by omega) (by omega) (by omega) (by decide))
    have HW5 := Lib.hid hw5
    have HK5 := Lib.hid (HK3.out.trans hk5)
    clear hw5 hk5 HRf x0 x1 x2 x3 x4 x5 x6 x7
    have o0 := fun j => BoxAt.cell HO5.out j
    have oz := fun j => BoxAt.z HO5.out j
    have ol := BoxAt.lt HO5.out
    go_wp2
    refine end12w rfl HO5.out rfl (by rfl) (by rfl) rfl ⟨rfl, ?_, ?_⟩
    · exact WrAt.set12 HF.out HW5.out HO5.out (by omega) (by omega) (by omega) (by decide) _ _ _ _ _ _ _ _ _ _ _ _
    · exact WK.set12 HK5.out (by omega) (by omega) _ _ _ _ _ _ _ _ _ _ _ _
  · go_simp
    refine hK.out _ _ (((Below.refl V.heap.size V).alloc (Nat.le_refl _) (.cells #[.int .i64 0, .int .i64 0, .string ⟨#[]⟩, .string ⟨#[]⟩, .slice none 0 0, .slice none 0 0, .int .i64 0, .int .i64 0] 89)).drew) (fun _ => ?_)
    clear hK K
    try simp only [Act.put, List.setIfInBounds_toArray, List.set_cons_zero, List.set_cons_succ]
    refine wpAnyH_ready (rs := [8]) (by kernel_rfl) (by simp) ?_
    refine AllReadyH.cons rfl (fun K hK => ?_) AllReadyH.nil
    go_simp
    go_at_call 22
    refine (HMs.out _ ((hbf.out.alloc hwv _).drew)).mono ?_
    rintro e' w2 ⟨rfl, hb2⟩
    have hbV : Below V.heap.size V w2 := ((Below.refl V.heap.size V).alloc (Nat.le_refl _) (.cells #[.int .i64 0, .int .i64 0, .string ⟨#[]⟩, .string ⟨#[]⟩, .slice none 0 0, .slice none 0 0, .int .i64 0, .int .i64 0] 89)).drew.trans (hb2.mono (by simp))
    have HW2 := Lib.hid (HW1.out.later hbV)
    have HK2 := Lib.hid (HK1.out.trans (HW1.out.wk hbV))
    have HO2 := Lib.hid (HO1.out.later hbV)
    have HA2 := Lib.hid (HA1.out.later hbV)
    have hs2 := hbV.size
    have HX2 := Lib.hid ((BoxAt.new' V V.heap.size #[.int .i64 0, .int .i64 0, .string ⟨#[]⟩, .string ⟨#[]⟩, .slice none 0 0, .slice none 0 0, .int .i64 0, .int .i64 0] 89 rfl).later ((Below.refl _ _).drew.trans hb2))
    clear hb2
    go_wp2_with fail
    refine hK.out _ _ hbV (fun _ => ?_)
    clear hK K
    try simp only [Act.put, List.setIfInBounds_toArray, List.set_cons_zero, List.set_cons_succ]
    refine wpAnyH_take (i := 9) (v := ?_) rfl (by kernel_rfl) (by kernel_rfl) (by kernel_rfl) (fun _ _ _ h => h) (Or.inl ⟨by kernel_rfl, ?_⟩) (by assumption) ?_
    rotate_left
    · intro w0 hSw; (try dsimp only at hSw); (go_simp <;> with_reducible rfl)
    try simp only [Act.put, List.setIfInBounds_toArray, List.set_cons_zero, List.set_cons_succ]
    refine wpAnyH_take (i := 10) (v := ?_) rfl (by kernel_rfl) (by kernel_rfl) (by kernel_rfl) (fun _ _ _ h => h) (Or.inl ⟨by kernel_rfl, ?_⟩) (by assumption) ?_
    rotate_left
    · intro w0 hSw; (try dsimp only at hSw); (go_simp <;> with_reducible rfl)
    try simp only [Act.put, List.setIfInBounds_toArray, List.set_cons_zero, List.set_cons_succ]
    refine wpAnyH_take (i := 11) (v := ?_) rfl (by kernel_rfl) (by kernel_rfl) (by kernel_rfl) (fun _ _ _ h => h) (Or.inl ⟨by kernel_rfl, ?_⟩) (by assumption) ?_
    rotate_left
    · intro w0 hSw; (try dsimp only at hSw); (go_simp <;> with_reducible rfl)
    try simp only [Act.put, List.setIfInBounds_toArray, List.set_cons_zero, List.set_cons_succ]
    have o0 := fun j => BoxAt.cell HX2.out j
    have oz := fun j => BoxAt.z HX2.out j
    have ol := BoxAt.lt HX2.out
    refine wpAnyH_ready (rs := [13]) (by kernel_rfl) (by simp) ?_
    refine AllReadyH.cons rfl (fun K hK => ?_) AllReadyH.nil
    go_simp
    refine hK.out _ _ ((((((((hbV.setCell (p := ⟨V.heap.size, 0, none⟩) (Nat.le_refl _) _).setCell (p := ⟨V.heap.size, 1, none⟩) (Nat.le_refl _) _).setCell (p := ⟨V.heap.size, 2, none⟩) (Nat.le_refl _) _).setCell (p := ⟨V.heap.size, 3, none⟩) (Nat.le_refl _) _).setCell (p := ⟨V.heap.size, 4, none⟩) (Nat.le_refl _) _).setCell (p := ⟨V.heap.size, 5, none⟩) (Nat.le_refl _) _).setCell (p := ⟨V.heap.size, 6, none⟩) (Nat.le_refl _) _).setCell (p := ⟨V.heap.size, 7, none⟩) (Nat.le_refl _) _) (fun _ => ?_)
    clear hK K
    try simp only [Act.put, List.setIfInBounds_toArray, List.set_cons_zero, List.set_cons_succ]
    refine wpAnyH_take (i := 14) (v := ?_) rfl (by kernel_rfl) (by kernel_rfl) (by kernel_rfl) (fun _ _ _ h => h) (Or.inl ⟨by kernel_rfl, ?_⟩) (by assumption) ?_
    rotate_left
    · intro w0 hSw; (try dsimp only at hSw); (go_simp <;> with_reducible rfl)
    try simp only [Act.put, List.setIfInBounds_toArray, List.set_cons_zero, List.set_cons_succ]
    refine wpAnyH_done (by kernel_rfl) ?_ _
    clear o0 oz ol
    have HB0 := Lib.hid hbV
    have X0 := HX2.out
    have W0 := HW2.out
    clear hbV HX2 HW2 HO2 HA2 HK2 hs2
    have W1 : WrAt R (w2.setCell ⟨V.heap.size, 0, none⟩ (.int .i64 ty)) op s := WrAt.set1 HF.out W0 X0 hwv hn1 hn3 (by decide) 0 _
    have X1 : BoxAt (w2.setCell ⟨V.heap.size, 0, none⟩ (.int .i64 ty)) V.heap.size #[.int .i64 ty, .int .i64 0, .string ⟨#[]⟩, .string ⟨#[]⟩, .slice none 0 0, .slice none 0 0, .int .i64 0, .int .i64 0] 89 := X0.set 0 _
    have HB1 : Below V.heap.size V (w2.setCell ⟨V.heap.size, 0, none⟩ (.int .i64 ty)) := (HB0.out.setCell (p := ⟨V.heap.size, 0, none⟩) (Nat.le_refl _) _)
    clear W0 X0 HB0
    have HB1 := Lib.hid HB1
    have W2 : WrAt R ((w2.setCell ⟨V.heap.size, 0, none⟩ (.int .i64 ty)).setCell ⟨V.heap.size, 1, none⟩ (.int .i64 lv)) op s := WrAt.set1 HF.out W1 X1 hwv hn1 hn3 (by decide) 1 _
    have X2 : BoxAt ((w2.setCell ⟨V.heap.size, 0, none⟩ (.int .i64 ty)).setCell ⟨V.heap.size, 1, none⟩ (.int .i64 lv)) V.heap.size #[.int .i64 ty, .int .i64 lv, .string ⟨#[]⟩, .string ⟨#[]⟩, .slice none 0 0, .slice none 0 0, .int .i64 0, .int .i64 0] 89 := X1.set 1 _
    have HB2 : Below V.heap.size V ((w2.setCell ⟨V.heap.size, 0, none⟩ (.int .i64 ty)).setCell ⟨V.heap.size, 1, none⟩ (.int .i64 lv)) := (HB1.out.setCell (p := ⟨V.heap.size, 1, none⟩) (Nat.le_refl _) _)
    clear W1 X1 HB1
    have HB2 := Lib.hid HB2
    have W3 : WrAt R (((w2.setCell ⟨V.heap.size, 0, none⟩ (.int .i64 ty)).setCell ⟨V.heap.size, 1, none⟩ (.int .i64 lv)).setCell ⟨V.heap.size, 2, none⟩ (.string tx)) op s := WrAt.set1 HF.out W2 X2 hwv hn1 hn3 (by decide) 2 _
    have X3 : BoxAt (((w2.setCell ⟨V.heap.size, 0, none⟩ (.int .i64 ty)).setCell ⟨V.heap.size, 1, none⟩ (.int .i64 lv)).setCell ⟨V.heap.size, 2, none⟩ (.string tx)) V.heap.size #[.int .i64 ty, .int .i64 lv, .string tx, .string ⟨#[]⟩, .slice none 0 0, .slice none 0 0, .int .i64 0, .int .i64 0] 89 := X2.set 2 _
    have HB3 : Below V.heap.size V (((w2.setCell ⟨V.heap.size, 0, none⟩ (.int .i64 ty)).setCell ⟨V.heap.size, 1, none⟩ (.int .i64 lv)).setCell ⟨V.heap.size, 2, none⟩ (.string tx)) := (HB2.out.setCell (p := ⟨V.heap.size, 2, none⟩) (Nat.le_refl _) _)
    clear W2 X2 HB2
    have HB3 := Lib.hid HB3
    have W4 : WrAt R ((((w2.setCell ⟨V.heap.size, 0, none⟩ (.int .i64 ty)).setCell ⟨V.heap.size, 1, none⟩ (.int .i64 lv)).setCell ⟨V.heap.size, 2, none⟩ (.string tx)).setCell ⟨V.heap.size, 3, none⟩ (.string xnm)) op s := WrAt.set1 HF.out W3 X3 hwv hn1 hn3 (by decide) 3 _
    have X4 : BoxAt ((((w2.setCell ⟨V.heap.size, 0, none⟩ (.int .i64 ty)).setCell ⟨V.heap.size, 1, none⟩ (.int .i64 lv)).setCell ⟨V.heap.size, 2, none⟩ (.string tx)).setCell ⟨V.heap.size, 3, none⟩ (.string xnm)) V.heap.size #[.int .i64 ty, .int .i64 lv, .string tx, .string xnm, .slice none 0 0, .slice none 0 0, .int .i64 0, .int .i64 0] 89 := X3.set 3 _
    have HB4 : Below V.heap.size V ((((w2.setCell ⟨V.heap.size, 0, none⟩ (.int .i64 ty)).setCell ⟨V.heap.size, 1, none⟩ (.int .i64 lv)).setCell ⟨V.heap.size, 2, none⟩ (.string tx)).setCell ⟨V.heap.size, 3, none⟩ (.string xnm)) := (HB3.out.setCell (p := ⟨V.heap.size, 3, none⟩) (Nat.le_refl _) _)
    clear W3 X3 HB3
    have HB4 := Lib.hid HB4
    have W5 : WrAt R (((((w2.setCell ⟨V.heap.size, 0, none⟩ (.int .i64 ty)).setCell ⟨V.heap.size, 1, none⟩ (.int .i64 lv)).setCell ⟨V.heap.size, 2, none⟩ (.string tx)).setCell ⟨V.heap.size, 3, none⟩ (.string xnm)).setCell ⟨V.heap.size, 4, none⟩ (.slice A1 n1 c1)) op s := WrAt.set1 HF.out W4 X4 hwv hn1 hn3 (by decide) 4 _
    have X5 : BoxAt (((((w2.setCell ⟨V.heap.size, 0, none⟩ (.int .i64 ty)).setCell ⟨V.heap.size, 1, none⟩ (.int .i64 lv)).setCell ⟨V.heap.size, 2, none⟩ (.string tx)).setCell ⟨V.heap.size, 3, none⟩ (.string xnm)).setCell ⟨V.heap.size, 4, none⟩ (.slice A1 n1 c1)) V.heap.size #[.int .i64 ty, .int .i64 lv, .string tx, .string xnm, .slice A1 n1 c1, .slice none 0 0, .int .i64 0, .int .i64 0] 89 := X4.set 4 _
    have HB5 : Below V.heap.size V (((((w2.setCell ⟨V.heap.size, 0, none⟩ (.int .i64 ty)).setCell ⟨V.heap.size, 1, none⟩ (.int .i64 lv)).setCell ⟨V.heap.size, 2, none⟩ (.string tx)).setCell ⟨V.heap.size, 3, none⟩ (.string xnm)).setCell ⟨V.heap.size, 4, none⟩ (.slice A1 n1 c1)) := (HB4.out.setCell (p := ⟨V.heap.size, 4, none⟩) (Nat.le_refl _) _)
    clear W4 X4 HB4
    have HB5 := Lib.hid HB5
    have W6 : WrAt R ((((((w2.setCell ⟨V.heap.size, 0, none⟩ (.int .i64 ty)).setCell ⟨V.heap.size, 1, none⟩ (.int .i64 lv)).setCell ⟨V.heap.size, 2, none⟩ (.string tx)).setCell ⟨V.heap.size, 3, none⟩ (.string xnm)).setCell ⟨V.heap.size, 4, none⟩ (.slice A1 n1 c1)).setCell ⟨V.heap.size, 5, none⟩ (.slice A2 n2 c2)) op s := WrAt.set1 HF.out W5 X5 hwv hn1 hn3 (by decide) 5 _
    have X6 : BoxAt ((((((w2.setCell ⟨V.heap.size, 0, none⟩ (.int .i64 ty)).setCell ⟨V.heap.size, 1, none⟩ (.int .i64 lv)).setCell ⟨V.heap.size, 2, none⟩ (.string tx)).setCell ⟨V.heap.size, 3, none⟩ (.string xnm)).setCell ⟨V.heap.size, 4, none⟩ (.slice A1 n1 c1)).setCell ⟨V.heap.size, 5, none⟩ (.slice A2 n2 c2)) V.heap.size #[.int .i64 ty, .int .i64 lv, .string tx, .string xnm, .slice A1 n1 c1, .slice A2 n2 c2, .int .i64 0, .int .i64 0] 89 := X5.set 5 _
    have HB6 : Below V.heap.size V ((((((w2.setCell ⟨V.heap.size, 0, none⟩ (.int .i64 ty)).setCell ⟨V.heap.size, 1, none⟩ (.int .i64 lv)).setCell ⟨V.heap.size, 2, none⟩ (.string tx)).setCell ⟨V.heap.size, 3, none⟩ (.string xnm)).setCell ⟨V.heap.size, 4, none⟩ (.slice A1 n1 c1)).setCell ⟨V.heap.size, 5, none⟩ (.slice A2 n2 c2)) := (HB5.out.setCell (p := ⟨V.heap.size, 5, none⟩) (Nat.le_refl _) _)
    clear W5 X5 HB5
    have HB6 := Lib.hid HB6
    have W7 : WrAt R (((((((w2.setCell ⟨V.heap.size, 0, none⟩ (.int .i64 ty)).setCell ⟨V.heap.size, 1, none⟩ (.int .i64 lv)).setCell ⟨V.heap.size, 2, none⟩ (.string tx)).setCell ⟨V.heap.size, 3, none⟩ (.string xnm)).setCell ⟨V.heap.size, 4, none⟩ (.slice A1 n1 c1)).setCell ⟨V.heap.size, 5, none⟩ (.slice A2 n2 c2)).setCell ⟨V.heap.size, 6, none⟩ (.int .i64 fr)) op s := WrAt.set1 HF.out W6 X6 hwv hn1 hn3 (by decide) 6 _
    have X7 : BoxAt (((((((w2.setCell ⟨V.heap.size, 0, none⟩ (.int .i64 ty)).setCell ⟨V.heap.size, 1, none⟩ (.int .i64 lv)).setCell ⟨V.heap.size, 2, none⟩ (.string tx)).setCell ⟨V.heap.size, 3, none⟩ (.string xnm)).setCell ⟨V.heap.size, 4, none⟩ (.slice A1 n1 c1)).setCell ⟨V.heap.size, 5, none⟩ (.slice A2 n2 c2)).setCell ⟨V.heap.size, 6, none⟩ (.int .i64 fr)) V.heap.size #[.int .i64 ty, .int .i64 lv, .string tx, .string xnm, .slice A1 n1 c1, .slice A2 n2 c2, .int .i64 fr, .int .i64 0] 89 := X6.set 6 _
    have HB7 : Below V.heap.size V (((((((w2.setCell ⟨V.heap.size, 0, none⟩ (.int .i64 ty)).setCell ⟨V.heap.size, 1, none⟩ (.int .i64 lv)).setCell ⟨V.heap.size, 2, none⟩ (.string tx)).setCell ⟨V.heap.size, 3, none⟩ (.string xnm)).setCell ⟨V.heap.size, 4, none⟩ (.slice A1 n1 c1)).setCell ⟨V.heap.size, 5, none⟩ (.slice A2 n2 c2)).setCell ⟨V.heap.size, 6, none⟩ (.int .i64 fr)) := (HB6.out.setCell (p := ⟨V.heap.size, 6, none⟩) (Nat.le_refl _) _)
    clear W6 X6 HB6
    have HB7 := Lib.hid HB7
    have W8 : WrAt R ((((((((w2.setCell ⟨V.heap.size, 0, none⟩ (.int .i64 ty)).setCell ⟨V.heap.size, 1, none⟩ (.int .i64 lv)).setCell ⟨V.heap.size, 2, none⟩ (.string tx)).setCell ⟨V.heap.size, 3, none⟩ (.string xnm)).setCell ⟨V.heap.size, 4, none⟩ (.slice A1 n1 c1)).setCell ⟨V.heap.size, 5, none⟩ (.slice A2 n2 c2)).setCell ⟨V.heap.size, 6, none⟩ (.int .i64 fr)).setCell ⟨V.heap.size, 7, none⟩ (.int .i64 tu)) op s := WrAt.set1 HF.out W7 X7 hwv hn1 hn3 (by decide) 7 _
    have X8 : BoxAt ((((((((w2.setCell ⟨V.heap.size, 0, none⟩ (.int .i64 ty)).setCell ⟨V.heap.size, 1, none⟩ (.int .i64 lv)).setCell ⟨V.heap.size, 2, none⟩ (.string tx)).setCell ⟨V.heap.size, 3, none⟩ (.string xnm)).setCell ⟨V.heap.size, 4, none⟩ (.slice A1 n1 c1)).setCell ⟨V.heap.size, 5, none⟩ (.slice A2 n2 c2)).setCell ⟨V.heap.size, 6, none⟩ (.int .i64 fr)).setCell ⟨V.heap.size, 7, none⟩ (.int .i64 tu)) V.heap.size #[.int .i64 ty, .int .i64 lv, .string tx, .string xnm, .slice A1 n1 c1, .slice A2 n2 c2, .int .i64 fr, .int .i64 tu] 89 := X7.set 7 _
    have HB8 : Below V.heap.size V ((((((((w2.setCell ⟨V.heap.size, 0, none⟩ (.int .i64 ty)).setCell ⟨V.heap.size, 1, none⟩ (.int .i64 lv)).setCell ⟨V.heap.size, 2, none⟩ (.string tx)).setCell ⟨V.heap.size, 3, none⟩ (.string xnm)).setCell ⟨V.heap.size, 4, none⟩ (.slice A1 n1 c1)).setCell ⟨V.heap.size, 5, none⟩ (.slice A2 n2 c2)).setCell ⟨V.heap.size, 6, none⟩ (.int .i64 fr)).setCell ⟨V.heap.size, 7, none⟩ (.int .i64 tu)) := (HB7.out.setCell (p := ⟨V.heap.size, 7, none⟩) (Nat.le_refl _) _)
    clear W7 X7 HB7
    have HB8 := Lib.hid HB8
    have HW3 := Lib.hid W8
    have HX3 := Lib.hid X8
    have HK3 := Lib.hid (HK1.out.trans (HW1.out.wk HB8.out))
    have HO3 := Lib.hid (HO1.out.later HB8.out)
    have HA3 := Lib.hid (HA1.out.later HB8.out)
    clear W8 X8 HB8
    generalize (((((((w2.setCell ⟨V.heap.size, 0, none⟩ (.int .i64 ty)).setCell ⟨V.heap.size, 1, none⟩ (.int .i64 lv)).setCell ⟨V.heap.size, 2, none⟩ (.string tx)).setCell ⟨V.heap.size, 3, none⟩ (.string xnm)).setCell ⟨V.heap.size, 4, none⟩ (.slice A1 n1 c1)).setCell ⟨V.heap.size, 5, none⟩ (.slice A2 n2 c2)).setCell ⟨V.heap.size, 6, none⟩ (.int .i64 fr)).setCell ⟨V.heap.size, 7, none⟩ (.int .i64 tu) = w3 at *
    generalize V.heap.size = bx at *
    have x0 := BoxAt.cell HX3.out 0
    have x1 := BoxAt.cell HX3.out 1
    have x2 := BoxAt.cell HX3.out 2
    have x3 := BoxAt.cell HX3.out 3
    have x4 := BoxAt.cell HX3.out 4
    have x5 := BoxAt.cell HX3.out 5
    have x6 := BoxAt.cell HX3.out 6
    have x7 := BoxAt.cell HX3.out 7
    simp only [List.getElem?_toArray, List.getElem?_cons_zero, List.getElem?_cons_succ] at x0 x1 x2 x3 x4 x5 x6 x7
    go_wp2_with fail
    go_at_call 171
    refine (HRf.out w3 HW3.out HA3.out).mono ?_
    rintro e' w5 ⟨rfl, hw5, hk5⟩
    have HO5 := Lib.hid (box_wk HO3.out hk5 (by omega) (by omega) (by omega) (by decide))
    have HW5 := Lib.hid hw5
    have HK5 := Lib.hid (HK3.out.trans hk5)
    clear hw5 hk5 HRf x0 x1 x2 x3 x4 x5 x6 x7
    have o0 := fun j => BoxAt.cell HO5.out j
    have oz := fun j => BoxAt.z HO5.out j
    have ol := BoxAt.lt HO5.out
    go_wp2
    refine end12w rfl HO5.out rfl (by rfl) (by rfl) rfl ⟨rfl, ?_, ?_⟩
    · exact WrAt.set12 HF.out HW5.out HO5.out (by omega) (by omega) (by omega) (by decide) _ _ _ _ _ _ _ _ _ _ _ _
    · exact WK.set12 HK5.out (by omega) (by omega) _ _ _ _ _ _ _ _ _ _ _ _
end Go.Proofs.YtpgiboblonlddaaGreatDoor

namespace Go.Proofs.YtpgiboblonlddaaGreatDoor
open Go.RowKit Go.ChangeMaps
set_option linter.unusedVariables false
set_option linter.unusedSimpArgs false
set_option maxHeartbeats 16000000 in
set_option maxRecDepth 100000 in
theorem val6_any {R : RL} (H : R.Ok) {P : PlG} (hP : PlaceTo R P) (e : EX) (eb eo : Nat) (a : Sc) (av : Value) (op : List ByteArray) (s s' : RSt) (r : Option VV) (W : World) (hx : ExW R e eb eo) (hsz : e.size ≤ 4000000) (hg : valG R P e a op s = some (r, s')) (hw : WrAt R W op s) (ha : ScAt R W a av) (hkk : exK e = 6) :
    Calls Tryz.prog 145 #[.pointer (some ⟨R.wb, 0, none⟩), .pointer (some ⟨eb, eo, none⟩), av] W fun e' w' => e' = .returned (.tuple #[(r.getD (strV ⟨#[]⟩)).v, .bool r.isSome]) ∧ WrAt R w' op s' ∧ WK R W w' := by
  have HF := Lib.hid H.toFar
  have HH := Lib.hid H
  have HP := Lib.hid hP
  have hns := nameE_size e hsz
  have hl3 : R.wb < W.heap.size ∧ R.ob < W.heap.size ∧ R.km < W.heap.size := by
    obtain ⟨ev, h1, _⟩ := hw.box
    obtain ⟨m0, h3⟩ := hw.ms
    exact ⟨h1.lt, hw.om.lt, h3.lt⟩
  obtain ⟨l1, l2, l3⟩ := hl3
  have hw0 := hw.bf.size
  have HWr := Lib.hid (fun (V : World) (c : Int) (s s' : RSt) (h : WrAt R V op s) (hb : badG c (nameE e) s = some s') => wrong_any H.toFar c (exK e) (exN e) (exA e) eb eo V h hb (hx.cells h.bf).2.1 (hx.cells h.bf).2.2.2.1 (hx.cells h.bf).2.2.2.2.1 hns)
  have hA1 := (Below.refl W.heap.size W).alloc (Nat.le_refl _) (.cells zVal 69)
  have HW1 := Lib.hid (hw.later hA1)
  have HK1 := Lib.hid (hw.wk hA1)
  have HO1 := Lib.hid (BoxAt.new' W W.heap.size zVal 69 rfl)
  have HA1 := Lib.hid (ha.later hA1)
  have HVs := Lib.hid (show (W.alloc (.cells zVal 69)).heap.size = W.heap.size + 1 by simp)
  obtain ⟨ao, rfl⟩ := ha.nilmap
  obtain ⟨hel, k0, k1, k2, k3, u5, k5, hu5⟩ := hx.cells HW1.out.bf
  have HC := Lib.hid (fun V hb => ExW.cells hx (W := V) hb)
  have HX := Lib.hid hx
  have HS := Lib.hid hsz
  obtain ⟨kd, hkd⟩ : ∃ k, exK e = k := ⟨_, rfl⟩
  rw [hkd] at k0
  have HU5 := Lib.hid hu5
  have HKd := Lib.hid hkd
  unfold valG at hg
  rw [hkd] at hg hkk
  clear H hP hx hsz hw ha hA1 hu5 hkd
  have f0 : (kd == 0) = false := beq_eq_false_iff_ne.2 (by omega)
  have f1 : (kd == 1) = false := beq_eq_false_iff_ne.2 (by omega)
  have f2 : (kd == 2) = false := beq_eq_false_iff_ne.2 (by omega)
  have f3 : (kd == 3) = false := beq_eq_false_iff_ne.2 (by omega)
  have f4 : (kd == 4) = false := beq_eq_false_iff_ne.2 (by omega)
  have f5 : (kd == 5) = false := beq_eq_false_iff_ne.2 (by omega)
  have f6 : (kd == 6) = true := beq_iff_eq.2 hkk
  rw [if_neg (by omega), if_neg (by omega), if_neg (by omega), if_neg (by omega), if_pos hkk] at hg
  clear hkk
  have hu := HU5.out
  cases hi : exI e with
  | none => rw [hi] at hg; cases hg
  | some i =>
    rw [hi] at hg hu
    obtain ⟨⟨t, s2⟩, hq, he⟩ := Option.map_eq_some_iff.1 hg
    simp only [Prod.mk.injEq] at he
    obtain ⟨rfl, rfl⟩ := he
    obtain ⟨ib, io, rfl, hxi⟩ := hu.exw
    have hsi : i.size ≤ 4000000 := by
      have h := HS.out
      obtain ⟨k, t, n, a, al, i', vs⟩ := e
      simp only [exI] at hi
      subst hi
      simp only [EX.size, sizeO] at h
      omega
    have HPl := Lib.hid (HP.out.at_ i ib io a (.map ao) op s s2 t _ hxi hsi hq HW1.out HA1.out)
    have HSt := Lib.hid (fun V => vstr_any t V)
    unfold VV.v VV.cells strV at HSt
    dsimp only at HSt
    clear hg hq hi hu hxi hsi
    go_enter Tryz.func145, Tryz.ntmps145
    go_upto_region 1 with fail
    generalize W.alloc (.cells zVal 69) = V at *
    go_wp2_with fail
    go_at_call 73
    refine HPl.out.mono ?_
    rintro e' w5 ⟨rfl, hw5, hk5⟩
    have HO5 := Lib.hid (box_wk HO1.out hk5 (by omega) (by omega) (by omega) (by decide))
    have HW5 := Lib.hid hw5
    have HK5 := Lib.hid (HK1.out.trans hk5)
    clear hw5 hk5 HPl
    go_wp2_with fail
    go_at_call 13
    refine (HSt.out w5).mono ?_
    rintro e' w6 ⟨rfl, hb6⟩
    have HO6 := Lib.hid (HO5.out.later hb6)
    have HW6 := Lib.hid (HW5.out.later hb6)
    have HK6 := Lib.hid (HK5.out.trans (HW5.out.wk hb6))
    clear hb6
    have o0 := fun j => BoxAt.cell HO6.out j
    have oz := fun j => BoxAt.z HO6.out j
    have ol := BoxAt.lt HO6.out
    go_wp2
    refine end12w rfl HO6.out rfl (by rfl) (by rfl) rfl ⟨rfl, ?_, ?_⟩
    · exact WrAt.set12 HF.out HW6.out HO6.out (by omega) (by omega) (by omega) (by decide) _ _ _ _ _ _ _ _ _ _ _ _
    · exact WK.set12 HK6.out (by omega) (by omega) _ _ _ _ _ _ _ _ _ _ _ _
theorem val_any {R : RL} (H : R.Ok) {P : PlG} (hP : PlaceTo R P) : ValTo R P := by
  intro e eb eo a av op s s' r W hx hsz hg hw ha
  by_cases k0 : exK e = 0
  · exact val0_any H hP e eb eo a av op s s' r W hx hsz hg hw ha k0
  by_cases k1 : exK e = 1
  · exact val1_any H hP e eb eo a av op s s' r W hx hsz hg hw ha k1
  by_cases k2 : exK e = 2
  · exact val2_any H hP e eb eo a av op s s' r W hx hsz hg hw ha k2
  by_cases k3 : exK e = 3
  · cases hl : R.ent false (exN e) with
    | none => exact val3_no H hP e eb eo a av op s s' r W hx hsz hg hw ha k3 hl
    | some x => exact val3_yes H hP e eb eo a av op s s' r W hx hsz hg hw ha k3 x hl
  by_cases k6 : exK e = 6
  · exact val6_any H hP e eb eo a av op s s' r W hx hsz hg hw ha k6
  unfold valG at hg
  rw [if_neg k0, if_neg k1, if_neg k2, if_neg k3, if_neg k6] at hg
  cases hg
theorem placeG_to {R : RL} (H : R.Ok) : ∀ n, PlaceTo R (placeG R n)
  | 0 => fun e eb eo a av op s s' t W _ _ hg _ _ => by cases hg
  | n + 1 => placeR_any H (expr_any H (val_any H (placeG_to H n)))
end Go.Proofs.YtpgiboblonlddaaGreatDoor
