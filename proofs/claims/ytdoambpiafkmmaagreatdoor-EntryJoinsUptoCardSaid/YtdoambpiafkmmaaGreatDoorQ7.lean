/-
  Several texts put together (part 7): what the law and the program call, walked; their contracts.
-/
import Derived.Test.YtdoambpiafkmmaaGreatDoorQ6
namespace Go.Proofs.YtdoambpiafkmmaaGreatDoor
open Go.RowKit
set_option linter.unusedVariables false
set_option linter.unusedSimpArgs false
abbrev zE : Array Value := #[.int .i64 0, .string ⟨#[]⟩, .string ⟨#[]⟩, .string ⟨#[]⟩, .slice none 0 0, .pointer none, .slice none 0 0]
theorem since_ne {w w1 : World} {o : Obj} : ∀ q, Since (w.alloc o).heap.size w1 q → (Since w.heap.size w1 q ∧ q ≠ w.heap.size) ∧ w1.heap[q]? = w1.heap[q]? := fun q h => by
  obtain ⟨h1, h2⟩ := h
  rw [World.size_alloc] at h1
  exact ⟨⟨⟨by omega, h2⟩, by omega⟩, rfl⟩
set_option maxHeartbeats 2000000 in
set_option maxRecDepth 100000 in
theorem variable_way {rb : Nat} {s : ByteArray} (hs : s.size ≤ 4000000) : WayTo rb s 104 #[pt rb] (varS s) := by
  intro i w hr hi
  have hT := fun W (h : Rd rb s i W) => take_any 36 W h hs hi
  unfold varS
  obtain ⟨b, hb⟩ : ∃ b, isAt s i 36 = b := ⟨_, rfl⟩
  have hi1 : b = true → i + 1 ≤ s.size := fun h => isAt_lt (hb.trans h)
  rw [hb] at hT ⊢
  have HT := Lib.hid hT
  have HR := Lib.hid hr
  have hlt := hr.lt
  clear hT hr hb
  unfold pt at HT ⊢
  cases b
  case false =>
    go_enter Tryz.func104, Tryz.ntmps104
    go_wp2_with fail
    go_at_call 48
    refine (HT.out _ (HR.out.alloc _)).mono ?_
    rintro e w1 ⟨rfl, h1, h2⟩
    have H1 := Lib.hid h1
    have HK := Lib.hid (((Kp.refl rb w).alloc (Nat.le_of_lt hlt) _).trans h2)
    have hc := BoxAt.kp (BoxAt.new w zE 29) h2 (by omega)
    have hl := hc.lt
    have HC := Lib.hid hc
    obtain ⟨q0, q1, q2, q3, q4, q5, q6, p0, p1, p2, p3, p4, p5, p6⟩ := cells7 hc
    clear h1 h2 hc
    go_wp2
    exact end7 Tryz.results104 HC.out rfl rfl rfl rfl (got_fin (b := w.heap.size) HK.out (Nat.le_refl _) hlt H1.out hi rfl (fun x m h => by cases h))
  have hi2 := hi1 rfl
  have hn := nm_ok s (i + 1) hi2
  have he := ext_empty s (i + 1) (nm s (i + 1)) hn.1 hn.2
  have hP := fun W (h : Rd rb s (i + 1) W) => pass_any endName W h hs hi2
  obtain ⟨j, hj⟩ : ∃ j, nm s (i + 1) = j := ⟨_, rfl⟩
  rw [hj] at hn he hP ⊢
  have HP := Lib.hid hP
  obtain ⟨X, hX⟩ : ∃ X, s.extract (i + 1) j = X := ⟨_, rfl⟩
  rw [hX] at he HP ⊢
  have HE := Lib.hid he
  clear hj hP he hX hi1
  rw [Bool.true_and]
  unfold pt at HP
  by_cases hji : j = i + 1
  · have hx : X.toList.isEmpty = true := by rw [HE.out, decide_eq_true hji]
    rw [decide_eq_false (by omega), if_neg (by simp)]
    go_enter Tryz.func104, Tryz.ntmps104
    go_wp2_with fail
    go_at_call 48
    refine (HT.out _ (HR.out.alloc _)).mono ?_
    rintro e w1 ⟨rfl, h1, h2⟩
    have H1 := Lib.hid (show Rd rb s (i + 1) w1 by simpa using h1)
    have H2 := Lib.hid h2
    clear h1 h2
    go_wp2_with fail
    go_at_call 49
    refine (HP.out _ H1.out).mono ?_
    rintro e w2 ⟨rfl, h3, h4⟩
    have H3 := Lib.hid h3
    have HK := Lib.hid ((((Kp.refl rb w).alloc (Nat.le_of_lt hlt) _).trans H2.out).trans h4)
    have hc := BoxAt.kp (BoxAt.kp (BoxAt.new w zE 29) H2.out (by omega)) h4 (by omega)
    have hl := hc.lt
    have HC := Lib.hid hc
    obtain ⟨q0, q1, q2, q3, q4, q5, q6, p0, p1, p2, p3, p4, p5, p6⟩ := cells7 hc
    clear h3 h4 hc
    go_wp2
    exact end7 Tryz.results104 HC.out rfl rfl rfl rfl (got_fin (b := w.heap.size) HK.out (Nat.le_refl _) hlt H3.out hn.2 rfl (fun x m h => by cases h))
  · have hx : X.toList.isEmpty = false := by rw [HE.out, decide_eq_false hji]
    rw [decide_eq_true (by omega), if_pos rfl]
    go_enter Tryz.func104, Tryz.ntmps104
    go_wp2_with fail
    go_at_call 48
    refine (HT.out _ (HR.out.alloc _)).mono ?_
    rintro e w1 ⟨rfl, h1, h2⟩
    have H1 := Lib.hid (show Rd rb s (i + 1) w1 by simpa using h1)
    have H2 := Lib.hid h2
    clear h1 h2
    go_wp2_with fail
    go_at_call 49
    refine (HP.out _ H1.out).mono ?_
    rintro e w2 ⟨rfl, h3, h4⟩
    have H3 := Lib.hid h3
    have HK := Lib.hid ((((Kp.refl rb w).alloc (Nat.le_of_lt hlt) _).trans H2.out).trans h4)
    have hc := BoxAt.kp (BoxAt.kp (BoxAt.new w zE 29) H2.out (by omega)) h4 (by omega)
    have hl := hc.lt
    have HC := Lib.hid hc
    obtain ⟨q0, q1, q2, q3, q4, q5, q6, p0, p1, p2, p3, p4, p5, p6⟩ := cells7 hc
    clear h3 h4 hc
    go_wp2
    exact end7 Tryz.results104 HC.out rfl rfl rfl rfl (got_fin (b := w.heap.size) HK.out (Nat.le_refl _) hlt H3.out hn.2 rfl (fun x m h => by cases h; exact ⟨rfl, exF_flat _ _ _ _ _ _⟩))
set_option maxHeartbeats 2000000 in
set_option maxRecDepth 100000 in
theorem ref_way {rb : Nat} {s : ByteArray} (hs : s.size ≤ 4000000) (k : Int) : WayTo rb s 126 #[pt rb, .int .i64 k] (refS k s) := by
  intro i w hr hi
  have hn := nm_ok s i hi
  have he := ext_empty s i (nm s i) hn.1 hn.2
  have hP := fun W (h : Rd rb s i W) => pass_any endName W h hs hi
  unfold refS
  obtain ⟨j, hj⟩ : ∃ j, nm s i = j := ⟨_, rfl⟩
  rw [hj] at hn he hP ⊢
  have HP := Lib.hid hP
  have HR := Lib.hid hr
  have hlt := hr.lt
  obtain ⟨X, hX⟩ : ∃ X, s.extract i j = X := ⟨_, rfl⟩
  rw [hX] at he HP ⊢
  have HE := Lib.hid he
  clear hj hP hr he hX
  unfold pt at HP ⊢
  by_cases hji : j = i
  · have hx : X.toList.isEmpty = true := by rw [HE.out, decide_eq_true hji]
    rw [if_pos hji]
    go_enter Tryz.func126, Tryz.ntmps126
    go_wp2_with fail
    go_at_call 49
    refine (HP.out _ (HR.out.alloc _)).mono ?_
    rintro e w1 ⟨rfl, h1, h2⟩
    have H1 := Lib.hid h1
    have hl1 := h1.lt
    have HK := Lib.hid (((Kp.refl rb w).alloc (Nat.le_of_lt hlt) _).trans h2)
    have hc := BoxAt.kp (BoxAt.new w zE 29) h2 (by omega)
    have hl := hc.lt
    have HC := Lib.hid hc
    obtain ⟨q0, q1, q2, q3, q4, q5, q6, p0, p1, p2, p3, p4, p5, p6⟩ := cells7 hc
    clear h1 h2 hc
    go_wp2
    go_region
    go_wp2
    exact end7w Tryz.results126 ((box_set7 HC.out _ _ _ _ _ _ _).alloc _).drew rfl rfl rfl (got_end (((HK.out.set7 (Nat.le_refl _) hlt _ _ _ _ _ _ _).alloc (by rw [set7_size]; omega) _).drew) (((H1.out.set7 (by omega) _ _ _ _ _ _ _).alloc _).drew) hn.2 rfl (fun x m h => by cases h))
  have hx : X.toList.isEmpty = false := by rw [HE.out, decide_eq_false hji]
  rw [if_neg hji]
  have hT := fun W (h : Rd rb s j W) => take_any 46 W h hs hn.2
  obtain ⟨b, hb⟩ : ∃ b, isAt s j 46 = b := ⟨_, rfl⟩
  have hj1 : b = true → j + 1 ≤ s.size := fun h => isAt_lt (hb.trans h)
  rw [hb] at hT ⊢
  have HT := Lib.hid hT
  clear hT hb
  unfold pt at HT
  cases b
  case false =>
    go_enter Tryz.func126, Tryz.ntmps126
    go_wp2_with fail
    go_at_call 49
    refine (HP.out _ (HR.out.alloc _)).mono ?_
    rintro e w1 ⟨rfl, h1, h2⟩
    have hl1 := h1.lt
    have H1 := Lib.hid (h1.alloc (.cells #[.int .i64 k, .string ⟨#[]⟩, .string X, .string ⟨#[]⟩, .slice none 0 0, .pointer none, .slice none 0 0] 29))
    have HK := Lib.hid ((((Kp.refl rb w).alloc (Nat.le_of_lt hlt) _).trans h2).alloc (Nat.le_of_lt hl1) (.cells #[.int .i64 k, .string ⟨#[]⟩, .string X, .string ⟨#[]⟩, .slice none 0 0, .pointer none, .slice none 0 0] 29))
    have hc := BoxAt.kp (BoxAt.new w zE 29) h2 (by omega)
    have hl := hc.lt
    have HC := Lib.hid (hc.alloc (.cells #[.int .i64 k, .string ⟨#[]⟩, .string X, .string ⟨#[]⟩, .slice none 0 0, .pointer none, .slice none 0 0] 29))
    have HN := Lib.hid (BoxAt.new w1 #[.int .i64 k, .string ⟨#[]⟩, .string X, .string ⟨#[]⟩, .slice none 0 0, .pointer none, .slice none 0 0] 29)
    clear h1 h2 hc
    go_wp2_with fail
    go_at_call 48
    refine (HT.out _ H1.out).mono ?_
    rintro e w2 ⟨rfl, h3, h4⟩
    have H3 := Lib.hid (show Rd rb s j w2 by simpa using h3)
    have HK2 := Lib.hid (HK.out.trans h4)
    have hc2 := BoxAt.kp HC.out h4 (by omega)
    have hl2 := hc2.lt
    have HC2 := Lib.hid hc2
    have hn2 := BoxAt.kp HN.out h4 (by omega)
    have hl3 := hn2.lt
    obtain ⟨q0, q1, q2, q3, q4, q5, q6, p0, p1, p2, p3, p4, p5, p6⟩ := cells7 hc2
    obtain ⟨y0, y1, y2, y3, y4, y5, y6, _⟩ := cells7 hn2
    clear h3 h4 hc2 hn2
    go_wp2
    go_region
    go_wp2
    exact end7w Tryz.results126 (box_set7 HC2.out _ _ _ _ _ _ _).drew rfl rfl rfl (got_end (HK2.out.set7 (Nat.le_refl _) hlt _ _ _ _ _ _ _).drew (H3.out.set7 (by omega) _ _ _ _ _ _ _).drew hn.2 rfl (fun x m h => by cases h; exact ⟨rfl, exF_flat _ _ _ _ _ _⟩))
  have hj2 := hj1 rfl
  rw [if_pos rfl]
  have hn' := nm_ok s (j + 1) hj2
  have he' := ext_empty s (j + 1) (nm s (j + 1)) hn'.1 hn'.2
  have hP' := fun W (h : Rd rb s (j + 1) W) => pass_any endName W h hs hj2
  obtain ⟨m, hm⟩ : ∃ m, nm s (j + 1) = m := ⟨_, rfl⟩
  rw [hm] at hn' he' hP' ⊢
  have HP' := Lib.hid hP'
  obtain ⟨Y, hY⟩ : ∃ Y, s.extract (j + 1) m = Y := ⟨_, rfl⟩
  rw [hY] at he' HP' ⊢
  have HE' := Lib.hid he'
  clear hm hP' he' hY hj1
  unfold pt at HP'
  have key : ∀ (v : Bool), Y.toList.isEmpty = v → Calls Tryz.prog 126 #[.pointer (some ⟨rb, 0, none⟩), .int .i64 k] w (Got rb s w (if v then none else some (.mk k E0 X Y [] none [], m))) := by
    intro v hv
    obtain ⟨R, hR⟩ : ∃ R, (if v then none else some (EX.mk k E0 X Y [] none [], m)) = R := ⟨_, rfl⟩
    rw [hR]
    have HRR := Lib.hid hR
    clear hR
    go_enter Tryz.func126, Tryz.ntmps126
    go_wp2_with fail
    go_at_call 49
    refine (HP.out _ (HR.out.alloc _)).mono ?_
    rintro e w1 ⟨rfl, h1, h2⟩
    have hl1 := h1.lt
    have H1 := Lib.hid (h1.alloc (.cells #[.int .i64 k, .string ⟨#[]⟩, .string X, .string ⟨#[]⟩, .slice none 0 0, .pointer none, .slice none 0 0] 29))
    have HK := Lib.hid ((((Kp.refl rb w).alloc (Nat.le_of_lt hlt) _).trans h2).alloc (Nat.le_of_lt hl1) (.cells #[.int .i64 k, .string ⟨#[]⟩, .string X, .string ⟨#[]⟩, .slice none 0 0, .pointer none, .slice none 0 0] 29))
    have hc := BoxAt.kp (BoxAt.new w zE 29) h2 (by omega)
    have hl := hc.lt
    have HC := Lib.hid (hc.alloc (.cells #[.int .i64 k, .string ⟨#[]⟩, .string X, .string ⟨#[]⟩, .slice none 0 0, .pointer none, .slice none 0 0] 29))
    have HN := Lib.hid (BoxAt.new w1 #[.int .i64 k, .string ⟨#[]⟩, .string X, .string ⟨#[]⟩, .slice none 0 0, .pointer none, .slice none 0 0] 29)
    clear h1 h2 hc
    go_wp2_with fail
    go_at_call 48
    refine (HT.out _ H1.out).mono ?_
    rintro e w2 ⟨rfl, h3, h4⟩
    have H3 := Lib.hid (show Rd rb s (j + 1) w2 by simpa using h3)
    have HK2 := Lib.hid (HK.out.trans h4)
    have hc2 := BoxAt.kp HC.out h4 (by omega)
    have hl2 := hc2.lt
    have HC2 := Lib.hid hc2
    have hn2 := BoxAt.kp HN.out h4 (by omega)
    have HN2 := Lib.hid hn2
    have hl3 := hn2.lt
    clear h3 h4 hc2 hn2
    go_wp2_with fail
    go_at_call 49
    refine (HP'.out _ H3.out).mono ?_
    rintro e w3 ⟨rfl, h5, h6⟩
    have hc3 := BoxAt.kp HC2.out h6 (by omega)
    have hn3 := BoxAt.kp HN2.out h6 (by omega)
    have hl4 := hc3.lt
    have hl5 := hn3.lt
    have hne : w1.heap.size ≠ w.heap.size := by omega
    have hne2 : w.heap.size ≠ w1.heap.size := by omega
    have HK3 := Lib.hid ((HK2.out.trans h6).setNew (b := w1.heap.size) (by omega) hlt 3 (.string Y))
    have H5 := Lib.hid (h5.setOther (b := w1.heap.size) (by omega) 3 (.string Y))
    have HC3 := Lib.hid (BoxAt.setOther hc3 ⟨w1.heap.size, 3, none⟩ (.string Y) hne2)
    obtain ⟨q0, q1, q2, q3, q4, q5, q6, p0, p1, p2, p3, p4, p5, p6⟩ := cells7 hc3
    obtain ⟨y0, y1, y2, y3, y4, y5, y6, g0, g1, g2, g3, _⟩ := cells7 hn3
    clear h5 h6 hc3 hn3
    cases v
    all_goals
      go_wp2
      go_region
      go_wp2
      refine end7w Tryz.results126 (box_set7 HC3.out _ _ _ _ _ _ _).drew rfl rfl rfl (got_end (HK3.out.set7 (Nat.le_refl _) hlt _ _ _ _ _ _ _).drew (H5.out.set7 (by omega) _ _ _ _ _ _ _).drew hn'.2 (by rw [← HRR.out]; rfl) (fun x q h => ?_))
      rw [← HRR.out] at h
      cases h
      try exact ⟨rfl, exF_flat _ _ _ _ _ _⟩
  have hk := key _ HE'.out
  simpa using hk
set_option maxHeartbeats 2000000 in
set_option maxRecDepth 100000 in
theorem message_way {rb : Nat} {s : ByteArray} (hs : s.size ≤ 4000000) : WayTo rb s 106 #[pt rb] (refS 3 s) := by
  intro i w hr hi
  have hP := fun W (h : Rd rb s i W) => ref_way hs 3 i W h hi
  have HP := Lib.hid hP
  have HR := Lib.hid hr
  have hlt := hr.lt
  obtain ⟨R, hR⟩ : ∃ R, refS 3 s i = R := ⟨_, rfl⟩
  rw [hR] at HP ⊢
  clear hP hr hR
  unfold pt at HP ⊢
  go_enter Tryz.func106, Tryz.ntmps106
  go_wp2_with fail
  go_at_call 126
  refine (HP.out _ (HR.out.alloc _)).mono ?_
  rintro e w1 ⟨h1, k, t, n, a, A1, n1, c1, p, A2, n2, c2, j, rfl, h2, hj, h3⟩
  have HK := Lib.hid (((Kp.refl rb w).alloc (Nat.le_of_lt hlt) _).trans h1)
  have hc := BoxAt.kp (BoxAt.new w zE 29) h1 (by omega)
  have hl := hc.lt
  have HC := Lib.hid hc
  have H2 := Lib.hid h2
  have H3 := Lib.hid h3
  obtain ⟨q0, q1, q2, q3, q4, q5, q6, p0, p1, p2, p3, p4, p5, p6⟩ := cells7 hc
  unfold exV
  clear h1 h2 h3 hc HP
  go_wp2
  exact end7 Tryz.results106 HC.out rfl rfl rfl rfl (got_fin (b := w.heap.size) HK.out (Nat.le_refl _) hlt H2.out hj rfl (fun x m h => ⟨(H3.out x m h).1, ExF.carry since_ne _ _ (H3.out x m h).2⟩))
set_option maxHeartbeats 2000000 in
set_option maxRecDepth 100000 in
theorem term_way {rb : Nat} {s : ByteArray} (hs : s.size ≤ 4000000) : WayTo rb s 105 #[pt rb] (terS s) := by
  intro i w hr hi
  have hT := fun W (h : Rd rb s i W) => take_any 45 W h hs hi
  unfold terS
  obtain ⟨b, hb⟩ : ∃ b, isAt s i 45 = b := ⟨_, rfl⟩
  have hi1 : b = true → i + 1 ≤ s.size := fun h => isAt_lt (hb.trans h)
  rw [hb] at hT ⊢
  have HT := Lib.hid hT
  have HR := Lib.hid hr
  have hlt := hr.lt
  clear hT hr hb
  unfold pt at HT ⊢
  cases b
  case false =>
    rw [if_neg (by simp)]
    go_enter Tryz.func105, Tryz.ntmps105
    go_wp2_with fail
    go_at_call 48
    refine (HT.out _ (HR.out.alloc _)).mono ?_
    rintro e w1 ⟨rfl, h1, h2⟩
    have H1 := Lib.hid (show Rd rb s i w1 by simpa using h1)
    have HK := Lib.hid (((Kp.refl rb w).alloc (Nat.le_of_lt hlt) _).trans h2)
    have hc := BoxAt.kp (BoxAt.new w zE 29) h2 (by omega)
    have hl := hc.lt
    have HC := Lib.hid hc
    obtain ⟨q0, q1, q2, q3, q4, q5, q6, p0, p1, p2, p3, p4, p5, p6⟩ := cells7 hc
    clear h1 h2 hc
    go_wp2
    exact end7 Tryz.results105 HC.out rfl rfl rfl rfl (got_fin (b := w.heap.size) HK.out (Nat.le_refl _) hlt H1.out hi rfl (fun x m h => by cases h))
  have hi2 := hi1 rfl
  rw [if_pos rfl]
  have hP := fun W (h : Rd rb s (i + 1) W) => ref_way hs 4 (i + 1) W h hi2
  have HP := Lib.hid hP
  obtain ⟨R, hR⟩ : ∃ R, refS 4 s (i + 1) = R := ⟨_, rfl⟩
  rw [hR] at HP ⊢
  clear hP hR hi1
  unfold pt at HP
  go_enter Tryz.func105, Tryz.ntmps105
  go_wp2_with fail
  go_at_call 48
  refine (HT.out _ (HR.out.alloc _)).mono ?_
  rintro e w0 ⟨rfl, g1, g2⟩
  have G1 := Lib.hid (show Rd rb s (i + 1) w0 by simpa using g1)
  have G2 := Lib.hid g2
  have hw0 := g2.size
  rw [World.size_alloc] at hw0
  clear g1 g2
  go_wp2_with fail
  go_at_call 126
  refine (HP.out _ G1.out).mono ?_
  rintro e w1 ⟨h1, k, t, n, a, A1, n1, c1, p, A2, n2, c2, j, rfl, h2, hj, h3⟩
  have HK := Lib.hid ((((Kp.refl rb w).alloc (Nat.le_of_lt hlt) _).trans G2.out).trans h1)
  have hc := BoxAt.kp (BoxAt.kp (BoxAt.new w zE 29) G2.out (by omega)) h1 (by omega)
  have hl := hc.lt
  have HC := Lib.hid hc
  have H2 := Lib.hid h2
  have H3 := Lib.hid h3
  obtain ⟨q0, q1, q2, q3, q4, q5, q6, p0, p1, p2, p3, p4, p5, p6⟩ := cells7 hc
  unfold exV
  clear h1 h2 h3 hc HP
  go_wp2
  exact end7 Tryz.results105 HC.out rfl rfl rfl rfl (got_fin (b := w.heap.size) HK.out (Nat.le_refl _) hlt H2.out hj rfl (fun x m h => ⟨(H3.out x m h).1, ExF.carry (fun q hq => ⟨⟨⟨by have := hq.1; omega, hq.2⟩, by have := hq.1; omega⟩, rfl⟩) _ _ (H3.out x m h).2⟩))
end Go.Proofs.YtdoambpiafkmmaaGreatDoor

namespace Go.Proofs.YtdoambpiafkmmaaGreatDoor
open Go.RowKit
set_option linter.unusedVariables false
set_option linter.unusedSimpArgs false
theorem unqFrom_pos (s : ByteArray) : ∀ (f pos next : Nat) (acc t : List UInt8) (n : Nat), unqFrom s f pos next acc = some (t, n) → pos < n ∧ n ≤ s.size
  | 0, pos, next, acc, t, n, h => by cases h
  | f + 1, pos, next, acc, t, n, h => by
    unfold unqFrom at h
    split at h
    case isFalse => cases h
    case isTrue hp =>
      split at h
      · have := unqFrom_pos s f _ _ _ t n h; omega
      · split at h
        · cases h; omega
        · split at h
          · cases h
          · split at h
            · split at h
              · cases h
              · have := unqFrom_pos s f _ _ _ t n h; omega
            · have := unqFrom_pos s f _ _ _ t n h; omega
theorem unqAll_pos (s : ByteArray) (t : List UInt8) (n : Nat) (h : unqAll s = some (t, n)) : 0 < n ∧ n ≤ s.size := by
  unfold unqAll at h
  split at h
  · exact unqFrom_pos s _ _ _ _ t n h
  · cases h
theorem quo_val (s : ByteArray) (i : Nat) (hi : i ≤ s.size) : ∃ (T : ByteArray) (n : Nat) (b : Bool), unqVal (unqAll (s.extract i s.size)) = .tuple #[.string T, .int .i64 n, .bool b] ∧ i + n ≤ s.size ∧ b = (quoS s i).isSome ∧
    ∀ x m, quoS s i = some (x, m) → m = i + n ∧ x = .mk 0 T E0 E0 [] none [] ∧ 0 < n := by
  unfold quoS
  cases h : unqAll (s.extract i s.size) with
  | none => exact ⟨_, 0, _, rfl, by omega, rfl, fun x m h => by cases h⟩
  | some p =>
    obtain ⟨t, n⟩ := p
    have := unqAll_pos _ t n h
    rw [ByteArray.size_extract] at this
    exact ⟨_, n, _, rfl, by omega, rfl, fun x m h => by cases h; exact ⟨rfl, rfl, this.1⟩⟩
set_option maxHeartbeats 2000000 in
set_option maxRecDepth 100000 in
theorem quoted_way {rb : Nat} {s : ByteArray} (hs : s.size ≤ 1000000) : WayTo rb s 103 #[pt rb] (quoS s) := by
  intro i w hr hi
  have hU := fun W => unquote_any (s.extract i s.size) W (by rw [ByteArray.size_extract]; omega)
  obtain ⟨T, n, b, hv, hn, hR3, hR4⟩ := quo_val s i hi
  rw [hv] at hU
  obtain ⟨R, hRR⟩ : ∃ R, quoS s i = R := ⟨_, rfl⟩
  rw [hRR] at hR3 hR4 ⊢
  have HU := Lib.hid hU
  have HR := Lib.hid hr
  have Hb := Lib.hid hR3
  have Ht := Lib.hid hR4
  clear hRR hR3 hR4
  have c0 := (hr.alloc (.cells zE 29)).c0
  have c1 := (hr.alloc (.cells zE 29)).c1
  have f0 := (hr.alloc (.cells zE 29)).f 0
  have f1 := (hr.alloc (.cells zE 29)).f 1
  have hlt := hr.lt
  have hi0 : (i : Int) ≤ 4000000 := by omega
  have hjs : (i : Int) ≤ (s.size : Int) := by omega
  have hss : (s.size : Int) ≤ 4000000 := by omega
  have hi1 : (0 : Int) ≤ (i : Int) := by omega
  have hn0 : (n : Int) ≤ 4000000 := by omega
  clear hU hv hr
  unfold pt
  go_enter Tryz.func103, Tryz.ntmps103
  go_wp2_with fail
  go_region_held3 (fun w' => w'.cell? ⟨rb, 0, none⟩ = some (.string s) ∧ w'.cell? ⟨rb, 1, none⟩ = some (.int .i64 (i : Nat)) ∧ rb + 1 ≤ w'.heap.size ∧ Rd rb s i w' ∧ Kp rb (w.alloc (.cells zE 29)) w')
    (first | (exact rds_later (by assumption) (by assumption)) | (exact rds_of (HR.out.alloc (.cells zE 29)).drew (Kp.refl _ _).drew) | go_keep)
    (first | (go_at_call 125; refine (HU.out _).mono ?_; rintro e w' ⟨rfl, hb5⟩))
  rename_i hmE
  obtain ⟨g0, g1, _, g3, g4⟩ := hmE
  have hc := BoxAt.kp (BoxAt.new w zE 29) g4 (by omega)
  have hl := hc.lt
  have k1 := g3.f 1
  have HK := Lib.hid ((((Kp.refl rb w).alloc (Nat.le_of_lt hlt) _).trans g4).setCell 1 (.int .i64 ((i : Int) + (n : Int))))
  have H1 := Lib.hid (g3.set' (j := i + n) (v := (i : Int) + (n : Int)) (by omega))
  have hne : w.heap.size ≠ rb := by omega
  have HC := Lib.hid (BoxAt.setOther hc ⟨rb, 1, none⟩ (.int .i64 ((i : Int) + (n : Int))) hne)
  have hrb : rb < w'.heap.size := g3.lt
  obtain ⟨q0, q1, q2, q3, q4, q5, q6, p0, p1, p2, p3, p4, p5, p6⟩ := cells7 hc
  clear hb5 g3 g4 hc c0 c1 f0 f1
  go_wp2
  refine end7w Tryz.results103 (box_set7 HC.out _ _ _ _ _ _ _) rfl rfl rfl (got_end (HK.out.set7 (Nat.le_refl _) hlt _ _ _ _ _ _ _) (H1.out.set7 (by omega) _ _ _ _ _ _ _) hn Hb.out (fun x m h => ?_))
  obtain ⟨rfl, rfl, _⟩ := Ht.out x m h
  exact ⟨rfl, exF_flat _ _ _ _ _ _⟩
end Go.Proofs.YtdoambpiafkmmaaGreatDoor

namespace Go.Proofs.YtdoambpiafkmmaaGreatDoor
open Go.RowKit
set_option linter.unusedVariables false
set_option linter.unusedSimpArgs false
def orAll : List (Nat → Res) → Nat → Res
  | [], _ => none
  | f :: r, i => (f i).or (orAll r i)
def Got0 (rb : Nat) (s : ByteArray) (w : World) (r : Res) (e : Ending) (w' : World) : Prop := Got rb s w r e w' ∧ (r = none → e = .returned (.tuple #[exV 0 E0 E0 E0 none 0 0 none none 0 0, .bool false]))
def Way (rb : Nat) (s : ByteArray) (w : World) (fv : Value) (f : Nat → Res) : Prop :=
  ∃ N fst cap, fv = .func (.func N) fst cap ∧ Enters N ∧ ∀ (W : World) (i : Nat), Kp rb w W → Rd rb s i W → i ≤ s.size → Calls Tryz.prog N (fst ++ cap) W (Got rb s W (f i))
set_option maxHeartbeats 4000000 in
set_option maxRecDepth 100000 in
theorem first_any {rb : Nat} {s : ByteArray} (hs : s.size ≤ 4000000) (fvs : List Value) (fs : List (Nat → Res)) (L cap i : Nat) (w : World) (hr : Rd rb s i w) (hi : i ≤ s.size) (hlen : fvs.length = fs.length) (hn : fvs.length ≤ 8)
    (hcells : ∀ (j : Nat) (fv : Value), fvs[j]? = some fv → w.cell? ⟨L, j, none⟩ = some fv) (hL : L < w.heap.size) (hLr : L ≠ rb) (hw : ∀ (j : Nat) (fv : Value) (f : Nat → Res), fvs[j]? = some fv → fs[j]? = some f → Way rb s w fv f) :
    Calls Tryz.prog 102 #[pt rb, .slice (some ⟨L, 0, none⟩) fvs.length cap] w (Got0 rb s w (orAll fs i)) := by
  have c1 := (hr.alloc (.cells zE 29)).c1
  have hlt := hr.lt
  have HR := Lib.hid hr
  have HCe := Lib.hid hcells
  have HW := Lib.hid hw
  have Hlen := Lib.hid hlen
  have hn0 : (fvs.length : Int) ≤ 8 := by omega
  have hi0 : (i : Int) ≤ 4000000 := by omega
  obtain ⟨R, hRR⟩ : ∃ R, orAll fs i = R := ⟨_, rfl⟩
  rw [hRR]
  have HRR := Lib.hid hRR
  clear hr hcells hw hRR hlen
  unfold pt
  go_enter Tryz.func102, Tryz.ntmps102
  go_wp2
  go_loopw [17] (fun t17 wr => ∃ j : Nat, t17 = .int .i64 j ∧ j ≤ fvs.length ∧ Hid (orAll (fs.drop j) i = R) ∧ Hid (Rd rb s i wr) ∧ Hid (Kp rb w wr) ∧ Hid (BoxAt wr w.heap.size zE 29)) (fun t17 _ => fvs.length - (intOf t17).toNat)
  case atStart => exact ⟨0, rfl, Nat.zero_le _, HRR.out, HR.out.alloc _, (Kp.refl _ _).alloc (Nat.le_of_lt hlt) _, BoxAt.new _ _ _⟩
  case round =>
    obtain ⟨j, rfl, hj, Hans, HRd, HK, HC⟩ := hrel
    have hj0 : (j : Int) ≤ 8 := by omega
    have hsz := HK.out.size
    have hcl := HC.out.lt
    by_cases hlt2 : j < fvs.length
    · have hlt' : decide ((j : Int) < (fvs.length : Int)) = true := decide_eq_true (by omega)
      have hlt3 : ((j : Nat) : Int) < (fvs.length : Int) := by omega
      obtain ⟨fv, hfv⟩ : ∃ fv, fvs[j]? = some fv := ⟨_, List.getElem?_eq_getElem hlt2⟩
      obtain ⟨f, hf⟩ : ∃ f, fs[j]? = some f := ⟨_, List.getElem?_eq_getElem (by have := Hlen.out; omega)⟩
      have hcell := HCe.out j fv hfv
      have hcell2 : wr.cell? ⟨L, j, none⟩ = some fv := (cell_same (HK.out.others L hL hLr) j).trans hcell
      obtain ⟨N, fst, cp, rfl, hE, hC⟩ := HW.out j fv f hfv hf
      have hC2 := hC wr i HK.out HRd.out hi
      have HCC := Lib.hid hC2
      have hLw : L < wr.heap.size := by omega
      have hans := Hans.out
      rw [List.drop_eq_getElem_cons (show j < fs.length by have := Hlen.out; omega)] at hans
      have hfj : fs[j]'(by have := Hlen.out; omega) = f := by rw [List.getElem?_eq_getElem (by have := Hlen.out; omega)] at hf; exact Option.some.inj hf
      rw [hfj, orAll] at hans
      obtain ⟨r, hr⟩ : ∃ r, f i = r := ⟨_, rfl⟩
      rw [hr] at hans HCC
      have Hans2 := Lib.hid hans
      clear hcell hC hC2 hfv hf hans hfj hr Hans
      unfold Enters at hE
      go_wp2_with fail
      refine HCC.out.mono ?_
      rintro e w1 ⟨h1, k, t, n, a, A1, n1, c1', p, A2, n2, c2, m, rfl, h2, hm, h3⟩
      have HK2 := Lib.hid (HK.out.trans h1)
      have hc := BoxAt.kp HC.out h1 (by omega)
      have hl := hc.lt
      have HC2 := Lib.hid hc
      have H2 := Lib.hid h2
      have H3 := Lib.hid h3
      have hlt1 := h2.lt
      have d1 := h2.c1
      have e1 := h2.f 1
      obtain ⟨q0, q1, q2, q3, q4, q5, q6, p0, p1, p2, p3, p4, p5, p6⟩ := cells7 hc
      unfold exV
      clear h1 h2 h3 hc HCC
      cases r with
      | some xm =>
        obtain ⟨x, m'⟩ := xm
        have hans := Hans2.out
        rw [Option.some_or] at hans
        have Hans3 := Lib.hid hans
        clear hans Hans2
        go_wp2
        refine end7w Tryz.results102 ((box_set7 HC2.out _ _ _ _ _ _ _).alloc _) rfl rfl rfl (And.intro (got_end ((HK2.out.set7 (Nat.le_refl _) hlt _ _ _ _ _ _ _).alloc (by rw [set7_size]; omega) _) ((H2.out.set7 (by omega) _ _ _ _ _ _ _).alloc _) hm (by rw [← Hans3.out]; rfl) (fun y q h => ?_)) (fun h => by rw [← Hans3.out] at h; cases h))
        rw [← Hans3.out] at h
        cases h
        obtain ⟨h4, h5⟩ := H3.out x m' rfl
        refine ⟨h4, ExF.carry (fun q hq => ?_) _ _ h5⟩
        obtain ⟨hq1, hq2⟩ := hq
        have hq3 : q < (set7 w1 w.heap.size (.int .i64 k) (.string t) (.string n) (.string a) (.slice A1 n1 c1') (.pointer p) (.slice A2 n2 c2)).heap.size := by rw [set7_size]; exact hq2
        exact ⟨⟨by omega, by rw [World.size_alloc]; exact Nat.lt_succ_of_lt hq3⟩, (Lib.alloc_old _ _ q hq3).trans (set7_heap _ _ _ _ _ _ _ _ _ q (by omega))⟩
      | none =>
        have hans := Hans2.out
        rw [Option.none_or] at hans
        have Hans3 := Lib.hid hans
        clear hans Hans2
        go_wp2
        go_roundw
        case rel =>
          refine ⟨j + 1, by go_num, hlt2, Hans3.out, (H2.out.set i).alloc _, (HK2.out.setCell 1 _).alloc (by simp; omega) _, ?_⟩
          exact (BoxAt.setOther HC2.out ⟨rb, 1, none⟩ _ (by show w.heap.size ≠ rb; omega)).alloc _
        case measure => simp [intOf]; omega
    · obtain rfl : j = fvs.length := by omega
      have hlt' : decide ((fvs.length : Int) < (fvs.length : Int)) = false := decide_eq_false (by omega)
      have hans := Hans.out
      rw [List.drop_eq_nil_of_le (by have := Hlen.out; omega), orAll] at hans
      subst hans
      obtain ⟨q0, q1, q2, q3, q4, q5, q6, p0, p1, p2, p3, p4, p5, p6⟩ := cells7 HC.out
      go_wp2
      exact end7 Tryz.results102 HC.out rfl rfl rfl rfl (And.intro (got_fin (b := w.heap.size) HK.out (Nat.le_refl _) hlt HRd.out hi rfl (fun x m h => by cases h)) (fun _ => rfl))
end Go.Proofs.YtdoambpiafkmmaaGreatDoor

namespace Go.Proofs.YtdoambpiafkmmaaGreatDoor
open Go.RowKit
set_option linter.unusedVariables false
set_option linter.unusedSimpArgs false
theorem cells_box {w : World} {E : Nat} {x0 x1 x2 x3 x4 x5 x6 : Value} {t : TypeId} (h : BoxAt w E #[x0, x1, x2, x3, x4, x5, x6] t) : CellsAt w E 0 ⟨x0, x1, x2, x3, x4, x5, x6⟩ := ⟨h.cell 0, h.cell 1, h.cell 2, h.cell 3, h.cell 4, h.cell 5, h.cell 6⟩
theorem exF_nest {W : World} {F : Nat → Prop} {x : EX} {b : Nat} {c : C7} (hb : F b) (hc : CellsAt W b 0 c) (hx : ExF W F x c) :
    ExF W F (.mk 6 E0 E0 E0 [] (some x) []) ⟨.int .i64 6, .string E0, .string E0, .string E0, .slice none 0 0, .pointer (some ⟨b, 0, none⟩), .slice none 0 0⟩ := by
  rw [ExF]
  refine ⟨rfl, rfl, rfl, rfl, LieN.nil _, ?_, ⟨none, 0, rfl, Nat.le_refl _, Nat.zero_le _, fun h => absurd h (by simp)⟩⟩
  simp only [OF]
  exact ⟨b, 0, c, rfl, hb, hc, hx⟩
theorem nest_val (P : Nat → Res) (i : Nat) : (nestS P i).isSome = (P i).isSome ∧ ∀ x m, nestS P i = some (x, m) → ∃ y, P i = some (y, m) ∧ x = .mk 6 E0 E0 E0 [] (some y) [] := by
  unfold nestS
  cases h : P i with
  | none => exact ⟨rfl, fun x m h => by cases h⟩
  | some p => obtain ⟨y, m⟩ := p; exact ⟨rfl, fun x m h => by cases h; exact ⟨y, rfl, rfl⟩⟩
set_option maxHeartbeats 2000000 in
set_option maxRecDepth 100000 in
theorem nest_way {rb : Nat} {s : ByteArray} {d : Nat} {P : Nat → Res} (hd : d ≤ 4000) (hP : WayTo rb s 25 #[pt rb, .int .i64 ((d + 1 : Nat) : Int)] P) (k1 k2 i : Nat) (w : World) (hr : Rd rb s i w) (hi : i ≤ s.size)
    (h1 : BoxAt w k1 #[pt rb] 88) (h2 : BoxAt w k2 #[.int .i64 d] 3) :
    Calls Tryz.prog 101 #[pt k1, pt k2] w (Got rb s w (nestS P i)) := by
  have hP2 := fun W h => hP i W h hi
  rw [show ((d + 1 : Nat) : Int) = (d : Int) + 1 by omega] at hP2
  obtain ⟨hR2, hR3⟩ := nest_val P i
  obtain ⟨R, hR1⟩ : ∃ R, nestS P i = R := ⟨_, rfl⟩
  obtain ⟨r, hrr⟩ : ∃ r, P i = r := ⟨_, rfl⟩
  rw [hrr] at hP2 hR2 hR3
  rw [hR1] at hR2 hR3 ⊢
  have HP := Lib.hid hP2
  have HR2 := Lib.hid hR2
  have HR3 := Lib.hid hR3
  have HR := Lib.hid hr
  have hlt := hr.lt
  have c1 := h1.cell 0
  have c2 := h2.cell 0
  have hl1 := h1.lt
  have hl2 := h2.lt
  simp at c1 c2
  have hd0 : (d : Int) ≤ 4000 := by omega
  clear hP hP2 hrr hR1 hR2 hR3 hr h1 h2
  unfold pt at *
  go_enter Tryz.func101, Tryz.ntmps101
  go_wp2_with fail
  go_at_call 25
  refine (HP.out _ (HR.out.alloc _)).mono ?_
  rintro e w1 ⟨h1, k, t, n, a, A1, n1, c1', p, A2, n2, c2', j, rfl, h2, hj, h3⟩
  have HK := Lib.hid (((Kp.refl rb w).alloc (Nat.le_of_lt hlt) _).trans h1)
  have hc := BoxAt.kp (BoxAt.new w zE 29) h1 (by omega)
  have hl := hc.lt
  have HC := Lib.hid hc
  have H2 := Lib.hid h2
  have H3 := Lib.hid h3
  have hlr := h2.lt
  obtain ⟨q0, q1, q2, q3, q4, q5, q6, p0, p1, p2, p3, p4, p5, p6⟩ := cells7 hc
  unfold exV
  clear h1 h2 h3 hc HP
  go_wp2
  refine end7w Tryz.results101 ((box_set7 HC.out _ _ _ _ _ _ _).alloc _) rfl rfl rfl (got_end ((HK.out.set7 (Nat.le_refl _) hlt _ _ _ _ _ _ _).alloc (by rw [set7_size]; omega) _) ((H2.out.set7 (by omega) _ _ _ _ _ _ _).alloc _) hj HR2.out.symm (fun x m h => ?_))
  obtain ⟨y, hy, rfl⟩ := HR3.out x m h
  obtain ⟨h4, h5⟩ := H3.out y m hy
  refine ⟨h4, exF_nest (b := w1.heap.size) ?_ (cells_box (t := 29) ?_) (ExF.carry (fun q hq => ?_) _ _ h5)⟩
  · exact ⟨Nat.le_of_lt hl, by simp⟩
  · have := BoxAt.new (set7 w1 w.heap.size (.int .i64 6) (.string ⟨#[]⟩) (.string ⟨#[]⟩) (.string ⟨#[]⟩) (.slice none 0 0) (.pointer (some ⟨w1.heap.size, 0, none⟩)) (.slice none 0 0)) #[.int .i64 k, .string t, .string n, .string a, .slice A1 n1 c1', .pointer p, .slice A2 n2 c2'] 29
    rw [set7_size] at this
    exact this
  · obtain ⟨hq1, hq2⟩ := hq
    rw [World.size_alloc] at hq1
    have hq3 : q < (set7 w1 w.heap.size (.int .i64 6) (.string ⟨#[]⟩) (.string ⟨#[]⟩) (.string ⟨#[]⟩) (.slice none 0 0) (.pointer (some ⟨w1.heap.size, 0, none⟩)) (.slice none 0 0)).heap.size := by rw [set7_size]; exact hq2
    exact ⟨⟨by omega, by rw [World.size_alloc]; exact Nat.lt_succ_of_lt hq3⟩, (Lib.alloc_old _ _ q hq3).trans (set7_heap _ _ _ _ _ _ _ _ _ q (by omega))⟩
theorem head_or (P : Nat → Res) (s : ByteArray) (i : Nat) : orAll [quoS s, varS s, nestS P, terS s, refS 3 s, nubS s] i = headS P s i := by
  unfold orAll orAll orAll orAll orAll orAll orAll headS
  rw [Option.or_none]
def headV (rb k1 k2 : Nat) : List Value := [.func (.func 103) #[pt rb] #[], .func (.func 104) #[pt rb] #[], .func (.func 101) #[] #[pt k1, pt k2],
  .func (.func 105) #[pt rb] #[], .func (.func 106) #[pt rb] #[], .func (.func 107) #[pt rb] #[]]
theorem head_first {rb : Nat} {s : ByteArray} {d : Nat} {P : Nat → Res} (hs : s.size ≤ 1000000) (hd : d ≤ 4000) (hP : WayTo rb s 25 #[pt rb, .int .i64 ((d + 1 : Nat) : Int)] P) (L k1 k2 i : Nat) (w : World) (hr : Rd rb s i w) (hi : i ≤ s.size)
    (h1 : BoxAt w k1 #[pt rb] 88) (h2 : BoxAt w k2 #[.int .i64 d] 3) (hL : BoxAt w L (headV rb k1 k2).toArray 149) (n1 : k1 ≠ rb) (n2 : k2 ≠ rb) (n3 : L ≠ rb) :
    Calls Tryz.prog 102 #[pt rb, .slice (some ⟨L, 0, none⟩) 6 6] w (Got0 rb s w (orAll [quoS s, varS s, nestS P, terS s, refS 3 s, nubS s] i)) := by
  refine first_any (by omega) (headV rb k1 k2) _ L 6 i w hr hi rfl (by unfold headV; simp) (fun j fv h => ?_) (BoxAt.lt hL) n3 (fun j fv f h1' h2' => ?_)
  · rw [BoxAt.cell hL j, List.getElem?_toArray]
    exact h
  · match j with
    | 0 => cases h1'; cases h2'; exact ⟨_, _, _, rfl, fun args w => by go_simp, fun W i _ hr hi => quoted_way hs i W hr hi⟩
    | 1 => cases h1'; cases h2'; exact ⟨_, _, _, rfl, fun args w => by go_simp, fun W i _ hr hi => variable_way (by omega) i W hr hi⟩
    | 2 => cases h1'; cases h2'; exact ⟨_, _, _, rfl, fun args w => by go_simp, fun W i hk hr hi => nest_way hd hP k1 k2 i W hr hi (h1.kp hk n1) (h2.kp hk n2)⟩
    | 3 => cases h1'; cases h2'; exact ⟨_, _, _, rfl, fun args w => by go_simp, fun W i _ hr hi => term_way (by omega) i W hr hi⟩
    | 4 => cases h1'; cases h2'; exact ⟨_, _, _, rfl, fun args w => by go_simp, fun W i _ hr hi => message_way (by omega) i W hr hi⟩
    | 5 => cases h1'; cases h2'; exact ⟨_, _, _, rfl, fun args w => by go_simp, fun W i _ hr hi => number_way (by omega) i W hr hi⟩
    | j + 6 => cases h1'
set_option maxHeartbeats 4000000 in
set_option maxRecDepth 100000 in
theorem head_way {rb : Nat} {s : ByteArray} {d : Nat} {P : Nat → Res} (hs : s.size ≤ 1000000) (hd : d ≤ 4000) (hP : WayTo rb s 25 #[pt rb, .int .i64 ((d + 1 : Nat) : Int)] P) : ∀ (i : Nat) (w : World), Rd rb s i w → i ≤ s.size → Calls Tryz.prog 75 #[pt rb, .int .i64 d] w (Got0 rb s w (headS P s i)) := by
  intro i w hr hi
  have hlt := hr.lt
  have hF := head_first hs hd hP (w.heap.size + 1 + 1 + 1) w.heap.size (w.heap.size + 1) i ((((w.alloc (.cells #[pt rb] 88)).alloc (.cells #[.int .i64 d] 3)).alloc (.cells zE 29)).alloc (.cells (headV rb w.heap.size (w.heap.size + 1)).toArray 149))
    ((((hr.alloc _).alloc _).alloc _).alloc _) hi ((((BoxAt.new w _ _).alloc _).alloc _).alloc _) ((((BoxAt.new' (w.alloc (.cells #[pt rb] 88)) (w.heap.size + 1) _ _ (by simp)).alloc _).alloc _)) (BoxAt.new' _ _ _ _ (by simp)) (by omega) (by omega) (by omega)
  have HR := Lib.hid hr
  rw [← head_or]
  obtain ⟨R, hR⟩ : ∃ R, orAll [quoS s, varS s, nestS P, terS s, refS 3 s, nubS s] i = R := ⟨_, rfl⟩
  rw [hR] at hF ⊢
  have hd0 : (d : Int) ≤ 4000 := by omega
  unfold headV pt at hF
  have HF := Lib.hid hF
  clear hP hr hR hF
  unfold pt
  go_enter Tryz.func75, Tryz.ntmps75
  go_wp2_with fail
  go_at_call 102
  refine HF.out.mono ?_
  rintro e w1 ⟨⟨h1, k, t, n, a, A1, n1, c1', p, A2, n2, c2', j, rfl, h2, hj, h3⟩, hz⟩
  have HZ := Lib.hid hz
  have hs0 : rb ≤ w.heap.size := Nat.le_of_lt hlt
  have HK := Lib.hid ((((((Kp.refl rb w).alloc hs0 _).alloc (by simp; omega) _).alloc (by simp; omega) _).alloc (by simp; omega) _).trans h1)
  have hc := BoxAt.kp ((BoxAt.new' ((w.alloc (.cells #[.pointer (some ⟨rb, 0, none⟩)] 88)).alloc (.cells #[.int .i64 d] 3)) (w.heap.size + 1 + 1) zE 29 (by simp)).alloc _) h1 (by omega)
  have hl := hc.lt
  have HC := Lib.hid hc
  have H2 := Lib.hid h2
  have H3 := Lib.hid h3
  obtain ⟨q0, q1, q2, q3, q4, q5, q6, p0, p1, p2, p3, p4, p5, p6⟩ := cells7 hc
  unfold exV
  clear h1 h2 h3 hc hz
  go_wp2
  exact end7 Tryz.results75 HC.out rfl rfl rfl rfl (And.intro (got_fin (b := w.heap.size + 1 + 1) HK.out (by omega) hlt H2.out hj rfl (fun x m h => ⟨(H3.out x m h).1, ExF.carry (fun q hq => by
    obtain ⟨hq1, hq2⟩ := hq
    simp only [World.size_alloc] at hq1
    exact ⟨⟨⟨by omega, hq2⟩, by omega⟩, rfl⟩) _ _ (H3.out x m h).2⟩)) HZ.out)
end Go.Proofs.YtdoambpiafkmmaaGreatDoor
