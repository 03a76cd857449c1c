/-
  Several texts put together (part 3): what the law and the program call, walked; their contracts.
-/
import Derived.Lib.Bytealg
import Derived.Lib.Strings
import Derived.Lib.Join
import Derived.Lib.IndexAny
import Derived.Test.YtnogdojdjehakaaGreatDoorM2
/-
  Package expr: variable, reference, term, message, quoted.
-/
namespace Go.Proofs.YtnogdojdjehakaaGreatDoor
open Go.RowKit
set_option linter.unusedVariables false
set_option linter.unusedSimpArgs false

/-- The result's cell, new. -/
abbrev zE : Array Value := #[.int .i64 0, .string ⟨#[]⟩, .string ⟨#[]⟩, .string ⟨#[]⟩, .slice none 0 0, .pointer none, .slice none 0 0]
theorem since_ne {w w1 : World} {o : Obj} : ∀ q, Since (w.alloc o).heap.size w1 q → (Since w.heap.size w1 q ∧ q ≠ w.heap.size) ∧ w1.heap[q]? = w1.heap[q]? := fun q h => by
  obtain ⟨h1, h2⟩ := h
  rw [World.size_alloc] at h1
  exact ⟨⟨⟨by omega, h2⟩, by omega⟩, rfl⟩
set_option maxHeartbeats 2000000 in
set_option maxRecDepth 100000 in
theorem variable_way {rb : Nat} {s : ByteArray} (hs : s.size ≤ 4000000) : WayTo rb s 104 #[pt rb] (varS s) := by
  intro i w hr hi
  have hT := fun W (h : Rd rb s i W) => take_any 36 W h hs hi
  unfold varS
  obtain ⟨b, hb⟩ : ∃ b, isAt s i 36 = b := ⟨_, rfl⟩
  have hi1 : b = true → i + 1 ≤ s.size := fun h => isAt_lt (hb.trans h)
  rw [hb] at hT ⊢
  have HT := Lib.hid hT
  have HR := Lib.hid hr
  have hlt := hr.lt
  clear hT hr hb
  unfold pt at HT ⊢
  cases b
  case false =>
    go_enter Tryz.func104, Tryz.ntmps104
    go_wp2_with fail
    go_at_call 48
    refine (HT.out _ (HR.out.alloc _)).mono ?_
    rintro e w1 ⟨rfl, h1, h2⟩
    have H1 := Lib.hid h1
    have HK := Lib.hid (((Kp.refl rb w).alloc (Nat.le_of_lt hlt) _).trans h2)
    have hc := BoxAt.kp (BoxAt.new w zE 29) h2 (by omega)
    have hl := hc.lt
    have HC := Lib.hid hc
    obtain ⟨q0, q1, q2, q3, q4, q5, q6, p0, p1, p2, p3, p4, p5, p6⟩ := cells7 hc
    clear h1 h2 hc
    go_wp2
    exact end7 Tryz.results104 HC.out rfl rfl rfl rfl (got_fin (b := w.heap.size) HK.out (Nat.le_refl _) hlt H1.out hi rfl (fun x m h => by cases h))
  have hi2 := hi1 rfl
  have hn := nm_ok s (i + 1) hi2
  have he := ext_empty s (i + 1) (nm s (i + 1)) hn.1 hn.2
  have hP := fun W (h : Rd rb s (i + 1) W) => pass_any endName W h hs hi2
  obtain ⟨j, hj⟩ : ∃ j, nm s (i + 1) = j := ⟨_, rfl⟩
  rw [hj] at hn he hP ⊢
  have HP := Lib.hid hP
  obtain ⟨X, hX⟩ : ∃ X, s.extract (i + 1) j = X := ⟨_, rfl⟩
  rw [hX] at he HP ⊢
  have HE := Lib.hid he
  clear hj hP he hX hi1
  rw [Bool.true_and]
  unfold pt at HP
  by_cases hji : j = i + 1
  · have hx : X.toList.isEmpty = true := by rw [HE.out, decide_eq_true hji]
    rw [decide_eq_false (by omega), if_neg (by simp)]
    go_enter Tryz.func104, Tryz.ntmps104
    go_wp2_with fail
    go_at_call 48
    refine (HT.out _ (HR.out.alloc _)).mono ?_
    rintro e w1 ⟨rfl, h1, h2⟩
    have H1 := Lib.hid (show Rd rb s (i + 1) w1 by simpa using h1)
    have H2 := Lib.hid h2
    clear h1 h2
    go_wp2_with fail
    go_at_call 49
    refine (HP.out _ H1.out).mono ?_
    rintro e w2 ⟨rfl, h3, h4⟩
    have H3 := Lib.hid h3
    have HK := Lib.hid ((((Kp.refl rb w).alloc (Nat.le_of_lt hlt) _).trans H2.out).trans h4)
    have hc := BoxAt.kp (BoxAt.kp (BoxAt.new w zE 29) H2.out (by omega)) h4 (by omega)
    have hl := hc.lt
    have HC := Lib.hid hc
    obtain ⟨q0, q1, q2, q3, q4, q5, q6, p0, p1, p2, p3, p4, p5, p6⟩ := cells7 hc
    clear h3 h4 hc
    go_wp2
    exact end7 Tryz.results104 HC.out rfl rfl rfl rfl (got_fin (b := w.heap.size) HK.out (Nat.le_refl _) hlt H3.out hn.2 rfl (fun x m h => by cases h))
  · have hx : X.toList.isEmpty = false := by rw [HE.out, decide_eq_false hji]
    rw [decide_eq_true (by omega), if_pos rfl]
    go_enter Tryz.func104, Tryz.ntmps104
    go_wp2_with fail
    go_at_call 48
    refine (HT.out _ (HR.out.alloc _)).mono ?_
    rintro e w1 ⟨rfl, h1, h2⟩
    have H1 := Lib.hid (show Rd rb s (i + 1) w1 by simpa using h1)
    have H2 := Lib.hid h2
    clear h1 h2
    go_wp2_with fail
    go_at_call 49
    refine (HP.out _ H1.out).mono ?_
    rintro e w2 ⟨rfl, h3, h4⟩
    have H3 := Lib.hid h3
    have HK := Lib.hid ((((Kp.refl rb w).alloc (Nat.le_of_lt hlt) _).trans H2.out).trans h4)
    have hc := BoxAt.kp (BoxAt.kp (BoxAt.new w zE 29) H2.out (by omega)) h4 (by omega)
    have hl := hc.lt
    have HC := Lib.hid hc
    obtain ⟨q0, q1, q2, q3, q4, q5, q6, p0, p1, p2, p3, p4, p5, p6⟩ := cells7 hc
    clear h3 h4 hc
    go_wp2
    exact end7 Tryz.results104 HC.out rfl rfl rfl rfl (got_fin (b := w.heap.size) HK.out (Nat.le_refl _) hlt H3.out hn.2 rfl (fun x m h => by cases h; exact ⟨rfl, exF_flat _ _ _ _ _ _⟩))

set_option maxHeartbeats 2000000 in
set_option maxRecDepth 100000 in
theorem ref_way {rb : Nat} {s : ByteArray} (hs : s.size ≤ 4000000) (k : Int) : WayTo rb s 126 #[pt rb, .int .i64 k] (refS k s) := by
  intro i w hr hi
  have hn := nm_ok s i hi
  have he := ext_empty s i (nm s i) hn.1 hn.2
  have hP := fun W (h : Rd rb s i W) => pass_any endName W h hs hi
  unfold refS
  obtain ⟨j, hj⟩ : ∃ j, nm s i = j := ⟨_, rfl⟩
  rw [hj] at hn he hP ⊢
  have HP := Lib.hid hP
  have HR := Lib.hid hr
  have hlt := hr.lt
  obtain ⟨X, hX⟩ : ∃ X, s.extract i j = X := ⟨_, rfl⟩
  rw [hX] at he HP ⊢
  have HE := Lib.hid he
  clear hj hP hr he hX
  unfold pt at HP ⊢
  by_cases hji : j = i
  · have hx : X.toList.isEmpty = true := by rw [HE.out, decide_eq_true hji]
    rw [if_pos hji]
    go_enter Tryz.func126, Tryz.ntmps126
    go_wp2_with fail
    go_at_call 49
    refine (HP.out _ (HR.out.alloc _)).mono ?_
    rintro e w1 ⟨rfl, h1, h2⟩
    have H1 := Lib.hid h1
    have hl1 := h1.lt
    have HK := Lib.hid (((Kp.refl rb w).alloc (Nat.le_of_lt hlt) _).trans h2)
    have hc := BoxAt.kp (BoxAt.new w zE 29) h2 (by omega)
    have hl := hc.lt
    have HC := Lib.hid hc
    obtain ⟨q0, q1, q2, q3, q4, q5, q6, p0, p1, p2, p3, p4, p5, p6⟩ := cells7 hc
    clear h1 h2 hc
    go_wp2
    go_region
    go_wp2
    exact end7w Tryz.results126 ((box_set7 HC.out _ _ _ _ _ _ _).alloc _).drew rfl rfl rfl (got_end (((HK.out.set7 (Nat.le_refl _) hlt _ _ _ _ _ _ _).alloc (by rw [set7_size]; omega) _).drew) (((H1.out.set7 (by omega) _ _ _ _ _ _ _).alloc _).drew) hn.2 rfl (fun x m h => by cases h))
  have hx : X.toList.isEmpty = false := by rw [HE.out, decide_eq_false hji]
  rw [if_neg hji]
  have hT := fun W (h : Rd rb s j W) => take_any 46 W h hs hn.2
  obtain ⟨b, hb⟩ : ∃ b, isAt s j 46 = b := ⟨_, rfl⟩
  have hj1 : b = true → j + 1 ≤ s.size := fun h => isAt_lt (hb.trans h)
  rw [hb] at hT ⊢
  have HT := Lib.hid hT
  clear hT hb
  unfold pt at HT
  cases b
  case false =>
    go_enter Tryz.func126, Tryz.ntmps126
    go_wp2_with fail
    go_at_call 49
    refine (HP.out _ (HR.out.alloc _)).mono ?_
    rintro e w1 ⟨rfl, h1, h2⟩
    have hl1 := h1.lt
    have H1 := Lib.hid (h1.alloc (.cells #[.int .i64 k, .string ⟨#[]⟩, .string X, .string ⟨#[]⟩, .slice none 0 0, .pointer none, .slice none 0 0] 29))
    have HK := Lib.hid ((((Kp.refl rb w).alloc (Nat.le_of_lt hlt) _).trans h2).alloc (Nat.le_of_lt hl1) (.cells #[.int .i64 k, .string ⟨#[]⟩, .string X, .string ⟨#[]⟩, .slice none 0 0, .pointer none, .slice none 0 0] 29))
    have hc := BoxAt.kp (BoxAt.new w zE 29) h2 (by omega)
    have hl := hc.lt
    have HC := Lib.hid (hc.alloc (.cells #[.int .i64 k, .string ⟨#[]⟩, .string X, .string ⟨#[]⟩, .slice none 0 0, .pointer none, .slice none 0 0] 29))
    have HN := Lib.hid (BoxAt.new w1 #[.int .i64 k, .string ⟨#[]⟩, .string X, .string ⟨#[]⟩, .slice none 0 0, .pointer none, .slice none 0 0] 29)
    clear h1 h2 hc
    go_wp2_with fail
    go_at_call 48
    refine (HT.out _ H1.out).mono ?_
    rintro e w2 ⟨rfl, h3, h4⟩
    have H3 := Lib.hid (show Rd rb s j w2 by simpa using h3)
    have HK2 := Lib.hid (HK.out.trans h4)
    have hc2 := BoxAt.kp HC.out h4 (by omega)
    have hl2 := hc2.lt
    have HC2 := Lib.hid hc2
    have hn2 := BoxAt.kp HN.out h4 (by omega)
    have hl3 := hn2.lt
    obtain ⟨q0, q1, q2, q3, q4, q5, q6, p0, p1, p2, p3, p4, p5, p6⟩ := cells7 hc2
    obtain ⟨y0, y1, y2, y3, y4, y5, y6, _⟩ := cells7 hn2
    clear h3 h4 hc2 hn2
    go_wp2
    go_region
    go_wp2
    exact end7w Tryz.results126 (box_set7 HC2.out _ _ _ _ _ _ _).drew rfl rfl rfl (got_end (HK2.out.set7 (Nat.le_refl _) hlt _ _ _ _ _ _ _).drew (H3.out.set7 (by omega) _ _ _ _ _ _ _).drew hn.2 rfl (fun x m h => by cases h; exact ⟨rfl, exF_flat _ _ _ _ _ _⟩))
  have hj2 := hj1 rfl
  rw [if_pos rfl]
  have hn' := nm_ok s (j + 1) hj2
  have he' := ext_empty s (j + 1) (nm s (j + 1)) hn'.1 hn'.2
  have hP' := fun W (h : Rd rb s (j + 1) W) => pass_any endName W h hs hj2
  obtain ⟨m, hm⟩ : ∃ m, nm s (j + 1) = m := ⟨_, rfl⟩
  rw [hm] at hn' he' hP' ⊢
  have HP' := Lib.hid hP'
  obtain ⟨Y, hY⟩ : ∃ Y, s.extract (j + 1) m = Y := ⟨_, rfl⟩
  rw [hY] at he' HP' ⊢
  have HE' := Lib.hid he'
  clear hm hP' he' hY hj1
  unfold pt at HP'
  have key : ∀ (v : Bool), Y.toList.isEmpty = v → Calls Tryz.prog 126 #[.pointer (some ⟨rb, 0, none⟩), .int .i64 k] w (Got rb s w (if v then none else some (.mk k E0 X Y [] none [], m))) := by
    intro v hv
    obtain ⟨R, hR⟩ : ∃ R, (if v then none else some (EX.mk k E0 X Y [] none [], m)) = R := ⟨_, rfl⟩
    rw [hR]
    have HRR := Lib.hid hR
    clear hR
    go_enter Tryz.func126, Tryz.ntmps126
    go_wp2_with fail
    go_at_call 49
    refine (HP.out _ (HR.out.alloc _)).mono ?_
    rintro e w1 ⟨rfl, h1, h2⟩
    have hl1 := h1.lt
    have H1 := Lib.hid (h1.alloc (.cells #[.int .i64 k, .string ⟨#[]⟩, .string X, .string ⟨#[]⟩, .slice none 0 0, .pointer none, .slice none 0 0] 29))
    have HK := Lib.hid ((((Kp.refl rb w).alloc (Nat.le_of_lt hlt) _).trans h2).alloc (Nat.le_of_lt hl1) (.cells #[.int .i64 k, .string ⟨#[]⟩, .string X, .string ⟨#[]⟩, .slice none 0 0, .pointer none, .slice none 0 0] 29))
    have hc := BoxAt.kp (BoxAt.new w zE 29) h2 (by omega)
    have hl := hc.lt
    have HC := Lib.hid (hc.alloc (.cells #[.int .i64 k, .string ⟨#[]⟩, .string X, .string ⟨#[]⟩, .slice none 0 0, .pointer none, .slice none 0 0] 29))
    have HN := Lib.hid (BoxAt.new w1 #[.int .i64 k, .string ⟨#[]⟩, .string X, .string ⟨#[]⟩, .slice none 0 0, .pointer none, .slice none 0 0] 29)
    clear h1 h2 hc
    go_wp2_with fail
    go_at_call 48
    refine (HT.out _ H1.out).mono ?_
    rintro e w2 ⟨rfl, h3, h4⟩
    have H3 := Lib.hid (show Rd rb s (j + 1) w2 by simpa using h3)
    have HK2 := Lib.hid (HK.out.trans h4)
    have hc2 := BoxAt.kp HC.out h4 (by omega)
    have hl2 := hc2.lt
    have HC2 := Lib.hid hc2
    have hn2 := BoxAt.kp HN.out h4 (by omega)
    have HN2 := Lib.hid hn2
    have hl3 := hn2.lt
    clear h3 h4 hc2 hn2
    go_wp2_with fail
    go_at_call 49
    refine (HP'.out _ H3.out).mono ?_
    rintro e w3 ⟨rfl, h5, h6⟩
    have hc3 := BoxAt.kp HC2.out h6 (by omega)
    have hn3 := BoxAt.kp HN2.out h6 (by omega)
    have hl4 := hc3.lt
    have hl5 := hn3.lt
    have hne : w1.heap.size ≠ w.heap.size := by omega
    have hne2 : w.heap.size ≠ w1.heap.size := by omega
    have HK3 := Lib.hid ((HK2.out.trans h6).setNew (b := w1.heap.size) (by omega) hlt 3 (.string Y))
    have H5 := Lib.hid (h5.setOther (b := w1.heap.size) (by omega) 3 (.string Y))
    have HC3 := Lib.hid (BoxAt.setOther hc3 ⟨w1.heap.size, 3, none⟩ (.string Y) hne2)
    obtain ⟨q0, q1, q2, q3, q4, q5, q6, p0, p1, p2, p3, p4, p5, p6⟩ := cells7 hc3
    obtain ⟨y0, y1, y2, y3, y4, y5, y6, g0, g1, g2, g3, _⟩ := cells7 hn3
    clear h5 h6 hc3 hn3
    cases v
    all_goals
      go_wp2
      go_region
      go_wp2
      refine end7w Tryz.results126 (box_set7 HC3.out _ _ _ _ _ _ _).drew rfl rfl rfl (got_end (HK3.out.set7 (Nat.le_refl _) hlt _ _ _ _ _ _ _).drew (H5.out.set7 (by omega) _ _ _ _ _ _ _).drew hn'.2 (by rw [← HRR.out]; rfl) (fun x q h => ?_))
      rw [← HRR.out] at h
      cases h
      try exact ⟨rfl, exF_flat _ _ _ _ _ _⟩
  have hk := key _ HE'.out
  simpa using hk
set_option maxHeartbeats 2000000 in
set_option maxRecDepth 100000 in
theorem message_way {rb : Nat} {s : ByteArray} (hs : s.size ≤ 4000000) : WayTo rb s 106 #[pt rb] (refS 3 s) := by
  intro i w hr hi
  have hP := fun W (h : Rd rb s i W) => ref_way hs 3 i W h hi
  have HP := Lib.hid hP
  have HR := Lib.hid hr
  have hlt := hr.lt
  obtain ⟨R, hR⟩ : ∃ R, refS 3 s i = R := ⟨_, rfl⟩
  rw [hR] at HP ⊢
  clear hP hr hR
  unfold pt at HP ⊢
  go_enter Tryz.func106, Tryz.ntmps106
  go_wp2_with fail
  go_at_call 126
  refine (HP.out _ (HR.out.alloc _)).mono ?_
  rintro e w1 ⟨h1, k, t, n, a, A1, n1, c1, p, A2, n2, c2, j, rfl, h2, hj, h3⟩
  have HK := Lib.hid (((Kp.refl rb w).alloc (Nat.le_of_lt hlt) _).trans h1)
  have hc := BoxAt.kp (BoxAt.new w zE 29) h1 (by omega)
  have hl := hc.lt
  have HC := Lib.hid hc
  have H2 := Lib.hid h2
  have H3 := Lib.hid h3
  obtain ⟨q0, q1, q2, q3, q4, q5, q6, p0, p1, p2, p3, p4, p5, p6⟩ := cells7 hc
  unfold exV
  clear h1 h2 h3 hc HP
  go_wp2
  exact end7 Tryz.results106 HC.out rfl rfl rfl rfl (got_fin (b := w.heap.size) HK.out (Nat.le_refl _) hlt H2.out hj rfl (fun x m h => ⟨(H3.out x m h).1, ExF.carry since_ne _ _ (H3.out x m h).2⟩))
set_option maxHeartbeats 2000000 in
set_option maxRecDepth 100000 in
theorem term_way {rb : Nat} {s : ByteArray} (hs : s.size ≤ 4000000) : WayTo rb s 105 #[pt rb] (terS s) := by
  intro i w hr hi
  have hT := fun W (h : Rd rb s i W) => take_any 45 W h hs hi
  unfold terS
  obtain ⟨b, hb⟩ : ∃ b, isAt s i 45 = b := ⟨_, rfl⟩
  have hi1 : b = true → i + 1 ≤ s.size := fun h => isAt_lt (hb.trans h)
  rw [hb] at hT ⊢
  have HT := Lib.hid hT
  have HR := Lib.hid hr
  have hlt := hr.lt
  clear hT hr hb
  unfold pt at HT ⊢
  cases b
  case false =>
    rw [if_neg (by simp)]
    go_enter Tryz.func105, Tryz.ntmps105
    go_wp2_with fail
    go_at_call 48
    refine (HT.out _ (HR.out.alloc _)).mono ?_
    rintro e w1 ⟨rfl, h1, h2⟩
    have H1 := Lib.hid (show Rd rb s i w1 by simpa using h1)
    have HK := Lib.hid (((Kp.refl rb w).alloc (Nat.le_of_lt hlt) _).trans h2)
    have hc := BoxAt.kp (BoxAt.new w zE 29) h2 (by omega)
    have hl := hc.lt
    have HC := Lib.hid hc
    obtain ⟨q0, q1, q2, q3, q4, q5, q6, p0, p1, p2, p3, p4, p5, p6⟩ := cells7 hc
    clear h1 h2 hc
    go_wp2
    exact end7 Tryz.results105 HC.out rfl rfl rfl rfl (got_fin (b := w.heap.size) HK.out (Nat.le_refl _) hlt H1.out hi rfl (fun x m h => by cases h))
  have hi2 := hi1 rfl
  rw [if_pos rfl]
  have hP := fun W (h : Rd rb s (i + 1) W) => ref_way hs 4 (i + 1) W h hi2
  have HP := Lib.hid hP
  obtain ⟨R, hR⟩ : ∃ R, refS 4 s (i + 1) = R := ⟨_, rfl⟩
  rw [hR] at HP ⊢
  clear hP hR hi1
  unfold pt at HP
  go_enter Tryz.func105, Tryz.ntmps105
  go_wp2_with fail
  go_at_call 48
  refine (HT.out _ (HR.out.alloc _)).mono ?_
  rintro e w0 ⟨rfl, g1, g2⟩
  have G1 := Lib.hid (show Rd rb s (i + 1) w0 by simpa using g1)
  have G2 := Lib.hid g2
  have hw0 := g2.size
  rw [World.size_alloc] at hw0
  clear g1 g2
  go_wp2_with fail
  go_at_call 126
  refine (HP.out _ G1.out).mono ?_
  rintro e w1 ⟨h1, k, t, n, a, A1, n1, c1, p, A2, n2, c2, j, rfl, h2, hj, h3⟩
  have HK := Lib.hid ((((Kp.refl rb w).alloc (Nat.le_of_lt hlt) _).trans G2.out).trans h1)
  have hc := BoxAt.kp (BoxAt.kp (BoxAt.new w zE 29) G2.out (by omega)) h1 (by omega)
  have hl := hc.lt
  have HC := Lib.hid hc
  have H2 := Lib.hid h2
  have H3 := Lib.hid h3
  obtain ⟨q0, q1, q2, q3, q4, q5, q6, p0, p1, p2, p3, p4, p5, p6⟩ := cells7 hc
  unfold exV
  clear h1 h2 h3 hc HP
  go_wp2
  exact end7 Tryz.results105 HC.out rfl rfl rfl rfl (got_fin (b := w.heap.size) HK.out (Nat.le_refl _) hlt H2.out hj rfl (fun x m h => ⟨(H3.out x m h).1, ExF.carry (fun q hq => ⟨⟨⟨by have := hq.1; omega, hq.2⟩, by have := hq.1; omega⟩, rfl⟩) _ _ (H3.out x m h).2⟩))
end Go.Proofs.YtnogdojdjehakaaGreatDoor

/-
  Package expr: quoted.
-/
namespace Go.Proofs.YtnogdojdjehakaaGreatDoor
open Go.RowKit
set_option linter.unusedVariables false
set_option linter.unusedSimpArgs false

theorem unqFrom_pos (s : ByteArray) : ∀ (f pos next : Nat) (acc t : List UInt8) (n : Nat), unqFrom s f pos next acc = some (t, n) → pos < n ∧ n ≤ s.size
  | 0, pos, next, acc, t, n, h => by cases h
  | f + 1, pos, next, acc, t, n, h => by
    unfold unqFrom at h
    split at h
    case isFalse => cases h
    case isTrue hp =>
      split at h
      · have := unqFrom_pos s f _ _ _ t n h; omega
      · split at h
        · cases h; omega
        · split at h
          · cases h
          · split at h
            · split at h
              · cases h
              · have := unqFrom_pos s f _ _ _ t n h; omega
            · have := unqFrom_pos s f _ _ _ t n h; omega
theorem unqAll_pos (s : ByteArray) (t : List UInt8) (n : Nat) (h : unqAll s = some (t, n)) : 0 < n ∧ n ≤ s.size := by
  unfold unqAll at h
  split at h
  · exact unqFrom_pos s _ _ _ _ t n h
  · cases h
theorem quo_val (s : ByteArray) (i : Nat) (hi : i ≤ s.size) : ∃ (T : ByteArray) (n : Nat) (b : Bool), unqVal (unqAll (s.extract i s.size)) = .tuple #[.string T, .int .i64 n, .bool b] ∧ i + n ≤ s.size ∧ b = (quoS s i).isSome ∧
    ∀ x m, quoS s i = some (x, m) → m = i + n ∧ x = .mk 0 T E0 E0 [] none [] ∧ 0 < n := by
  unfold quoS
  cases h : unqAll (s.extract i s.size) with
  | none => exact ⟨_, 0, _, rfl, by omega, rfl, fun x m h => by cases h⟩
  | some p =>
    obtain ⟨t, n⟩ := p
    have := unqAll_pos _ t n h
    rw [ByteArray.size_extract] at this
    exact ⟨_, n, _, rfl, by omega, rfl, fun x m h => by cases h; exact ⟨rfl, rfl, this.1⟩⟩
set_option maxHeartbeats 2000000 in
set_option maxRecDepth 100000 in
theorem quoted_way {rb : Nat} {s : ByteArray} (hs : s.size ≤ 1000000) : WayTo rb s 103 #[pt rb] (quoS s) := by
  intro i w hr hi
  have hU := fun W => unquote_any (s.extract i s.size) W (by rw [ByteArray.size_extract]; omega)
  obtain ⟨T, n, b, hv, hn, hR3, hR4⟩ := quo_val s i hi
  rw [hv] at hU
  obtain ⟨R, hRR⟩ : ∃ R, quoS s i = R := ⟨_, rfl⟩
  rw [hRR] at hR3 hR4 ⊢
  have HU := Lib.hid hU
  have HR := Lib.hid hr
  have Hb := Lib.hid hR3
  have Ht := Lib.hid hR4
  clear hRR hR3 hR4
  have c0 := (hr.alloc (.cells zE 29)).c0
  have c1 := (hr.alloc (.cells zE 29)).c1
  have f0 := (hr.alloc (.cells zE 29)).f 0
  have f1 := (hr.alloc (.cells zE 29)).f 1
  have hlt := hr.lt
  have hi0 : (i : Int) ≤ 4000000 := by omega
  have hjs : (i : Int) ≤ (s.size : Int) := by omega
  have hss : (s.size : Int) ≤ 4000000 := by omega
  have hi1 : (0 : Int) ≤ (i : Int) := by omega
  have hn0 : (n : Int) ≤ 4000000 := by omega
  clear hU hv hr
  unfold pt
  go_enter Tryz.func103, Tryz.ntmps103
  go_wp2_with fail
  go_region_held3 (fun w' => w'.cell? ⟨rb, 0, none⟩ = some (.string s) ∧ w'.cell? ⟨rb, 1, none⟩ = some (.int .i64 (i : Nat)) ∧ rb + 1 ≤ w'.heap.size ∧ Rd rb s i w' ∧ Kp rb (w.alloc (.cells zE 29)) w')
    (first | (exact rds_later (by assumption) (by assumption)) | (exact rds_of (HR.out.alloc (.cells zE 29)).drew (Kp.refl _ _).drew) | go_keep)
    (first | (go_at_call 125; refine (HU.out _).mono ?_; rintro e w' ⟨rfl, hb5⟩))
  rename_i hmE
  obtain ⟨g0, g1, _, g3, g4⟩ := hmE
  have hc := BoxAt.kp (BoxAt.new w zE 29) g4 (by omega)
  have hl := hc.lt
  have k1 := g3.f 1
  have HK := Lib.hid ((((Kp.refl rb w).alloc (Nat.le_of_lt hlt) _).trans g4).setCell 1 (.int .i64 ((i : Int) + (n : Int))))
  have H1 := Lib.hid (g3.set' (j := i + n) (v := (i : Int) + (n : Int)) (by omega))
  have hne : w.heap.size ≠ rb := by omega
  have HC := Lib.hid (BoxAt.setOther hc ⟨rb, 1, none⟩ (.int .i64 ((i : Int) + (n : Int))) hne)
  have hrb : rb < w'.heap.size := g3.lt
  obtain ⟨q0, q1, q2, q3, q4, q5, q6, p0, p1, p2, p3, p4, p5, p6⟩ := cells7 hc
  clear hb5 g3 g4 hc c0 c1 f0 f1
  go_wp2
  refine end7w Tryz.results103 (box_set7 HC.out _ _ _ _ _ _ _) rfl rfl rfl (got_end (HK.out.set7 (Nat.le_refl _) hlt _ _ _ _ _ _ _) (H1.out.set7 (by omega) _ _ _ _ _ _ _) hn Hb.out (fun x m h => ?_))
  obtain ⟨rfl, rfl, _⟩ := Ht.out x m h
  exact ⟨rfl, exF_flat _ _ _ _ _ _⟩
end Go.Proofs.YtnogdojdjehakaaGreatDoor

/-
  Package expr: first.
-/
namespace Go.Proofs.YtnogdojdjehakaaGreatDoor
open Go.RowKit
set_option linter.unusedVariables false
set_option linter.unusedSimpArgs false

def orAll : List (Nat → Res) → Nat → Res
  | [], _ => none
  | f :: r, i => (f i).or (orAll r i)
/-- .. and none is an empty one. -/
def Got0 (rb : Nat) (s : ByteArray) (w : World) (r : Res) (e : Ending) (w' : World) : Prop := Got rb s w r e w' ∧ (r = none → e = .returned (.tuple #[exV 0 E0 E0 E0 none 0 0 none none 0 0, .bool false]))
/-- A function value by which something is read, now and later. -/
def Way (rb : Nat) (s : ByteArray) (w : World) (fv : Value) (f : Nat → Res) : Prop :=
  ∃ N fst cap, fv = .func (.func N) fst cap ∧ Enters N ∧ ∀ (W : World) (i : Nat), Kp rb w W → Rd rb s i W → i ≤ s.size → Calls Tryz.prog N (fst ++ cap) W (Got rb s W (f i))
set_option maxHeartbeats 4000000 in
set_option maxRecDepth 100000 in
theorem first_any {rb : Nat} {s : ByteArray} (hs : s.size ≤ 4000000) (fvs : List Value) (fs : List (Nat → Res)) (L cap i : Nat) (w : World) (hr : Rd rb s i w) (hi : i ≤ s.size) (hlen : fvs.length = fs.length) (hn : fvs.length ≤ 8)
    (hcells : ∀ (j : Nat) (fv : Value), fvs[j]? = some fv → w.cell? ⟨L, j, none⟩ = some fv) (hL : L < w.heap.size) (hLr : L ≠ rb) (hw : ∀ (j : Nat) (fv : Value) (f : Nat → Res), fvs[j]? = some fv → fs[j]? = some f → Way rb s w fv f) :
    Calls Tryz.prog 102 #[pt rb, .slice (some ⟨L, 0, none⟩) fvs.length cap] w (Got0 rb s w (orAll fs i)) := by
  have c1 := (hr.alloc (.cells zE 29)).c1
  have hlt := hr.lt
  have HR := Lib.hid hr
  have HCe := Lib.hid hcells
  have HW := Lib.hid hw
  have Hlen := Lib.hid hlen
  have hn0 : (fvs.length : Int) ≤ 8 := by omega
  have hi0 : (i : Int) ≤ 4000000 := by omega
  obtain ⟨R, hRR⟩ : ∃ R, orAll fs i = R := ⟨_, rfl⟩
  rw [hRR]
  have HRR := Lib.hid hRR
  clear hr hcells hw hRR hlen
  unfold pt
  go_enter Tryz.func102, Tryz.ntmps102
  go_wp2
  go_loopw [17] (fun t17 wr => ∃ j : Nat, t17 = .int .i64 j ∧ j ≤ fvs.length ∧ Hid (orAll (fs.drop j) i = R) ∧ Hid (Rd rb s i wr) ∧ Hid (Kp rb w wr) ∧ Hid (BoxAt wr w.heap.size zE 29)) (fun t17 _ => fvs.length - (intOf t17).toNat)
  case atStart => exact ⟨0, rfl, Nat.zero_le _, HRR.out, HR.out.alloc _, (Kp.refl _ _).alloc (Nat.le_of_lt hlt) _, BoxAt.new _ _ _⟩
  case round =>
    obtain ⟨j, rfl, hj, Hans, HRd, HK, HC⟩ := hrel
    have hj0 : (j : Int) ≤ 8 := by omega
    have hsz := HK.out.size
    have hcl := HC.out.lt
    by_cases hlt2 : j < fvs.length
    · have hlt' : decide ((j : Int) < (fvs.length : Int)) = true := decide_eq_true (by omega)
      have hlt3 : ((j : Nat) : Int) < (fvs.length : Int) := by omega
      obtain ⟨fv, hfv⟩ : ∃ fv, fvs[j]? = some fv := ⟨_, List.getElem?_eq_getElem hlt2⟩
      obtain ⟨f, hf⟩ : ∃ f, fs[j]? = some f := ⟨_, List.getElem?_eq_getElem (by have := Hlen.out; omega)⟩
      have hcell := HCe.out j fv hfv
      have hcell2 : wr.cell? ⟨L, j, none⟩ = some fv := (cell_same (HK.out.others L hL hLr) j).trans hcell
      obtain ⟨N, fst, cp, rfl, hE, hC⟩ := HW.out j fv f hfv hf
      have hC2 := hC wr i HK.out HRd.out hi
      have HCC := Lib.hid hC2
      have hLw : L < wr.heap.size := by omega
      have hans := Hans.out
      rw [List.drop_eq_getElem_cons (show j < fs.length by have := Hlen.out; omega)] at hans
      have hfj : fs[j]'(by have := Hlen.out; omega) = f := by rw [List.getElem?_eq_getElem (by have := Hlen.out; omega)] at hf; exact Option.some.inj hf
      rw [hfj, orAll] at hans
      obtain ⟨r, hr⟩ : ∃ r, f i = r := ⟨_, rfl⟩
      rw [hr] at hans HCC
      have Hans2 := Lib.hid hans
      clear hcell hC hC2 hfv hf hans hfj hr Hans
      unfold Enters at hE
      go_wp2_with fail
      refine HCC.out.mono ?_
      rintro e w1 ⟨h1, k, t, n, a, A1, n1, c1', p, A2, n2, c2, m, rfl, h2, hm, h3⟩
      have HK2 := Lib.hid (HK.out.trans h1)
      have hc := BoxAt.kp HC.out h1 (by omega)
      have hl := hc.lt
      have HC2 := Lib.hid hc
      have H2 := Lib.hid h2
      have H3 := Lib.hid h3
      have hlt1 := h2.lt
      have d1 := h2.c1
      have e1 := h2.f 1
      obtain ⟨q0, q1, q2, q3, q4, q5, q6, p0, p1, p2, p3, p4, p5, p6⟩ := cells7 hc
      unfold exV
      clear h1 h2 h3 hc HCC
      cases r with
      | some xm =>
        obtain ⟨x, m'⟩ := xm
        have hans := Hans2.out
        rw [Option.some_or] at hans
        have Hans3 := Lib.hid hans
        clear hans Hans2
        go_wp2
        refine end7w Tryz.results102 ((box_set7 HC2.out _ _ _ _ _ _ _).alloc _) rfl rfl rfl (And.intro (got_end ((HK2.out.set7 (Nat.le_refl _) hlt _ _ _ _ _ _ _).alloc (by rw [set7_size]; omega) _) ((H2.out.set7 (by omega) _ _ _ _ _ _ _).alloc _) hm (by rw [← Hans3.out]; rfl) (fun y q h => ?_)) (fun h => by rw [← Hans3.out] at h; cases h))
        rw [← Hans3.out] at h
        cases h
        obtain ⟨h4, h5⟩ := H3.out x m' rfl
        refine ⟨h4, ExF.carry (fun q hq => ?_) _ _ h5⟩
        obtain ⟨hq1, hq2⟩ := hq
        have hq3 : q < (set7 w1 w.heap.size (.int .i64 k) (.string t) (.string n) (.string a) (.slice A1 n1 c1') (.pointer p) (.slice A2 n2 c2)).heap.size := by rw [set7_size]; exact hq2
        exact ⟨⟨by omega, by rw [World.size_alloc]; exact Nat.lt_succ_of_lt hq3⟩, (Lib.alloc_old _ _ q hq3).trans (set7_heap _ _ _ _ _ _ _ _ _ q (by omega))⟩
      | none =>
        have hans := Hans2.out
        rw [Option.none_or] at hans
        have Hans3 := Lib.hid hans
        clear hans Hans2
        go_wp2
        go_roundw
        case rel =>
          refine ⟨j + 1, by go_num, hlt2, Hans3.out, (H2.out.set i).alloc _, (HK2.out.setCell 1 _).alloc (by simp; omega) _, ?_⟩
          exact (BoxAt.setOther HC2.out ⟨rb, 1, none⟩ _ (by show w.heap.size ≠ rb; omega)).alloc _
        case measure => simp [intOf]; omega
    · obtain rfl : j = fvs.length := by omega
      have hlt' : decide ((fvs.length : Int) < (fvs.length : Int)) = false := decide_eq_false (by omega)
      have hans := Hans.out
      rw [List.drop_eq_nil_of_le (by have := Hlen.out; omega), orAll] at hans
      subst hans
      obtain ⟨q0, q1, q2, q3, q4, q5, q6, p0, p1, p2, p3, p4, p5, p6⟩ := cells7 HC.out
      go_wp2
      exact end7 Tryz.results102 HC.out rfl rfl rfl rfl (And.intro (got_fin (b := w.heap.size) HK.out (Nat.le_refl _) hlt HRd.out hi rfl (fun x m h => by cases h)) (fun _ => rfl))
end Go.Proofs.YtnogdojdjehakaaGreatDoor

/-
  Package expr: head, given place one deeper.
-/
namespace Go.Proofs.YtnogdojdjehakaaGreatDoor
open Go.RowKit
set_option linter.unusedVariables false
set_option linter.unusedSimpArgs false

theorem cells_box {w : World} {E : Nat} {x0 x1 x2 x3 x4 x5 x6 : Value} {t : TypeId} (h : BoxAt w E #[x0, x1, x2, x3, x4, x5, x6] t) : CellsAt w E 0 ⟨x0, x1, x2, x3, x4, x5, x6⟩ := ⟨h.cell 0, h.cell 1, h.cell 2, h.cell 3, h.cell 4, h.cell 5, h.cell 6⟩
theorem exF_nest {W : World} {F : Nat → Prop} {x : EX} {b : Nat} {c : C7} (hb : F b) (hc : CellsAt W b 0 c) (hx : ExF W F x c) :
    ExF W F (.mk 6 E0 E0 E0 [] (some x) []) ⟨.int .i64 6, .string E0, .string E0, .string E0, .slice none 0 0, .pointer (some ⟨b, 0, none⟩), .slice none 0 0⟩ := by
  rw [ExF]
  refine ⟨rfl, rfl, rfl, rfl, LieN.nil _, ?_, ⟨none, 0, rfl, Nat.le_refl _, Nat.zero_le _, fun h => absurd h (by simp)⟩⟩
  simp only [OF]
  exact ⟨b, 0, c, rfl, hb, hc, hx⟩
theorem nest_val (P : Nat → Res) (i : Nat) : (nestS P i).isSome = (P i).isSome ∧ ∀ x m, nestS P i = some (x, m) → ∃ y, P i = some (y, m) ∧ x = .mk 6 E0 E0 E0 [] (some y) [] := by
  unfold nestS
  cases h : P i with
  | none => exact ⟨rfl, fun x m h => by cases h⟩
  | some p => obtain ⟨y, m⟩ := p; exact ⟨rfl, fun x m h => by cases h; exact ⟨y, rfl, rfl⟩⟩
set_option maxHeartbeats 2000000 in
set_option maxRecDepth 100000 in
theorem nest_way {rb : Nat} {s : ByteArray} {d : Nat} {P : Nat → Res} (hd : d ≤ 4000) (hP : WayTo rb s 25 #[pt rb, .int .i64 ((d + 1 : Nat) : Int)] P) (k1 k2 i : Nat) (w : World) (hr : Rd rb s i w) (hi : i ≤ s.size)
    (h1 : BoxAt w k1 #[pt rb] 88) (h2 : BoxAt w k2 #[.int .i64 d] 3) :
    Calls Tryz.prog 101 #[pt k1, pt k2] w (Got rb s w (nestS P i)) := by
  have hP2 := fun W h => hP i W h hi
  rw [show ((d + 1 : Nat) : Int) = (d : Int) + 1 by omega] at hP2
  obtain ⟨hR2, hR3⟩ := nest_val P i
  obtain ⟨R, hR1⟩ : ∃ R, nestS P i = R := ⟨_, rfl⟩
  obtain ⟨r, hrr⟩ : ∃ r, P i = r := ⟨_, rfl⟩
  rw [hrr] at hP2 hR2 hR3
  rw [hR1] at hR2 hR3 ⊢
  have HP := Lib.hid hP2
  have HR2 := Lib.hid hR2
  have HR3 := Lib.hid hR3
  have HR := Lib.hid hr
  have hlt := hr.lt
  have c1 := h1.cell 0
  have c2 := h2.cell 0
  have hl1 := h1.lt
  have hl2 := h2.lt
  simp at c1 c2
  have hd0 : (d : Int) ≤ 4000 := by omega
  clear hP hP2 hrr hR1 hR2 hR3 hr h1 h2
  unfold pt at *
  go_enter Tryz.func101, Tryz.ntmps101
  go_wp2_with fail
  go_at_call 25
  refine (HP.out _ (HR.out.alloc _)).mono ?_
  rintro e w1 ⟨h1, k, t, n, a, A1, n1, c1', p, A2, n2, c2', j, rfl, h2, hj, h3⟩
  have HK := Lib.hid (((Kp.refl rb w).alloc (Nat.le_of_lt hlt) _).trans h1)
  have hc := BoxAt.kp (BoxAt.new w zE 29) h1 (by omega)
  have hl := hc.lt
  have HC := Lib.hid hc
  have H2 := Lib.hid h2
  have H3 := Lib.hid h3
  have hlr := h2.lt
  obtain ⟨q0, q1, q2, q3, q4, q5, q6, p0, p1, p2, p3, p4, p5, p6⟩ := cells7 hc
  unfold exV
  clear h1 h2 h3 hc HP
  go_wp2
  refine end7w Tryz.results101 ((box_set7 HC.out _ _ _ _ _ _ _).alloc _) rfl rfl rfl (got_end ((HK.out.set7 (Nat.le_refl _) hlt _ _ _ _ _ _ _).alloc (by rw [set7_size]; omega) _) ((H2.out.set7 (by omega) _ _ _ _ _ _ _).alloc _) hj HR2.out.symm (fun x m h => ?_))
  obtain ⟨y, hy, rfl⟩ := HR3.out x m h
  obtain ⟨h4, h5⟩ := H3.out y m hy
  refine ⟨h4, exF_nest (b := w1.heap.size) ?_ (cells_box (t := 29) ?_) (ExF.carry (fun q hq => ?_) _ _ h5)⟩
  · exact ⟨Nat.le_of_lt hl, by simp⟩
  · have := BoxAt.new (set7 w1 w.heap.size (.int .i64 6) (.string ⟨#[]⟩) (.string ⟨#[]⟩) (.string ⟨#[]⟩) (.slice none 0 0) (.pointer (some ⟨w1.heap.size, 0, none⟩)) (.slice none 0 0)) #[.int .i64 k, .string t, .string n, .string a, .slice A1 n1 c1', .pointer p, .slice A2 n2 c2'] 29
    rw [set7_size] at this
    exact this
  · obtain ⟨hq1, hq2⟩ := hq
    rw [World.size_alloc] at hq1
    have hq3 : q < (set7 w1 w.heap.size (.int .i64 6) (.string ⟨#[]⟩) (.string ⟨#[]⟩) (.string ⟨#[]⟩) (.slice none 0 0) (.pointer (some ⟨w1.heap.size, 0, none⟩)) (.slice none 0 0)).heap.size := by rw [set7_size]; exact hq2
    exact ⟨⟨by omega, by rw [World.size_alloc]; exact Nat.lt_succ_of_lt hq3⟩, (Lib.alloc_old _ _ q hq3).trans (set7_heap _ _ _ _ _ _ _ _ _ q (by omega))⟩
theorem head_or (P : Nat → Res) (s : ByteArray) (i : Nat) : orAll [quoS s, varS s, nestS P, terS s, refS 3 s, nubS s] i = headS P s i := by
  unfold orAll orAll orAll orAll orAll orAll orAll headS
  rw [Option.or_none]
def headV (rb k1 k2 : Nat) : List Value := [.func (.func 103) #[pt rb] #[], .func (.func 104) #[pt rb] #[], .func (.func 101) #[] #[pt k1, pt k2],
  .func (.func 105) #[pt rb] #[], .func (.func 106) #[pt rb] #[], .func (.func 107) #[pt rb] #[]]
theorem head_first {rb : Nat} {s : ByteArray} {d : Nat} {P : Nat → Res} (hs : s.size ≤ 1000000) (hd : d ≤ 4000) (hP : WayTo rb s 25 #[pt rb, .int .i64 ((d + 1 : Nat) : Int)] P) (L k1 k2 i : Nat) (w : World) (hr : Rd rb s i w) (hi : i ≤ s.size)
    (h1 : BoxAt w k1 #[pt rb] 88) (h2 : BoxAt w k2 #[.int .i64 d] 3) (hL : BoxAt w L (headV rb k1 k2).toArray 149) (n1 : k1 ≠ rb) (n2 : k2 ≠ rb) (n3 : L ≠ rb) :
    Calls Tryz.prog 102 #[pt rb, .slice (some ⟨L, 0, none⟩) 6 6] w (Got0 rb s w (orAll [quoS s, varS s, nestS P, terS s, refS 3 s, nubS s] i)) := by
  refine first_any (by omega) (headV rb k1 k2) _ L 6 i w hr hi rfl (by unfold headV; simp) (fun j fv h => ?_) (BoxAt.lt hL) n3 (fun j fv f h1' h2' => ?_)
  · rw [BoxAt.cell hL j, List.getElem?_toArray]
    exact h
  · match j with
    | 0 => cases h1'; cases h2'; exact ⟨_, _, _, rfl, fun args w => by go_simp, fun W i _ hr hi => quoted_way hs i W hr hi⟩
    | 1 => cases h1'; cases h2'; exact ⟨_, _, _, rfl, fun args w => by go_simp, fun W i _ hr hi => variable_way (by omega) i W hr hi⟩
    | 2 => cases h1'; cases h2'; exact ⟨_, _, _, rfl, fun args w => by go_simp, fun W i hk hr hi => nest_way hd hP k1 k2 i W hr hi (h1.kp hk n1) (h2.kp hk n2)⟩
    | 3 => cases h1'; cases h2'; exact ⟨_, _, _, rfl, fun args w => by go_simp, fun W i _ hr hi => term_way (by omega) i W hr hi⟩
    | 4 => cases h1'; cases h2'; exact ⟨_, _, _, rfl, fun args w => by go_simp, fun W i _ hr hi => message_way (by omega) i W hr hi⟩
    | 5 => cases h1'; cases h2'; exact ⟨_, _, _, rfl, fun args w => by go_simp, fun W i _ hr hi => number_way (by omega) i W hr hi⟩
    | j + 6 => cases h1'
set_option maxHeartbeats 4000000 in
set_option maxRecDepth 100000 in
theorem head_way {rb : Nat} {s : ByteArray} {d : Nat} {P : Nat → Res} (hs : s.size ≤ 1000000) (hd : d ≤ 4000) (hP : WayTo rb s 25 #[pt rb, .int .i64 ((d + 1 : Nat) : Int)] P) : ∀ (i : Nat) (w : World), Rd rb s i w → i ≤ s.size → Calls Tryz.prog 75 #[pt rb, .int .i64 d] w (Got0 rb s w (headS P s i)) := by
  intro i w hr hi
  have hlt := hr.lt
  have hF := head_first hs hd hP (w.heap.size + 1 + 1 + 1) w.heap.size (w.heap.size + 1) i ((((w.alloc (.cells #[pt rb] 88)).alloc (.cells #[.int .i64 d] 3)).alloc (.cells zE 29)).alloc (.cells (headV rb w.heap.size (w.heap.size + 1)).toArray 149))
    ((((hr.alloc _).alloc _).alloc _).alloc _) hi ((((BoxAt.new w _ _).alloc _).alloc _).alloc _) ((((BoxAt.new' (w.alloc (.cells #[pt rb] 88)) (w.heap.size + 1) _ _ (by simp)).alloc _).alloc _)) (BoxAt.new' _ _ _ _ (by simp)) (by omega) (by omega) (by omega)
  have HR := Lib.hid hr
  rw [← head_or]
  obtain ⟨R, hR⟩ : ∃ R, orAll [quoS s, varS s, nestS P, terS s, refS 3 s, nubS s] i = R := ⟨_, rfl⟩
  rw [hR] at hF ⊢
  have hd0 : (d : Int) ≤ 4000 := by omega
  unfold headV pt at hF
  have HF := Lib.hid hF
  clear hP hr hR hF
  unfold pt
  go_enter Tryz.func75, Tryz.ntmps75
  go_wp2_with fail
  go_at_call 102
  refine HF.out.mono ?_
  rintro e w1 ⟨⟨h1, k, t, n, a, A1, n1, c1', p, A2, n2, c2', j, rfl, h2, hj, h3⟩, hz⟩
  have HZ := Lib.hid hz
  have hs0 : rb ≤ w.heap.size := Nat.le_of_lt hlt
  have HK := Lib.hid ((((((Kp.refl rb w).alloc hs0 _).alloc (by simp; omega) _).alloc (by simp; omega) _).alloc (by simp; omega) _).trans h1)
  have hc := BoxAt.kp ((BoxAt.new' ((w.alloc (.cells #[.pointer (some ⟨rb, 0, none⟩)] 88)).alloc (.cells #[.int .i64 d] 3)) (w.heap.size + 1 + 1) zE 29 (by simp)).alloc _) h1 (by omega)
  have hl := hc.lt
  have HC := Lib.hid hc
  have H2 := Lib.hid h2
  have H3 := Lib.hid h3
  obtain ⟨q0, q1, q2, q3, q4, q5, q6, p0, p1, p2, p3, p4, p5, p6⟩ := cells7 hc
  unfold exV
  clear h1 h2 h3 hc hz
  go_wp2
  exact end7 Tryz.results75 HC.out rfl rfl rfl rfl (And.intro (got_fin (b := w.heap.size + 1 + 1) HK.out (by omega) hlt H2.out hj rfl (fun x m h => ⟨(H3.out x m h).1, ExF.carry (fun q hq => by
    obtain ⟨hq1, hq2⟩ := hq
    simp only [World.size_alloc] at hq1
    exact ⟨⟨⟨by omega, hq2⟩, by omega⟩, rfl⟩) _ _ (H3.out x m h).2⟩)) HZ.out)
end Go.Proofs.YtnogdojdjehakaaGreatDoor

/-
  Package expr: opens.
-/
namespace Go.Proofs.YtnogdojdjehakaaGreatDoor
open Go.RowKit
set_option linter.unusedVariables false
set_option linter.unusedSimpArgs false

/-- What opens makes: the reader goes on, and a message's name is made a function's. -/
def Opened (rb : Nat) (s : ByteArray) (w : World) (eb eo : Nat) (isF o : Bool) (j : Nat) (e : Ending) (w' : World) : Prop :=
  e = .returned (.bool o) ∧ ∃ wm, Kp rb w wm ∧ Rd rb s j wm ∧ j ≤ s.size ∧ w' = (if isF && o then wm.setCell ⟨eb, eo, none⟩ (.int .i64 5) else wm)
theorem bl_ok (s : ByteArray) (i : Nat) (hi : i ≤ s.size) : i ≤ bl s i ∧ bl s i ≤ s.size := ⟨behN_ge _ _ _, by have := behN_le blB s.data.toList i (by rw [size_data]; exact hi); rw [size_data] at this; exact this⟩
set_option maxHeartbeats 4000000 in
set_option maxRecDepth 100000 in
theorem opens_any {rb : Nat} {s : ByteArray} (hs : s.size ≤ 1000000) (k : Int) (t n a : ByteArray) (al : List AR) (ie : Option EX) (vs : List VA) (eb eo i : Nat) (w : World) (hr : Rd rb s i w) (hi : i ≤ s.size) (hn : n.size ≤ 4000000)
    (hb : eb < w.heap.size) (hne : eb ≠ rb) (h0 : w.cell? ⟨eb, eo, none⟩ = some (.int .i64 k)) (h2 : w.cell? ⟨eb, eo + 2, none⟩ = some (.string n)) (h3 : w.cell? ⟨eb, eo + 3, none⟩ = some (.string a)) (hf : w.frozen? ⟨eb, eo, none⟩ = false) :
    Calls Tryz.prog 76 #[pt rb, .pointer (some ⟨eb, eo, none⟩)] w (Opened rb s w eb eo (isFuncS (.mk k t n a al ie vs)) (opnS s (.mk k t n a al ie vs) i).1 (opnS s (.mk k t n a al ie vs) i).2) := by
  have HR := Lib.hid hr
  have hlt := hr.lt
  have hB := bl_ok s i hi
  have hP := fun W (h : Rd rb s i W) => pass_any endBlank W h (by omega) hi
  have hT := fun W (h : Rd rb s (bl s i) W) => take_any 40 W h (by omega) hB.2
  have hBig := fun W => big_any n W (by omega)
  unfold opnS
  rw [show isTermS (.mk k t n a al ie vs) = (k == 4) from rfl, show isFuncS (.mk k t n a al ie vs) = ((k == 3) && emp a && bigV n) from rfl]
  obtain ⟨m, hm⟩ : ∃ m, bl s i = m := ⟨_, rfl⟩
  rw [hm] at hB hP hT ⊢
  obtain ⟨b, hbb⟩ : ∃ b, isAt s m 40 = b := ⟨_, rfl⟩
  have hm1 : b = true → m + 1 ≤ s.size := fun h => isAt_lt (hbb.trans h)
  rw [hbb] at hT ⊢
  obtain ⟨q, hq⟩ : ∃ q, bigV n = q := ⟨_, rfl⟩
  rw [hq] at hBig ⊢
  obtain ⟨g, hg⟩ : ∃ g, emp a = g := ⟨_, rfl⟩
  have hg2 : a.toList.isEmpty = g := hg
  rw [hg]
  obtain ⟨isF, hisF⟩ : ∃ x, ((k == 3) && g && q) = x := ⟨_, rfl⟩
  rw [hisF]
  obtain ⟨oj, hoj⟩ : ∃ oj : Bool × Nat, (if isF || (k == 4) then (if b then (true, m + 1) else (false, m)) else (false, i)) = oj := ⟨_, rfl⟩
  rw [hoj]
  have HJ := Lib.hid hoj
  have HF := Lib.hid hisF
  have HM1 := Lib.hid hm1
  have HP := Lib.hid hP
  have HT := Lib.hid hT
  have HBig := Lib.hid hBig
  clear hm hP hT hbb hq hBig hg hr hoj hisF hm1
  unfold pt at HP HT ⊢
  by_cases h34 : k = 3 ∨ k = 4
  case neg =>
    have z3 : (k == 3) = false := beq_eq_false_iff_ne.2 (fun h => h34 (.inl h))
    have z4 : (k == 4) = false := beq_eq_false_iff_ne.2 (fun h => h34 (.inr h))
    have y4 : (k != 4) = true := by rw [bne, z4]; rfl
    have HZ := Lib.hid (And.intro z3 z4)
    clear h34
    go_enter Tryz.func76, Tryz.ntmps76
    go_wp2
    go_ret
    obtain rfl := HF.out
    obtain rfl := HJ.out
    rw [HZ.out.1, HZ.out.2]
    exact ⟨rfl, w, Kp.refl _ _, HR.out, hi, rfl⟩
  rcases h34 with rfl | rfl
  · cases g
    case false =>
      go_enter Tryz.func76, Tryz.ntmps76
      go_wp2
      go_ret
      obtain rfl := HF.out
      obtain rfl := HJ.out
      exact ⟨rfl, w, Kp.refl _ _, HR.out, hi, rfl⟩
    cases q
    case false =>
      go_enter Tryz.func76, Tryz.ntmps76
      go_wp2_with fail
      go_at_call 108
      refine (HBig.out _).mono ?_
      rintro e w' ⟨rfl, rfl⟩
      go_wp2
      go_ret
      obtain rfl := HF.out
      obtain rfl := HJ.out
      exact ⟨rfl, w, Kp.refl _ _, HR.out, hi, rfl⟩
    go_enter Tryz.func76, Tryz.ntmps76
    go_wp2_with fail
    go_at_call 108
    refine (HBig.out _).mono ?_
    rintro e w' ⟨rfl, rfl⟩
    go_wp2_with fail
    go_at_call 49
    refine (HP.out _ HR.out).mono ?_
    rintro e w1 ⟨rfl, g1, g2⟩
    have G1 := Lib.hid g1
    have G2 := Lib.hid g2
    clear g1 g2
    go_wp2_with fail
    go_at_call 48
    refine (HT.out _ G1.out).mono ?_
    rintro e w2 ⟨rfl, g3, g4⟩
    have hk := G2.out.trans g4
    have k0 : w2.cell? ⟨eb, eo, none⟩ = some (.int .i64 3) := (cell_same (hk.others eb hb hne) eo).trans h0
    have f0 : w2.frozen? ⟨eb, eo, none⟩ = false := by
      have := hk.others eb hb hne
      unfold World.frozen? at hf ⊢
      rw [this]; exact hf
    have hb2 : eb < w2.heap.size := Nat.lt_of_lt_of_le hb hk.size
    have HK := Lib.hid hk
    have G3 := Lib.hid g3
    clear g3 g4 hk
    cases b
    case false =>
      go_wp2
      go_ret
      obtain rfl := HF.out
      obtain rfl := HJ.out
      exact ⟨rfl, w2, HK.out, by simpa using G3.out, hB.2, rfl⟩
    go_wp2
    go_ret
    obtain rfl := HF.out
    obtain rfl := HJ.out
    exact ⟨rfl, w2, HK.out, by simpa using G3.out, by simpa using HM1.out, rfl⟩
  · go_enter Tryz.func76, Tryz.ntmps76
    go_wp2_with fail
    go_at_call 49
    refine (HP.out _ HR.out).mono ?_
    rintro e w1 ⟨rfl, g1, g2⟩
    have G1 := Lib.hid g1
    have G2 := Lib.hid g2
    clear g1 g2
    go_wp2_with fail
    go_at_call 48
    refine (HT.out _ G1.out).mono ?_
    rintro e w2 ⟨rfl, g3, g4⟩
    have HK := Lib.hid (G2.out.trans g4)
    have G3 := Lib.hid g3
    clear g3 g4
    cases b
    case false =>
      go_wp2
      go_ret
      obtain rfl := HF.out
      obtain rfl := HJ.out
      exact ⟨rfl, w2, HK.out, by simpa using G3.out, hB.2, rfl⟩
    go_wp2
    go_ret
    obtain rfl := HF.out
    obtain rfl := HJ.out
    exact ⟨rfl, w2, HK.out, by simpa using G3.out, by simpa using HM1.out, rfl⟩
end Go.Proofs.YtnogdojdjehakaaGreatDoor

/-
  Package expr: named, argument.
-/
namespace Go.Proofs.YtnogdojdjehakaaGreatDoor
open Go.RowKit
set_option linter.unusedVariables false
set_option linter.unusedSimpArgs false

abbrev zA : Array Value := #[.string ⟨#[]⟩, .int .i64 0, .string ⟨#[]⟩, .string ⟨#[]⟩, .string ⟨#[]⟩, .slice none 0 0, .pointer none, .slice none 0 0]
theorem cells8 {w : World} {k : Nat} {x0 x1 x2 x3 x4 x5 x6 x7 : Value} {t : TypeId} (h : BoxAt w k #[x0, x1, x2, x3, x4, x5, x6, x7] t) :
    w.cell? ⟨k, 0, none⟩ = some x0 ∧ w.cell? ⟨k, 1, none⟩ = some x1 ∧ w.cell? ⟨k, 2, none⟩ = some x2 ∧ w.cell? ⟨k, 3, none⟩ = some x3 ∧ w.cell? ⟨k, 4, none⟩ = some x4 ∧ w.cell? ⟨k, 5, none⟩ = some x5 ∧ w.cell? ⟨k, 6, none⟩ = some x6 ∧ w.cell? ⟨k, 7, none⟩ = some x7 ∧
    w.frozen? ⟨k, 0, none⟩ = false ∧ w.frozen? ⟨k, 1, none⟩ = false ∧ w.frozen? ⟨k, 2, none⟩ = false ∧ w.frozen? ⟨k, 3, none⟩ = false ∧ w.frozen? ⟨k, 4, none⟩ = false ∧ w.frozen? ⟨k, 5, none⟩ = false ∧ w.frozen? ⟨k, 6, none⟩ = false ∧ w.frozen? ⟨k, 7, none⟩ = false :=
  ⟨h.cell 0, h.cell 1, h.cell 2, h.cell 3, h.cell 4, h.cell 5, h.cell 6, h.cell 7, Lib.frozen_of_heap h 0, Lib.frozen_of_heap h 1, Lib.frozen_of_heap h 2, Lib.frozen_of_heap h 3, Lib.frozen_of_heap h 4, Lib.frozen_of_heap h 5, Lib.frozen_of_heap h 6, Lib.frozen_of_heap h 7⟩
def set8 (w : World) (b : Nat) (x0 x1 x2 x3 x4 x5 x6 x7 : Value) : World := (set7 w b x0 x1 x2 x3 x4 x5 x6).setCell ⟨b, 7, none⟩ x7
theorem set8_heap (w : World) (b : Nat) (x0 x1 x2 x3 x4 x5 x6 x7 : Value) (k : Nat) (hk : k ≠ b) : (set8 w b x0 x1 x2 x3 x4 x5 x6 x7).heap[k]? = w.heap[k]? := by
  unfold set8
  rw [Below.heap_setCell _ _ _ k hk, set7_heap _ _ _ _ _ _ _ _ _ k hk]
theorem set8_size (w : World) (b : Nat) (x0 x1 x2 x3 x4 x5 x6 x7 : Value) : (set8 w b x0 x1 x2 x3 x4 x5 x6 x7).heap.size = w.heap.size := by
  unfold set8; simp [set7_size]
theorem Kp.set8 {rb : Nat} {a w : World} (h : Kp rb a w) {b : Nat} (hb : a.heap.size ≤ b) (hr : rb < a.heap.size) (x0 x1 x2 x3 x4 x5 x6 x7 : Value) : Kp rb a (set8 w b x0 x1 x2 x3 x4 x5 x6 x7) := (h.set7 hb hr x0 x1 x2 x3 x4 x5 x6).setNew hb hr 7 x7
theorem Rd.set8 {rb : Nat} {s : ByteArray} {i : Nat} {w : World} (h : Rd rb s i w) {b : Nat} (hb : rb ≠ b) (x0 x1 x2 x3 x4 x5 x6 x7 : Value) : Rd rb s i (set8 w b x0 x1 x2 x3 x4 x5 x6 x7) := (h.set7 hb x0 x1 x2 x3 x4 x5 x6).setOther hb 7 x7
theorem box_set8 {w : World} {E : Nat} {x0 x1 x2 x3 x4 x5 x6 x7 : Value} {t : TypeId} (h : BoxAt w E #[x0, x1, x2, x3, x4, x5, x6, x7] t) (y0 y1 y2 y3 y4 y5 y6 y7 : Value) :
    BoxAt (set8 w E y0 y1 y2 y3 y4 y5 y6 y7) E #[y0, y1, y2, y3, y4, y5, y6, y7] t := by
  unfold set8 set7
  unfold BoxAt at h ⊢
  simp [World.setCell, Array.getElem?_modify, h]
set_option maxRecDepth 100000 in
theorem res8 {fn : Func} {A M : Nat} {tmps : Array Value} {w : World} {b : Nat} {x0 x1 x2 x3 x4 x5 x6 x7 v : Value} {t : TypeId} (hres : fn.results = #[.cell A 58, .tmp M]) (ha : tmps.getD A undef = .pointer (some ⟨b, 0, none⟩)) (hm : tmps.getD M undef = v)
    (hb : BoxAt w b #[x0, x1, x2, x3, x4, x5, x6, x7] t) : (results fn tmps).run Tryz.prog w = .ok (.tuple #[.agg #[x0, x1, x2, x3, x4, x5, x6, x7], v]) w := by
  obtain ⟨q0, q1, q2, q3, q4, q5, q6, q7, _⟩ := cells8 hb
  have ha' : tmps[A]?.getD undef = .pointer (some ⟨b, 0, none⟩) := by rw [← ha]; simp
  have hm' : tmps[M]?.getD undef = v := by rw [← hm]; simp
  simp [results, hres, ha', hm', go_sem, q0, q1, q2, q3, q4, q5, q6, q7]
theorem end8w {fn : Func} {R : Ending → World → Prop} {a : Act} {w2 : World} {A M b : Nat} {x0 x1 x2 x3 x4 x5 x6 x7 v : Value} {t : TypeId} (hres : fn.results = #[.cell A 58, .tmp M]) (hbox : BoxAt w2 b #[x0, x1, x2, x3, x4, x5, x6, x7] t)
    (ha : a.tmps.getD A undef = .pointer (some ⟨b, 0, none⟩)) (hm : a.tmps.getD M undef = v) (hd : a.defers = []) (hR : R (.returned (.tuple #[.agg #[x0, x1, x2, x3, x4, x5, x6, x7], v])) w2) : bodyPost Tryz.prog fn R .ret a w2 :=
  bodyPost_ret (res8 hres ha hm hbox) hd hR
/-- An argument as it is handed on. -/
def arV (X : ByteArray) (k : Int) (t n a : ByteArray) (A1 : Option Addr) (n1 c1 : Nat) (p : Option Addr) (A2 : Option Addr) (n2 c2 : Nat) : Value := .agg #[.string X, .int .i64 k, .string t, .string n, .string a, .slice A1 n1 c1, .pointer p, .slice A2 n2 c2]
/-- What reading an argument gives. -/
def GotA (rb : Nat) (s : ByteArray) (w : World) (r : Option (ByteArray × EX × Nat)) (e : Ending) (w' : World) : Prop :=
  Kp rb w w' ∧ ∃ (X : ByteArray) (k : Int) (t n a : ByteArray) (A1 : Option Addr) (n1 c1 : Nat) (p : Option Addr) (A2 : Option Addr) (n2 c2 : Nat) (j : Nat),
    e = .returned (.tuple #[arV X k t n a A1 n1 c1 p A2 n2 c2, .bool r.isSome]) ∧ Rd rb s j w' ∧ j ≤ s.size ∧ (r = none → k = 0) ∧
    ∀ x y m, r = some (x, y, m) → x = X ∧ m = j ∧ ExF w' (Since w.heap.size w') y ⟨.int .i64 k, .string t, .string n, .string a, .slice A1 n1 c1, .pointer p, .slice A2 n2 c2⟩
theorem named_first {rb : Nat} {s : ByteArray} (hs : s.size ≤ 1000000) (L i : Nat) (w : World) (hr : Rd rb s i w) (hi : i ≤ s.size)
    (hL : BoxAt w L #[.func (.func 103) #[pt rb] #[], .func (.func 107) #[pt rb] #[]] 149) (n3 : L ≠ rb) :
    Calls Tryz.prog 102 #[pt rb, .slice (some ⟨L, 0, none⟩) 2 2] w (Got0 rb s w ((quoS s i).or (nubS s i))) := by
  have h := first_any (by omega) [.func (.func 103) #[pt rb] #[], .func (.func 107) #[pt rb] #[]] [quoS s, nubS s] L 2 i w hr hi rfl (by simp) (fun j fv h => ?_) (BoxAt.lt hL) n3 (fun j fv f h1' h2' => ?_)
  · unfold orAll orAll orAll at h
    rw [Option.or_none] at h
    exact h
  · rw [BoxAt.cell hL j, List.getElem?_toArray]
    exact h
  · match j with
    | 0 => cases h1'; cases h2'; exact ⟨_, _, _, rfl, fun args w => by go_simp, fun W i _ hr hi => quoted_way hs i W hr hi⟩
    | 1 => cases h1'; cases h2'; exact ⟨_, _, _, rfl, fun args w => by go_simp, fun W i _ hr hi => number_way (by omega) i W hr hi⟩
    | j + 2 => cases h1'
theorem nam_val (s : ByteArray) (i j k m : Nat) (hj : nm s i = j) (hk : bl s j = k) (hm : bl s (k + 1) = m) (hne : j ≠ i) (hc : isAt s k 58 = true) (r : Res) (hr : (quoS s m).or (nubS s m) = r) :
    (namS s i).isSome = r.isSome ∧ ∀ x y q, namS s i = some (x, y, q) → x = s.extract i j ∧ r = some (y, q) := by
  unfold namS
  rw [hj, if_neg hne, hk, hc, if_pos rfl, hm, hr]
  cases r with
  | none => exact ⟨rfl, fun x y q h => by cases h⟩
  | some p => obtain ⟨e, q'⟩ := p; exact ⟨rfl, fun x y q h => by cases h; exact ⟨rfl, rfl⟩⟩
set_option maxHeartbeats 4000000 in
set_option maxRecDepth 100000 in
theorem named_any {rb : Nat} {s : ByteArray} (hs : s.size ≤ 1000000) (i : Nat) (w : World) (hr : Rd rb s i w) (hi : i ≤ s.size) : Calls Tryz.prog 109 #[pt rb] w (GotA rb s w (namS s i)) := by
  have hn := nm_ok s i hi
  have he := ext_empty s i (nm s i) hn.1 hn.2
  have hP := fun W (h : Rd rb s i W) => pass_any endName W h (by omega) hi
  obtain ⟨j, hj⟩ : ∃ j, nm s i = j := ⟨_, rfl⟩
  rw [hj] at hn he hP
  obtain ⟨X, hX⟩ : ∃ X, s.extract i j = X := ⟨_, rfl⟩
  rw [hX] at he hP
  have hB := bl_ok s j hn.2
  have hP2 := fun W (h : Rd rb s j W) => pass_any endBlank W h (by omega) hn.2
  obtain ⟨k, hk⟩ : ∃ k, bl s j = k := ⟨_, rfl⟩
  rw [hk] at hB hP2
  have hT := fun W (h : Rd rb s k W) => take_any 58 W h (by omega) hB.2
  obtain ⟨b, hb⟩ : ∃ b, isAt s k 58 = b := ⟨_, rfl⟩
  have hk1 : b = true → k + 1 ≤ s.size := fun h => isAt_lt (hb.trans h)
  rw [hb] at hT
  have HP := Lib.hid hP
  have HP2 := Lib.hid hP2
  have HT := Lib.hid hT
  have HR := Lib.hid hr
  have hlt := hr.lt
  have HE := Lib.hid he
  unfold pt at HP HP2 HT ⊢
  by_cases hbad : j = i ∨ b = false
  · have hnone : namS s i = none := by
      unfold namS
      rw [hj]
      rcases hbad with h | h
      · rw [if_pos h]
      · rw [hk, hb, h]; simp
    rw [hnone]
    have Hb := Lib.hid hbad
    clear hP hP2 hT hr he hj hX hk hb hnone hbad hk1
    cases hx : X.toList.isEmpty
    case true =>
      go_enter Tryz.func109, Tryz.ntmps109
      go_wp2_with fail
      go_at_call 49
      refine (HP.out _ (HR.out.alloc _)).mono ?_
      rintro e w1 ⟨rfl, g1, g2⟩
      have G1 := Lib.hid g1
      have G2 := Lib.hid (((Kp.refl rb w).alloc (Nat.le_of_lt hlt) _).trans g2)
      have hc := BoxAt.kp (BoxAt.new w zA 58) g2 (by omega)
      have hcl := hc.lt
      have HC := Lib.hid hc
      clear g1 g2 hc
      go_wp2_with fail
      go_at_call 49
      refine (HP2.out _ G1.out).mono ?_
      rintro e w2 ⟨rfl, g3, g4⟩
      have G3 := Lib.hid g3
      have HK := Lib.hid (G2.out.trans g4)
      have hc2 := BoxAt.kp HC.out g4 (by omega)
      have hcl2 := hc2.lt
      have HC2 := Lib.hid hc2
      obtain ⟨q0, q1, q2, q3, q4, q5, q6, q7, p0, p1, p2, p3, p4, p5, p6, p7⟩ := cells8 hc2
      clear g3 g4 hc2
      go_wp2
      exact end8w Tryz.results109 (box_set8 HC2.out _ _ _ _ _ _ _ _) rfl rfl rfl ⟨HK.out.set8 (Nat.le_refl _) hlt _ _ _ _ _ _ _ _, _, _, _, _, _, _, _, _, _, _, _, _, k, rfl, G3.out.set8 (by omega) _ _ _ _ _ _ _ _, hB.2, fun _ => rfl, fun x y m h => by cases h⟩
    have hb0 : b = false := by
      rcases Hb.out with h | h
      · have := HE.out; rw [hx, decide_eq_true h] at this; cases this
      · exact h
    subst hb0
    clear Hb
    go_enter Tryz.func109, Tryz.ntmps109
    go_wp2_with fail
    go_at_call 49
    refine (HP.out _ (HR.out.alloc _)).mono ?_
    rintro e w1 ⟨rfl, g1, g2⟩
    have G1 := Lib.hid g1
    have G2 := Lib.hid (((Kp.refl rb w).alloc (Nat.le_of_lt hlt) _).trans g2)
    have hc := BoxAt.kp (BoxAt.new w zA 58) g2 (by omega)
    have hcl := hc.lt
    have HC := Lib.hid hc
    clear g1 g2 hc
    go_wp2_with fail
    go_at_call 49
    refine (HP2.out _ G1.out).mono ?_
    rintro e w2 ⟨rfl, g3, g4⟩
    have G3 := Lib.hid g3
    have HK := Lib.hid (G2.out.trans g4)
    have hc2 := BoxAt.kp HC.out g4 (by omega)
    have hcl2 := hc2.lt
    have HC2 := Lib.hid hc2
    clear g3 g4 hc2
    go_wp2_with fail
    go_at_call 48
    refine (HT.out _ G3.out).mono ?_
    rintro e w3 ⟨rfl, g5, g6⟩
    have G5 := Lib.hid (show Rd rb s k w3 by simpa using g5)
    have HK3 := Lib.hid (HK.out.trans g6)
    have hc3 := BoxAt.kp HC2.out g6 (by omega)
    have hcl3 := hc3.lt
    have HC3 := Lib.hid hc3
    obtain ⟨q0, q1, q2, q3, q4, q5, q6, q7, p0, p1, p2, p3, p4, p5, p6, p7⟩ := cells8 hc3
    clear g5 g6 hc3
    go_wp2
    exact end8w Tryz.results109 (box_set8 HC3.out _ _ _ _ _ _ _ _) rfl rfl rfl ⟨HK3.out.set8 (Nat.le_refl _) hlt _ _ _ _ _ _ _ _, _, _, _, _, _, _, _, _, _, _, _, _, k, rfl, G5.out.set8 (by omega) _ _ _ _ _ _ _ _, hB.2, fun _ => rfl, fun x y m h => by cases h⟩
  · have hne : j ≠ i := fun h => hbad (.inl h)
    have hb1 : b = true := by cases b; exact absurd (.inr rfl) hbad; rfl
    subst hb1
    have hx : X.toList.isEmpty = false := by rw [HE.out, decide_eq_false hne]
    have hk2 := hk1 rfl
    have hB3 := bl_ok s (k + 1) hk2
    have hP3 := fun W (h : Rd rb s (k + 1) W) => pass_any endBlank W h (by omega) hk2
    obtain ⟨m, hm⟩ : ∃ m, bl s (k + 1) = m := ⟨_, rfl⟩
    rw [hm] at hB3 hP3
    have hF := fun L W h1 h2 h3 => named_first (rb := rb) hs L m W h1 hB3.2 h2 h3
    obtain ⟨r, hrr⟩ : ∃ r, (quoS s m).or (nubS s m) = r := ⟨_, rfl⟩
    obtain ⟨hv1, hv2⟩ := nam_val s i j k m hj hk hm hne hb r hrr
    rw [hX] at hv2
    rw [hrr] at hF
    obtain ⟨R, hRR⟩ : ∃ R, namS s i = R := ⟨_, rfl⟩
    rw [hRR] at hv1 hv2 ⊢
    have HV1 := Lib.hid hv1
    have HV2 := Lib.hid hv2
    have HP3 := Lib.hid hP3
    have HF := Lib.hid hF
    unfold pt at HP3 HF
    clear hP hP2 hT hr he hj hX hk hb hbad hk1 hP3 hm hF hrr hv1 hv2 hRR
    go_enter Tryz.func109, Tryz.ntmps109
    go_wp2_with fail
    go_at_call 49
    refine (HP.out _ (HR.out.alloc _)).mono ?_
    rintro e w1 ⟨rfl, g1, g2⟩
    have G1 := Lib.hid g1
    have G2 := Lib.hid (((Kp.refl rb w).alloc (Nat.le_of_lt hlt) _).trans g2)
    have hc := BoxAt.kp (BoxAt.new w zA 58) g2 (by omega)
    have hcl := hc.lt
    have HC := Lib.hid hc
    clear g1 g2 hc
    go_wp2_with fail
    go_at_call 49
    refine (HP2.out _ G1.out).mono ?_
    rintro e w2 ⟨rfl, g3, g4⟩
    have G3 := Lib.hid g3
    have HK := Lib.hid (G2.out.trans g4)
    have hc2 := BoxAt.kp HC.out g4 (by omega)
    have hcl2 := hc2.lt
    have HC2 := Lib.hid hc2
    clear g3 g4 hc2
    go_wp2_with fail
    go_at_call 48
    refine (HT.out _ G3.out).mono ?_
    rintro e w3 ⟨rfl, g5, g6⟩
    have G5 := Lib.hid (show Rd rb s (k + 1) w3 by simpa using g5)
    have HK3 := Lib.hid (HK.out.trans g6)
    have hc3 := BoxAt.kp HC2.out g6 (by omega)
    have hcl3 := hc3.lt
    have HC3 := Lib.hid hc3
    clear g5 g6 hc3
    go_wp2_with fail
    go_at_call 49
    refine (HP3.out _ G5.out).mono ?_
    rintro e w4 ⟨rfl, g7, g8⟩
    have HK4 := Lib.hid (HK3.out.trans g8)
    have hc4 := BoxAt.kp HC3.out g8 (by omega)
    have hcl4 := hc4.lt
    have HC4 := Lib.hid hc4
    have hl4 := g7.lt
    have HFF := Lib.hid (HF.out w4.heap.size (w4.alloc (.cells #[.func (.func 103) #[pt rb] #[], .func (.func 107) #[pt rb] #[]] 149)) (g7.alloc _) (BoxAt.new _ _ _) (by omega))
    unfold pt at HFF
    clear g7 g8 hc4
    go_wp2_with fail
    go_at_call 102
    refine HFF.out.mono ?_
    rintro e w5 ⟨⟨h1, k', t, n, a, A1, n1, c1', p, A2, n2, c2', j', rfl, h2, hj', h3⟩, hz⟩
    have HK5 := Lib.hid ((HK4.out.alloc (Nat.le_of_lt hl4) _).trans h1)
    have hc5 := BoxAt.kp (HC4.out.alloc (.cells #[.func (.func 103) #[pt rb] #[], .func (.func 107) #[pt rb] #[]] 149)) h1 (by omega)
    have hcl5 := hc5.lt
    have HC5 := Lib.hid hc5
    have H2 := Lib.hid h2
    have H3 := Lib.hid h3
    have HZ := Lib.hid hz
    have hs4 := h1.size
    rw [World.size_alloc] at hs4
    obtain ⟨q0, q1, q2, q3, q4, q5, q6, q7, p0, p1, p2, p3, p4, p5, p6, p7⟩ := cells8 hc5
    unfold exV
    clear h1 h2 h3 hz hc5
    go_wp2
    refine end8w Tryz.results109 ((box_set8 HC5.out _ _ _ _ _ _ _ _).alloc _) rfl rfl rfl ⟨(HK5.out.set8 (Nat.le_refl _) hlt _ _ _ _ _ _ _ _).alloc (by rw [set8_size]; omega) _, X, k', t, n, a, A1, n1, c1', p, A2, n2, c2', j', by rw [HV1.out]; rfl, (H2.out.set8 (by omega) _ _ _ _ _ _ _ _).alloc _, hj', fun h => ?_, fun x y q h => ?_⟩
    · have hr0 : r = none := by
        have := HV1.out
        rw [h] at this
        cases r with
        | none => rfl
        | some p => cases this
      have h1 := HZ.out hr0
      simp [exV] at h1
      exact h1.1.1
    · obtain ⟨rfl, hr0⟩ := HV2.out x y q h
      obtain ⟨h4, h5⟩ := H3.out y q hr0
      refine ⟨rfl, h4, ExF.carry (fun z hq => ?_) _ _ h5⟩
      obtain ⟨hq1, hq2⟩ := hq
      rw [World.size_alloc] at hq1
      have hq3 : z < (set8 w5 w.heap.size (.string x) (.int .i64 k') (.string t) (.string n) (.string a) (.slice A1 n1 c1') (.pointer p) (.slice A2 n2 c2')).heap.size := by rw [set8_size]; exact hq2
      exact ⟨⟨by omega, by rw [World.size_alloc]; exact Nat.lt_succ_of_lt hq3⟩, (Lib.alloc_old _ _ z hq3).trans (set8_heap _ _ _ _ _ _ _ _ _ _ z (by omega))⟩
theorem arg_val (P : Nat → Res) (s : ByteArray) (i : Nat) (h : namS s i = none) : (argS P s i).isSome = (headS P s i).isSome ∧ ∀ x y q, argS P s i = some (x, y, q) → x = E0 ∧ headS P s i = some (y, q) := by
  unfold argS
  rw [h]
  cases headS P s i with
  | none => exact ⟨rfl, fun x y q h => by cases h⟩
  | some p => obtain ⟨e, q'⟩ := p; exact ⟨rfl, fun x y q h => by cases h; exact ⟨rfl, rfl⟩⟩
theorem arg_nam (P : Nat → Res) (s : ByteArray) (i : Nat) (x : ByteArray × EX × Nat) (h : namS s i = some x) : argS P s i = some x := by
  unfold argS; rw [h]
set_option maxHeartbeats 4000000 in
set_option maxRecDepth 100000 in
theorem argument_any {rb : Nat} {s : ByteArray} {d : Nat} {P : Nat → Res} (hs : s.size ≤ 1000000) (hd : d ≤ 4000) (hP : WayTo rb s 25 #[pt rb, .int .i64 ((d + 1 : Nat) : Int)] P) (i : Nat) (w : World) (hr : Rd rb s i w) (hi : i ≤ s.size) :
    Calls Tryz.prog 78 #[pt rb, .int .i64 d] w (GotA rb s w (argS P s i)) := by
  have hN := fun W h => named_any (rb := rb) hs i W h hi
  have hH := fun W h => head_way (rb := rb) hs hd hP i W h hi
  have hv := arg_val P s i
  have hv2 := arg_nam P s i
  obtain ⟨R, hRR⟩ : ∃ R, argS P s i = R := ⟨_, rfl⟩
  obtain ⟨r, hrr⟩ : ∃ r, namS s i = r := ⟨_, rfl⟩
  obtain ⟨q, hq⟩ : ∃ q, headS P s i = q := ⟨_, rfl⟩
  rw [hrr] at hN hv hv2
  rw [hq] at hH hv
  rw [hRR] at hv hv2 ⊢
  have HN := Lib.hid hN
  have HH := Lib.hid hH
  have HR := Lib.hid hr
  have HV := Lib.hid hv
  have HV2 := Lib.hid hv2
  have hlt := hr.lt
  have c1 := hr.c1
  have f1 := hr.f 1
  have hi0 : (i : Int) ≤ 1000000 := by omega
  clear hP hN hH hv hv2 hRR hrr hq hr
  unfold pt at HN HH ⊢
  go_enter Tryz.func78, Tryz.ntmps78
  go_wp2_with fail
  go_at_call 109
  refine (HN.out _ (HR.out.alloc _)).mono ?_
  rintro e w1 ⟨h1, X, k, t, n, a, A1, n1, c1', p, A2, n2, c2', j, rfl, h2, hj, hz, h3⟩
  have HK := Lib.hid (((Kp.refl rb w).alloc (Nat.le_of_lt hlt) _).trans h1)
  have hc := BoxAt.kp (BoxAt.new w zA 58) h1 (by omega)
  have hl := hc.lt
  have HC := Lib.hid hc
  have H2 := Lib.hid h2
  have H3 := Lib.hid h3
  have hlr := h2.lt
  have d1 := h2.c1
  have e1 := h2.f 1
  unfold arV
  cases r with
  | some x =>
    have hR : R = some x := HV2.out x rfl
    subst hR
    obtain ⟨q0, q1, q2, q3, q4, q5, q6, q7, p0, p1, p2, p3, p4, p5, p6, p7⟩ := cells8 hc
    clear h1 h2 h3 hc hz
    go_wp2
    refine end8w Tryz.results78 ((box_set8 HC.out _ _ _ _ _ _ _ _).alloc _) rfl rfl rfl ⟨(HK.out.set8 (Nat.le_refl _) hlt _ _ _ _ _ _ _ _).alloc (by rw [set8_size]; omega) _, X, k, t, n, a, A1, n1, c1', p, A2, n2, c2', j, rfl, (H2.out.set8 (by omega) _ _ _ _ _ _ _ _).alloc _, hj, (fun h => by cases h), fun x y q h => ?_⟩
    obtain ⟨h4, h5, h6⟩ := H3.out x y q h
    refine ⟨h4, h5, ExF.carry (fun z hq => ?_) _ _ h6⟩
    obtain ⟨hq1, hq2⟩ := hq
    rw [World.size_alloc] at hq1
    have hq3 : z < (set8 w1 w.heap.size (.string X) (.int .i64 k) (.string t) (.string n) (.string a) (.slice A1 n1 c1') (.pointer p) (.slice A2 n2 c2')).heap.size := by rw [set8_size]; exact hq2
    exact ⟨⟨by omega, by rw [World.size_alloc]; exact Nat.lt_succ_of_lt hq3⟩, (Lib.alloc_old _ _ z hq3).trans (set8_heap _ _ _ _ _ _ _ _ _ _ z (by omega))⟩
  | none =>
    clear h1 h2 h3 hc hz
    have hv := (HV.out rfl).1
    have hv3 := (HV.out rfl).2
    have Hv := Lib.hid hv
    have Hv3 := Lib.hid hv3
    have hsz1 : (w1.setCell ⟨rb, 1, none⟩ (.int .i64 (i : Nat))).heap.size = w1.heap.size := by simp
    have HB := Lib.hid (HH.out ((w1.setCell ⟨rb, 1, none⟩ (.int .i64 (i : Nat))).alloc (.cells #[.string X, .int .i64 k, .string t, .string n, .string a, .slice A1 n1 c1', .pointer p, .slice A2 n2 c2'] 58)) ((H2.out.set i).alloc _))
    have HK2 := Lib.hid ((HK.out.setCell 1 (.int .i64 (i : Nat))).alloc (by rw [hsz1]; omega) (.cells #[.string X, .int .i64 k, .string t, .string n, .string a, .slice A1 n1 c1', .pointer p, .slice A2 n2 c2'] 58))
    have HC2 := Lib.hid ((BoxAt.setOther HC.out ⟨rb, 1, none⟩ (.int .i64 (i : Nat)) (by show w.heap.size ≠ rb; omega)).alloc (.cells #[.string X, .int .i64 k, .string t, .string n, .string a, .slice A1 n1 c1', .pointer p, .slice A2 n2 c2'] 58))
    clear hv hv3 HV HV2
    go_wp2_with fail
    go_at_call 75
    refine HB.out.mono ?_
    rintro e w2 ⟨⟨h1, k', t', n', a', B1, m1, b1, p', B2, m2, b2, j', rfl, h2, hj', h3⟩, hz⟩
    have HK3 := Lib.hid (HK2.out.trans h1)
    have hc3 := BoxAt.kp HC2.out h1 (by omega)
    have hl3 := hc3.lt
    have HC3 := Lib.hid hc3
    have H22 := Lib.hid h2
    have H33 := Lib.hid h3
    have HZ := Lib.hid hz
    have hs1 := h1.size
    rw [World.size_alloc, hsz1] at hs1
    obtain ⟨q0, q1, q2, q3, q4, q5, q6, q7, p0, p1, p2, p3, p4, p5, p6, p7⟩ := cells8 hc3
    unfold exV
    clear h1 h2 h3 hz hc3 HB
    go_wp2
    refine end8w Tryz.results78 ((box_set8 HC3.out _ _ _ _ _ _ _ _).alloc _) rfl rfl rfl ⟨(HK3.out.set8 (Nat.le_refl _) hlt _ _ _ _ _ _ _ _).alloc (by rw [set8_size]; omega) _, E0, k', t', n', a', B1, m1, b1, p', B2, m2, b2, j', by rw [Hv.out]; rfl, (H22.out.set8 (by omega) _ _ _ _ _ _ _ _).alloc _, hj', fun h => ?_, fun x y z h => ?_⟩
    · have hr0 : q = none := by
        have := Hv.out
        rw [h] at this
        cases q with
        | none => rfl
        | some p => cases this
      have h1 := HZ.out hr0
      simp [exV] at h1
      exact h1.1.1
    · obtain ⟨rfl, hr0⟩ := Hv3.out x y z h
      obtain ⟨h4, h5⟩ := H33.out y z hr0
      refine ⟨rfl, h4, ExF.carry (fun z hq => ?_) _ _ h5⟩
      obtain ⟨hq1, hq2⟩ := hq
      rw [World.size_alloc, hsz1] at hq1
      have hq3 : z < (set8 w2 w.heap.size (.string E0) (.int .i64 k') (.string t') (.string n') (.string a') (.slice B1 m1 b1) (.pointer p') (.slice B2 m2 b2)).heap.size := by rw [set8_size]; exact hq2
      exact ⟨⟨by omega, by rw [World.size_alloc]; exact Nat.lt_succ_of_lt hq3⟩, (Lib.alloc_old _ _ z hq3).trans (set8_heap _ _ _ _ _ _ _ _ _ _ z (by omega))⟩
end Go.Proofs.YtnogdojdjehakaaGreatDoor

/-
  Contract of package scan: Line; the law's head; ScanLines.
-/
namespace Go.Proofs.YtnogdojdjehakaaGreatDoor
open Go.RowKit

def nlB (c : UInt8) : Bool := !(c == 10)
/-- Where a line ends. -/
def lineI (l : List UInt8) (i : Int) : Int := if 0 ≤ i ∧ i < l.length then (behN nlB l i.toNat : Int) else i
theorem index_line : ∀ l : List UInt8, (Lib.indexByte l 10 = -1 ∧ (l.takeWhile nlB).length = l.length) ∨ (0 ≤ Lib.indexByte l 10 ∧ Lib.indexByte l 10 = ((l.takeWhile nlB).length : Int))
  | [] => .inl ⟨rfl, rfl⟩
  | c :: l => by
    rw [List.takeWhile_cons, Lib.indexByte]
    by_cases h : c = 10
    · subst h
      right
      exact ⟨by simp, by simp [nlB]⟩
    · have h1 : (c == 10) = false := by simpa using h
      have h2 : nlB c = true := by simp [nlB, h1]
      rw [h1, h2]
      simp only [Bool.false_eq_true, if_false, if_true]
      rcases index_line l with ⟨a, b⟩ | ⟨a, b⟩
      · left
        rw [a]
        exact ⟨by simp, by simp [b]⟩
      · right
        have : (Lib.indexByte l 10 == -1) = false := by simp; omega
        rw [this]
        simp only [Bool.false_eq_true, if_false, List.length_cons]
        omega
set_option maxHeartbeats 1000000 in
theorem line_any (s : ByteArray) (i : Int) (w : World) (hs : s.size ≤ 9223372036854775807) :
    Calls Tryz.prog 82 #[.string s, .int .i64 i] w fun e w' => e = .returned (.int .i64 (lineI s.data.toList i)) ∧ w = w' := by
  by_cases hin : 0 ≤ i ∧ i < s.size
  · obtain ⟨h0, h1⟩ := hin
    obtain ⟨j, rfl⟩ : ∃ j : Nat, i = (j : Int) := ⟨i.toNat, by omega⟩
    have hj : j < s.size := by omega
    have e : lineI s.data.toList (j : Int) = (behN nlB s.data.toList j : Int) := by
      unfold lineI
      rw [if_pos ⟨h0, by rw [size_data]; exact h1⟩, Int.toNat_natCast]
    have hx := index_line (s.data.toList.drop j)
    have hI := fun W => Tryz.strings_IndexByte (s.extract j s.size) 10 W
    rw [extract_drop] at hI
    rw [show (10 : Int).toNat.toUInt8 = 10 from rfl] at hI
    unfold behN at e
    have hlen : (s.data.toList.drop j).length = s.size - j := by rw [List.length_drop, size_data]
    have htl : ((s.data.toList.drop j).takeWhile nlB).length ≤ s.size - j := by rw [← hlen]; exact takeWhile_le _ _
    rw [hlen] at hx
    generalize Lib.indexByte (s.data.toList.drop j) 10 = n at *
    generalize ((s.data.toList.drop j).takeWhile nlB).length = m at *
    have E := Lib.hid e
    have HI := Lib.hid hI
    clear e hI hlen
    rcases hx with ⟨rfl, hm⟩ | ⟨hn, rfl⟩
    · have Hm := Lib.hid hm
      clear hm
      go_enter Tryz.func82, Tryz.ntmps82
      go_wp2_with (first | (go_at_call 100; refine (within_yes _ _ _ h0 h1).mono ?_; rintro e w' ⟨rfl, rfl⟩) | (go_at_call 89; refine (HI.out _).mono ?_; rintro e w' ⟨rfl, rfl⟩))
      go_ret
      exact ⟨ret_int (by rw [E.out, Hm.out]; omega), rfl⟩
    · go_enter Tryz.func82, Tryz.ntmps82
      go_wp2_with (first | (go_at_call 100; refine (within_yes _ _ _ h0 h1).mono ?_; rintro e w' ⟨rfl, rfl⟩) | (go_at_call 89; refine (HI.out _).mono ?_; rintro e w' ⟨rfl, rfl⟩))
      go_ret
      exact ⟨ret_int (by rw [E.out]; omega), rfl⟩
  · have e : lineI s.data.toList i = i := by
      unfold lineI
      rw [if_neg]
      rw [size_data]
      exact hin
    have E := Lib.hid e
    clear e
    go_enter Tryz.func82, Tryz.ntmps82
    go_wp2_with (go_at_call 100; refine (within_no _ _ _ (by omega)).mono ?_; rintro e w' ⟨rfl, rfl⟩)
    go_ret
    exact ⟨ret_int E.out.symm, rfl⟩
end Go.Proofs.YtnogdojdjehakaaGreatDoor

/-
  Attributes in memory; an entry as a value.
-/
namespace Go.Proofs.YtnogdojdjehakaaGreatDoor
open Go.RowKit
set_option linter.unusedVariables false
set_option linter.unusedSimpArgs false

/-- An attribute. -/
inductive AT where
  | mk (name : ByteArray) (value : List EL)
def sizeTs : List AT → Nat
  | [] => 0
  | .mk n v :: r => 1 + n.size + sizeEs v + sizeTs r
def TsAt (W : World) : List AT → Nat → Nat → Prop
  | [], _, _ => True
  | .mk n v :: r, b, o => b < W.heap.size ∧ W.cell? ⟨b, o, none⟩ = some (.string n) ∧ (∃ u, W.cell? ⟨b, o + 1, none⟩ = some u ∧ PatAt W v u) ∧ TsAt W r b (o + 2)
theorem TsAt.get {W : World} : ∀ {l : List AT} {b o : Nat} (j : Nat) {t : ByteArray} {v : List EL}, TsAt W l b o → l[j]? = some (.mk t v) →
    b < W.heap.size ∧ W.cell? ⟨b, o + j * 2, none⟩ = some (.string t) ∧ ∃ u, W.cell? ⟨b, o + j * 2 + 1, none⟩ = some u ∧ PatAt W v u
  | [], b, o, j, t, p, h, hj => by simp at hj
  | .mk t' p' :: r, b, o, 0, t, p, h, hj => by
    rw [TsAt] at h
    simp at hj
    obtain ⟨rfl, rfl⟩ := hj
    obtain ⟨h0, h1, h2, _⟩ := h
    exact ⟨h0, by simpa using h1, by simpa using h2⟩
  | .mk t' p' :: r, b, o, j + 1, t, p, h, hj => by
    rw [TsAt] at h
    have := TsAt.get j h.2.2.2 (by simpa using hj)
    rw [show o + (j + 1) * 2 = o + 2 + j * 2 by omega]
    exact this
theorem ats_get {W0 : World} {l : List AT} {v : Value} (h : LieAt (TsAt W0 l) v l.length) {i : Nat} (hi : i < l.length) : ∃ b o c, v = .slice (some ⟨b, o, none⟩) l.length c ∧ b < W0.heap.size ∧
    ∀ j t p, l[j]? = some (.mk t p) → W0.cell? ⟨b, o + j * 2, none⟩ = some (.string t) ∧ ∃ u, W0.cell? ⟨b, o + j * 2 + 1, none⟩ = some u ∧ PatAt W0 p u := by
  obtain ⟨A, c, rfl, _, _, h2⟩ := h
  obtain ⟨b, o, rfl, h3⟩ := h2 (by omega)
  have h0 : l[0]? = some l[0] := List.getElem?_eq_getElem (by omega)
  refine ⟨b, o, c, rfl, ?_, fun j t p hj => ⟨(h3.get j hj).2.1, (h3.get j hj).2.2⟩⟩
  cases e : l[0]'(by omega) with
  | mk t p => rw [e] at h0; exact (h3.get 0 h0).1
theorem sizeTs_length : ∀ l : List AT, l.length ≤ sizeTs l
  | [] => Nat.zero_le _
  | .mk t p :: r => by have := sizeTs_length r; rw [sizeTs, List.length_cons]; omega
theorem sizeTs_append : ∀ a b : List AT, sizeTs (a ++ b) = sizeTs a + sizeTs b
  | [], b => by rw [List.nil_append, sizeTs]; omega
  | .mk t p :: r, b => by rw [List.cons_append, sizeTs, sizeTs, sizeTs_append r b]; omega
theorem sizeTs_take (l : List AT) (i : Nat) : sizeTs (l.take i) ≤ sizeTs l := by
  have := sizeTs_append (l.take i) (l.drop i)
  rw [List.take_append_drop] at this
  omega
/-- An entry as it is handed on. -/
def entV (ty level : Int) (text name : ByteArray) (v u : Value) (fr tu : Int) : Value := .agg #[.int .i64 ty, .int .i64 level, .string text, .string name, v, u, .int .i64 fr, .int .i64 tu]
end Go.Proofs.YtnogdojdjehakaaGreatDoor

/-
  Package entry: what is read, as functions of the text and the place.
-/
namespace Go.Proofs.YtnogdojdjehakaaGreatDoor
open Go.RowKit
set_option linter.unusedVariables false
set_option linter.unusedSimpArgs false

/-- Where a line ends; where the next one begins. -/
def li (s : ByteArray) (i : Nat) : Nat := behN nlB s.data.toList i
def beh (s : ByteArray) (i : Nat) : Nat := if li s i < s.size then li s i + 1 else s.size
theorem li_ok (s : ByteArray) (i : Nat) (hi : i ≤ s.size) : i ≤ li s i ∧ li s i ≤ s.size := ⟨behN_ge _ _ _, by have := behN_le nlB s.data.toList i (by rw [size_data]; exact hi); rw [size_data] at this; exact this⟩
theorem beh_ok (s : ByteArray) (i : Nat) (hi : i ≤ s.size) : i ≤ beh s i ∧ beh s i ≤ s.size ∧ (i < s.size → i < beh s i) := by
  have := li_ok s i hi
  unfold beh
  split <;> omega
def passE (s : ByteArray) (i : Nat) : Nat :=
  if h : i < s.size then
    if sp s i < s.size ∧ isAt s (sp s i) 10 = false then i
    else if h2 : i < beh s (sp s i) then passE s (beh s (sp s i)) else i
  else i
termination_by s.size - i
decreasing_by omega
def mayB (s : ByteArray) (i : Nat) : Bool := isAt s i 35 || isAt s i 45 || decide (i < nm s i)
def junkTo (s : ByteArray) (i : Nat) : Nat :=
  if h : i < s.size ∧ mayB s i = false then
    if h2 : i < beh s i then junkTo s (beh s i) else i
  else i
termination_by s.size - i
decreasing_by omega
/-- A name and a pattern up to a line's end. -/
def namedS (s : ByteArray) (i : Nat) : Option (ByteArray × List EL × Nat) :=
  if nm s i = i then none
  else if isAt s (sp s (nm s i)) 61 then
    match patS (placeS s 20) s (sp s (nm s i) + 1) with
    | none => none
    | some (l, e) => if e = s.size ∨ isAt s e 10 = true then some (s.extract i (nm s i), l, e) else none
  else none
def attrS (s : ByteArray) (i : Nat) : Option (ByteArray × List EL × Nat) :=
  if isAt s (bl s i) 46 && (at0 s.data.toList (bl s i - 1) == 32) then
    match namedS s (bl s i + 1) with
    | none => none
    | some (x, l, e) => if l.isEmpty then none else some (x, l, e)
  else none
def atsS (s : ByteArray) (acc : List AT) (i : Nat) : List AT × Nat :=
  match attrS s i with
  | none => (acc, i)
  | some (x, l, e) => if h : i < e ∧ e ≤ s.size then atsS s (acc ++ [.mk x l]) e else (acc, i)
termination_by s.size - i
decreasing_by omega
/-- An entry, and where it stands. -/
structure EN where
  ty : Int
  lv : Int
  tx : ByteArray
  nm : ByteArray
  val : List EL
  ats : List AT
  fr : Nat
  tu : Nat
def msgS (s : ByteArray) (i : Nat) : Option EN :=
  match namedS s (if isAt s i 45 then i + 1 else i) with
  | none => none
  | some (x, l, e) =>
    if !l.isEmpty || (!isAt s i 45 && !(atsS s [] e).1.isEmpty) then some ⟨if isAt s i 45 then 2 else 1, 0, E0, x, l, (atsS s [] e).1, i, beh s (atsS s [] e).2⟩ else none
def junkS (s : ByteArray) (i : Nat) : EN := ⟨3, 0, s.extract i (junkTo s (beh s i)), E0, [], [], i, junkTo s (beh s i)⟩
end Go.Proofs.YtnogdojdjehakaaGreatDoor

/-
  Package entry: comments and whole texts, as functions of the text and the place.
-/
namespace Go.Proofs.YtnogdojdjehakaaGreatDoor
open Go.RowKit
set_option linter.unusedVariables false
set_option linter.unusedSimpArgs false

def hsB (c : UInt8) : Bool := c == 35
def hs (s : ByteArray) (i : Nat) : Nat := behN hsB s.data.toList i
/-- A comment line's level, and its text; level 0: it is none. -/
def comL (s : ByteArray) (i : Nat) : Nat × ByteArray :=
  if 3 < hs s i - i ∨ (hs s i < li s i ∧ isAt s (hs s i) 32 = false) then (0, E0)
  else (hs s i - i, if hs s i < li s i then s.extract (hs s i + 1) (li s i) else E0)
/-- The lines that follow one of that level, and its text. -/
def comGo (s : ByteArray) (lv : Nat) (acc : List ByteArray) (k : Nat) (w : ByteArray) : List ByteArray × Nat :=
  if h : (comL s (beh s k)).1 = lv ∧ k < beh s k ∧ beh s k ≤ s.size then comGo s lv (acc ++ [w]) (beh s k) (comL s (beh s k)).2
  else (acc ++ [w], beh s k)
termination_by s.size - k
decreasing_by omega
def comS (s : ByteArray) (i : Nat) : Option EN :=
  if (comL s i).1 = 0 then none
  else some ⟨0, (comL s i).1, mkB (Lib.join ((comGo s (comL s i).1 [] i (comL s i).2).1.map (·.data.toList)) [10]), E0, [], [], i, (comGo s (comL s i).1 [] i (comL s i).2).2⟩
def readS (s : ByteArray) (i : Nat) : EN := match comS s i with
  | some x => x
  | none => match msgS s i with
    | some x => x
    | none => junkS s i
def parseGo (s : ByteArray) (acc : List EN) (i : Nat) : List EN :=
  if h : i < s.size ∧ i < passE s (readS s i).tu then parseGo s (acc ++ [readS s i]) (passE s (readS s i).tu) else acc
termination_by s.size - i
decreasing_by omega
def parseS (s : ByteArray) : List EN := parseGo s [] (passE s 0)
end Go.Proofs.YtnogdojdjehakaaGreatDoor

/-
  Package entry: behindLine, passEmpty, mayBegin, junk.
-/
namespace Go.Proofs.YtnogdojdjehakaaGreatDoor
open Go.RowKit
set_option linter.unusedVariables false
set_option linter.unusedSimpArgs false

theorem line_nat (s : ByteArray) (i : Nat) (hs : s.size ≤ 4000000) (hi : i ≤ s.size) (w : World) : Calls Tryz.prog 82 #[.string s, .int .i64 i] w fun e w' => e = .returned (.int .i64 (li s i : Nat)) ∧ w = w' := by
  have h := line_any s (i : Int) w (by omega)
  have e : lineI s.data.toList (i : Int) = (li s i : Nat) := by
    unfold lineI li
    by_cases hl : i < s.size
    · rw [if_pos ⟨by omega, by rw [size_data]; omega⟩, Int.toNat_natCast]
    · rw [if_neg (by rw [size_data]; omega)]
      have := behN_end nlB s.data.toList i (by rw [size_data]; omega)
      rw [this]
  rw [e] at h
  exact h
set_option maxHeartbeats 1000000 in
theorem behind_any (s : ByteArray) (i : Nat) (hs : s.size ≤ 4000000) (hi : i ≤ s.size) (w : World) : Calls Tryz.prog 63 #[.string s, .int .i64 i] w fun e w' => e = .returned (.int .i64 (beh s i : Nat)) ∧ w = w' := by
  have hL := fun W => line_nat s i hs hi W
  have hok := li_ok s i hi
  obtain ⟨l, hl⟩ : ∃ l, li s i = l := ⟨_, rfl⟩
  unfold beh
  rw [hl] at hL hok ⊢
  have HL := Lib.hid hL
  have hl0 : (l : Int) ≤ 4000000 := by omega
  clear hL hl
  by_cases h : l < s.size
  · rw [if_pos h]
    have h1 : ((l : Int) + 1) ≤ (s.size : Int) := by omega
    have h2 : min ((l : Int) + 1) (s.size : Int) = (l : Int) + 1 := by omega
    go_enter Tryz.func63, Tryz.ntmps63
    go_wp2_with fail
    go_at_call 82
    refine (HL.out _).mono ?_
    rintro e w' ⟨rfl, rfl⟩
    go_wp2
    go_ret
    exact ⟨by go_num, rfl⟩
  · rw [if_neg h]
    have h0 : l = s.size := by omega
    have h1 : ¬ ((l : Int) + 1) ≤ (s.size : Int) := by omega
    have h2 : min ((l : Int) + 1) (s.size : Int) = (s.size : Int) := by omega
    clear h0
    go_enter Tryz.func63, Tryz.ntmps63
    go_wp2_with fail
    go_at_call 82
    refine (HL.out _).mono ?_
    rintro e w' ⟨rfl, rfl⟩
    go_wp2
    go_ret
    exact ⟨rfl, rfl⟩
theorem isAt_get (s : ByteArray) (q : Nat) (hc : q < s.size) (c : UInt8) : isAt s q c = ((s[q]'hc).toNat == c.toNat) := by
  unfold isAt at0
  rw [decide_eq_true hc, Bool.true_and, List.getD_eq_getElem?_getD, List.getElem?_eq_getElem (by rw [size_data]; exact hc), Option.getD_some, Bool.eq_iff_iff, beq_iff_eq, beq_iff_eq]
  exact ⟨fun h => by rw [show (s.data.toList[q]'(by rw [size_data]; exact hc)) = s[q]'hc from rfl] at h; rw [h], fun h => UInt8.toNat_inj.1 h⟩
theorem passE_go (s : ByteArray) (i : Nat) (hi : i < s.size) (h : ¬ (sp s i < s.size ∧ isAt s (sp s i) 10 = false)) : passE s i = passE s (beh s (sp s i)) ∧ i < beh s (sp s i) ∧ beh s (sp s i) ≤ s.size := by
  have h1 : i ≤ sp s i := sp_ge s i
  have h2 : sp s i ≤ s.size := by have := behN_le spB s.data.toList i (by rw [size_data]; omega); rw [size_data] at this; exact this
  have h3 := beh_ok s (sp s i) h2
  have h4 : i < beh s (sp s i) := by
    by_cases hl : sp s i < s.size
    · have := h3.2.2 hl; omega
    · unfold beh
      have := li_ok s (sp s i) h2
      rw [if_neg (by omega)]
      exact hi
  refine ⟨?_, h4, h3.2.1⟩
  rw [passE, dif_pos hi, if_neg h, dif_pos h4]
set_option maxHeartbeats 2000000 in
set_option maxRecDepth 100000 in
theorem passEmpty_any (s : ByteArray) (i : Nat) (hs : s.size ≤ 4000000) (hi : i ≤ s.size) (w : World) : Calls Tryz.prog 40 #[.string s, .int .i64 i] w fun e w' => e = .returned (.int .i64 (passE s i : Nat)) ∧ Below w.heap.size w w' := by
  have HS := Lib.hid (fun j W (hj : j ≤ s.size) => ((endSpaces (s := s)).2 j W hs hj).2.2)
  have HB := Lib.hid (fun j W (hj : j ≤ s.size) => behind_any s j hs hj W)
  obtain ⟨R, hR⟩ : ∃ R, passE s i = R := ⟨_, rfl⟩
  rw [hR]
  have HR := Lib.hid hR
  clear hR
  go_enter Tryz.func40, Tryz.ntmps40
  go_wp2
  go_loopw [1] (fun t1 wr => ∃ j : Nat, t1 = .int .i64 j ∧ j ≤ s.size ∧ Hid (passE s j = R) ∧ Hid (Below w.heap.size w wr)) (fun t1 _ => s.size - (intOf t1).toNat)
  case atStart => exact ⟨i, rfl, hi, HR, Below.refl _ _⟩
  case round =>
    obtain ⟨j, rfl, hj, HP, HBel⟩ := hrel
    have hj0 : (j : Int) ≤ 4000000 := by omega
    by_cases hlt : j < s.size
    · have d1 : decide ((j : Int) < (s.size : Int)) = true := decide_eq_true (by omega)
      have d2 : (j : Int) < (s.size : Int) := by omega
      have hS := fun W => HS.out j W hj
      have h2 : sp s j ≤ s.size := by have := behN_le spB s.data.toList j (by rw [size_data]; omega); rw [size_data] at this; exact this
      have hgo := passE_go s j hlt
      have hst : (sp s j < s.size ∧ isAt s (sp s j) 10 = false) → passE s j = j := fun h => by rw [passE, dif_pos hlt, if_pos h]
      have hBb := fun W => HB.out (sp s j) W h2
      obtain ⟨q, hq⟩ : ∃ q, sp s j = q := ⟨_, rfl⟩
      obtain ⟨nx, hnx⟩ : ∃ nx, beh s (sp s j) = nx := ⟨_, rfl⟩
      rw [hnx] at hgo hBb
      rw [hq] at hS h2 hgo hst hBb
      have HSj := Lib.hid hS
      have HBj := Lib.hid hBb
      have Hgo := Lib.hid hgo
      have Hst := Lib.hid hst
      have hq0 : (q : Int) ≤ 4000000 := by omega
      have hq1 : (0 : Int) ≤ (q : Int) := by omega
      clear hS hgo hst hBb hq hnx
      go_wp2_with fail
      go_at_call 62
      refine (HSj.out _).mono ?_
      rintro e w1 ⟨rfl, hb⟩
      have HB1 := Lib.hid (HBel.out.trans (hb.mono HBel.out.size))
      clear hb
      by_cases hc : q < s.size
      · have d3 : decide ((q : Int) < (s.size : Int)) = true := decide_eq_true (by omega)
        have d4 : (q : Int) < (s.size : Int) := by omega
        have e1 : isAt s q 10 = ((s[q]'hc).toNat == 10) := isAt_get s q hc 10
        by_cases hb10 : (s[q]'hc).toNat = 10
        · have d5 : (((s[q]'hc).toNat : Int) != 10) = false := by rw [bne_eq_false_iff_eq]; omega
          obtain ⟨h3, h4, h5⟩ := Hgo.out (fun h => by have := h.2; rw [e1, hb10] at this; cases this)
          have H3 := Lib.hid h3
          clear h3 e1 hb10
          go_wp2_with fail
          go_at_call 63
          refine (HBj.out _).mono ?_
          rintro e w2 ⟨rfl, rfl⟩
          go_wp2
          go_roundw
          case rel => exact ⟨nx, rfl, h5, H3.out.symm.trans HP.out, HB1⟩
          case measure => simp [intOf]; omega
        · have d5 : (((s[q]'hc).toNat : Int) != 10) = true := by rw [bne_iff_ne]; omega
          have h3 := Hst.out ⟨hc, by rw [e1, beq_eq_false_iff_ne]; exact hb10⟩
          have H3 := Lib.hid h3
          clear h3 e1 hb10
          go_wp2
          go_ret
          exact ⟨by rw [← HP.out, H3.out]; rfl, HB1.out⟩
      · have d3 : decide ((q : Int) < (s.size : Int)) = false := decide_eq_false (by omega)
        have d4 : ¬ (q : Int) < (s.size : Int) := by omega
        obtain ⟨h3, h4, h5⟩ := Hgo.out (fun h => hc h.1)
        have H3 := Lib.hid h3
        clear h3
        go_wp2_with fail
        go_at_call 63
        refine (HBj.out _).mono ?_
        rintro e w2 ⟨rfl, rfl⟩
        go_wp2
        go_roundw
        case rel => exact ⟨nx, rfl, h5, H3.out.symm.trans HP.out, HB1⟩
        case measure => simp [intOf]; omega
    · have d1 : decide ((j : Int) < (s.size : Int)) = false := decide_eq_false (by omega)
      have d2 : ¬ (j : Int) < (s.size : Int) := by omega
      have h3 : passE s j = j := by rw [passE, dif_neg hlt]
      have H3 := Lib.hid h3
      clear h3
      go_wp2
      go_ret
      exact ⟨by rw [← HP.out, H3.out]; rfl, HBel.out⟩
set_option maxHeartbeats 2000000 in
set_option maxRecDepth 100000 in
theorem mayBegin_any (s : ByteArray) (i : Nat) (hs : s.size ≤ 4000000) (hi : i < s.size) (w : World) : Calls Tryz.prog 87 #[.string s, .int .i64 i] w fun e w' => e = .returned (.bool (mayB s i)) ∧ Below w.heap.size w w' := by
  have hN := fun W => ((endName (s := s)).2 i W hs (Nat.le_of_lt hi)).2.2
  obtain ⟨m, hm⟩ : ∃ m, nm s i = m := ⟨_, rfl⟩
  have e1 := isAt_get s i hi 35
  have e2 := isAt_get s i hi 45
  unfold mayB
  rw [hm] at hN
  rw [e1, e2, hm]
  have HN := Lib.hid hN
  obtain ⟨c, hc⟩ : ∃ c, (s[i]'hi).toNat = c := ⟨_, rfl⟩
  rw [hc, show (35 : UInt8).toNat = 35 from rfl, show (45 : UInt8).toNat = 45 from rfl]
  have hi0 : (i : Int) < (s.size : Int) := by omega
  have hi1 : (0 : Int) ≤ (i : Int) := by omega
  clear hN e1 e2 hm
  by_cases h1 : c = 35
  · have d1 : ((c : Int) == 35) = true := beq_iff_eq.2 (by omega)
    have E : (c == 35 || c == 45 || decide (i < m)) = true := by rw [h1]; rfl
    rw [E]
    clear h1 E
    go_enter Tryz.func87, Tryz.ntmps87
    go_wp2
    go_ret
    exact ⟨rfl, Below.refl _ _⟩
  have d1 : ((c : Int) == 35) = false := beq_eq_false_iff_ne.2 (by omega)
  by_cases h2 : c = 45
  · have d2 : ((c : Int) == 45) = true := beq_iff_eq.2 (by omega)
    have E : (c == 35 || c == 45 || decide (i < m)) = true := by rw [h2]; rfl
    rw [E]
    clear h1 h2 E
    go_enter Tryz.func87, Tryz.ntmps87
    go_wp2
    go_ret
    exact ⟨rfl, Below.refl _ _⟩
  have d2 : ((c : Int) == 45) = false := beq_eq_false_iff_ne.2 (by omega)
  have E : (c == 35 || c == 45 || decide (i < m)) = decide (i < m) := by rw [beq_eq_false_iff_ne.2 h1, beq_eq_false_iff_ne.2 h2]; rfl
  rw [E]
  clear h1 h2 E
  go_enter Tryz.func87, Tryz.ntmps87
  go_wp2_with fail
  go_at_call 110
  refine (HN.out _).mono ?_
  rintro e w1 ⟨rfl, hb⟩
  have HB := Lib.hid hb
  clear hb
  go_wp2
  go_ret
  refine ⟨?_, HB.out⟩
  by_cases h : i < m
  · simp [h]
  · simp [h]
abbrev zEn : Array Value := #[.int .i64 0, .int .i64 0, .string ⟨#[]⟩, .string ⟨#[]⟩, .slice none 0 0, .slice none 0 0, .int .i64 0, .int .i64 0]
theorem junk_go (s : ByteArray) (i : Nat) (hi : i < s.size) : (mayB s i = true → junkTo s i = i) ∧ (mayB s i = false → junkTo s i = junkTo s (beh s i) ∧ i < beh s i ∧ beh s i ≤ s.size) := by
  have h := beh_ok s i (Nat.le_of_lt hi)
  refine ⟨fun hm => by rw [junkTo, dif_neg (by rw [hm]; simp)], fun hm => ⟨by rw [junkTo, dif_pos ⟨hi, hm⟩, dif_pos (h.2.2 hi)], h.2.2 hi, h.2.1⟩⟩
theorem junk_end (s : ByteArray) (i : Nat) (hi : ¬ i < s.size) : junkTo s i = i := by rw [junkTo, dif_neg (fun h => hi h.1)]
theorem cellsE {w : World} {k : Nat} {x0 x1 x2 x3 x4 x5 x6 x7 : Value} {t : TypeId} (h : BoxAt w k #[x0, x1, x2, x3, x4, x5, x6, x7] t) :
    w.cell? ⟨k, 0, none⟩ = some x0 ∧ w.cell? ⟨k, 1, none⟩ = some x1 ∧ w.cell? ⟨k, 2, none⟩ = some x2 ∧ w.cell? ⟨k, 3, none⟩ = some x3 ∧ w.cell? ⟨k, 4, none⟩ = some x4 ∧ w.cell? ⟨k, 5, none⟩ = some x5 ∧ w.cell? ⟨k, 6, none⟩ = some x6 ∧ w.cell? ⟨k, 7, none⟩ = some x7 ∧
    w.frozen? ⟨k, 0, none⟩ = false ∧ w.frozen? ⟨k, 1, none⟩ = false ∧ w.frozen? ⟨k, 2, none⟩ = false ∧ w.frozen? ⟨k, 3, none⟩ = false ∧ w.frozen? ⟨k, 4, none⟩ = false ∧ w.frozen? ⟨k, 5, none⟩ = false ∧ w.frozen? ⟨k, 6, none⟩ = false ∧ w.frozen? ⟨k, 7, none⟩ = false :=
  ⟨h.cell 0, h.cell 1, h.cell 2, h.cell 3, h.cell 4, h.cell 5, h.cell 6, h.cell 7, Lib.frozen_of_heap h 0, Lib.frozen_of_heap h 1, Lib.frozen_of_heap h 2, Lib.frozen_of_heap h 3, Lib.frozen_of_heap h 4, Lib.frozen_of_heap h 5, Lib.frozen_of_heap h 6, Lib.frozen_of_heap h 7⟩
set_option maxRecDepth 100000 in
theorem resE {fn : Func} {A : Nat} {tmps : Array Value} {w : World} {b : Nat} {x0 x1 x2 x3 x4 x5 x6 x7 : Value} {t : TypeId} (hres : fn.results = #[.cell A 45]) (ha : tmps.getD A undef = .pointer (some ⟨b, 0, none⟩))
    (hb : BoxAt w b #[x0, x1, x2, x3, x4, x5, x6, x7] t) : (results fn tmps).run Tryz.prog w = .ok (.agg #[x0, x1, x2, x3, x4, x5, x6, x7]) w := by
  obtain ⟨q0, q1, q2, q3, q4, q5, q6, q7, _⟩ := cellsE hb
  have ha' : tmps[A]?.getD undef = .pointer (some ⟨b, 0, none⟩) := by rw [← ha]; simp
  simp [results, hres, ha', go_sem, q0, q1, q2, q3, q4, q5, q6, q7]
theorem endE {fn : Func} {R : Ending → World → Prop} {a : Act} {w2 : World} {A b : Nat} {x0 x1 x2 x3 x4 x5 x6 x7 : Value} {t : TypeId} (hres : fn.results = #[.cell A 45]) (hbox : BoxAt w2 b #[x0, x1, x2, x3, x4, x5, x6, x7] t)
    (ha : a.tmps.getD A undef = .pointer (some ⟨b, 0, none⟩)) (hd : a.defers = []) (hR : R (.returned (.agg #[x0, x1, x2, x3, x4, x5, x6, x7])) w2) : bodyPost Tryz.prog fn R .ret a w2 :=
  bodyPost_ret (resE hres ha hbox) hd hR
theorem below_set8 {B : Nat} {a w : World} (h : Below B a w) {b : Nat} (hb : B ≤ b) (x0 x1 x2 x3 x4 x5 x6 x7 : Value) : Below B a (set8 w b x0 x1 x2 x3 x4 x5 x6 x7) :=
  (((((((h.setCell (p := ⟨b, 0, none⟩) hb x0).setCell (p := ⟨b, 1, none⟩) hb x1).setCell (p := ⟨b, 2, none⟩) hb x2).setCell (p := ⟨b, 3, none⟩) hb x3).setCell (p := ⟨b, 4, none⟩) hb x4).setCell (p := ⟨b, 5, none⟩) hb x5).setCell (p := ⟨b, 6, none⟩) hb x6).setCell (p := ⟨b, 7, none⟩) hb x7
set_option maxHeartbeats 2000000 in
set_option maxRecDepth 100000 in
theorem junk_any (s : ByteArray) (i : Nat) (hs : s.size ≤ 4000000) (hi : i < s.size) (w : World) : Calls Tryz.prog 66 #[.string s, .int .i64 i] w fun e w' => e = .returned (entV 3 0 (s.extract i (junkTo s (beh s i))) ⟨#[]⟩ (.slice none 0 0) (.slice none 0 0) i (junkTo s (beh s i) : Nat)) ∧ Below w.heap.size w w' := by
  have hB0 := fun W => behind_any s i hs (Nat.le_of_lt hi) W
  have hok := beh_ok s i (Nat.le_of_lt hi)
  have hok2 := hok.2.2 hi
  obtain ⟨b, hb⟩ : ∃ b, beh s i = b := ⟨_, rfl⟩
  rw [hb] at hB0 hok hok2 ⊢
  have HB0 := Lib.hid hB0
  have HB := Lib.hid (fun j W (hj : j ≤ s.size) => behind_any s j hs hj W)
  have HM := Lib.hid (fun j W (hj : j < s.size) => mayBegin_any s j hs hj W)
  obtain ⟨R, hR⟩ : ∃ R, junkTo s b = R := ⟨_, rfl⟩
  rw [hR]
  have HR := Lib.hid hR
  have hc0 := BoxAt.new w zEn 45
  have HC0 := Lib.hid hc0
  clear hB0 hb hR hc0
  unfold entV
  go_enter Tryz.func66, Tryz.ntmps66
  go_wp2_with fail
  go_at_call 63
  refine (HB0.out _).mono ?_
  rintro e w1 ⟨rfl, rfl⟩
  go_wp2
  go_loopw [5] (fun t5 wr => ∃ j : Nat, t5 = .int .i64 j ∧ i ≤ j ∧ j ≤ s.size ∧ Hid (junkTo s j = R) ∧ Hid (BoxAt wr w.heap.size zEn 45) ∧ Hid (Below w.heap.size w wr)) (fun t5 _ => s.size - (intOf t5).toNat)
  case atStart => exact ⟨b, rfl, hok.1, hok.2.1, HR, HC0.out, (Below.refl _ _).alloc (Nat.le_refl _) _⟩
  case round =>
    obtain ⟨j, rfl, hij, hj, HJ, HC, HBel⟩ := hrel
    have hj0 : (j : Int) ≤ 4000000 := by omega
    obtain ⟨q0, q1, q2, q3, q4, q5, q6, q7, p0, p1, p2, p3, p4, p5, p6, p7⟩ := cellsE HC.out
    have hlt0 := HC.out.lt
    by_cases hlt : j < s.size
    · have d1 : decide ((j : Int) < (s.size : Int)) = true := decide_eq_true (by omega)
      have d2 : (j : Int) < (s.size : Int) := by omega
      have hM := fun W => HM.out j W hlt
      have hgo := junk_go s j hlt
      have hBb := fun W => HB.out j W hj
      obtain ⟨b2, hb2⟩ : ∃ b, mayB s j = b := ⟨_, rfl⟩
      obtain ⟨nx, hnx⟩ : ∃ nx, beh s j = nx := ⟨_, rfl⟩
      rw [hb2] at hM hgo
      rw [hnx] at hgo hBb
      have HMj := Lib.hid hM
      have Hgo := Lib.hid hgo
      have HBj := Lib.hid hBb
      clear hM hgo hBb hb2 hnx
      go_wp2_with fail
      go_at_call 87
      refine (HMj.out _).mono ?_
      rintro e w2 ⟨rfl, hb⟩
      have HB2 := Lib.hid (HBel.out.trans (hb.mono HBel.out.size))
      have hc2 := HC.out.later hb
      have HC2 := Lib.hid hc2
      clear hb
      cases b2
      case false =>
        obtain ⟨h3, h4, h5⟩ := Hgo.out.2 rfl
        have H3 := Lib.hid h3
        clear h3 hc2
        go_wp2_with fail
        go_at_call 63
        refine (HBj.out _).mono ?_
        rintro e w3 ⟨rfl, rfl⟩
        go_wp2
        go_roundw
        case rel => exact ⟨nx, rfl, by omega, h5, H3.out.symm.trans HJ.out, HC2, HB2⟩
        case measure => simp [intOf]; omega
      case true =>
        have h3 := Hgo.out.1 rfl
        have hRj : R = j := HJ.out.symm.trans h3
        obtain ⟨r0, r1, r2, r3, r4, r5, r6, r7, f0, f1, f2, f3, f4, f5, f6, f7⟩ := cellsE hc2
        have hlt2 := hc2.lt
        have HRj := Lib.hid hRj
        clear h3 hc2 hRj q0 q1 q2 q3 q4 q5 q6 q7 p0 p1 p2 p3 p4 p5 p6 p7
        go_wp2
        refine endE Tryz.results66 (box_set8 HC2.out _ _ _ _ _ _ _ _) rfl rfl ⟨by rw [HRj.out], below_set8 HB2.out (Nat.le_refl _) _ _ _ _ _ _ _ _⟩
    · have d1 : decide ((j : Int) < (s.size : Int)) = false := decide_eq_false (by omega)
      have d2 : ¬ (j : Int) < (s.size : Int) := by omega
      have hRj : R = j := HJ.out.symm.trans (junk_end s j hlt)
      have HRj := Lib.hid hRj
      clear hRj
      go_wp2
      refine endE Tryz.results66 (box_set8 HC.out _ _ _ _ _ _ _ _) rfl rfl ⟨by rw [HRj.out], below_set8 HBel.out (Nat.le_refl _) _ _ _ _ _ _ _ _⟩
end Go.Proofs.YtnogdojdjehakaaGreatDoor

/-
  Package entry: commentLine.
-/
namespace Go.Proofs.YtnogdojdjehakaaGreatDoor
open Go.RowKit
set_option linter.unusedVariables false
set_option linter.unusedSimpArgs false

theorem tw_in {p q : UInt8 → Bool} (h : ∀ c, p c = true → q c = true) : ∀ l : List UInt8, (l.takeWhile q).takeWhile p = l.takeWhile p
  | [] => rfl
  | a :: l => by
    by_cases hp : p a = true
    · rw [List.takeWhile_cons, h a hp, if_pos rfl, List.takeWhile_cons, List.takeWhile_cons, hp, if_pos rfl, if_pos rfl, tw_in h l]
    · by_cases hq : q a = true
      · rw [List.takeWhile_cons, hq, if_pos rfl, List.takeWhile_cons, List.takeWhile_cons, if_neg hp, if_neg hp]
      · rw [List.takeWhile_cons, if_neg hq, List.takeWhile_cons, if_neg hp]; rfl
theorem dw_drop (p : UInt8 → Bool) : ∀ l : List UInt8, l.dropWhile p = l.drop (l.takeWhile p).length
  | [] => rfl
  | a :: l => by
    by_cases h : p a = true
    · rw [List.dropWhile_cons, List.takeWhile_cons, if_pos h, if_pos h, List.length_cons, List.drop_succ_cons, dw_drop p l]
    · rw [List.dropWhile_cons, List.takeWhile_cons, if_neg h, if_neg h]; rfl
theorem tw_take (q : UInt8 → Bool) (l : List UInt8) : l.take (l.takeWhile q).length = l.takeWhile q := by
  induction l with
  | nil => rfl
  | cons a l ih =>
    by_cases h : q a = true
    · rw [List.takeWhile_cons, if_pos h, List.length_cons, List.take_succ_cons, ih]
    · rw [List.takeWhile_cons, if_neg h]; rfl
theorem tw_len (p : UInt8 → Bool) : ∀ l : List UInt8, (l.takeWhile p).length ≤ l.length
  | [] => Nat.le_refl _
  | a :: l => by
    by_cases h : p a = true
    · rw [List.takeWhile_cons, if_pos h, List.length_cons, List.length_cons]; have := tw_len p l; omega
    · rw [List.takeWhile_cons, if_neg h]; exact Nat.zero_le _
theorem hs_ok (s : ByteArray) (i : Nat) (hi : i ≤ s.size) : i ≤ hs s i ∧ hs s i ≤ li s i := by
  refine ⟨behN_ge _ _ _, ?_⟩
  unfold hs li behN
  have h : ∀ c, hsB c = true → nlB c = true := fun c hc => by
    unfold hsB at hc
    rw [beq_iff_eq] at hc
    rw [hc]; decide
  rw [← tw_in h]
  have := tw_len hsB ((s.data.toList.drop i).takeWhile nlB)
  omega
theorem extract_list (s : ByteArray) (i j : Nat) : (s.extract i j).data.toList = (s.data.toList.take j).drop i := by
  rw [List.drop_take]
  simp [ByteArray.extract, ByteArray.copySlice]
theorem trim_hash (s : ByteArray) (i : Nat) (hi : i ≤ s.size) : (⟨(Lib.trimLeftB (s.extract i (li s i)).data.toList 35).toArray⟩ : ByteArray) = s.extract (hs s i) (li s i) := by
  apply bytes_eq
  rw [extract_list, extract_list]
  have h : ∀ c, hsB c = true → nlB c = true := fun c hc => by
    unfold hsB at hc
    rw [beq_iff_eq] at hc
    rw [hc]; decide
  have e1 : (s.data.toList.take (li s i)).drop i = (s.data.toList.drop i).takeWhile nlB := by
    rw [List.drop_take]
    unfold li behN
    rw [Nat.add_sub_cancel_left, tw_take]
  have e2 : hs s i = i + (((s.data.toList.drop i).takeWhile nlB).takeWhile hsB).length := by
    unfold hs behN
    rw [tw_in h]
  rw [e2, ← List.drop_drop, e1]
  show Lib.trimLeftB _ 35 = _
  exact dw_drop hsB _
theorem trimP_space (B : ByteArray) : (Lib.hasPrefix B.data.toList [32] = true → 0 < B.size ∧ (⟨(Lib.trimPrefix B.data.toList [32]).toArray⟩ : ByteArray) = B.extract 1 B.size) ∧ (Lib.hasPrefix B.data.toList [32] = false → (⟨(Lib.trimPrefix B.data.toList [32]).toArray⟩ : ByteArray) = B) := by
  constructor
  · intro h
    refine ⟨?_, ?_⟩
    · rw [← size_data]
      cases e : B.data.toList with
      | nil => rw [e] at h; cases h
      | cons a l => simp
    · apply bytes_eq
      unfold Lib.trimPrefix
      rw [h, if_pos rfl, extract_drop]
      rfl
  · intro h
    apply bytes_eq
    unfold Lib.trimPrefix
    rw [h, if_neg (by simp)]
theorem ext_ext (s : ByteArray) (i j : Nat) (hj : j ≤ s.size) (hi : i < j) : (s.extract i j).extract 1 (s.extract i j).size = s.extract (i + 1) j := by
  apply bytes_eq
  rw [extract_drop, extract_list, extract_list, List.drop_drop]
theorem pre_space (s : ByteArray) (i j : Nat) (hj : j ≤ s.size) (hi : i ≤ j) : Lib.hasPrefix (s.extract i j).data.toList [32] = (decide (i < j) && isAt s i 32) := by
  by_cases h : i < j
  · rw [decide_eq_true h, Bool.true_and, ← isAt_prefix s i 32 (by omega), extract_list, extract_drop]
    unfold Lib.hasPrefix
    have hl : i < s.data.toList.length := by rw [size_data]; omega
    have hl2 : i < (s.data.toList.take j).length := by rw [List.length_take, size_data]; omega
    rw [List.drop_eq_getElem_cons hl, List.drop_eq_getElem_cons hl2, List.getElem_take]
    simp [List.isPrefixOf]
  · have e : i = j := by omega
    subst e
    rw [decide_eq_false h, Bool.false_and]
    have : (s.extract i i).data.toList = [] := by
      rw [extract_list, List.drop_eq_nil_of_le]
      rw [List.length_take]; omega
    rw [this]
    rfl
set_option maxHeartbeats 2000000 in
set_option maxRecDepth 100000 in
theorem commentLine_any (s : ByteArray) (i : Nat) (hsz : s.size ≤ 4000000) (hi : i ≤ s.size) (w : World) : Calls Tryz.prog 83 #[.string s, .int .i64 i] w fun e w' => e = .returned (.tuple #[.int .i64 ((comL s i).1 : Nat), .string (comL s i).2]) ∧ w = w' := by
  have hL := fun W => line_nat s i hsz hi W
  have hok := li_ok s i hi
  have hh := hs_ok s i hi
  have ht := trim_hash s i hi
  obtain ⟨R, hR⟩ : ∃ R, comL s i = R := ⟨_, rfl⟩
  rw [hR]
  unfold comL at hR
  obtain ⟨l, hl⟩ : ∃ l, li s i = l := ⟨_, rfl⟩
  obtain ⟨h, he⟩ : ∃ h, hs s i = h := ⟨_, rfl⟩
  rw [hl, he] at hh ht hR
  rw [hl] at hL hok
  have hT := fun W => Tryz.strings_TrimLeft_one (s.extract i l) 35 (by decide) W
  rw [ht] at hT
  have hC := fun W => Tryz.strings_CutPrefix (s.extract h l) ⟨#[32]⟩ W
  have hp := pre_space s h l hok.2 hh.2
  have hz1 : (s.extract i l).size = l - i := by rw [ByteArray.size_extract]; omega
  have hz2 : (s.extract h l).size = l - h := by rw [ByteArray.size_extract]; omega
  have hX := trimP_space (s.extract h l)
  have hE := fun hlt => ext_ext s h l hok.2 hlt
  have hem := ext_empty s h l hh.2 hok.2
  obtain ⟨B, hB⟩ : ∃ B, s.extract h l = B := ⟨_, rfl⟩
  obtain ⟨X, hXe⟩ : ∃ X : ByteArray, ⟨(Lib.trimPrefix B.data.toList [32]).toArray⟩ = X := ⟨_, rfl⟩
  obtain ⟨P, hP⟩ : ∃ P, Lib.hasPrefix B.data.toList [32] = P := ⟨_, rfl⟩
  rw [hB] at hT hC hp hz2 hX hE hem
  have Hem := Lib.hid hem
  rw [show (⟨#[32]⟩ : ByteArray).data.toList = [32] from rfl, hXe, hP] at hC
  rw [hXe, hP] at hX
  rw [hP] at hp
  have HL := Lib.hid hL
  have HT := Lib.hid hT
  have HC := Lib.hid hC
  have HR := Lib.hid hR
  have HX := Lib.hid hX
  have HE := Lib.hid hE
  have Hp := Lib.hid hp
  have hl0 : (l : Int) ≤ (s.size : Int) := by omega
  have hss : (s.size : Int) ≤ 4000000 := by omega
  have hi0 : (i : Int) ≤ (l : Int) := by omega
  obtain ⟨x, hx⟩ : ∃ x, h = i + x := ⟨h - i, by omega⟩
  obtain ⟨m, hm⟩ : ∃ m, l - i = m := ⟨_, rfl⟩
  obtain ⟨y, hy⟩ : ∃ y, l - h = y := ⟨_, rfl⟩
  have hd : (m : Int) - (y : Int) = (x : Int) := by omega
  have hx0 : (x : Int) ≤ 4000000 := by omega
  have hR2 : (if 3 < x ∨ 0 < y ∧ isAt s h 32 = false then (0, E0) else (x, if 0 < y then s.extract (h + 1) l else E0)) = R := by
    rw [← HR.out, show h - i = x by omega]
    by_cases hlt : h < l
    · have : 0 < y := by omega
      simp [hlt, this]
    · have : ¬ 0 < y := by omega
      simp [hlt, this]
  have HR2 := Lib.hid hR2
  rw [hm] at hz1
  rw [hy] at hz2
  have Hz2 := Lib.hid hz2
  have Hy := Lib.hid (show 0 < y ↔ h < l by omega)
  clear hem hL hT hC hR hX hE hp ht hl he hB hXe hP hR2 hm hy hx HR
  go_enter Tryz.func83, Tryz.ntmps83
  go_wp2_with fail
  go_at_call 82
  refine (HL.out _).mono ?_
  rintro e w1 ⟨rfl, rfl⟩
  go_wp2_with fail
  go_at_call 113
  refine (HT.out _).mono ?_
  rintro e w1 ⟨rfl, rfl⟩
  go_wp2_with fail
  go_at_call 114
  refine (HC.out _).mono ?_
  rintro e w1 ⟨rfl, rfl⟩
  by_cases h3 : 3 < x
  · have d1 : decide ((3 : Int) < (x : Int)) = true := decide_eq_true (by omega)
    have d2 : (3 : Int) < (x : Int) := by omega
    have hR := HR2.out
    rw [if_pos (Or.inl h3)] at hR
    subst hR
    go_wp2
    go_ret2
    exact ⟨rfl, rfl⟩
  have d1 : decide ((3 : Int) < (x : Int)) = false := decide_eq_false (by omega)
  have d2 : ¬ (3 : Int) < (x : Int) := by omega
  by_cases h0 : 0 < y
  case neg =>
    have hBe : B = ⟨#[]⟩ := bytes_eq (List.eq_nil_of_length_eq_zero (by rw [size_data, Hz2.out]; omega))
    have hPe : P = false := by rw [Hp.out, decide_eq_false (fun e => h0 (Hy.out.2 e))]; rfl
    have hXe := HX.out.2 hPe
    subst hPe
    rw [hBe] at hXe
    subst hBe
    subst hXe
    have hR := HR2.out
    rw [if_neg (by omega), if_neg h0] at hR
    subst hR
    go_wp2
    go_ret2
    exact ⟨rfl, rfl⟩
  have hlt := Hy.out.1 h0
  rw [hlt |> decide_eq_true, Bool.true_and] at Hp
  have hne : B.toList.isEmpty = false := by rw [Hem.out, decide_eq_false (by omega)]
  cases P
  case false =>
    have hR := HR2.out
    rw [if_pos (Or.inr ⟨h0, Hp.out.symm⟩)] at hR
    subst hR
    go_wp2
    go_ret2
    exact ⟨rfl, rfl⟩
  case true =>
    have hXe := (HX.out.1 rfl).2.trans (HE.out hlt)
    have hR := HR2.out
    rw [if_neg (by rw [← Hp.out]; simp; omega), if_pos h0, ← hXe] at hR
    subst hR
    go_wp2
    go_ret2
    exact ⟨rfl, rfl⟩
end Go.Proofs.YtnogdojdjehakaaGreatDoor

/-
  Package expr: isTermsAttr, mayBeAsked, nextLine.
-/
namespace Go.Proofs.YtnogdojdjehakaaGreatDoor
open Go.RowKit
set_option linter.unusedVariables false
set_option linter.unusedSimpArgs false

set_option maxHeartbeats 2000000 in
set_option maxRecDepth 100000 in
theorem termsAttr_any (k : Int) (t n a : ByteArray) (A1 : Option Addr) (n1 c1 : Nat) (p : Option Addr) (A2 : Option Addr) (n2 c2 : Nat) (w : World) :
    Calls Tryz.prog 52 #[exV k t n a A1 n1 c1 p A2 n2 c2] w fun e w' => e = .returned (.bool ((k == 4) && !emp a)) ∧ Below w.heap.size w w' := by
  unfold exV emp
  cases hz : (k == 4)
  case false =>
    go_enter Tryz.func52, Tryz.ntmps52
    go_wp2
    go_ret
    exact ⟨ret_bool (by rfl), (Below.refl _ _).alloc (Nat.le_refl _) _⟩
  cases hg : a.toList.isEmpty
  all_goals
    go_enter Tryz.func52, Tryz.ntmps52
    go_wp2
    go_ret
    exact ⟨ret_bool (by rfl), (Below.refl _ _).alloc (Nat.le_refl _) _⟩
set_option maxHeartbeats 2000000 in
set_option maxRecDepth 100000 in
theorem mayAsk_any (k : Int) (t n a : ByteArray) (A1 : Option Addr) (n1 c1 : Nat) (p : Option Addr) (A2 : Option Addr) (n2 c2 : Nat) (w : World) :
    Calls Tryz.prog 53 #[exV k t n a A1 n1 c1 p A2 n2 c2] w fun e w' => e = .returned (.bool (decide (k = 0 ∨ k = 1 ∨ k = 2 ∨ k = 5) || ((k == 4) && !emp a))) ∧ Below w.heap.size w w' := by
  have HT := Lib.hid (fun W => termsAttr_any k t n a A1 n1 c1 p A2 n2 c2 W)
  by_cases h : k = 0 ∨ k = 1 ∨ k = 2 ∨ k = 5
  · rw [decide_eq_true h, Bool.true_or]
    unfold exV
    clear HT
    rcases h with rfl | rfl | rfl | rfl
    all_goals
      go_enter Tryz.func53, Tryz.ntmps53
      go_wp2
      go_ret
      exact ⟨rfl, (Below.refl _ _).alloc (Nat.le_refl _) _⟩
  · rw [decide_eq_false h, Bool.false_or]
    obtain ⟨q, hq⟩ : ∃ q, ((k == 4) && !emp a) = q := ⟨_, rfl⟩
    rw [hq] at HT ⊢
    have z0 : (k == 0) = false := beq_eq_false_iff_ne.2 (by omega)
    have z1 : (k == 1) = false := beq_eq_false_iff_ne.2 (by omega)
    have z2 : (k == 2) = false := beq_eq_false_iff_ne.2 (by omega)
    have z5 : (k == 5) = false := beq_eq_false_iff_ne.2 (by omega)
    clear h hq
    unfold exV at HT ⊢
    go_enter Tryz.func53, Tryz.ntmps53
    go_wp2_with fail
    go_at_call 52
    refine (HT.out _).mono ?_
    rintro e w' ⟨rfl, hb⟩
    have HB := Lib.hid (((Below.refl w.heap.size w).alloc (Nat.le_refl _) _).trans (hb.mono (by simp)))
    clear hb
    go_wp2
    go_ret
    exact ⟨rfl, HB.out⟩
/-- A line, new. -/
abbrev zL : Array Value := #[.int .i64 0, .int .i64 0, .slice none 0 0]
theorem cells3 {w : World} {k : Nat} {x0 x1 x2 : Value} {t : TypeId} (h : BoxAt w k #[x0, x1, x2] t) :
    w.cell? ⟨k, 0, none⟩ = some x0 ∧ w.cell? ⟨k, 1, none⟩ = some x1 ∧ w.cell? ⟨k, 2, none⟩ = some x2 ∧ w.frozen? ⟨k, 0, none⟩ = false ∧ w.frozen? ⟨k, 1, none⟩ = false ∧ w.frozen? ⟨k, 2, none⟩ = false :=
  ⟨h.cell 0, h.cell 1, h.cell 2, Lib.frozen_of_heap h 0, Lib.frozen_of_heap h 1, Lib.frozen_of_heap h 2⟩
def set3 (w : World) (b : Nat) (x0 x1 x2 : Value) : World := ((w.setCell ⟨b, 0, none⟩ x0).setCell ⟨b, 1, none⟩ x1).setCell ⟨b, 2, none⟩ x2
theorem set3_heap (w : World) (b : Nat) (x0 x1 x2 : Value) (k : Nat) (hk : k ≠ b) : (set3 w b x0 x1 x2).heap[k]? = w.heap[k]? := by
  unfold set3
  rw [Below.heap_setCell _ _ _ k hk, Below.heap_setCell _ _ _ k hk, Below.heap_setCell _ _ _ k hk]
theorem set3_size (w : World) (b : Nat) (x0 x1 x2 : Value) : (set3 w b x0 x1 x2).heap.size = w.heap.size := by
  unfold set3; simp
theorem Kp.set3 {rb : Nat} {a w : World} (h : Kp rb a w) {b : Nat} (hb : a.heap.size ≤ b) (hr : rb < a.heap.size) (x0 x1 x2 : Value) : Kp rb a (set3 w b x0 x1 x2) := ((h.setNew hb hr 0 x0).setNew hb hr 1 x1).setNew hb hr 2 x2
theorem Rd.set3 {rb : Nat} {s : ByteArray} {i : Nat} {w : World} (h : Rd rb s i w) {b : Nat} (hb : rb ≠ b) (x0 x1 x2 : Value) : Rd rb s i (set3 w b x0 x1 x2) := ((h.setOther hb 0 x0).setOther hb 1 x1).setOther hb 2 x2
theorem box_set3 {w : World} {E : Nat} {x0 x1 x2 : Value} {t : TypeId} (h : BoxAt w E #[x0, x1, x2] t) (y0 y1 y2 : Value) : BoxAt (set3 w E y0 y1 y2) E #[y0, y1, y2] t := by
  unfold set3
  unfold BoxAt at h ⊢
  simp [World.setCell, Array.getElem?_modify, h]
set_option maxRecDepth 100000 in
theorem res3 (T : TypeId) (hT : Tryz.prog.cellsOf T = 3) {fn : Func} {A M : Nat} {tmps : Array Value} {w : World} {b : Nat} {x0 x1 x2 v : Value} {t : TypeId} (hres : fn.results = #[.cell A 108, .tmp M]) (ha : tmps.getD A undef = .pointer (some ⟨b, 0, none⟩)) (hm : tmps.getD M undef = v)
    (hb : BoxAt w b #[x0, x1, x2] t) : (results fn tmps).run Tryz.prog w = .ok (.tuple #[.agg #[x0, x1, x2], v]) w := by
  obtain ⟨q0, q1, q2, _⟩ := cells3 hb
  have ha' : tmps[A]?.getD undef = .pointer (some ⟨b, 0, none⟩) := by rw [← ha]; simp
  have hm' : tmps[M]?.getD undef = v := by rw [← hm]; simp
  simp [results, hres, ha', hm', go_sem, q0, q1, q2]
theorem end3w {fn : Func} {R : Ending → World → Prop} {a : Act} {w2 : World} {A M b : Nat} {x0 x1 x2 v : Value} {t : TypeId} (hres : fn.results = #[.cell A 108, .tmp M]) (hbox : BoxAt w2 b #[x0, x1, x2] t)
    (ha : a.tmps.getD A undef = .pointer (some ⟨b, 0, none⟩)) (hm : a.tmps.getD M undef = v) (hd : a.defers = []) (hR : R (.returned (.tuple #[.agg #[x0, x1, x2], v])) w2) : bodyPost Tryz.prog fn R .ret a w2 :=
  bodyPost_ret (res3 108 (by kernel_rfl) hres ha hm hbox) hd hR
/-- What nextLine gives. -/
def GotL (rb : Nat) (s : ByteArray) (i : Nat) (w : World) (r : Option (Nat × Nat × Nat)) (e : Ending) (w' : World) : Prop :=
  Kp rb w w' ∧ ∃ f p j : Nat, e = .returned (.tuple #[.agg #[.int .i64 f, .int .i64 p, .slice none 0 0], .bool r.isSome]) ∧ Rd rb s j w' ∧ j ≤ s.size ∧ f ≤ s.size ∧ p ≤ s.size ∧ (r = none → j = i) ∧ ∀ f' p' m, r = some (f', p', m) → f' = f ∧ p' = p ∧ m = j
theorem sp_ok (s : ByteArray) (i : Nat) (hi : i ≤ s.size) : i ≤ sp s i ∧ sp s i ≤ s.size := ⟨behN_ge _ _ _, by have := behN_le spB s.data.toList i (by rw [size_data]; exact hi); rw [size_data] at this; exact this⟩
theorem nlS_step (s : ByteArray) (f fr i : Nat) (h : isAt s i 10 = true) : nlS s f fr i = nlS s (f + 1) (i + 1) (sp s (i + 1)) := by
  rw [nlS, dif_pos h]
theorem nlS_end (s : ByteArray) (f fr i : Nat) (h : isAt s i 10 = false) : nlS s f fr i = (f, fr, i) := by
  rw [nlS, dif_neg (by rw [h]; simp)]
end Go.Proofs.YtnogdojdjehakaaGreatDoor

/-
  Package expr: textEnd, given strings.IndexAny.
-/
namespace Go.Proofs.YtnogdojdjehakaaGreatDoor
open Go.RowKit
set_option linter.unusedVariables false
set_option linter.unusedSimpArgs false

theorem idxAny_tw (chars : List UInt8) : ∀ l : List UInt8, Lib.indexAny l chars = if (l.takeWhile (fun c => !chars.contains c)).length < l.length then ((l.takeWhile (fun c => !chars.contains c)).length : Int) else -1
  | [] => by simp [Lib.indexAny]
  | b :: l => by
    have ih := idxAny_tw chars l
    rw [Lib.indexAny, List.takeWhile_cons]
    generalize hT : l.takeWhile (fun c => !chars.contains c) = T at ih ⊢
    by_cases h : chars.contains b = true
    · have h2 : ¬ ((!chars.contains b) = true) := by rw [h]; decide
      rw [if_pos h, if_neg h2, if_pos (by simp)]
      rfl
    · have h2 : (!chars.contains b) = true := by rw [Bool.eq_false_iff.2 h]; rfl
      rw [if_neg h, if_pos h2, ih, List.length_cons, List.length_cons]
      by_cases hl : T.length < l.length
      · rw [if_pos hl]
        have h3 : ¬ (((T.length : Int) == -1) = true) := by rw [beq_iff_eq]; omega
        rw [if_neg h3, if_pos (show T.length + 1 < l.length + 1 by omega)]
        omega
      · rw [if_neg hl, if_neg (show ¬ T.length + 1 < l.length + 1 by omega)]
        rfl
theorem tx_idx (s : ByteArray) (i : Nat) (hi : i ≤ s.size) : (Lib.indexAny (s.extract i s.size).data.toList [10, 123, 125] = -1 ∧ tx s i = s.size) ∨ (∃ n : Nat, Lib.indexAny (s.extract i s.size).data.toList [10, 123, 125] = (n : Int) ∧ tx s i = i + n ∧ i + n < s.size) := by
  rw [extract_drop, idxAny_tw]
  have e : (fun c : UInt8 => !([10, 123, 125] : List UInt8).contains c) = txB := by
    funext c
    unfold txB
    rw [List.contains_cons, List.contains_cons, List.contains_cons, List.contains_nil, Bool.or_false, Bool.or_assoc]
  rw [e]
  unfold tx behN
  have hl : (s.data.toList.drop i).length = s.size - i := by rw [List.length_drop, size_data]
  have hle := takeWhile_le txB (s.data.toList.drop i)
  by_cases h : ((s.data.toList.drop i).takeWhile txB).length < (s.data.toList.drop i).length
  · rw [if_pos h]
    exact .inr ⟨_, rfl, rfl, by omega⟩
  · rw [if_neg h]
    exact .inl ⟨rfl, by omega⟩
set_option maxHeartbeats 2000000 in
set_option maxRecDepth 100000 in
theorem endText_of {s : ByteArray} (hIx : ∀ (x : ByteArray) (W : World), x.size ≤ 4000000 → Calls Tryz.prog 118 #[.string x, .string ⟨#[10, 123, 125]⟩] W fun e w' => e = .returned (.int .i64 (Lib.indexAny x.data.toList [10, 123, 125])) ∧ Below W.heap.size W w') : EndFn 90 tx s := by
  refine ⟨fun args w => by go_simp, fun i w hs hi => ?_⟩
  have hI := fun W => hIx (s.extract i s.size) W (by rw [ByteArray.size_extract]; omega)
  have hi0 : (i : Int) ≤ 4000000 := by omega
  have hjs : (i : Int) ≤ (s.size : Int) := by omega
  have hss : (s.size : Int) ≤ 4000000 := by omega
  rcases tx_idx s i hi with ⟨h1, h2⟩ | ⟨n, h1, h2, h3⟩
  · refine ⟨by omega, by omega, ?_⟩
    rw [h1] at hI
    have HI := Lib.hid hI
    rw [h2]
    clear hIx
    clear hI h1 h2
    go_enter Tryz.func90, Tryz.ntmps90
    go_wp2_with fail
    go_at_call 118
    refine (HI.out _).mono ?_
    rintro e w' ⟨rfl, hb⟩
    have HB := Lib.hid hb
    clear hb
    go_wp2
    go_ret
    exact ⟨rfl, HB.out⟩
  · refine ⟨by omega, by omega, ?_⟩
    rw [h1] at hI
    have HI := Lib.hid hI
    rw [h2]
    clear hIx
    have hn0 : (n : Int) ≤ 4000000 := by omega
    have hnd : decide ((0 : Int) ≤ (n : Int)) = true := decide_eq_true (by omega)
    clear hI h1 h2
    go_enter Tryz.func90, Tryz.ntmps90
    go_wp2_with fail
    go_at_call 118
    refine (HI.out _).mono ?_
    rintro e w' ⟨rfl, hb⟩
    have HB := Lib.hid hb
    clear hb
    go_wp2
    go_ret
    exact ⟨by congr 2, HB.out⟩
theorem stop_idx (c : UInt8) : decide ((0 : Int) ≤ Lib.indexByte [46, 42, 91, 125] c) = stopB c := by
  unfold stopB
  have e : ∀ x : UInt8, (x == c) = (c == x) := fun x => by rw [Bool.eq_iff_iff, beq_iff_eq, beq_iff_eq]; exact eq_comm
  unfold Lib.indexByte Lib.indexByte Lib.indexByte Lib.indexByte Lib.indexByte
  rw [e 46, e 42, e 91, e 125]
  cases c == 46 <;> cases c == 42 <;> cases c == 91 <;> cases c == 125 <;> decide
end Go.Proofs.YtnogdojdjehakaaGreatDoor

/-
  Package expr: nextLine.
-/
namespace Go.Proofs.YtnogdojdjehakaaGreatDoor
open Go.RowKit
set_option linter.unusedVariables false
set_option linter.unusedSimpArgs false

set_option maxHeartbeats 4000000 in
set_option maxRecDepth 100000 in
theorem nextLine_any {rb : Nat} {s : ByteArray} (hs : s.size ≤ 1000000) (i : Nat) (w : World) (hr : Rd rb s i w) (hi : i ≤ s.size) : Calls Tryz.prog 68 #[pt rb] w (GotL rb s i w (nextS s i)) := by
  have HR := Lib.hid hr
  have hlt := hr.lt
  have c0 := (hr.alloc (.cells zL 108)).c0
  have c1 := (hr.alloc (.cells zL 108)).c1
  obtain ⟨R, hRR⟩ : ∃ R, nextS s i = R := ⟨_, rfl⟩
  rw [hRR]
  have HRR := Lib.hid hRR
  have hi0 : (i : Int) ≤ 1000000 := by omega
  have hss : (s.size : Int) ≤ 1000000 := by omega
  clear hr hRR
  unfold pt
  go_enter Tryz.func68, Tryz.ntmps68
  go_wp2
  go_region
  go_wp2
  go_loopw [4, 5, 6] (fun t4 t5 t6 wr => ∃ f fr q : Nat, t4 = .int .i64 f ∧ t5 = .int .i64 fr ∧ t6 = .int .i64 q ∧ q ≤ s.size ∧ fr ≤ q ∧ f ≤ q ∧ Hid (nlS s f fr q = nlS s 0 i i) ∧ Hid (Rd rb s i wr) ∧ Hid (Kp rb w wr) ∧ Hid (BoxAt wr w.heap.size zL 108)) (fun _ _ t6 _ => s.size - (intOf t6).toNat)
  case atStart => exact ⟨0, i, i, rfl, rfl, rfl, hi, Nat.le_refl _, Nat.zero_le _, rfl, (HR.out.alloc _).drew, ((Kp.refl _ _).alloc (Nat.le_of_lt hlt) _).drew, (BoxAt.new _ _ _).drew⟩
  case round =>
    obtain ⟨f, fr, q, rfl, rfl, rfl, hq, hfr, hf, Hn, HRd, HK, HC⟩ := hrel
    have hp := fun W => Tryz.strings_HasPrefix (s.extract q s.size) ⟨#[10]⟩ W
    rw [isAt_prefix s q 10 hq] at hp
    obtain ⟨b, hb⟩ : ∃ b, isAt s q 10 = b := ⟨_, rfl⟩
    rw [hb] at hp
    have HP := Lib.hid hp
    have Hb := Lib.hid hb
    have d0 := HRd.out.c0
    have d1 := HRd.out.c1
    have e1 := HRd.out.f 1
    have hrl := HRd.out.lt
    have hcl := HC.out.lt
    have hq0 : (q : Int) ≤ 1000000 := by omega
    have hqs : (q : Int) ≤ (s.size : Int) := by omega
    have hfr0 : (fr : Int) ≤ (q : Int) := by omega
    have hf0 : (f : Int) ≤ 1000000 := by omega
    clear hp hb c0 c1
    cases b
    case true =>
      have hq1 : q + 1 ≤ s.size := isAt_lt Hb.out
      have hS := fun W => spaces_any s ((q : Int) + 1) W (by omega)
      have he : behI spB s.data.toList ((q : Int) + 1) = (sp s (q + 1) : Int) := by
        unfold behI sp
        rw [if_neg (by omega), show ((q : Int) + 1).toNat = q + 1 by omega]
      rw [he] at hS
      have hso := sp_ok s (q + 1) hq1
      have hn := Hn.out
      rw [nlS_step s f fr q Hb.out] at hn
      obtain ⟨m, hm⟩ : ∃ m, sp s (q + 1) = m := ⟨_, rfl⟩
      rw [hm] at hS hso hn
      have HS := Lib.hid hS
      have Hn2 := Lib.hid hn
      clear hS he hm hn
      go_wp2_with fail
      go_at_call 72
      refine (HP.out _).mono ?_
      rintro e w' ⟨rfl, rfl⟩
      go_wp2_with fail
      go_at_call 62
      refine (HS.out _).mono ?_
      rintro e w' ⟨rfl, rfl⟩
      go_wp2
      go_roundw
      case rel => exact ⟨f + 1, q + 1, m, by go_num, by go_num, rfl, hso.2, hso.1, by omega, Hn2.out, HRd.out, HK.out, HC.out⟩
      case measure => simp [intOf]; omega
    case false =>
      have hn := Hn.out
      rw [nlS_end s f fr q Hb.out] at hn
      have hR := HRR.out
      unfold nextS at hR
      rw [← hn] at hR
      dsimp only at hR
      have HR2 := Lib.hid hR
      obtain ⟨q0, q1, q2, p0, p1, p2⟩ := cells3 HC.out
      clear hn hR Hn
      by_cases hqf : q = fr
      · have z1 : ((q : Int) == (fr : Int)) = true := beq_iff_eq.2 (by omega)
        have HR3 := Lib.hid (show R = none by rw [← HR2.out, if_pos (.inl hqf)])
        clear hqf
        go_wp2_with fail
        go_at_call 72
        refine (HP.out _).mono ?_
        rintro e w' ⟨rfl, rfl⟩
        go_wp2
        obtain rfl := HR3.out
        exact end3w Tryz.results68 (box_set3 HC.out _ _ _) rfl rfl rfl ⟨HK.out.set3 (Nat.le_refl _) hlt _ _ _, 0, 0, i, rfl, HRd.out.set3 (by omega) _ _ _, hi, Nat.zero_le _, Nat.zero_le _, fun _ => rfl, fun _ _ _ h => by cases h⟩
      have z1 : ((q : Int) == (fr : Int)) = false := beq_eq_false_iff_ne.2 (by omega)
      by_cases hqz : q = s.size
      · have z2 : ((q : Int) == (s.size : Int)) = true := beq_iff_eq.2 (by omega)
        have HR3 := Lib.hid (show R = none by rw [← HR2.out, if_pos (.inr (.inl hqz))])
        clear hqz
        go_wp2_with fail
        go_at_call 72
        refine (HP.out _).mono ?_
        rintro e w' ⟨rfl, rfl⟩
        go_wp2
        obtain rfl := HR3.out
        exact end3w Tryz.results68 (box_set3 HC.out _ _ _) rfl rfl rfl ⟨HK.out.set3 (Nat.le_refl _) hlt _ _ _, 0, 0, i, rfl, HRd.out.set3 (by omega) _ _ _, hi, Nat.zero_le _, Nat.zero_le _, fun _ => rfl, fun _ _ _ h => by cases h⟩
      have z2 : ((q : Int) == (s.size : Int)) = false := beq_eq_false_iff_ne.2 (by omega)
      have hql : q < s.size := by omega
      have hql2 : (q : Int) < (s.size : Int) := by omega
      have hI := fun W => Tryz.strings_IndexByte ⟨#[46, 42, 91, 125]⟩ (s[q].toNat : Int) W
      have hst := stop_idx s[q]
      rw [show (⟨#[46, 42, 91, 125]⟩ : ByteArray).data.toList = [46, 42, 91, 125] from rfl, show ((s[q].toNat : Int).toNat.toUInt8) = s[q] by simp] at hI
      obtain ⟨x, hx⟩ : ∃ x, Lib.indexByte [46, 42, 91, 125] s[q] = x := ⟨_, rfl⟩
      rw [hx] at hI hst
      have hat : at0 s.data.toList q = s[q] := by rw [at0_get _ _ (by rw [size_data]; exact hql)]; rfl
      have hR := HR2.out
      rw [hat, ← hst] at hR
      have HI := Lib.hid hI
      cases hx0 : decide ((0 : Int) ≤ x)
      case true =>
        have HR3 := Lib.hid (show R = none by rw [← hR, hx0, if_pos (.inr (.inr rfl))])
        clear hI hst hx hat hR HR2
        go_wp2_with fail
        go_at_call 72
        refine (HP.out _).mono ?_
        rintro e w' ⟨rfl, rfl⟩
        go_wp2_with fail
        go_at_call 89
        refine (HI.out _).mono ?_
        rintro e w' ⟨rfl, rfl⟩
        go_wp2
        obtain rfl := HR3.out
        exact end3w Tryz.results68 (box_set3 HC.out _ _ _) rfl rfl rfl ⟨HK.out.set3 (Nat.le_refl _) hlt _ _ _, 0, 0, i, rfl, HRd.out.set3 (by omega) _ _ _, hi, Nat.zero_le _, Nat.zero_le _, fun _ => rfl, fun _ _ _ h => by cases h⟩
      case false =>
        have HR3 := Lib.hid (show R = some (f, q - fr, q) by rw [← hR, hx0, if_neg (by simp [hqf, hqz])])
        have hsub : (q : Int) - (fr : Int) = ((q - fr : Nat) : Int) := by omega
        have Hsub := Lib.hid hsub
        have hsub0 : (0 : Int) ≤ (q : Int) - (fr : Int) := by omega
        have hsub1 : (q : Int) - (fr : Int) ≤ 1000000 := by omega
        have HRq := Lib.hid (HRd.out.set q)
        have HKq := Lib.hid (HK.out.setCell 1 (.int .i64 (q : Nat)))
        have HCq := Lib.hid (BoxAt.setOther HC.out ⟨rb, 1, none⟩ (.int .i64 (q : Nat)) (by show w.heap.size ≠ rb; omega))
        clear hI hst hx hat hR HR2 hsub
        go_wp2_with fail
        go_at_call 72
        refine (HP.out _).mono ?_
        rintro e w' ⟨rfl, rfl⟩
        go_wp2_with fail
        go_at_call 89
        refine (HI.out _).mono ?_
        rintro e w' ⟨rfl, rfl⟩
        go_wp2
        obtain rfl := HR3.out
        exact end3w Tryz.results68 (box_set3 HCq.out _ _ _) rfl rfl rfl ⟨HKq.out.set3 (Nat.le_refl _) hlt _ _ _, f, q - fr, q, by rw [Hsub.out]; rfl, HRq.out.set3 (by omega) _ _ _, hq, by omega, by omega, (fun h => by cases h), fun _ _ _ h => by cases h; exact ⟨rfl, rfl, rfl⟩⟩
end Go.Proofs.YtnogdojdjehakaaGreatDoor
