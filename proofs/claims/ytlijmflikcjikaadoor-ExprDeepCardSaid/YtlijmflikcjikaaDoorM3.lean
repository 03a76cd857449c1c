/-
  Several texts put together (part 3): what the law and the program call, walked; their contracts.
-/
import Derived.Lib.IndexAny
import Derived.Lib.Bytealg
import Derived.Deep.DeepCutAuto
import Derived.Laws.AppendOwn
import Derived.Test.YtlijmflikcjikaaDoorM2
/-
  Package expr: variable, reference, term, message, quoted.
-/
namespace Go.Proofs.YtlijmflikcjikaaDoor
open Go.RowKit
set_option linter.unusedVariables false
set_option linter.unusedSimpArgs false

/-- The result's cell, new. -/
abbrev zE : Array Value := #[.int .i64 0, .string ⟨#[]⟩, .string ⟨#[]⟩, .string ⟨#[]⟩, .slice none 0 0, .pointer none, .slice none 0 0]
theorem since_ne {w w1 : World} {o : Obj} : ∀ q, Since (w.alloc o).heap.size w1 q → (Since w.heap.size w1 q ∧ q ≠ w.heap.size) ∧ w1.heap[q]? = w1.heap[q]? := fun q h => by
  obtain ⟨h1, h2⟩ := h
  rw [World.size_alloc] at h1
  exact ⟨⟨⟨by omega, h2⟩, by omega⟩, rfl⟩
set_option maxHeartbeats 2000000 in
set_option maxRecDepth 100000 in
theorem variable_way {rb : Nat} {s : ByteArray} (hs : s.size ≤ 4000000) : WayTo rb s 44 #[pt rb] (varS s) := by
  intro i w hr hi
  have hT := fun W (h : Rd rb s i W) => take_any 36 W h hs hi
  unfold varS
  obtain ⟨b, hb⟩ : ∃ b, isAt s i 36 = b := ⟨_, rfl⟩
  have hi1 : b = true → i + 1 ≤ s.size := fun h => isAt_lt (hb.trans h)
  rw [hb] at hT ⊢
  have HT := Lib.hid hT
  have HR := Lib.hid hr
  have hlt := hr.lt
  clear hT hr hb
  unfold pt at HT ⊢
  cases b
  case false =>
    go_enter Tryd.func44, Tryd.ntmps44
    go_wp2_with fail
    go_at_call 9
    refine (HT.out _ (HR.out.alloc _)).mono ?_
    rintro e w1 ⟨rfl, h1, h2⟩
    have H1 := Lib.hid h1
    have HK := Lib.hid (((Kp.refl rb w).alloc (Nat.le_of_lt hlt) _).trans h2)
    have hc := BoxAt.kp (BoxAt.new w zE 28) h2 (by omega)
    have hl := hc.lt
    have HC := Lib.hid hc
    obtain ⟨q0, q1, q2, q3, q4, q5, q6, p0, p1, p2, p3, p4, p5, p6⟩ := cells7 hc
    clear h1 h2 hc
    go_wp2
    exact end7 Tryd.results44 HC.out rfl rfl rfl rfl (got_fin (b := w.heap.size) HK.out (Nat.le_refl _) hlt H1.out hi rfl (fun x m h => by cases h))
  have hi2 := hi1 rfl
  have hn := nm_ok s (i + 1) hi2
  have he := ext_empty s (i + 1) (nm s (i + 1)) hn.1 hn.2
  have hP := fun W (h : Rd rb s (i + 1) W) => pass_any endName W h hs hi2
  obtain ⟨j, hj⟩ : ∃ j, nm s (i + 1) = j := ⟨_, rfl⟩
  rw [hj] at hn he hP ⊢
  have HP := Lib.hid hP
  obtain ⟨X, hX⟩ : ∃ X, s.extract (i + 1) j = X := ⟨_, rfl⟩
  rw [hX] at he HP ⊢
  have HE := Lib.hid he
  clear hj hP he hX hi1
  rw [Bool.true_and]
  unfold pt at HP
  by_cases hji : j = i + 1
  · have hx : X.toList.isEmpty = true := by rw [HE.out, decide_eq_true hji]
    rw [decide_eq_false (by omega), if_neg (by simp)]
    go_enter Tryd.func44, Tryd.ntmps44
    go_wp2_with fail
    go_at_call 9
    refine (HT.out _ (HR.out.alloc _)).mono ?_
    rintro e w1 ⟨rfl, h1, h2⟩
    have H1 := Lib.hid (show Rd rb s (i + 1) w1 by simpa using h1)
    have H2 := Lib.hid h2
    clear h1 h2
    go_wp2_with fail
    go_at_call 10
    refine (HP.out _ H1.out).mono ?_
    rintro e w2 ⟨rfl, h3, h4⟩
    have H3 := Lib.hid h3
    have HK := Lib.hid ((((Kp.refl rb w).alloc (Nat.le_of_lt hlt) _).trans H2.out).trans h4)
    have hc := BoxAt.kp (BoxAt.kp (BoxAt.new w zE 28) H2.out (by omega)) h4 (by omega)
    have hl := hc.lt
    have HC := Lib.hid hc
    obtain ⟨q0, q1, q2, q3, q4, q5, q6, p0, p1, p2, p3, p4, p5, p6⟩ := cells7 hc
    clear h3 h4 hc
    go_wp2
    exact end7 Tryd.results44 HC.out rfl rfl rfl rfl (got_fin (b := w.heap.size) HK.out (Nat.le_refl _) hlt H3.out hn.2 rfl (fun x m h => by cases h))
  · have hx : X.toList.isEmpty = false := by rw [HE.out, decide_eq_false hji]
    rw [decide_eq_true (by omega), if_pos rfl]
    go_enter Tryd.func44, Tryd.ntmps44
    go_wp2_with fail
    go_at_call 9
    refine (HT.out _ (HR.out.alloc _)).mono ?_
    rintro e w1 ⟨rfl, h1, h2⟩
    have H1 := Lib.hid (show Rd rb s (i + 1) w1 by simpa using h1)
    have H2 := Lib.hid h2
    clear h1 h2
    go_wp2_with fail
    go_at_call 10
    refine (HP.out _ H1.out).mono ?_
    rintro e w2 ⟨rfl, h3, h4⟩
    have H3 := Lib.hid h3
    have HK := Lib.hid ((((Kp.refl rb w).alloc (Nat.le_of_lt hlt) _).trans H2.out).trans h4)
    have hc := BoxAt.kp (BoxAt.kp (BoxAt.new w zE 28) H2.out (by omega)) h4 (by omega)
    have hl := hc.lt
    have HC := Lib.hid hc
    obtain ⟨q0, q1, q2, q3, q4, q5, q6, p0, p1, p2, p3, p4, p5, p6⟩ := cells7 hc
    clear h3 h4 hc
    go_wp2
    exact end7 Tryd.results44 HC.out rfl rfl rfl rfl (got_fin (b := w.heap.size) HK.out (Nat.le_refl _) hlt H3.out hn.2 rfl (fun x m h => by cases h; exact ⟨rfl, exF_flat _ _ _ _ _ _⟩))

set_option maxHeartbeats 2000000 in
set_option maxRecDepth 100000 in
theorem ref_way {rb : Nat} {s : ByteArray} (hs : s.size ≤ 4000000) (k : Int) : WayTo rb s 62 #[pt rb, .int .i64 k] (refS k s) := by
  intro i w hr hi
  have hn := nm_ok s i hi
  have he := ext_empty s i (nm s i) hn.1 hn.2
  have hP := fun W (h : Rd rb s i W) => pass_any endName W h hs hi
  unfold refS
  obtain ⟨j, hj⟩ : ∃ j, nm s i = j := ⟨_, rfl⟩
  rw [hj] at hn he hP ⊢
  have HP := Lib.hid hP
  have HR := Lib.hid hr
  have hlt := hr.lt
  obtain ⟨X, hX⟩ : ∃ X, s.extract i j = X := ⟨_, rfl⟩
  rw [hX] at he HP ⊢
  have HE := Lib.hid he
  clear hj hP hr he hX
  unfold pt at HP ⊢
  by_cases hji : j = i
  · have hx : X.toList.isEmpty = true := by rw [HE.out, decide_eq_true hji]
    rw [if_pos hji]
    go_enter Tryd.func62, Tryd.ntmps62
    go_wp2_with fail
    go_at_call 10
    refine (HP.out _ (HR.out.alloc _)).mono ?_
    rintro e w1 ⟨rfl, h1, h2⟩
    have H1 := Lib.hid h1
    have hl1 := h1.lt
    have HK := Lib.hid (((Kp.refl rb w).alloc (Nat.le_of_lt hlt) _).trans h2)
    have hc := BoxAt.kp (BoxAt.new w zE 28) h2 (by omega)
    have hl := hc.lt
    have HC := Lib.hid hc
    obtain ⟨q0, q1, q2, q3, q4, q5, q6, p0, p1, p2, p3, p4, p5, p6⟩ := cells7 hc
    clear h1 h2 hc
    go_wp2
    go_region
    go_wp2
    exact end7w Tryd.results62 ((box_set7 HC.out _ _ _ _ _ _ _).alloc _).drew rfl rfl rfl (got_end (((HK.out.set7 (Nat.le_refl _) hlt _ _ _ _ _ _ _).alloc (by rw [set7_size]; omega) _).drew) (((H1.out.set7 (by omega) _ _ _ _ _ _ _).alloc _).drew) hn.2 rfl (fun x m h => by cases h))
  have hx : X.toList.isEmpty = false := by rw [HE.out, decide_eq_false hji]
  rw [if_neg hji]
  have hT := fun W (h : Rd rb s j W) => take_any 46 W h hs hn.2
  obtain ⟨b, hb⟩ : ∃ b, isAt s j 46 = b := ⟨_, rfl⟩
  have hj1 : b = true → j + 1 ≤ s.size := fun h => isAt_lt (hb.trans h)
  rw [hb] at hT ⊢
  have HT := Lib.hid hT
  clear hT hb
  unfold pt at HT
  cases b
  case false =>
    go_enter Tryd.func62, Tryd.ntmps62
    go_wp2_with fail
    go_at_call 10
    refine (HP.out _ (HR.out.alloc _)).mono ?_
    rintro e w1 ⟨rfl, h1, h2⟩
    have hl1 := h1.lt
    have H1 := Lib.hid (h1.alloc (.cells #[.int .i64 k, .string ⟨#[]⟩, .string X, .string ⟨#[]⟩, .slice none 0 0, .pointer none, .slice none 0 0] 28))
    have HK := Lib.hid ((((Kp.refl rb w).alloc (Nat.le_of_lt hlt) _).trans h2).alloc (Nat.le_of_lt hl1) (.cells #[.int .i64 k, .string ⟨#[]⟩, .string X, .string ⟨#[]⟩, .slice none 0 0, .pointer none, .slice none 0 0] 28))
    have hc := BoxAt.kp (BoxAt.new w zE 28) h2 (by omega)
    have hl := hc.lt
    have HC := Lib.hid (hc.alloc (.cells #[.int .i64 k, .string ⟨#[]⟩, .string X, .string ⟨#[]⟩, .slice none 0 0, .pointer none, .slice none 0 0] 28))
    have HN := Lib.hid (BoxAt.new w1 #[.int .i64 k, .string ⟨#[]⟩, .string X, .string ⟨#[]⟩, .slice none 0 0, .pointer none, .slice none 0 0] 28)
    clear h1 h2 hc
    go_wp2_with fail
    go_at_call 9
    refine (HT.out _ H1.out).mono ?_
    rintro e w2 ⟨rfl, h3, h4⟩
    have H3 := Lib.hid (show Rd rb s j w2 by simpa using h3)
    have HK2 := Lib.hid (HK.out.trans h4)
    have hc2 := BoxAt.kp HC.out h4 (by omega)
    have hl2 := hc2.lt
    have HC2 := Lib.hid hc2
    have hn2 := BoxAt.kp HN.out h4 (by omega)
    have hl3 := hn2.lt
    obtain ⟨q0, q1, q2, q3, q4, q5, q6, p0, p1, p2, p3, p4, p5, p6⟩ := cells7 hc2
    obtain ⟨y0, y1, y2, y3, y4, y5, y6, _⟩ := cells7 hn2
    clear h3 h4 hc2 hn2
    go_wp2
    go_region
    go_wp2
    exact end7w Tryd.results62 (box_set7 HC2.out _ _ _ _ _ _ _).drew rfl rfl rfl (got_end (HK2.out.set7 (Nat.le_refl _) hlt _ _ _ _ _ _ _).drew (H3.out.set7 (by omega) _ _ _ _ _ _ _).drew hn.2 rfl (fun x m h => by cases h; exact ⟨rfl, exF_flat _ _ _ _ _ _⟩))
  have hj2 := hj1 rfl
  rw [if_pos rfl]
  have hn' := nm_ok s (j + 1) hj2
  have he' := ext_empty s (j + 1) (nm s (j + 1)) hn'.1 hn'.2
  have hP' := fun W (h : Rd rb s (j + 1) W) => pass_any endName W h hs hj2
  obtain ⟨m, hm⟩ : ∃ m, nm s (j + 1) = m := ⟨_, rfl⟩
  rw [hm] at hn' he' hP' ⊢
  have HP' := Lib.hid hP'
  obtain ⟨Y, hY⟩ : ∃ Y, s.extract (j + 1) m = Y := ⟨_, rfl⟩
  rw [hY] at he' HP' ⊢
  have HE' := Lib.hid he'
  clear hm hP' he' hY hj1
  unfold pt at HP'
  have key : ∀ (v : Bool), Y.toList.isEmpty = v → Calls Tryd.prog 62 #[.pointer (some ⟨rb, 0, none⟩), .int .i64 k] w (Got rb s w (if v then none else some (.mk k E0 X Y [] none [], m))) := by
    intro v hv
    obtain ⟨R, hR⟩ : ∃ R, (if v then none else some (EX.mk k E0 X Y [] none [], m)) = R := ⟨_, rfl⟩
    rw [hR]
    have HRR := Lib.hid hR
    clear hR
    go_enter Tryd.func62, Tryd.ntmps62
    go_wp2_with fail
    go_at_call 10
    refine (HP.out _ (HR.out.alloc _)).mono ?_
    rintro e w1 ⟨rfl, h1, h2⟩
    have hl1 := h1.lt
    have H1 := Lib.hid (h1.alloc (.cells #[.int .i64 k, .string ⟨#[]⟩, .string X, .string ⟨#[]⟩, .slice none 0 0, .pointer none, .slice none 0 0] 28))
    have HK := Lib.hid ((((Kp.refl rb w).alloc (Nat.le_of_lt hlt) _).trans h2).alloc (Nat.le_of_lt hl1) (.cells #[.int .i64 k, .string ⟨#[]⟩, .string X, .string ⟨#[]⟩, .slice none 0 0, .pointer none, .slice none 0 0] 28))
    have hc := BoxAt.kp (BoxAt.new w zE 28) h2 (by omega)
    have hl := hc.lt
    have HC := Lib.hid (hc.alloc (.cells #[.int .i64 k, .string ⟨#[]⟩, .string X, .string ⟨#[]⟩, .slice none 0 0, .pointer none, .slice none 0 0] 28))
    have HN := Lib.hid (BoxAt.new w1 #[.int .i64 k, .string ⟨#[]⟩, .string X, .string ⟨#[]⟩, .slice none 0 0, .pointer none, .slice none 0 0] 28)
    clear h1 h2 hc
    go_wp2_with fail
    go_at_call 9
    refine (HT.out _ H1.out).mono ?_
    rintro e w2 ⟨rfl, h3, h4⟩
    have H3 := Lib.hid (show Rd rb s (j + 1) w2 by simpa using h3)
    have HK2 := Lib.hid (HK.out.trans h4)
    have hc2 := BoxAt.kp HC.out h4 (by omega)
    have hl2 := hc2.lt
    have HC2 := Lib.hid hc2
    have hn2 := BoxAt.kp HN.out h4 (by omega)
    have HN2 := Lib.hid hn2
    have hl3 := hn2.lt
    clear h3 h4 hc2 hn2
    go_wp2_with fail
    go_at_call 10
    refine (HP'.out _ H3.out).mono ?_
    rintro e w3 ⟨rfl, h5, h6⟩
    have hc3 := BoxAt.kp HC2.out h6 (by omega)
    have hn3 := BoxAt.kp HN2.out h6 (by omega)
    have hl4 := hc3.lt
    have hl5 := hn3.lt
    have hne : w1.heap.size ≠ w.heap.size := by omega
    have hne2 : w.heap.size ≠ w1.heap.size := by omega
    have HK3 := Lib.hid ((HK2.out.trans h6).setNew (b := w1.heap.size) (by omega) hlt 3 (.string Y))
    have H5 := Lib.hid (h5.setOther (b := w1.heap.size) (by omega) 3 (.string Y))
    have HC3 := Lib.hid (BoxAt.setOther hc3 ⟨w1.heap.size, 3, none⟩ (.string Y) hne2)
    obtain ⟨q0, q1, q2, q3, q4, q5, q6, p0, p1, p2, p3, p4, p5, p6⟩ := cells7 hc3
    obtain ⟨y0, y1, y2, y3, y4, y5, y6, g0, g1, g2, g3, _⟩ := cells7 hn3
    clear h5 h6 hc3 hn3
    cases v
    all_goals
      go_wp2
      go_region
      go_wp2
      refine end7w Tryd.results62 (box_set7 HC3.out _ _ _ _ _ _ _).drew rfl rfl rfl (got_end (HK3.out.set7 (Nat.le_refl _) hlt _ _ _ _ _ _ _).drew (H5.out.set7 (by omega) _ _ _ _ _ _ _).drew hn'.2 (by rw [← HRR.out]; rfl) (fun x q h => ?_))
      rw [← HRR.out] at h
      cases h
      try exact ⟨rfl, exF_flat _ _ _ _ _ _⟩
  have hk := key _ HE'.out
  simpa using hk
set_option maxHeartbeats 2000000 in
set_option maxRecDepth 100000 in
theorem message_way {rb : Nat} {s : ByteArray} (hs : s.size ≤ 4000000) : WayTo rb s 46 #[pt rb] (refS 3 s) := by
  intro i w hr hi
  have hP := fun W (h : Rd rb s i W) => ref_way hs 3 i W h hi
  have HP := Lib.hid hP
  have HR := Lib.hid hr
  have hlt := hr.lt
  obtain ⟨R, hR⟩ : ∃ R, refS 3 s i = R := ⟨_, rfl⟩
  rw [hR] at HP ⊢
  clear hP hr hR
  unfold pt at HP ⊢
  go_enter Tryd.func46, Tryd.ntmps46
  go_wp2_with fail
  go_at_call 62
  refine (HP.out _ (HR.out.alloc _)).mono ?_
  rintro e w1 ⟨h1, k, t, n, a, A1, n1, c1, p, A2, n2, c2, j, rfl, h2, hj, h3⟩
  have HK := Lib.hid (((Kp.refl rb w).alloc (Nat.le_of_lt hlt) _).trans h1)
  have hc := BoxAt.kp (BoxAt.new w zE 28) h1 (by omega)
  have hl := hc.lt
  have HC := Lib.hid hc
  have H2 := Lib.hid h2
  have H3 := Lib.hid h3
  obtain ⟨q0, q1, q2, q3, q4, q5, q6, p0, p1, p2, p3, p4, p5, p6⟩ := cells7 hc
  unfold exV
  clear h1 h2 h3 hc HP
  go_wp2
  exact end7 Tryd.results46 HC.out rfl rfl rfl rfl (got_fin (b := w.heap.size) HK.out (Nat.le_refl _) hlt H2.out hj rfl (fun x m h => ⟨(H3.out x m h).1, ExF.carry since_ne _ _ (H3.out x m h).2⟩))
set_option maxHeartbeats 2000000 in
set_option maxRecDepth 100000 in
theorem term_way {rb : Nat} {s : ByteArray} (hs : s.size ≤ 4000000) : WayTo rb s 45 #[pt rb] (terS s) := by
  intro i w hr hi
  have hT := fun W (h : Rd rb s i W) => take_any 45 W h hs hi
  unfold terS
  obtain ⟨b, hb⟩ : ∃ b, isAt s i 45 = b := ⟨_, rfl⟩
  have hi1 : b = true → i + 1 ≤ s.size := fun h => isAt_lt (hb.trans h)
  rw [hb] at hT ⊢
  have HT := Lib.hid hT
  have HR := Lib.hid hr
  have hlt := hr.lt
  clear hT hr hb
  unfold pt at HT ⊢
  cases b
  case false =>
    rw [if_neg (by simp)]
    go_enter Tryd.func45, Tryd.ntmps45
    go_wp2_with fail
    go_at_call 9
    refine (HT.out _ (HR.out.alloc _)).mono ?_
    rintro e w1 ⟨rfl, h1, h2⟩
    have H1 := Lib.hid (show Rd rb s i w1 by simpa using h1)
    have HK := Lib.hid (((Kp.refl rb w).alloc (Nat.le_of_lt hlt) _).trans h2)
    have hc := BoxAt.kp (BoxAt.new w zE 28) h2 (by omega)
    have hl := hc.lt
    have HC := Lib.hid hc
    obtain ⟨q0, q1, q2, q3, q4, q5, q6, p0, p1, p2, p3, p4, p5, p6⟩ := cells7 hc
    clear h1 h2 hc
    go_wp2
    exact end7 Tryd.results45 HC.out rfl rfl rfl rfl (got_fin (b := w.heap.size) HK.out (Nat.le_refl _) hlt H1.out hi rfl (fun x m h => by cases h))
  have hi2 := hi1 rfl
  rw [if_pos rfl]
  have hP := fun W (h : Rd rb s (i + 1) W) => ref_way hs 4 (i + 1) W h hi2
  have HP := Lib.hid hP
  obtain ⟨R, hR⟩ : ∃ R, refS 4 s (i + 1) = R := ⟨_, rfl⟩
  rw [hR] at HP ⊢
  clear hP hR hi1
  unfold pt at HP
  go_enter Tryd.func45, Tryd.ntmps45
  go_wp2_with fail
  go_at_call 9
  refine (HT.out _ (HR.out.alloc _)).mono ?_
  rintro e w0 ⟨rfl, g1, g2⟩
  have G1 := Lib.hid (show Rd rb s (i + 1) w0 by simpa using g1)
  have G2 := Lib.hid g2
  have hw0 := g2.size
  rw [World.size_alloc] at hw0
  clear g1 g2
  go_wp2_with fail
  go_at_call 62
  refine (HP.out _ G1.out).mono ?_
  rintro e w1 ⟨h1, k, t, n, a, A1, n1, c1, p, A2, n2, c2, j, rfl, h2, hj, h3⟩
  have HK := Lib.hid ((((Kp.refl rb w).alloc (Nat.le_of_lt hlt) _).trans G2.out).trans h1)
  have hc := BoxAt.kp (BoxAt.kp (BoxAt.new w zE 28) G2.out (by omega)) h1 (by omega)
  have hl := hc.lt
  have HC := Lib.hid hc
  have H2 := Lib.hid h2
  have H3 := Lib.hid h3
  obtain ⟨q0, q1, q2, q3, q4, q5, q6, p0, p1, p2, p3, p4, p5, p6⟩ := cells7 hc
  unfold exV
  clear h1 h2 h3 hc HP
  go_wp2
  exact end7 Tryd.results45 HC.out rfl rfl rfl rfl (got_fin (b := w.heap.size) HK.out (Nat.le_refl _) hlt H2.out hj rfl (fun x m h => ⟨(H3.out x m h).1, ExF.carry (fun q hq => ⟨⟨⟨by have := hq.1; omega, hq.2⟩, by have := hq.1; omega⟩, rfl⟩) _ _ (H3.out x m h).2⟩))
end Go.Proofs.YtlijmflikcjikaaDoor

/-
  Package expr: quoted.
-/
namespace Go.Proofs.YtlijmflikcjikaaDoor
open Go.RowKit
set_option linter.unusedVariables false
set_option linter.unusedSimpArgs false

theorem unqFrom_pos (s : ByteArray) : ∀ (f pos next : Nat) (acc t : List UInt8) (n : Nat), unqFrom s f pos next acc = some (t, n) → pos < n ∧ n ≤ s.size
  | 0, pos, next, acc, t, n, h => by cases h
  | f + 1, pos, next, acc, t, n, h => by
    unfold unqFrom at h
    split at h
    case isFalse => cases h
    case isTrue hp =>
      split at h
      · have := unqFrom_pos s f _ _ _ t n h; omega
      · split at h
        · cases h; omega
        · split at h
          · cases h
          · split at h
            · split at h
              · cases h
              · have := unqFrom_pos s f _ _ _ t n h; omega
            · have := unqFrom_pos s f _ _ _ t n h; omega
theorem unqAll_pos (s : ByteArray) (t : List UInt8) (n : Nat) (h : unqAll s = some (t, n)) : 0 < n ∧ n ≤ s.size := by
  unfold unqAll at h
  split at h
  · exact unqFrom_pos s _ _ _ _ t n h
  · cases h
theorem quo_val (s : ByteArray) (i : Nat) (hi : i ≤ s.size) : ∃ (T : ByteArray) (n : Nat) (b : Bool), unqVal (unqAll (s.extract i s.size)) = .tuple #[.string T, .int .i64 n, .bool b] ∧ i + n ≤ s.size ∧ b = (quoS s i).isSome ∧
    ∀ x m, quoS s i = some (x, m) → m = i + n ∧ x = .mk 0 T E0 E0 [] none [] ∧ 0 < n := by
  unfold quoS
  cases h : unqAll (s.extract i s.size) with
  | none => exact ⟨_, 0, _, rfl, by omega, rfl, fun x m h => by cases h⟩
  | some p =>
    obtain ⟨t, n⟩ := p
    have := unqAll_pos _ t n h
    rw [ByteArray.size_extract] at this
    exact ⟨_, n, _, rfl, by omega, rfl, fun x m h => by cases h; exact ⟨rfl, rfl, this.1⟩⟩
set_option maxHeartbeats 2000000 in
set_option maxRecDepth 100000 in
theorem quoted_way {rb : Nat} {s : ByteArray} (hs : s.size ≤ 1000000) : WayTo rb s 43 #[pt rb] (quoS s) := by
  intro i w hr hi
  have hU := fun W => unquote_any (s.extract i s.size) W (by rw [ByteArray.size_extract]; omega)
  obtain ⟨T, n, b, hv, hn, hR3, hR4⟩ := quo_val s i hi
  rw [hv] at hU
  obtain ⟨R, hRR⟩ : ∃ R, quoS s i = R := ⟨_, rfl⟩
  rw [hRR] at hR3 hR4 ⊢
  have HU := Lib.hid hU
  have HR := Lib.hid hr
  have Hb := Lib.hid hR3
  have Ht := Lib.hid hR4
  clear hRR hR3 hR4
  have c0 := (hr.alloc (.cells zE 28)).c0
  have c1 := (hr.alloc (.cells zE 28)).c1
  have f0 := (hr.alloc (.cells zE 28)).f 0
  have f1 := (hr.alloc (.cells zE 28)).f 1
  have hlt := hr.lt
  have hi0 : (i : Int) ≤ 4000000 := by omega
  have hjs : (i : Int) ≤ (s.size : Int) := by omega
  have hss : (s.size : Int) ≤ 4000000 := by omega
  have hi1 : (0 : Int) ≤ (i : Int) := by omega
  have hn0 : (n : Int) ≤ 4000000 := by omega
  clear hU hv hr
  unfold pt
  go_enter Tryd.func43, Tryd.ntmps43
  go_wp2_with fail
  go_region_held3 (fun w' => w'.cell? ⟨rb, 0, none⟩ = some (.string s) ∧ w'.cell? ⟨rb, 1, none⟩ = some (.int .i64 (i : Nat)) ∧ rb + 1 ≤ w'.heap.size ∧ Rd rb s i w' ∧ Kp rb (w.alloc (.cells zE 28)) w')
    (first | (exact rds_later (by assumption) (by assumption)) | (exact rds_of (HR.out.alloc (.cells zE 28)).drew (Kp.refl _ _).drew) | go_keep)
    (first | (go_at_call 61; refine (HU.out _).mono ?_; rintro e w' ⟨rfl, hb5⟩))
  rename_i hmE
  obtain ⟨g0, g1, _, g3, g4⟩ := hmE
  have hc := BoxAt.kp (BoxAt.new w zE 28) g4 (by omega)
  have hl := hc.lt
  have k1 := g3.f 1
  have HK := Lib.hid ((((Kp.refl rb w).alloc (Nat.le_of_lt hlt) _).trans g4).setCell 1 (.int .i64 ((i : Int) + (n : Int))))
  have H1 := Lib.hid (g3.set' (j := i + n) (v := (i : Int) + (n : Int)) (by omega))
  have hne : w.heap.size ≠ rb := by omega
  have HC := Lib.hid (BoxAt.setOther hc ⟨rb, 1, none⟩ (.int .i64 ((i : Int) + (n : Int))) hne)
  have hrb : rb < w'.heap.size := g3.lt
  obtain ⟨q0, q1, q2, q3, q4, q5, q6, p0, p1, p2, p3, p4, p5, p6⟩ := cells7 hc
  clear hb5 g3 g4 hc c0 c1 f0 f1
  go_wp2
  refine end7w Tryd.results43 (box_set7 HC.out _ _ _ _ _ _ _) rfl rfl rfl (got_end (HK.out.set7 (Nat.le_refl _) hlt _ _ _ _ _ _ _) (H1.out.set7 (by omega) _ _ _ _ _ _ _) hn Hb.out (fun x m h => ?_))
  obtain ⟨rfl, rfl, _⟩ := Ht.out x m h
  exact ⟨rfl, exF_flat _ _ _ _ _ _⟩
end Go.Proofs.YtlijmflikcjikaaDoor

/-
  Package expr: first.
-/
namespace Go.Proofs.YtlijmflikcjikaaDoor
open Go.RowKit
set_option linter.unusedVariables false
set_option linter.unusedSimpArgs false

def orAll : List (Nat → Res) → Nat → Res
  | [], _ => none
  | f :: r, i => (f i).or (orAll r i)
/-- .. and none is an empty one. -/
def Got0 (rb : Nat) (s : ByteArray) (w : World) (r : Res) (e : Ending) (w' : World) : Prop := Got rb s w r e w' ∧ (r = none → e = .returned (.tuple #[exV 0 E0 E0 E0 none 0 0 none none 0 0, .bool false]))
/-- A function value by which something is read, now and later. -/
def Way (rb : Nat) (s : ByteArray) (w : World) (fv : Value) (f : Nat → Res) : Prop :=
  ∃ N fst cap, fv = .func (.func N) fst cap ∧ Enters N ∧ ∀ (W : World) (i : Nat), Kp rb w W → Rd rb s i W → i ≤ s.size → Calls Tryd.prog N (fst ++ cap) W (Got rb s W (f i))
set_option maxHeartbeats 4000000 in
set_option maxRecDepth 100000 in
theorem first_any {rb : Nat} {s : ByteArray} (hs : s.size ≤ 4000000) (fvs : List Value) (fs : List (Nat → Res)) (L cap i : Nat) (w : World) (hr : Rd rb s i w) (hi : i ≤ s.size) (hlen : fvs.length = fs.length) (hn : fvs.length ≤ 8)
    (hcells : ∀ (j : Nat) (fv : Value), fvs[j]? = some fv → w.cell? ⟨L, j, none⟩ = some fv) (hL : L < w.heap.size) (hLr : L ≠ rb) (hw : ∀ (j : Nat) (fv : Value) (f : Nat → Res), fvs[j]? = some fv → fs[j]? = some f → Way rb s w fv f) :
    Calls Tryd.prog 42 #[pt rb, .slice (some ⟨L, 0, none⟩) fvs.length cap] w (Got0 rb s w (orAll fs i)) := by
  have c1 := (hr.alloc (.cells zE 28)).c1
  have hlt := hr.lt
  have HR := Lib.hid hr
  have HCe := Lib.hid hcells
  have HW := Lib.hid hw
  have Hlen := Lib.hid hlen
  have hn0 : (fvs.length : Int) ≤ 8 := by omega
  have hi0 : (i : Int) ≤ 4000000 := by omega
  obtain ⟨R, hRR⟩ : ∃ R, orAll fs i = R := ⟨_, rfl⟩
  rw [hRR]
  have HRR := Lib.hid hRR
  clear hr hcells hw hRR hlen
  unfold pt
  go_enter Tryd.func42, Tryd.ntmps42
  go_wp2
  go_loopw [17] (fun t17 wr => ∃ j : Nat, t17 = .int .i64 j ∧ j ≤ fvs.length ∧ Hid (orAll (fs.drop j) i = R) ∧ Hid (Rd rb s i wr) ∧ Hid (Kp rb w wr) ∧ Hid (BoxAt wr w.heap.size zE 28)) (fun t17 _ => fvs.length - (intOf t17).toNat)
  case atStart => exact ⟨0, rfl, Nat.zero_le _, HRR.out, HR.out.alloc _, (Kp.refl _ _).alloc (Nat.le_of_lt hlt) _, BoxAt.new _ _ _⟩
  case round =>
    obtain ⟨j, rfl, hj, Hans, HRd, HK, HC⟩ := hrel
    have hj0 : (j : Int) ≤ 8 := by omega
    have hsz := HK.out.size
    have hcl := HC.out.lt
    by_cases hlt2 : j < fvs.length
    · have hlt' : decide ((j : Int) < (fvs.length : Int)) = true := decide_eq_true (by omega)
      have hlt3 : ((j : Nat) : Int) < (fvs.length : Int) := by omega
      obtain ⟨fv, hfv⟩ : ∃ fv, fvs[j]? = some fv := ⟨_, List.getElem?_eq_getElem hlt2⟩
      obtain ⟨f, hf⟩ : ∃ f, fs[j]? = some f := ⟨_, List.getElem?_eq_getElem (by have := Hlen.out; omega)⟩
      have hcell := HCe.out j fv hfv
      have hcell2 : wr.cell? ⟨L, j, none⟩ = some fv := (cell_same (HK.out.others L hL hLr) j).trans hcell
      obtain ⟨N, fst, cp, rfl, hE, hC⟩ := HW.out j fv f hfv hf
      have hC2 := hC wr i HK.out HRd.out hi
      have HCC := Lib.hid hC2
      have hLw : L < wr.heap.size := by omega
      have hans := Hans.out
      rw [List.drop_eq_getElem_cons (show j < fs.length by have := Hlen.out; omega)] at hans
      have hfj : fs[j]'(by have := Hlen.out; omega) = f := by rw [List.getElem?_eq_getElem (by have := Hlen.out; omega)] at hf; exact Option.some.inj hf
      rw [hfj, orAll] at hans
      obtain ⟨r, hr⟩ : ∃ r, f i = r := ⟨_, rfl⟩
      rw [hr] at hans HCC
      have Hans2 := Lib.hid hans
      clear hcell hC hC2 hfv hf hans hfj hr Hans
      unfold Enters at hE
      go_wp2_with fail
      refine HCC.out.mono ?_
      rintro e w1 ⟨h1, k, t, n, a, A1, n1, c1', p, A2, n2, c2, m, rfl, h2, hm, h3⟩
      have HK2 := Lib.hid (HK.out.trans h1)
      have hc := BoxAt.kp HC.out h1 (by omega)
      have hl := hc.lt
      have HC2 := Lib.hid hc
      have H2 := Lib.hid h2
      have H3 := Lib.hid h3
      have hlt1 := h2.lt
      have d1 := h2.c1
      have e1 := h2.f 1
      obtain ⟨q0, q1, q2, q3, q4, q5, q6, p0, p1, p2, p3, p4, p5, p6⟩ := cells7 hc
      unfold exV
      clear h1 h2 h3 hc HCC
      cases r with
      | some xm =>
        obtain ⟨x, m'⟩ := xm
        have hans := Hans2.out
        rw [Option.some_or] at hans
        have Hans3 := Lib.hid hans
        clear hans Hans2
        go_wp2
        refine end7w Tryd.results42 ((box_set7 HC2.out _ _ _ _ _ _ _).alloc _) rfl rfl rfl (And.intro (got_end ((HK2.out.set7 (Nat.le_refl _) hlt _ _ _ _ _ _ _).alloc (by rw [set7_size]; omega) _) ((H2.out.set7 (by omega) _ _ _ _ _ _ _).alloc _) hm (by rw [← Hans3.out]; rfl) (fun y q h => ?_)) (fun h => by rw [← Hans3.out] at h; cases h))
        rw [← Hans3.out] at h
        cases h
        obtain ⟨h4, h5⟩ := H3.out x m' rfl
        refine ⟨h4, ExF.carry (fun q hq => ?_) _ _ h5⟩
        obtain ⟨hq1, hq2⟩ := hq
        have hq3 : q < (set7 w1 w.heap.size (.int .i64 k) (.string t) (.string n) (.string a) (.slice A1 n1 c1') (.pointer p) (.slice A2 n2 c2)).heap.size := by rw [set7_size]; exact hq2
        exact ⟨⟨by omega, by rw [World.size_alloc]; exact Nat.lt_succ_of_lt hq3⟩, (Lib.alloc_old _ _ q hq3).trans (set7_heap _ _ _ _ _ _ _ _ _ q (by omega))⟩
      | none =>
        have hans := Hans2.out
        rw [Option.none_or] at hans
        have Hans3 := Lib.hid hans
        clear hans Hans2
        go_wp2
        go_roundw
        case rel =>
          refine ⟨j + 1, by go_num, hlt2, Hans3.out, (H2.out.set i).alloc _, (HK2.out.setCell 1 _).alloc (by simp; omega) _, ?_⟩
          exact (BoxAt.setOther HC2.out ⟨rb, 1, none⟩ _ (by show w.heap.size ≠ rb; omega)).alloc _
        case measure => simp [intOf]; omega
    · obtain rfl : j = fvs.length := by omega
      have hlt' : decide ((fvs.length : Int) < (fvs.length : Int)) = false := decide_eq_false (by omega)
      have hans := Hans.out
      rw [List.drop_eq_nil_of_le (by have := Hlen.out; omega), orAll] at hans
      subst hans
      obtain ⟨q0, q1, q2, q3, q4, q5, q6, p0, p1, p2, p3, p4, p5, p6⟩ := cells7 HC.out
      go_wp2
      exact end7 Tryd.results42 HC.out rfl rfl rfl rfl (And.intro (got_fin (b := w.heap.size) HK.out (Nat.le_refl _) hlt HRd.out hi rfl (fun x m h => by cases h)) (fun _ => rfl))
end Go.Proofs.YtlijmflikcjikaaDoor

/-
  Package expr: head, given place one deeper.
-/
namespace Go.Proofs.YtlijmflikcjikaaDoor
open Go.RowKit
set_option linter.unusedVariables false
set_option linter.unusedSimpArgs false

theorem cells_box {w : World} {E : Nat} {x0 x1 x2 x3 x4 x5 x6 : Value} {t : TypeId} (h : BoxAt w E #[x0, x1, x2, x3, x4, x5, x6] t) : CellsAt w E 0 ⟨x0, x1, x2, x3, x4, x5, x6⟩ := ⟨h.cell 0, h.cell 1, h.cell 2, h.cell 3, h.cell 4, h.cell 5, h.cell 6⟩
theorem exF_nest {W : World} {F : Nat → Prop} {x : EX} {b : Nat} {c : C7} (hb : F b) (hc : CellsAt W b 0 c) (hx : ExF W F x c) :
    ExF W F (.mk 6 E0 E0 E0 [] (some x) []) ⟨.int .i64 6, .string E0, .string E0, .string E0, .slice none 0 0, .pointer (some ⟨b, 0, none⟩), .slice none 0 0⟩ := by
  rw [ExF]
  refine ⟨rfl, rfl, rfl, rfl, LieN.nil _, ?_, ⟨none, 0, rfl, Nat.le_refl _, Nat.zero_le _, fun h => absurd h (by simp)⟩⟩
  simp only [OF]
  exact ⟨b, 0, c, rfl, hb, hc, hx⟩
theorem nest_val (P : Nat → Res) (i : Nat) : (nestS P i).isSome = (P i).isSome ∧ ∀ x m, nestS P i = some (x, m) → ∃ y, P i = some (y, m) ∧ x = .mk 6 E0 E0 E0 [] (some y) [] := by
  unfold nestS
  cases h : P i with
  | none => exact ⟨rfl, fun x m h => by cases h⟩
  | some p => obtain ⟨y, m⟩ := p; exact ⟨rfl, fun x m h => by cases h; exact ⟨y, rfl, rfl⟩⟩
set_option maxHeartbeats 2000000 in
set_option maxRecDepth 100000 in
theorem nest_way {rb : Nat} {s : ByteArray} {d : Nat} {P : Nat → Res} (hd : d ≤ 4000) (hP : WayTo rb s 7 #[pt rb, .int .i64 ((d + 1 : Nat) : Int)] P) (k1 k2 i : Nat) (w : World) (hr : Rd rb s i w) (hi : i ≤ s.size)
    (h1 : BoxAt w k1 #[pt rb] 45) (h2 : BoxAt w k2 #[.int .i64 d] 3) :
    Calls Tryd.prog 41 #[pt k1, pt k2] w (Got rb s w (nestS P i)) := by
  have hP2 := fun W h => hP i W h hi
  rw [show ((d + 1 : Nat) : Int) = (d : Int) + 1 by omega] at hP2
  obtain ⟨hR2, hR3⟩ := nest_val P i
  obtain ⟨R, hR1⟩ : ∃ R, nestS P i = R := ⟨_, rfl⟩
  obtain ⟨r, hrr⟩ : ∃ r, P i = r := ⟨_, rfl⟩
  rw [hrr] at hP2 hR2 hR3
  rw [hR1] at hR2 hR3 ⊢
  have HP := Lib.hid hP2
  have HR2 := Lib.hid hR2
  have HR3 := Lib.hid hR3
  have HR := Lib.hid hr
  have hlt := hr.lt
  have c1 := h1.cell 0
  have c2 := h2.cell 0
  have hl1 := h1.lt
  have hl2 := h2.lt
  simp at c1 c2
  have hd0 : (d : Int) ≤ 4000 := by omega
  clear hP hP2 hrr hR1 hR2 hR3 hr h1 h2
  unfold pt at *
  go_enter Tryd.func41, Tryd.ntmps41
  go_wp2_with fail
  go_at_call 7
  refine (HP.out _ (HR.out.alloc _)).mono ?_
  rintro e w1 ⟨h1, k, t, n, a, A1, n1, c1', p, A2, n2, c2', j, rfl, h2, hj, h3⟩
  have HK := Lib.hid (((Kp.refl rb w).alloc (Nat.le_of_lt hlt) _).trans h1)
  have hc := BoxAt.kp (BoxAt.new w zE 28) h1 (by omega)
  have hl := hc.lt
  have HC := Lib.hid hc
  have H2 := Lib.hid h2
  have H3 := Lib.hid h3
  have hlr := h2.lt
  obtain ⟨q0, q1, q2, q3, q4, q5, q6, p0, p1, p2, p3, p4, p5, p6⟩ := cells7 hc
  unfold exV
  clear h1 h2 h3 hc HP
  go_wp2
  refine end7w Tryd.results41 ((box_set7 HC.out _ _ _ _ _ _ _).alloc _) rfl rfl rfl (got_end ((HK.out.set7 (Nat.le_refl _) hlt _ _ _ _ _ _ _).alloc (by rw [set7_size]; omega) _) ((H2.out.set7 (by omega) _ _ _ _ _ _ _).alloc _) hj HR2.out.symm (fun x m h => ?_))
  obtain ⟨y, hy, rfl⟩ := HR3.out x m h
  obtain ⟨h4, h5⟩ := H3.out y m hy
  refine ⟨h4, exF_nest (b := w1.heap.size) ?_ (cells_box (t := 28) ?_) (ExF.carry (fun q hq => ?_) _ _ h5)⟩
  · exact ⟨Nat.le_of_lt hl, by simp⟩
  · have := BoxAt.new (set7 w1 w.heap.size (.int .i64 6) (.string ⟨#[]⟩) (.string ⟨#[]⟩) (.string ⟨#[]⟩) (.slice none 0 0) (.pointer (some ⟨w1.heap.size, 0, none⟩)) (.slice none 0 0)) #[.int .i64 k, .string t, .string n, .string a, .slice A1 n1 c1', .pointer p, .slice A2 n2 c2'] 28
    rw [set7_size] at this
    exact this
  · obtain ⟨hq1, hq2⟩ := hq
    rw [World.size_alloc] at hq1
    have hq3 : q < (set7 w1 w.heap.size (.int .i64 6) (.string ⟨#[]⟩) (.string ⟨#[]⟩) (.string ⟨#[]⟩) (.slice none 0 0) (.pointer (some ⟨w1.heap.size, 0, none⟩)) (.slice none 0 0)).heap.size := by rw [set7_size]; exact hq2
    exact ⟨⟨by omega, by rw [World.size_alloc]; exact Nat.lt_succ_of_lt hq3⟩, (Lib.alloc_old _ _ q hq3).trans (set7_heap _ _ _ _ _ _ _ _ _ q (by omega))⟩
theorem head_or (P : Nat → Res) (s : ByteArray) (i : Nat) : orAll [quoS s, varS s, nestS P, terS s, refS 3 s, nubS s] i = headS P s i := by
  unfold orAll orAll orAll orAll orAll orAll orAll headS
  rw [Option.or_none]
def headV (rb k1 k2 : Nat) : List Value := [.func (.func 43) #[pt rb] #[], .func (.func 44) #[pt rb] #[], .func (.func 41) #[] #[pt k1, pt k2],
  .func (.func 45) #[pt rb] #[], .func (.func 46) #[pt rb] #[], .func (.func 47) #[pt rb] #[]]
theorem head_first {rb : Nat} {s : ByteArray} {d : Nat} {P : Nat → Res} (hs : s.size ≤ 1000000) (hd : d ≤ 4000) (hP : WayTo rb s 7 #[pt rb, .int .i64 ((d + 1 : Nat) : Int)] P) (L k1 k2 i : Nat) (w : World) (hr : Rd rb s i w) (hi : i ≤ s.size)
    (h1 : BoxAt w k1 #[pt rb] 45) (h2 : BoxAt w k2 #[.int .i64 d] 3) (hL : BoxAt w L (headV rb k1 k2).toArray 90) (n1 : k1 ≠ rb) (n2 : k2 ≠ rb) (n3 : L ≠ rb) :
    Calls Tryd.prog 42 #[pt rb, .slice (some ⟨L, 0, none⟩) 6 6] w (Got0 rb s w (orAll [quoS s, varS s, nestS P, terS s, refS 3 s, nubS s] i)) := by
  refine first_any (by omega) (headV rb k1 k2) _ L 6 i w hr hi rfl (by unfold headV; simp) (fun j fv h => ?_) (BoxAt.lt hL) n3 (fun j fv f h1' h2' => ?_)
  · rw [BoxAt.cell hL j, List.getElem?_toArray]
    exact h
  · match j with
    | 0 => cases h1'; cases h2'; exact ⟨_, _, _, rfl, fun args w => by go_simp, fun W i _ hr hi => quoted_way hs i W hr hi⟩
    | 1 => cases h1'; cases h2'; exact ⟨_, _, _, rfl, fun args w => by go_simp, fun W i _ hr hi => variable_way (by omega) i W hr hi⟩
    | 2 => cases h1'; cases h2'; exact ⟨_, _, _, rfl, fun args w => by go_simp, fun W i hk hr hi => nest_way hd hP k1 k2 i W hr hi (h1.kp hk n1) (h2.kp hk n2)⟩
    | 3 => cases h1'; cases h2'; exact ⟨_, _, _, rfl, fun args w => by go_simp, fun W i _ hr hi => term_way (by omega) i W hr hi⟩
    | 4 => cases h1'; cases h2'; exact ⟨_, _, _, rfl, fun args w => by go_simp, fun W i _ hr hi => message_way (by omega) i W hr hi⟩
    | 5 => cases h1'; cases h2'; exact ⟨_, _, _, rfl, fun args w => by go_simp, fun W i _ hr hi => number_way (by omega) i W hr hi⟩
    | j + 6 => cases h1'
set_option maxHeartbeats 4000000 in
set_option maxRecDepth 100000 in
theorem head_way {rb : Nat} {s : ByteArray} {d : Nat} {P : Nat → Res} (hs : s.size ≤ 1000000) (hd : d ≤ 4000) (hP : WayTo rb s 7 #[pt rb, .int .i64 ((d + 1 : Nat) : Int)] P) : ∀ (i : Nat) (w : World), Rd rb s i w → i ≤ s.size → Calls Tryd.prog 23 #[pt rb, .int .i64 d] w (Got0 rb s w (headS P s i)) := by
  intro i w hr hi
  have hlt := hr.lt
  have hF := head_first hs hd hP (w.heap.size + 1 + 1 + 1) w.heap.size (w.heap.size + 1) i ((((w.alloc (.cells #[pt rb] 45)).alloc (.cells #[.int .i64 d] 3)).alloc (.cells zE 28)).alloc (.cells (headV rb w.heap.size (w.heap.size + 1)).toArray 90))
    ((((hr.alloc _).alloc _).alloc _).alloc _) hi ((((BoxAt.new w _ _).alloc _).alloc _).alloc _) ((((BoxAt.new' (w.alloc (.cells #[pt rb] 45)) (w.heap.size + 1) _ _ (by simp)).alloc _).alloc _)) (BoxAt.new' _ _ _ _ (by simp)) (by omega) (by omega) (by omega)
  have HR := Lib.hid hr
  rw [← head_or]
  obtain ⟨R, hR⟩ : ∃ R, orAll [quoS s, varS s, nestS P, terS s, refS 3 s, nubS s] i = R := ⟨_, rfl⟩
  rw [hR] at hF ⊢
  have hd0 : (d : Int) ≤ 4000 := by omega
  unfold headV pt at hF
  have HF := Lib.hid hF
  clear hP hr hR hF
  unfold pt
  go_enter Tryd.func23, Tryd.ntmps23
  go_wp2_with fail
  go_at_call 42
  refine HF.out.mono ?_
  rintro e w1 ⟨⟨h1, k, t, n, a, A1, n1, c1', p, A2, n2, c2', j, rfl, h2, hj, h3⟩, hz⟩
  have HZ := Lib.hid hz
  have hs0 : rb ≤ w.heap.size := Nat.le_of_lt hlt
  have HK := Lib.hid ((((((Kp.refl rb w).alloc hs0 _).alloc (by simp; omega) _).alloc (by simp; omega) _).alloc (by simp; omega) _).trans h1)
  have hc := BoxAt.kp ((BoxAt.new' ((w.alloc (.cells #[.pointer (some ⟨rb, 0, none⟩)] 45)).alloc (.cells #[.int .i64 d] 3)) (w.heap.size + 1 + 1) zE 28 (by simp)).alloc _) h1 (by omega)
  have hl := hc.lt
  have HC := Lib.hid hc
  have H2 := Lib.hid h2
  have H3 := Lib.hid h3
  obtain ⟨q0, q1, q2, q3, q4, q5, q6, p0, p1, p2, p3, p4, p5, p6⟩ := cells7 hc
  unfold exV
  clear h1 h2 h3 hc hz
  go_wp2
  exact end7 Tryd.results23 HC.out rfl rfl rfl rfl (And.intro (got_fin (b := w.heap.size + 1 + 1) HK.out (by omega) hlt H2.out hj rfl (fun x m h => ⟨(H3.out x m h).1, ExF.carry (fun q hq => by
    obtain ⟨hq1, hq2⟩ := hq
    simp only [World.size_alloc] at hq1
    exact ⟨⟨⟨by omega, hq2⟩, by omega⟩, rfl⟩) _ _ (H3.out x m h).2⟩)) HZ.out)
end Go.Proofs.YtlijmflikcjikaaDoor

/-
  Package expr: opens.
-/
namespace Go.Proofs.YtlijmflikcjikaaDoor
open Go.RowKit
set_option linter.unusedVariables false
set_option linter.unusedSimpArgs false

/-- What opens makes: the reader goes on, and a message's name is made a function's. -/
def Opened (rb : Nat) (s : ByteArray) (w : World) (eb eo : Nat) (isF o : Bool) (j : Nat) (e : Ending) (w' : World) : Prop :=
  e = .returned (.bool o) ∧ ∃ wm, Kp rb w wm ∧ Rd rb s j wm ∧ j ≤ s.size ∧ w' = (if isF && o then wm.setCell ⟨eb, eo, none⟩ (.int .i64 5) else wm)
theorem bl_ok (s : ByteArray) (i : Nat) (hi : i ≤ s.size) : i ≤ bl s i ∧ bl s i ≤ s.size := ⟨behN_ge _ _ _, by have := behN_le blB s.data.toList i (by rw [size_data]; exact hi); rw [size_data] at this; exact this⟩
set_option maxHeartbeats 4000000 in
set_option maxRecDepth 100000 in
theorem opens_any {rb : Nat} {s : ByteArray} (hs : s.size ≤ 1000000) (k : Int) (t n a : ByteArray) (al : List AR) (ie : Option EX) (vs : List VA) (eb eo i : Nat) (w : World) (hr : Rd rb s i w) (hi : i ≤ s.size) (hn : n.size ≤ 4000000)
    (hb : eb < w.heap.size) (hne : eb ≠ rb) (h0 : w.cell? ⟨eb, eo, none⟩ = some (.int .i64 k)) (h2 : w.cell? ⟨eb, eo + 2, none⟩ = some (.string n)) (h3 : w.cell? ⟨eb, eo + 3, none⟩ = some (.string a)) (hf : w.frozen? ⟨eb, eo, none⟩ = false) :
    Calls Tryd.prog 24 #[pt rb, .pointer (some ⟨eb, eo, none⟩)] w (Opened rb s w eb eo (isFuncS (.mk k t n a al ie vs)) (opnS s (.mk k t n a al ie vs) i).1 (opnS s (.mk k t n a al ie vs) i).2) := by
  have HR := Lib.hid hr
  have hlt := hr.lt
  have hB := bl_ok s i hi
  have hP := fun W (h : Rd rb s i W) => pass_any endBlank W h (by omega) hi
  have hT := fun W (h : Rd rb s (bl s i) W) => take_any 40 W h (by omega) hB.2
  have hBig := fun W => big_any n W (by omega)
  unfold opnS
  rw [show isTermS (.mk k t n a al ie vs) = (k == 4) from rfl, show isFuncS (.mk k t n a al ie vs) = ((k == 3) && emp a && bigV n) from rfl]
  obtain ⟨m, hm⟩ : ∃ m, bl s i = m := ⟨_, rfl⟩
  rw [hm] at hB hP hT ⊢
  obtain ⟨b, hbb⟩ : ∃ b, isAt s m 40 = b := ⟨_, rfl⟩
  have hm1 : b = true → m + 1 ≤ s.size := fun h => isAt_lt (hbb.trans h)
  rw [hbb] at hT ⊢
  obtain ⟨q, hq⟩ : ∃ q, bigV n = q := ⟨_, rfl⟩
  rw [hq] at hBig ⊢
  obtain ⟨g, hg⟩ : ∃ g, emp a = g := ⟨_, rfl⟩
  have hg2 : a.toList.isEmpty = g := hg
  rw [hg]
  obtain ⟨isF, hisF⟩ : ∃ x, ((k == 3) && g && q) = x := ⟨_, rfl⟩
  rw [hisF]
  obtain ⟨oj, hoj⟩ : ∃ oj : Bool × Nat, (if isF || (k == 4) then (if b then (true, m + 1) else (false, m)) else (false, i)) = oj := ⟨_, rfl⟩
  rw [hoj]
  have HJ := Lib.hid hoj
  have HF := Lib.hid hisF
  have HM1 := Lib.hid hm1
  have HP := Lib.hid hP
  have HT := Lib.hid hT
  have HBig := Lib.hid hBig
  clear hm hP hT hbb hq hBig hg hr hoj hisF hm1
  unfold pt at HP HT ⊢
  by_cases h34 : k = 3 ∨ k = 4
  case neg =>
    have z3 : (k == 3) = false := beq_eq_false_iff_ne.2 (fun h => h34 (.inl h))
    have z4 : (k == 4) = false := beq_eq_false_iff_ne.2 (fun h => h34 (.inr h))
    have y4 : (k != 4) = true := by rw [bne, z4]; rfl
    have HZ := Lib.hid (And.intro z3 z4)
    clear h34
    go_enter Tryd.func24, Tryd.ntmps24
    go_wp2
    go_ret
    obtain rfl := HF.out
    obtain rfl := HJ.out
    rw [HZ.out.1, HZ.out.2]
    exact ⟨rfl, w, Kp.refl _ _, HR.out, hi, rfl⟩
  rcases h34 with rfl | rfl
  · cases g
    case false =>
      go_enter Tryd.func24, Tryd.ntmps24
      go_wp2
      go_ret
      obtain rfl := HF.out
      obtain rfl := HJ.out
      exact ⟨rfl, w, Kp.refl _ _, HR.out, hi, rfl⟩
    cases q
    case false =>
      go_enter Tryd.func24, Tryd.ntmps24
      go_wp2_with fail
      go_at_call 48
      refine (HBig.out _).mono ?_
      rintro e w' ⟨rfl, rfl⟩
      go_wp2
      go_ret
      obtain rfl := HF.out
      obtain rfl := HJ.out
      exact ⟨rfl, w, Kp.refl _ _, HR.out, hi, rfl⟩
    go_enter Tryd.func24, Tryd.ntmps24
    go_wp2_with fail
    go_at_call 48
    refine (HBig.out _).mono ?_
    rintro e w' ⟨rfl, rfl⟩
    go_wp2_with fail
    go_at_call 10
    refine (HP.out _ HR.out).mono ?_
    rintro e w1 ⟨rfl, g1, g2⟩
    have G1 := Lib.hid g1
    have G2 := Lib.hid g2
    clear g1 g2
    go_wp2_with fail
    go_at_call 9
    refine (HT.out _ G1.out).mono ?_
    rintro e w2 ⟨rfl, g3, g4⟩
    have hk := G2.out.trans g4
    have k0 : w2.cell? ⟨eb, eo, none⟩ = some (.int .i64 3) := (cell_same (hk.others eb hb hne) eo).trans h0
    have f0 : w2.frozen? ⟨eb, eo, none⟩ = false := by
      have := hk.others eb hb hne
      unfold World.frozen? at hf ⊢
      rw [this]; exact hf
    have hb2 : eb < w2.heap.size := Nat.lt_of_lt_of_le hb hk.size
    have HK := Lib.hid hk
    have G3 := Lib.hid g3
    clear g3 g4 hk
    cases b
    case false =>
      go_wp2
      go_ret
      obtain rfl := HF.out
      obtain rfl := HJ.out
      exact ⟨rfl, w2, HK.out, by simpa using G3.out, hB.2, rfl⟩
    go_wp2
    go_ret
    obtain rfl := HF.out
    obtain rfl := HJ.out
    exact ⟨rfl, w2, HK.out, by simpa using G3.out, by simpa using HM1.out, rfl⟩
  · go_enter Tryd.func24, Tryd.ntmps24
    go_wp2_with fail
    go_at_call 10
    refine (HP.out _ HR.out).mono ?_
    rintro e w1 ⟨rfl, g1, g2⟩
    have G1 := Lib.hid g1
    have G2 := Lib.hid g2
    clear g1 g2
    go_wp2_with fail
    go_at_call 9
    refine (HT.out _ G1.out).mono ?_
    rintro e w2 ⟨rfl, g3, g4⟩
    have HK := Lib.hid (G2.out.trans g4)
    have G3 := Lib.hid g3
    clear g3 g4
    cases b
    case false =>
      go_wp2
      go_ret
      obtain rfl := HF.out
      obtain rfl := HJ.out
      exact ⟨rfl, w2, HK.out, by simpa using G3.out, hB.2, rfl⟩
    go_wp2
    go_ret
    obtain rfl := HF.out
    obtain rfl := HJ.out
    exact ⟨rfl, w2, HK.out, by simpa using G3.out, by simpa using HM1.out, rfl⟩
end Go.Proofs.YtlijmflikcjikaaDoor

/-
  Package expr: named, argument.
-/
namespace Go.Proofs.YtlijmflikcjikaaDoor
open Go.RowKit
set_option linter.unusedVariables false
set_option linter.unusedSimpArgs false

abbrev zA : Array Value := #[.string ⟨#[]⟩, .int .i64 0, .string ⟨#[]⟩, .string ⟨#[]⟩, .string ⟨#[]⟩, .slice none 0 0, .pointer none, .slice none 0 0]
theorem cells8 {w : World} {k : Nat} {x0 x1 x2 x3 x4 x5 x6 x7 : Value} {t : TypeId} (h : BoxAt w k #[x0, x1, x2, x3, x4, x5, x6, x7] t) :
    w.cell? ⟨k, 0, none⟩ = some x0 ∧ w.cell? ⟨k, 1, none⟩ = some x1 ∧ w.cell? ⟨k, 2, none⟩ = some x2 ∧ w.cell? ⟨k, 3, none⟩ = some x3 ∧ w.cell? ⟨k, 4, none⟩ = some x4 ∧ w.cell? ⟨k, 5, none⟩ = some x5 ∧ w.cell? ⟨k, 6, none⟩ = some x6 ∧ w.cell? ⟨k, 7, none⟩ = some x7 ∧
    w.frozen? ⟨k, 0, none⟩ = false ∧ w.frozen? ⟨k, 1, none⟩ = false ∧ w.frozen? ⟨k, 2, none⟩ = false ∧ w.frozen? ⟨k, 3, none⟩ = false ∧ w.frozen? ⟨k, 4, none⟩ = false ∧ w.frozen? ⟨k, 5, none⟩ = false ∧ w.frozen? ⟨k, 6, none⟩ = false ∧ w.frozen? ⟨k, 7, none⟩ = false :=
  ⟨h.cell 0, h.cell 1, h.cell 2, h.cell 3, h.cell 4, h.cell 5, h.cell 6, h.cell 7, Lib.frozen_of_heap h 0, Lib.frozen_of_heap h 1, Lib.frozen_of_heap h 2, Lib.frozen_of_heap h 3, Lib.frozen_of_heap h 4, Lib.frozen_of_heap h 5, Lib.frozen_of_heap h 6, Lib.frozen_of_heap h 7⟩
def set8 (w : World) (b : Nat) (x0 x1 x2 x3 x4 x5 x6 x7 : Value) : World := (set7 w b x0 x1 x2 x3 x4 x5 x6).setCell ⟨b, 7, none⟩ x7
theorem set8_heap (w : World) (b : Nat) (x0 x1 x2 x3 x4 x5 x6 x7 : Value) (k : Nat) (hk : k ≠ b) : (set8 w b x0 x1 x2 x3 x4 x5 x6 x7).heap[k]? = w.heap[k]? := by
  unfold set8
  rw [Below.heap_setCell _ _ _ k hk, set7_heap _ _ _ _ _ _ _ _ _ k hk]
theorem set8_size (w : World) (b : Nat) (x0 x1 x2 x3 x4 x5 x6 x7 : Value) : (set8 w b x0 x1 x2 x3 x4 x5 x6 x7).heap.size = w.heap.size := by
  unfold set8; simp [set7_size]
theorem Kp.set8 {rb : Nat} {a w : World} (h : Kp rb a w) {b : Nat} (hb : a.heap.size ≤ b) (hr : rb < a.heap.size) (x0 x1 x2 x3 x4 x5 x6 x7 : Value) : Kp rb a (set8 w b x0 x1 x2 x3 x4 x5 x6 x7) := (h.set7 hb hr x0 x1 x2 x3 x4 x5 x6).setNew hb hr 7 x7
theorem Rd.set8 {rb : Nat} {s : ByteArray} {i : Nat} {w : World} (h : Rd rb s i w) {b : Nat} (hb : rb ≠ b) (x0 x1 x2 x3 x4 x5 x6 x7 : Value) : Rd rb s i (set8 w b x0 x1 x2 x3 x4 x5 x6 x7) := (h.set7 hb x0 x1 x2 x3 x4 x5 x6).setOther hb 7 x7
theorem box_set8 {w : World} {E : Nat} {x0 x1 x2 x3 x4 x5 x6 x7 : Value} {t : TypeId} (h : BoxAt w E #[x0, x1, x2, x3, x4, x5, x6, x7] t) (y0 y1 y2 y3 y4 y5 y6 y7 : Value) :
    BoxAt (set8 w E y0 y1 y2 y3 y4 y5 y6 y7) E #[y0, y1, y2, y3, y4, y5, y6, y7] t := by
  unfold set8 set7
  unfold BoxAt at h ⊢
  simp [World.setCell, Array.getElem?_modify, h]
set_option maxRecDepth 100000 in
theorem res8 {fn : Func} {A M : Nat} {tmps : Array Value} {w : World} {b : Nat} {x0 x1 x2 x3 x4 x5 x6 x7 v : Value} {t : TypeId} (hres : fn.results = #[.cell A 38, .tmp M]) (ha : tmps.getD A undef = .pointer (some ⟨b, 0, none⟩)) (hm : tmps.getD M undef = v)
    (hb : BoxAt w b #[x0, x1, x2, x3, x4, x5, x6, x7] t) : (results fn tmps).run Tryd.prog w = .ok (.tuple #[.agg #[x0, x1, x2, x3, x4, x5, x6, x7], v]) w := by
  obtain ⟨q0, q1, q2, q3, q4, q5, q6, q7, _⟩ := cells8 hb
  have ha' : tmps[A]?.getD undef = .pointer (some ⟨b, 0, none⟩) := by rw [← ha]; simp
  have hm' : tmps[M]?.getD undef = v := by rw [← hm]; simp
  simp [results, hres, ha', hm', go_sem, q0, q1, q2, q3, q4, q5, q6, q7]
theorem end8w {fn : Func} {R : Ending → World → Prop} {a : Act} {w2 : World} {A M b : Nat} {x0 x1 x2 x3 x4 x5 x6 x7 v : Value} {t : TypeId} (hres : fn.results = #[.cell A 38, .tmp M]) (hbox : BoxAt w2 b #[x0, x1, x2, x3, x4, x5, x6, x7] t)
    (ha : a.tmps.getD A undef = .pointer (some ⟨b, 0, none⟩)) (hm : a.tmps.getD M undef = v) (hd : a.defers = []) (hR : R (.returned (.tuple #[.agg #[x0, x1, x2, x3, x4, x5, x6, x7], v])) w2) : bodyPost Tryd.prog fn R .ret a w2 :=
  bodyPost_ret (res8 hres ha hm hbox) hd hR
/-- An argument as it is handed on. -/
def arV (X : ByteArray) (k : Int) (t n a : ByteArray) (A1 : Option Addr) (n1 c1 : Nat) (p : Option Addr) (A2 : Option Addr) (n2 c2 : Nat) : Value := .agg #[.string X, .int .i64 k, .string t, .string n, .string a, .slice A1 n1 c1, .pointer p, .slice A2 n2 c2]
/-- What reading an argument gives. -/
def GotA (rb : Nat) (s : ByteArray) (w : World) (r : Option (ByteArray × EX × Nat)) (e : Ending) (w' : World) : Prop :=
  Kp rb w w' ∧ ∃ (X : ByteArray) (k : Int) (t n a : ByteArray) (A1 : Option Addr) (n1 c1 : Nat) (p : Option Addr) (A2 : Option Addr) (n2 c2 : Nat) (j : Nat),
    e = .returned (.tuple #[arV X k t n a A1 n1 c1 p A2 n2 c2, .bool r.isSome]) ∧ Rd rb s j w' ∧ j ≤ s.size ∧ (r = none → k = 0) ∧
    ∀ x y m, r = some (x, y, m) → x = X ∧ m = j ∧ ExF w' (Since w.heap.size w') y ⟨.int .i64 k, .string t, .string n, .string a, .slice A1 n1 c1, .pointer p, .slice A2 n2 c2⟩
theorem named_first {rb : Nat} {s : ByteArray} (hs : s.size ≤ 1000000) (L i : Nat) (w : World) (hr : Rd rb s i w) (hi : i ≤ s.size)
    (hL : BoxAt w L #[.func (.func 43) #[pt rb] #[], .func (.func 47) #[pt rb] #[]] 90) (n3 : L ≠ rb) :
    Calls Tryd.prog 42 #[pt rb, .slice (some ⟨L, 0, none⟩) 2 2] w (Got0 rb s w ((quoS s i).or (nubS s i))) := by
  have h := first_any (by omega) [.func (.func 43) #[pt rb] #[], .func (.func 47) #[pt rb] #[]] [quoS s, nubS s] L 2 i w hr hi rfl (by simp) (fun j fv h => ?_) (BoxAt.lt hL) n3 (fun j fv f h1' h2' => ?_)
  · unfold orAll orAll orAll at h
    rw [Option.or_none] at h
    exact h
  · rw [BoxAt.cell hL j, List.getElem?_toArray]
    exact h
  · match j with
    | 0 => cases h1'; cases h2'; exact ⟨_, _, _, rfl, fun args w => by go_simp, fun W i _ hr hi => quoted_way hs i W hr hi⟩
    | 1 => cases h1'; cases h2'; exact ⟨_, _, _, rfl, fun args w => by go_simp, fun W i _ hr hi => number_way (by omega) i W hr hi⟩
    | j + 2 => cases h1'
theorem nam_val (s : ByteArray) (i j k m : Nat) (hj : nm s i = j) (hk : bl s j = k) (hm : bl s (k + 1) = m) (hne : j ≠ i) (hc : isAt s k 58 = true) (r : Res) (hr : (quoS s m).or (nubS s m) = r) :
    (namS s i).isSome = r.isSome ∧ ∀ x y q, namS s i = some (x, y, q) → x = s.extract i j ∧ r = some (y, q) := by
  unfold namS
  rw [hj, if_neg hne, hk, hc, if_pos rfl, hm, hr]
  cases r with
  | none => exact ⟨rfl, fun x y q h => by cases h⟩
  | some p => obtain ⟨e, q'⟩ := p; exact ⟨rfl, fun x y q h => by cases h; exact ⟨rfl, rfl⟩⟩
set_option maxHeartbeats 4000000 in
set_option maxRecDepth 100000 in
theorem named_any {rb : Nat} {s : ByteArray} (hs : s.size ≤ 1000000) (i : Nat) (w : World) (hr : Rd rb s i w) (hi : i ≤ s.size) : Calls Tryd.prog 49 #[pt rb] w (GotA rb s w (namS s i)) := by
  have hn := nm_ok s i hi
  have he := ext_empty s i (nm s i) hn.1 hn.2
  have hP := fun W (h : Rd rb s i W) => pass_any endName W h (by omega) hi
  obtain ⟨j, hj⟩ : ∃ j, nm s i = j := ⟨_, rfl⟩
  rw [hj] at hn he hP
  obtain ⟨X, hX⟩ : ∃ X, s.extract i j = X := ⟨_, rfl⟩
  rw [hX] at he hP
  have hB := bl_ok s j hn.2
  have hP2 := fun W (h : Rd rb s j W) => pass_any endBlank W h (by omega) hn.2
  obtain ⟨k, hk⟩ : ∃ k, bl s j = k := ⟨_, rfl⟩
  rw [hk] at hB hP2
  have hT := fun W (h : Rd rb s k W) => take_any 58 W h (by omega) hB.2
  obtain ⟨b, hb⟩ : ∃ b, isAt s k 58 = b := ⟨_, rfl⟩
  have hk1 : b = true → k + 1 ≤ s.size := fun h => isAt_lt (hb.trans h)
  rw [hb] at hT
  have HP := Lib.hid hP
  have HP2 := Lib.hid hP2
  have HT := Lib.hid hT
  have HR := Lib.hid hr
  have hlt := hr.lt
  have HE := Lib.hid he
  unfold pt at HP HP2 HT ⊢
  by_cases hbad : j = i ∨ b = false
  · have hnone : namS s i = none := by
      unfold namS
      rw [hj]
      rcases hbad with h | h
      · rw [if_pos h]
      · rw [hk, hb, h]; simp
    rw [hnone]
    have Hb := Lib.hid hbad
    clear hP hP2 hT hr he hj hX hk hb hnone hbad hk1
    cases hx : X.toList.isEmpty
    case true =>
      go_enter Tryd.func49, Tryd.ntmps49
      go_wp2_with fail
      go_at_call 10
      refine (HP.out _ (HR.out.alloc _)).mono ?_
      rintro e w1 ⟨rfl, g1, g2⟩
      have G1 := Lib.hid g1
      have G2 := Lib.hid (((Kp.refl rb w).alloc (Nat.le_of_lt hlt) _).trans g2)
      have hc := BoxAt.kp (BoxAt.new w zA 38) g2 (by omega)
      have hcl := hc.lt
      have HC := Lib.hid hc
      clear g1 g2 hc
      go_wp2_with fail
      go_at_call 10
      refine (HP2.out _ G1.out).mono ?_
      rintro e w2 ⟨rfl, g3, g4⟩
      have G3 := Lib.hid g3
      have HK := Lib.hid (G2.out.trans g4)
      have hc2 := BoxAt.kp HC.out g4 (by omega)
      have hcl2 := hc2.lt
      have HC2 := Lib.hid hc2
      obtain ⟨q0, q1, q2, q3, q4, q5, q6, q7, p0, p1, p2, p3, p4, p5, p6, p7⟩ := cells8 hc2
      clear g3 g4 hc2
      go_wp2
      exact end8w Tryd.results49 (box_set8 HC2.out _ _ _ _ _ _ _ _) rfl rfl rfl ⟨HK.out.set8 (Nat.le_refl _) hlt _ _ _ _ _ _ _ _, _, _, _, _, _, _, _, _, _, _, _, _, k, rfl, G3.out.set8 (by omega) _ _ _ _ _ _ _ _, hB.2, fun _ => rfl, fun x y m h => by cases h⟩
    have hb0 : b = false := by
      rcases Hb.out with h | h
      · have := HE.out; rw [hx, decide_eq_true h] at this; cases this
      · exact h
    subst hb0
    clear Hb
    go_enter Tryd.func49, Tryd.ntmps49
    go_wp2_with fail
    go_at_call 10
    refine (HP.out _ (HR.out.alloc _)).mono ?_
    rintro e w1 ⟨rfl, g1, g2⟩
    have G1 := Lib.hid g1
    have G2 := Lib.hid (((Kp.refl rb w).alloc (Nat.le_of_lt hlt) _).trans g2)
    have hc := BoxAt.kp (BoxAt.new w zA 38) g2 (by omega)
    have hcl := hc.lt
    have HC := Lib.hid hc
    clear g1 g2 hc
    go_wp2_with fail
    go_at_call 10
    refine (HP2.out _ G1.out).mono ?_
    rintro e w2 ⟨rfl, g3, g4⟩
    have G3 := Lib.hid g3
    have HK := Lib.hid (G2.out.trans g4)
    have hc2 := BoxAt.kp HC.out g4 (by omega)
    have hcl2 := hc2.lt
    have HC2 := Lib.hid hc2
    clear g3 g4 hc2
    go_wp2_with fail
    go_at_call 9
    refine (HT.out _ G3.out).mono ?_
    rintro e w3 ⟨rfl, g5, g6⟩
    have G5 := Lib.hid (show Rd rb s k w3 by simpa using g5)
    have HK3 := Lib.hid (HK.out.trans g6)
    have hc3 := BoxAt.kp HC2.out g6 (by omega)
    have hcl3 := hc3.lt
    have HC3 := Lib.hid hc3
    obtain ⟨q0, q1, q2, q3, q4, q5, q6, q7, p0, p1, p2, p3, p4, p5, p6, p7⟩ := cells8 hc3
    clear g5 g6 hc3
    go_wp2
    exact end8w Tryd.results49 (box_set8 HC3.out _ _ _ _ _ _ _ _) rfl rfl rfl ⟨HK3.out.set8 (Nat.le_refl _) hlt _ _ _ _ _ _ _ _, _, _, _, _, _, _, _, _, _, _, _, _, k, rfl, G5.out.set8 (by omega) _ _ _ _ _ _ _ _, hB.2, fun _ => rfl, fun x y m h => by cases h⟩
  · have hne : j ≠ i := fun h => hbad (.inl h)
    have hb1 : b = true := by cases b; exact absurd (.inr rfl) hbad; rfl
    subst hb1
    have hx : X.toList.isEmpty = false := by rw [HE.out, decide_eq_false hne]
    have hk2 := hk1 rfl
    have hB3 := bl_ok s (k + 1) hk2
    have hP3 := fun W (h : Rd rb s (k + 1) W) => pass_any endBlank W h (by omega) hk2
    obtain ⟨m, hm⟩ : ∃ m, bl s (k + 1) = m := ⟨_, rfl⟩
    rw [hm] at hB3 hP3
    have hF := fun L W h1 h2 h3 => named_first (rb := rb) hs L m W h1 hB3.2 h2 h3
    obtain ⟨r, hrr⟩ : ∃ r, (quoS s m).or (nubS s m) = r := ⟨_, rfl⟩
    obtain ⟨hv1, hv2⟩ := nam_val s i j k m hj hk hm hne hb r hrr
    rw [hX] at hv2
    rw [hrr] at hF
    obtain ⟨R, hRR⟩ : ∃ R, namS s i = R := ⟨_, rfl⟩
    rw [hRR] at hv1 hv2 ⊢
    have HV1 := Lib.hid hv1
    have HV2 := Lib.hid hv2
    have HP3 := Lib.hid hP3
    have HF := Lib.hid hF
    unfold pt at HP3 HF
    clear hP hP2 hT hr he hj hX hk hb hbad hk1 hP3 hm hF hrr hv1 hv2 hRR
    go_enter Tryd.func49, Tryd.ntmps49
    go_wp2_with fail
    go_at_call 10
    refine (HP.out _ (HR.out.alloc _)).mono ?_
    rintro e w1 ⟨rfl, g1, g2⟩
    have G1 := Lib.hid g1
    have G2 := Lib.hid (((Kp.refl rb w).alloc (Nat.le_of_lt hlt) _).trans g2)
    have hc := BoxAt.kp (BoxAt.new w zA 38) g2 (by omega)
    have hcl := hc.lt
    have HC := Lib.hid hc
    clear g1 g2 hc
    go_wp2_with fail
    go_at_call 10
    refine (HP2.out _ G1.out).mono ?_
    rintro e w2 ⟨rfl, g3, g4⟩
    have G3 := Lib.hid g3
    have HK := Lib.hid (G2.out.trans g4)
    have hc2 := BoxAt.kp HC.out g4 (by omega)
    have hcl2 := hc2.lt
    have HC2 := Lib.hid hc2
    clear g3 g4 hc2
    go_wp2_with fail
    go_at_call 9
    refine (HT.out _ G3.out).mono ?_
    rintro e w3 ⟨rfl, g5, g6⟩
    have G5 := Lib.hid (show Rd rb s (k + 1) w3 by simpa using g5)
    have HK3 := Lib.hid (HK.out.trans g6)
    have hc3 := BoxAt.kp HC2.out g6 (by omega)
    have hcl3 := hc3.lt
    have HC3 := Lib.hid hc3
    clear g5 g6 hc3
    go_wp2_with fail
    go_at_call 10
    refine (HP3.out _ G5.out).mono ?_
    rintro e w4 ⟨rfl, g7, g8⟩
    have HK4 := Lib.hid (HK3.out.trans g8)
    have hc4 := BoxAt.kp HC3.out g8 (by omega)
    have hcl4 := hc4.lt
    have HC4 := Lib.hid hc4
    have hl4 := g7.lt
    have HFF := Lib.hid (HF.out w4.heap.size (w4.alloc (.cells #[.func (.func 43) #[pt rb] #[], .func (.func 47) #[pt rb] #[]] 90)) (g7.alloc _) (BoxAt.new _ _ _) (by omega))
    unfold pt at HFF
    clear g7 g8 hc4
    go_wp2_with fail
    go_at_call 42
    refine HFF.out.mono ?_
    rintro e w5 ⟨⟨h1, k', t, n, a, A1, n1, c1', p, A2, n2, c2', j', rfl, h2, hj', h3⟩, hz⟩
    have HK5 := Lib.hid ((HK4.out.alloc (Nat.le_of_lt hl4) _).trans h1)
    have hc5 := BoxAt.kp (HC4.out.alloc (.cells #[.func (.func 43) #[pt rb] #[], .func (.func 47) #[pt rb] #[]] 90)) h1 (by omega)
    have hcl5 := hc5.lt
    have HC5 := Lib.hid hc5
    have H2 := Lib.hid h2
    have H3 := Lib.hid h3
    have HZ := Lib.hid hz
    have hs4 := h1.size
    rw [World.size_alloc] at hs4
    obtain ⟨q0, q1, q2, q3, q4, q5, q6, q7, p0, p1, p2, p3, p4, p5, p6, p7⟩ := cells8 hc5
    unfold exV
    clear h1 h2 h3 hz hc5
    go_wp2
    refine end8w Tryd.results49 ((box_set8 HC5.out _ _ _ _ _ _ _ _).alloc _) rfl rfl rfl ⟨(HK5.out.set8 (Nat.le_refl _) hlt _ _ _ _ _ _ _ _).alloc (by rw [set8_size]; omega) _, X, k', t, n, a, A1, n1, c1', p, A2, n2, c2', j', by rw [HV1.out]; rfl, (H2.out.set8 (by omega) _ _ _ _ _ _ _ _).alloc _, hj', fun h => ?_, fun x y q h => ?_⟩
    · have hr0 : r = none := by
        have := HV1.out
        rw [h] at this
        cases r with
        | none => rfl
        | some p => cases this
      have h1 := HZ.out hr0
      simp [exV] at h1
      exact h1.1.1
    · obtain ⟨rfl, hr0⟩ := HV2.out x y q h
      obtain ⟨h4, h5⟩ := H3.out y q hr0
      refine ⟨rfl, h4, ExF.carry (fun z hq => ?_) _ _ h5⟩
      obtain ⟨hq1, hq2⟩ := hq
      rw [World.size_alloc] at hq1
      have hq3 : z < (set8 w5 w.heap.size (.string x) (.int .i64 k') (.string t) (.string n) (.string a) (.slice A1 n1 c1') (.pointer p) (.slice A2 n2 c2')).heap.size := by rw [set8_size]; exact hq2
      exact ⟨⟨by omega, by rw [World.size_alloc]; exact Nat.lt_succ_of_lt hq3⟩, (Lib.alloc_old _ _ z hq3).trans (set8_heap _ _ _ _ _ _ _ _ _ _ z (by omega))⟩
theorem arg_val (P : Nat → Res) (s : ByteArray) (i : Nat) (h : namS s i = none) : (argS P s i).isSome = (headS P s i).isSome ∧ ∀ x y q, argS P s i = some (x, y, q) → x = E0 ∧ headS P s i = some (y, q) := by
  unfold argS
  rw [h]
  cases headS P s i with
  | none => exact ⟨rfl, fun x y q h => by cases h⟩
  | some p => obtain ⟨e, q'⟩ := p; exact ⟨rfl, fun x y q h => by cases h; exact ⟨rfl, rfl⟩⟩
theorem arg_nam (P : Nat → Res) (s : ByteArray) (i : Nat) (x : ByteArray × EX × Nat) (h : namS s i = some x) : argS P s i = some x := by
  unfold argS; rw [h]
set_option maxHeartbeats 4000000 in
set_option maxRecDepth 100000 in
theorem argument_any {rb : Nat} {s : ByteArray} {d : Nat} {P : Nat → Res} (hs : s.size ≤ 1000000) (hd : d ≤ 4000) (hP : WayTo rb s 7 #[pt rb, .int .i64 ((d + 1 : Nat) : Int)] P) (i : Nat) (w : World) (hr : Rd rb s i w) (hi : i ≤ s.size) :
    Calls Tryd.prog 26 #[pt rb, .int .i64 d] w (GotA rb s w (argS P s i)) := by
  have hN := fun W h => named_any (rb := rb) hs i W h hi
  have hH := fun W h => head_way (rb := rb) hs hd hP i W h hi
  have hv := arg_val P s i
  have hv2 := arg_nam P s i
  obtain ⟨R, hRR⟩ : ∃ R, argS P s i = R := ⟨_, rfl⟩
  obtain ⟨r, hrr⟩ : ∃ r, namS s i = r := ⟨_, rfl⟩
  obtain ⟨q, hq⟩ : ∃ q, headS P s i = q := ⟨_, rfl⟩
  rw [hrr] at hN hv hv2
  rw [hq] at hH hv
  rw [hRR] at hv hv2 ⊢
  have HN := Lib.hid hN
  have HH := Lib.hid hH
  have HR := Lib.hid hr
  have HV := Lib.hid hv
  have HV2 := Lib.hid hv2
  have hlt := hr.lt
  have c1 := hr.c1
  have f1 := hr.f 1
  have hi0 : (i : Int) ≤ 1000000 := by omega
  clear hP hN hH hv hv2 hRR hrr hq hr
  unfold pt at HN HH ⊢
  go_enter Tryd.func26, Tryd.ntmps26
  go_wp2_with fail
  go_at_call 49
  refine (HN.out _ (HR.out.alloc _)).mono ?_
  rintro e w1 ⟨h1, X, k, t, n, a, A1, n1, c1', p, A2, n2, c2', j, rfl, h2, hj, hz, h3⟩
  have HK := Lib.hid (((Kp.refl rb w).alloc (Nat.le_of_lt hlt) _).trans h1)
  have hc := BoxAt.kp (BoxAt.new w zA 38) h1 (by omega)
  have hl := hc.lt
  have HC := Lib.hid hc
  have H2 := Lib.hid h2
  have H3 := Lib.hid h3
  have hlr := h2.lt
  have d1 := h2.c1
  have e1 := h2.f 1
  unfold arV
  cases r with
  | some x =>
    have hR : R = some x := HV2.out x rfl
    subst hR
    obtain ⟨q0, q1, q2, q3, q4, q5, q6, q7, p0, p1, p2, p3, p4, p5, p6, p7⟩ := cells8 hc
    clear h1 h2 h3 hc hz
    go_wp2
    refine end8w Tryd.results26 ((box_set8 HC.out _ _ _ _ _ _ _ _).alloc _) rfl rfl rfl ⟨(HK.out.set8 (Nat.le_refl _) hlt _ _ _ _ _ _ _ _).alloc (by rw [set8_size]; omega) _, X, k, t, n, a, A1, n1, c1', p, A2, n2, c2', j, rfl, (H2.out.set8 (by omega) _ _ _ _ _ _ _ _).alloc _, hj, (fun h => by cases h), fun x y q h => ?_⟩
    obtain ⟨h4, h5, h6⟩ := H3.out x y q h
    refine ⟨h4, h5, ExF.carry (fun z hq => ?_) _ _ h6⟩
    obtain ⟨hq1, hq2⟩ := hq
    rw [World.size_alloc] at hq1
    have hq3 : z < (set8 w1 w.heap.size (.string X) (.int .i64 k) (.string t) (.string n) (.string a) (.slice A1 n1 c1') (.pointer p) (.slice A2 n2 c2')).heap.size := by rw [set8_size]; exact hq2
    exact ⟨⟨by omega, by rw [World.size_alloc]; exact Nat.lt_succ_of_lt hq3⟩, (Lib.alloc_old _ _ z hq3).trans (set8_heap _ _ _ _ _ _ _ _ _ _ z (by omega))⟩
  | none =>
    clear h1 h2 h3 hc hz
    have hv := (HV.out rfl).1
    have hv3 := (HV.out rfl).2
    have Hv := Lib.hid hv
    have Hv3 := Lib.hid hv3
    have hsz1 : (w1.setCell ⟨rb, 1, none⟩ (.int .i64 (i : Nat))).heap.size = w1.heap.size := by simp
    have HB := Lib.hid (HH.out ((w1.setCell ⟨rb, 1, none⟩ (.int .i64 (i : Nat))).alloc (.cells #[.string X, .int .i64 k, .string t, .string n, .string a, .slice A1 n1 c1', .pointer p, .slice A2 n2 c2'] 38)) ((H2.out.set i).alloc _))
    have HK2 := Lib.hid ((HK.out.setCell 1 (.int .i64 (i : Nat))).alloc (by rw [hsz1]; omega) (.cells #[.string X, .int .i64 k, .string t, .string n, .string a, .slice A1 n1 c1', .pointer p, .slice A2 n2 c2'] 38))
    have HC2 := Lib.hid ((BoxAt.setOther HC.out ⟨rb, 1, none⟩ (.int .i64 (i : Nat)) (by show w.heap.size ≠ rb; omega)).alloc (.cells #[.string X, .int .i64 k, .string t, .string n, .string a, .slice A1 n1 c1', .pointer p, .slice A2 n2 c2'] 38))
    clear hv hv3 HV HV2
    go_wp2_with fail
    go_at_call 23
    refine HB.out.mono ?_
    rintro e w2 ⟨⟨h1, k', t', n', a', B1, m1, b1, p', B2, m2, b2, j', rfl, h2, hj', h3⟩, hz⟩
    have HK3 := Lib.hid (HK2.out.trans h1)
    have hc3 := BoxAt.kp HC2.out h1 (by omega)
    have hl3 := hc3.lt
    have HC3 := Lib.hid hc3
    have H22 := Lib.hid h2
    have H33 := Lib.hid h3
    have HZ := Lib.hid hz
    have hs1 := h1.size
    rw [World.size_alloc, hsz1] at hs1
    obtain ⟨q0, q1, q2, q3, q4, q5, q6, q7, p0, p1, p2, p3, p4, p5, p6, p7⟩ := cells8 hc3
    unfold exV
    clear h1 h2 h3 hz hc3 HB
    go_wp2
    refine end8w Tryd.results26 ((box_set8 HC3.out _ _ _ _ _ _ _ _).alloc _) rfl rfl rfl ⟨(HK3.out.set8 (Nat.le_refl _) hlt _ _ _ _ _ _ _ _).alloc (by rw [set8_size]; omega) _, E0, k', t', n', a', B1, m1, b1, p', B2, m2, b2, j', by rw [Hv.out]; rfl, (H22.out.set8 (by omega) _ _ _ _ _ _ _ _).alloc _, hj', fun h => ?_, fun x y z h => ?_⟩
    · have hr0 : q = none := by
        have := Hv.out
        rw [h] at this
        cases q with
        | none => rfl
        | some p => cases this
      have h1 := HZ.out hr0
      simp [exV] at h1
      exact h1.1.1
    · obtain ⟨rfl, hr0⟩ := Hv3.out x y z h
      obtain ⟨h4, h5⟩ := H33.out y z hr0
      refine ⟨rfl, h4, ExF.carry (fun z hq => ?_) _ _ h5⟩
      obtain ⟨hq1, hq2⟩ := hq
      rw [World.size_alloc, hsz1] at hq1
      have hq3 : z < (set8 w2 w.heap.size (.string E0) (.int .i64 k') (.string t') (.string n') (.string a') (.slice B1 m1 b1) (.pointer p') (.slice B2 m2 b2)).heap.size := by rw [set8_size]; exact hq2
      exact ⟨⟨by omega, by rw [World.size_alloc]; exact Nat.lt_succ_of_lt hq3⟩, (Lib.alloc_old _ _ z hq3).trans (set8_heap _ _ _ _ _ _ _ _ _ _ z (by omega))⟩
end Go.Proofs.YtlijmflikcjikaaDoor

/-
  Package expr: isTermsAttr, mayBeAsked, nextLine.
-/
namespace Go.Proofs.YtlijmflikcjikaaDoor
open Go.RowKit
set_option linter.unusedVariables false
set_option linter.unusedSimpArgs false

set_option maxHeartbeats 2000000 in
set_option maxRecDepth 100000 in
theorem termsAttr_any (k : Int) (t n a : ByteArray) (A1 : Option Addr) (n1 c1 : Nat) (p : Option Addr) (A2 : Option Addr) (n2 c2 : Nat) (w : World) :
    Calls Tryd.prog 13 #[exV k t n a A1 n1 c1 p A2 n2 c2] w fun e w' => e = .returned (.bool ((k == 4) && !emp a)) ∧ Below w.heap.size w w' := by
  unfold exV emp
  cases hz : (k == 4)
  case false =>
    go_enter Tryd.func13, Tryd.ntmps13
    go_wp2
    go_ret
    exact ⟨ret_bool (by rfl), (Below.refl _ _).alloc (Nat.le_refl _) _⟩
  cases hg : a.toList.isEmpty
  all_goals
    go_enter Tryd.func13, Tryd.ntmps13
    go_wp2
    go_ret
    exact ⟨ret_bool (by rfl), (Below.refl _ _).alloc (Nat.le_refl _) _⟩
set_option maxHeartbeats 2000000 in
set_option maxRecDepth 100000 in
theorem mayAsk_any (k : Int) (t n a : ByteArray) (A1 : Option Addr) (n1 c1 : Nat) (p : Option Addr) (A2 : Option Addr) (n2 c2 : Nat) (w : World) :
    Calls Tryd.prog 14 #[exV k t n a A1 n1 c1 p A2 n2 c2] w fun e w' => e = .returned (.bool (decide (k = 0 ∨ k = 1 ∨ k = 2 ∨ k = 5) || ((k == 4) && !emp a))) ∧ Below w.heap.size w w' := by
  have HT := Lib.hid (fun W => termsAttr_any k t n a A1 n1 c1 p A2 n2 c2 W)
  by_cases h : k = 0 ∨ k = 1 ∨ k = 2 ∨ k = 5
  · rw [decide_eq_true h, Bool.true_or]
    unfold exV
    clear HT
    rcases h with rfl | rfl | rfl | rfl
    all_goals
      go_enter Tryd.func14, Tryd.ntmps14
      go_wp2
      go_ret
      exact ⟨rfl, (Below.refl _ _).alloc (Nat.le_refl _) _⟩
  · rw [decide_eq_false h, Bool.false_or]
    obtain ⟨q, hq⟩ : ∃ q, ((k == 4) && !emp a) = q := ⟨_, rfl⟩
    rw [hq] at HT ⊢
    have z0 : (k == 0) = false := beq_eq_false_iff_ne.2 (by omega)
    have z1 : (k == 1) = false := beq_eq_false_iff_ne.2 (by omega)
    have z2 : (k == 2) = false := beq_eq_false_iff_ne.2 (by omega)
    have z5 : (k == 5) = false := beq_eq_false_iff_ne.2 (by omega)
    clear h hq
    unfold exV at HT ⊢
    go_enter Tryd.func14, Tryd.ntmps14
    go_wp2_with fail
    go_at_call 13
    refine (HT.out _).mono ?_
    rintro e w' ⟨rfl, hb⟩
    have HB := Lib.hid (((Below.refl w.heap.size w).alloc (Nat.le_refl _) _).trans (hb.mono (by simp)))
    clear hb
    go_wp2
    go_ret
    exact ⟨rfl, HB.out⟩
/-- A line, new. -/
abbrev zL : Array Value := #[.int .i64 0, .int .i64 0, .slice none 0 0]
theorem cells3 {w : World} {k : Nat} {x0 x1 x2 : Value} {t : TypeId} (h : BoxAt w k #[x0, x1, x2] t) :
    w.cell? ⟨k, 0, none⟩ = some x0 ∧ w.cell? ⟨k, 1, none⟩ = some x1 ∧ w.cell? ⟨k, 2, none⟩ = some x2 ∧ w.frozen? ⟨k, 0, none⟩ = false ∧ w.frozen? ⟨k, 1, none⟩ = false ∧ w.frozen? ⟨k, 2, none⟩ = false :=
  ⟨h.cell 0, h.cell 1, h.cell 2, Lib.frozen_of_heap h 0, Lib.frozen_of_heap h 1, Lib.frozen_of_heap h 2⟩
def set3 (w : World) (b : Nat) (x0 x1 x2 : Value) : World := ((w.setCell ⟨b, 0, none⟩ x0).setCell ⟨b, 1, none⟩ x1).setCell ⟨b, 2, none⟩ x2
theorem set3_heap (w : World) (b : Nat) (x0 x1 x2 : Value) (k : Nat) (hk : k ≠ b) : (set3 w b x0 x1 x2).heap[k]? = w.heap[k]? := by
  unfold set3
  rw [Below.heap_setCell _ _ _ k hk, Below.heap_setCell _ _ _ k hk, Below.heap_setCell _ _ _ k hk]
theorem set3_size (w : World) (b : Nat) (x0 x1 x2 : Value) : (set3 w b x0 x1 x2).heap.size = w.heap.size := by
  unfold set3; simp
theorem Kp.set3 {rb : Nat} {a w : World} (h : Kp rb a w) {b : Nat} (hb : a.heap.size ≤ b) (hr : rb < a.heap.size) (x0 x1 x2 : Value) : Kp rb a (set3 w b x0 x1 x2) := ((h.setNew hb hr 0 x0).setNew hb hr 1 x1).setNew hb hr 2 x2
theorem Rd.set3 {rb : Nat} {s : ByteArray} {i : Nat} {w : World} (h : Rd rb s i w) {b : Nat} (hb : rb ≠ b) (x0 x1 x2 : Value) : Rd rb s i (set3 w b x0 x1 x2) := ((h.setOther hb 0 x0).setOther hb 1 x1).setOther hb 2 x2
theorem box_set3 {w : World} {E : Nat} {x0 x1 x2 : Value} {t : TypeId} (h : BoxAt w E #[x0, x1, x2] t) (y0 y1 y2 : Value) : BoxAt (set3 w E y0 y1 y2) E #[y0, y1, y2] t := by
  unfold set3
  unfold BoxAt at h ⊢
  simp [World.setCell, Array.getElem?_modify, h]
set_option maxRecDepth 100000 in
theorem res3 (T : TypeId) (hT : Tryd.prog.cellsOf T = 3) {fn : Func} {A M : Nat} {tmps : Array Value} {w : World} {b : Nat} {x0 x1 x2 v : Value} {t : TypeId} (hres : fn.results = #[.cell A 54, .tmp M]) (ha : tmps.getD A undef = .pointer (some ⟨b, 0, none⟩)) (hm : tmps.getD M undef = v)
    (hb : BoxAt w b #[x0, x1, x2] t) : (results fn tmps).run Tryd.prog w = .ok (.tuple #[.agg #[x0, x1, x2], v]) w := by
  obtain ⟨q0, q1, q2, _⟩ := cells3 hb
  have ha' : tmps[A]?.getD undef = .pointer (some ⟨b, 0, none⟩) := by rw [← ha]; simp
  have hm' : tmps[M]?.getD undef = v := by rw [← hm]; simp
  simp [results, hres, ha', hm', go_sem, q0, q1, q2]
theorem end3w {fn : Func} {R : Ending → World → Prop} {a : Act} {w2 : World} {A M b : Nat} {x0 x1 x2 v : Value} {t : TypeId} (hres : fn.results = #[.cell A 54, .tmp M]) (hbox : BoxAt w2 b #[x0, x1, x2] t)
    (ha : a.tmps.getD A undef = .pointer (some ⟨b, 0, none⟩)) (hm : a.tmps.getD M undef = v) (hd : a.defers = []) (hR : R (.returned (.tuple #[.agg #[x0, x1, x2], v])) w2) : bodyPost Tryd.prog fn R .ret a w2 :=
  bodyPost_ret (res3 54 (by kernel_rfl) hres ha hm hbox) hd hR
/-- What nextLine gives. -/
def GotL (rb : Nat) (s : ByteArray) (i : Nat) (w : World) (r : Option (Nat × Nat × Nat)) (e : Ending) (w' : World) : Prop :=
  Kp rb w w' ∧ ∃ f p j : Nat, e = .returned (.tuple #[.agg #[.int .i64 f, .int .i64 p, .slice none 0 0], .bool r.isSome]) ∧ Rd rb s j w' ∧ j ≤ s.size ∧ f ≤ s.size ∧ p ≤ s.size ∧ (r = none → j = i) ∧ ∀ f' p' m, r = some (f', p', m) → f' = f ∧ p' = p ∧ m = j
theorem sp_ok (s : ByteArray) (i : Nat) (hi : i ≤ s.size) : i ≤ sp s i ∧ sp s i ≤ s.size := ⟨behN_ge _ _ _, by have := behN_le spB s.data.toList i (by rw [size_data]; exact hi); rw [size_data] at this; exact this⟩
theorem nlS_step (s : ByteArray) (f fr i : Nat) (h : isAt s i 10 = true) : nlS s f fr i = nlS s (f + 1) (i + 1) (sp s (i + 1)) := by
  rw [nlS, dif_pos h]
theorem nlS_end (s : ByteArray) (f fr i : Nat) (h : isAt s i 10 = false) : nlS s f fr i = (f, fr, i) := by
  rw [nlS, dif_neg (by rw [h]; simp)]
end Go.Proofs.YtlijmflikcjikaaDoor

/-
  Package expr: textEnd, of texts of bytes below 128; nextLine.
-/
namespace Go.Proofs.YtlijmflikcjikaaDoor
open Go.RowKit
set_option linter.unusedVariables false
set_option linter.unusedSimpArgs false

theorem idxAny_tw (chars : List UInt8) : ∀ l : List UInt8, Lib.indexAny l chars = if (l.takeWhile (fun c => !chars.contains c)).length < l.length then ((l.takeWhile (fun c => !chars.contains c)).length : Int) else -1
  | [] => by simp [Lib.indexAny]
  | b :: l => by
    have ih := idxAny_tw chars l
    rw [Lib.indexAny, List.takeWhile_cons]
    generalize hT : l.takeWhile (fun c => !chars.contains c) = T at ih ⊢
    by_cases h : chars.contains b = true
    · have h2 : ¬ ((!chars.contains b) = true) := by rw [h]; decide
      rw [if_pos h, if_neg h2, if_pos (by simp)]
      rfl
    · have h2 : (!chars.contains b) = true := by rw [Bool.eq_false_iff.2 h]; rfl
      rw [if_neg h, if_pos h2, ih, List.length_cons, List.length_cons]
      by_cases hl : T.length < l.length
      · rw [if_pos hl]
        have h3 : ¬ (((T.length : Int) == -1) = true) := by rw [beq_iff_eq]; omega
        rw [if_neg h3, if_pos (show T.length + 1 < l.length + 1 by omega)]
        omega
      · rw [if_neg hl, if_neg (show ¬ T.length + 1 < l.length + 1 by omega)]
        rfl
theorem tx_idx (s : ByteArray) (i : Nat) (hi : i ≤ s.size) : (Lib.indexAny (s.extract i s.size).data.toList [10, 123, 125] = -1 ∧ tx s i = s.size) ∨ (∃ n : Nat, Lib.indexAny (s.extract i s.size).data.toList [10, 123, 125] = (n : Int) ∧ tx s i = i + n ∧ i + n < s.size) := by
  rw [extract_drop, idxAny_tw]
  have e : (fun c : UInt8 => !([10, 123, 125] : List UInt8).contains c) = txB := by
    funext c
    unfold txB
    rw [List.contains_cons, List.contains_cons, List.contains_cons, List.contains_nil, Bool.or_false, Bool.or_assoc]
  rw [e]
  unfold tx behN
  have hl : (s.data.toList.drop i).length = s.size - i := by rw [List.length_drop, size_data]
  have hle := takeWhile_le txB (s.data.toList.drop i)
  by_cases h : ((s.data.toList.drop i).takeWhile txB).length < (s.data.toList.drop i).length
  · rw [if_pos h]
    exact .inr ⟨_, rfl, rfl, by omega⟩
  · rw [if_neg h]
    exact .inl ⟨rfl, by omega⟩
/-- All its bytes are below 128. -/
def Ascii (s : ByteArray) : Prop := ∀ (j : Nat) (b : UInt8), s.data.toList[j]? = some b → b.toNat < 128
theorem Ascii.drop {s : ByteArray} (h : Ascii s) (i : Nat) : Ascii (s.extract i s.size) := by
  intro j b hb
  rw [extract_drop, List.getElem?_drop] at hb
  exact h _ _ hb
set_option maxHeartbeats 2000000 in
set_option maxRecDepth 100000 in
theorem endText {s : ByteArray} (hA : Ascii s) : EndFn 30 tx s := by
  refine ⟨fun args w => by go_simp, fun i w hs hi => ?_⟩
  have hI := fun W => Tryd.strings_IndexAny_laid (s.extract i s.size) ⟨#[10, 123, 125]⟩ W (by rw [ByteArray.size_extract]; omega) (by decide) (hA.drop i) (by
    intro j b hb
    match j, hb with
    | 0, hb => simp at hb; subst hb; decide
    | 1, hb => simp at hb; subst hb; decide
    | 2, hb => simp at hb; subst hb; decide)
  have hi0 : (i : Int) ≤ 4000000 := by omega
  have hjs : (i : Int) ≤ (s.size : Int) := by omega
  have hss : (s.size : Int) ≤ 4000000 := by omega
  rcases tx_idx s i hi with ⟨h1, h2⟩ | ⟨n, h1, h2, h3⟩
  · refine ⟨by omega, by omega, ?_⟩
    rw [show (⟨#[10, 123, 125]⟩ : ByteArray).data.toList = [10, 123, 125] from rfl, h1] at hI
    have HI := Lib.hid hI
    rw [h2]
    clear hI h1 h2
    go_enter Tryd.func30, Tryd.ntmps30
    go_wp2_with fail
    go_at_call 53
    refine (HI.out _).mono ?_
    rintro e w' ⟨rfl, hb⟩
    have HB := Lib.hid hb
    clear hb
    go_wp2
    go_ret
    exact ⟨rfl, HB.out⟩
  · refine ⟨by omega, by omega, ?_⟩
    rw [show (⟨#[10, 123, 125]⟩ : ByteArray).data.toList = [10, 123, 125] from rfl, h1] at hI
    have HI := Lib.hid hI
    rw [h2]
    have hn0 : (n : Int) ≤ 4000000 := by omega
    have hnd : decide ((0 : Int) ≤ (n : Int)) = true := decide_eq_true (by omega)
    clear hI h1 h2
    go_enter Tryd.func30, Tryd.ntmps30
    go_wp2_with fail
    go_at_call 53
    refine (HI.out _).mono ?_
    rintro e w' ⟨rfl, hb⟩
    have HB := Lib.hid hb
    clear hb
    go_wp2
    go_ret
    exact ⟨by congr 2, HB.out⟩
theorem stop_idx (c : UInt8) : decide ((0 : Int) ≤ Lib.indexByte [46, 42, 91, 125] c) = stopB c := by
  unfold stopB
  have e : ∀ x : UInt8, (x == c) = (c == x) := fun x => by rw [Bool.eq_iff_iff, beq_iff_eq, beq_iff_eq]; exact eq_comm
  unfold Lib.indexByte Lib.indexByte Lib.indexByte Lib.indexByte Lib.indexByte
  rw [e 46, e 42, e 91, e 125]
  cases c == 46 <;> cases c == 42 <;> cases c == 91 <;> cases c == 125 <;> decide
end Go.Proofs.YtlijmflikcjikaaDoor

/-
  Package expr: nextLine.
-/
namespace Go.Proofs.YtlijmflikcjikaaDoor
open Go.RowKit
set_option linter.unusedVariables false
set_option linter.unusedSimpArgs false

set_option maxHeartbeats 4000000 in
set_option maxRecDepth 100000 in
theorem nextLine_any {rb : Nat} {s : ByteArray} (hs : s.size ≤ 1000000) (i : Nat) (w : World) (hr : Rd rb s i w) (hi : i ≤ s.size) : Calls Tryd.prog 17 #[pt rb] w (GotL rb s i w (nextS s i)) := by
  have HR := Lib.hid hr
  have hlt := hr.lt
  have c0 := (hr.alloc (.cells zL 54)).c0
  have c1 := (hr.alloc (.cells zL 54)).c1
  obtain ⟨R, hRR⟩ : ∃ R, nextS s i = R := ⟨_, rfl⟩
  rw [hRR]
  have HRR := Lib.hid hRR
  have hi0 : (i : Int) ≤ 1000000 := by omega
  have hss : (s.size : Int) ≤ 1000000 := by omega
  clear hr hRR
  unfold pt
  go_enter Tryd.func17, Tryd.ntmps17
  go_wp2
  go_region
  go_wp2
  go_loopw [4, 5, 6] (fun t4 t5 t6 wr => ∃ f fr q : Nat, t4 = .int .i64 f ∧ t5 = .int .i64 fr ∧ t6 = .int .i64 q ∧ q ≤ s.size ∧ fr ≤ q ∧ f ≤ q ∧ Hid (nlS s f fr q = nlS s 0 i i) ∧ Hid (Rd rb s i wr) ∧ Hid (Kp rb w wr) ∧ Hid (BoxAt wr w.heap.size zL 54)) (fun _ _ t6 _ => s.size - (intOf t6).toNat)
  case atStart => exact ⟨0, i, i, rfl, rfl, rfl, hi, Nat.le_refl _, Nat.zero_le _, rfl, (HR.out.alloc _).drew, ((Kp.refl _ _).alloc (Nat.le_of_lt hlt) _).drew, (BoxAt.new _ _ _).drew⟩
  case round =>
    obtain ⟨f, fr, q, rfl, rfl, rfl, hq, hfr, hf, Hn, HRd, HK, HC⟩ := hrel
    have hp := fun W => Tryd.strings_HasPrefix (s.extract q s.size) ⟨#[10]⟩ W
    rw [isAt_prefix s q 10 hq] at hp
    obtain ⟨b, hb⟩ : ∃ b, isAt s q 10 = b := ⟨_, rfl⟩
    rw [hb] at hp
    have HP := Lib.hid hp
    have Hb := Lib.hid hb
    have d0 := HRd.out.c0
    have d1 := HRd.out.c1
    have e1 := HRd.out.f 1
    have hrl := HRd.out.lt
    have hcl := HC.out.lt
    have hq0 : (q : Int) ≤ 1000000 := by omega
    have hqs : (q : Int) ≤ (s.size : Int) := by omega
    have hfr0 : (fr : Int) ≤ (q : Int) := by omega
    have hf0 : (f : Int) ≤ 1000000 := by omega
    clear hp hb c0 c1
    cases b
    case true =>
      have hq1 : q + 1 ≤ s.size := isAt_lt Hb.out
      have hS := fun W => spaces_any s ((q : Int) + 1) W (by omega)
      have he : behI spB s.data.toList ((q : Int) + 1) = (sp s (q + 1) : Int) := by
        unfold behI sp
        rw [if_neg (by omega), show ((q : Int) + 1).toNat = q + 1 by omega]
      rw [he] at hS
      have hso := sp_ok s (q + 1) hq1
      have hn := Hn.out
      rw [nlS_step s f fr q Hb.out] at hn
      obtain ⟨m, hm⟩ : ∃ m, sp s (q + 1) = m := ⟨_, rfl⟩
      rw [hm] at hS hso hn
      have HS := Lib.hid hS
      have Hn2 := Lib.hid hn
      clear hS he hm hn
      go_wp2_with fail
      go_at_call 20
      refine (HP.out _).mono ?_
      rintro e w' ⟨rfl, rfl⟩
      go_wp2_with fail
      go_at_call 16
      refine (HS.out _).mono ?_
      rintro e w' ⟨rfl, rfl⟩
      go_wp2
      go_roundw
      case rel => exact ⟨f + 1, q + 1, m, by go_num, by go_num, rfl, hso.2, hso.1, by omega, Hn2.out, HRd.out, HK.out, HC.out⟩
      case measure => simp [intOf]; omega
    case false =>
      have hn := Hn.out
      rw [nlS_end s f fr q Hb.out] at hn
      have hR := HRR.out
      unfold nextS at hR
      rw [← hn] at hR
      dsimp only at hR
      have HR2 := Lib.hid hR
      obtain ⟨q0, q1, q2, p0, p1, p2⟩ := cells3 HC.out
      clear hn hR Hn
      by_cases hqf : q = fr
      · have z1 : ((q : Int) == (fr : Int)) = true := beq_iff_eq.2 (by omega)
        have HR3 := Lib.hid (show R = none by rw [← HR2.out, if_pos (.inl hqf)])
        clear hqf
        go_wp2_with fail
        go_at_call 20
        refine (HP.out _).mono ?_
        rintro e w' ⟨rfl, rfl⟩
        go_wp2
        obtain rfl := HR3.out
        exact end3w Tryd.results17 (box_set3 HC.out _ _ _) rfl rfl rfl ⟨HK.out.set3 (Nat.le_refl _) hlt _ _ _, 0, 0, i, rfl, HRd.out.set3 (by omega) _ _ _, hi, Nat.zero_le _, Nat.zero_le _, fun _ => rfl, fun _ _ _ h => by cases h⟩
      have z1 : ((q : Int) == (fr : Int)) = false := beq_eq_false_iff_ne.2 (by omega)
      by_cases hqz : q = s.size
      · have z2 : ((q : Int) == (s.size : Int)) = true := beq_iff_eq.2 (by omega)
        have HR3 := Lib.hid (show R = none by rw [← HR2.out, if_pos (.inr (.inl hqz))])
        clear hqz
        go_wp2_with fail
        go_at_call 20
        refine (HP.out _).mono ?_
        rintro e w' ⟨rfl, rfl⟩
        go_wp2
        obtain rfl := HR3.out
        exact end3w Tryd.results17 (box_set3 HC.out _ _ _) rfl rfl rfl ⟨HK.out.set3 (Nat.le_refl _) hlt _ _ _, 0, 0, i, rfl, HRd.out.set3 (by omega) _ _ _, hi, Nat.zero_le _, Nat.zero_le _, fun _ => rfl, fun _ _ _ h => by cases h⟩
      have z2 : ((q : Int) == (s.size : Int)) = false := beq_eq_false_iff_ne.2 (by omega)
      have hql : q < s.size := by omega
      have hql2 : (q : Int) < (s.size : Int) := by omega
      have hI := fun W => Tryd.strings_IndexByte ⟨#[46, 42, 91, 125]⟩ (s[q].toNat : Int) W
      have hst := stop_idx s[q]
      rw [show (⟨#[46, 42, 91, 125]⟩ : ByteArray).data.toList = [46, 42, 91, 125] from rfl, show ((s[q].toNat : Int).toNat.toUInt8) = s[q] by simp] at hI
      obtain ⟨x, hx⟩ : ∃ x, Lib.indexByte [46, 42, 91, 125] s[q] = x := ⟨_, rfl⟩
      rw [hx] at hI hst
      have hat : at0 s.data.toList q = s[q] := by rw [at0_get _ _ (by rw [size_data]; exact hql)]; rfl
      have hR := HR2.out
      rw [hat, ← hst] at hR
      have HI := Lib.hid hI
      cases hx0 : decide ((0 : Int) ≤ x)
      case true =>
        have HR3 := Lib.hid (show R = none by rw [← hR, hx0, if_pos (.inr (.inr rfl))])
        clear hI hst hx hat hR HR2
        go_wp2_with fail
        go_at_call 20
        refine (HP.out _).mono ?_
        rintro e w' ⟨rfl, rfl⟩
        go_wp2_with fail
        go_at_call 29
        refine (HI.out _).mono ?_
        rintro e w' ⟨rfl, rfl⟩
        go_wp2
        obtain rfl := HR3.out
        exact end3w Tryd.results17 (box_set3 HC.out _ _ _) rfl rfl rfl ⟨HK.out.set3 (Nat.le_refl _) hlt _ _ _, 0, 0, i, rfl, HRd.out.set3 (by omega) _ _ _, hi, Nat.zero_le _, Nat.zero_le _, fun _ => rfl, fun _ _ _ h => by cases h⟩
      case false =>
        have HR3 := Lib.hid (show R = some (f, q - fr, q) by rw [← hR, hx0, if_neg (by simp [hqf, hqz])])
        have hsub : (q : Int) - (fr : Int) = ((q - fr : Nat) : Int) := by omega
        have Hsub := Lib.hid hsub
        have hsub0 : (0 : Int) ≤ (q : Int) - (fr : Int) := by omega
        have hsub1 : (q : Int) - (fr : Int) ≤ 1000000 := by omega
        have HRq := Lib.hid (HRd.out.set q)
        have HKq := Lib.hid (HK.out.setCell 1 (.int .i64 (q : Nat)))
        have HCq := Lib.hid (BoxAt.setOther HC.out ⟨rb, 1, none⟩ (.int .i64 (q : Nat)) (by show w.heap.size ≠ rb; omega))
        clear hI hst hx hat hR HR2 hsub
        go_wp2_with fail
        go_at_call 20
        refine (HP.out _).mono ?_
        rintro e w' ⟨rfl, rfl⟩
        go_wp2_with fail
        go_at_call 29
        refine (HI.out _).mono ?_
        rintro e w' ⟨rfl, rfl⟩
        go_wp2
        obtain rfl := HR3.out
        exact end3w Tryd.results17 (box_set3 HCq.out _ _ _) rfl rfl rfl ⟨HKq.out.set3 (Nat.le_refl _) hlt _ _ _, f, q - fr, q, by rw [Hsub.out]; rfl, HRq.out.set3 (by omega) _ _ _, hq, by omega, by omega, (fun h => by cases h), fun _ _ _ h => by cases h; exact ⟨rfl, rfl, rfl⟩⟩
end Go.Proofs.YtlijmflikcjikaaDoor

/-
  Package expr: variant, given pattern.
-/
namespace Go.Proofs.YtlijmflikcjikaaDoor
open Go.RowKit
set_option linter.unusedVariables false
set_option linter.unusedSimpArgs false

theorem len0 {α : Type} (l : List α) : decide (l.length = 0) = l.isEmpty := by cases l <;> simp
/-- What reading a pattern gives. -/
def GotP (rb : Nat) (s : ByteArray) (w : World) (r : Option (List EL × Nat)) (e : Ending) (w' : World) : Prop :=
  Kp rb w w' ∧ ∃ (A : Option Addr) (n c j : Nat), e = .returned (.tuple #[.slice A n c, .bool r.isSome]) ∧ Rd rb s j w' ∧ j ≤ s.size ∧ n ≤ 4000000 ∧ ∀ l m, r = some (l, m) → m = j ∧ l.length = n ∧ PatF w' (Since w.heap.size w') l (.slice A n c)
def PatTo (rb : Nat) (s : ByteArray) (d : Nat) (Q : Nat → Option (List EL × Nat)) : Prop := ∀ (i : Nat) (w : World), Rd rb s i w → i ≤ s.size → Calls Tryd.prog 8 #[pt rb, .int .i64 d] w (GotP rb s w (Q i))
/-- What reading a variant gives. -/
def GotV (rb : Nat) (s : ByteArray) (w : World) (r : Option (VA × Nat)) (e : Ending) (w' : World) : Prop :=
  Kp rb w w' ∧ ∃ (X : ByteArray) (df : Bool) (A : Option Addr) (n c j : Nat), e = .returned (.tuple #[.agg #[.string X, .bool df, .slice A n c], .bool r.isSome]) ∧ Rd rb s j w' ∧ j ≤ s.size ∧ n ≤ 4000000 ∧
    ∀ x m, r = some (x, m) → m = j ∧ ∃ l, x = .mk X df l ∧ l.length = n ∧ PatF w' (Since w.heap.size w') l (.slice A n c)
abbrev zV : Array Value := #[.string ⟨#[]⟩, .bool false, .slice none 0 0]
set_option maxRecDepth 100000 in
theorem res3v {fn : Func} {A M : Nat} {tmps : Array Value} {w : World} {b : Nat} {x0 x1 x2 v : Value} {t : TypeId} (hres : fn.results = #[.cell A 71, .tmp M]) (ha : tmps.getD A undef = .pointer (some ⟨b, 0, none⟩)) (hm : tmps.getD M undef = v)
    (hb : BoxAt w b #[x0, x1, x2] t) : (results fn tmps).run Tryd.prog w = .ok (.tuple #[.agg #[x0, x1, x2], v]) w := by
  obtain ⟨q0, q1, q2, _⟩ := cells3 hb
  have ha' : tmps[A]?.getD undef = .pointer (some ⟨b, 0, none⟩) := by rw [← ha]; simp
  have hm' : tmps[M]?.getD undef = v := by rw [← hm]; simp
  simp [results, hres, ha', hm', go_sem, q0, q1, q2]
theorem end3v {fn : Func} {R : Ending → World → Prop} {a : Act} {w2 : World} {A M b : Nat} {x0 x1 x2 v : Value} {t : TypeId} (hres : fn.results = #[.cell A 71, .tmp M]) (hbox : BoxAt w2 b #[x0, x1, x2] t)
    (ha : a.tmps.getD A undef = .pointer (some ⟨b, 0, none⟩)) (hm : a.tmps.getD M undef = v) (hd : a.defers = []) (hR : R (.returned (.tuple #[.agg #[x0, x1, x2], v])) w2) : bodyPost Tryd.prog fn R .ret a w2 :=
  bodyPost_ret (res3v hres ha hm hbox) hd hR
/-- Nothing was read: what variant gives then. -/
theorem gotV_none {rb : Nat} {s : ByteArray} {w w2 : World} {j : Nat} (hK : Kp rb w w2) (hR : Rd rb s j w2) (hj : j ≤ s.size) : GotV rb s w none (.returned (.tuple #[.agg zV, .bool false])) w2 :=
  ⟨hK, ⟨#[]⟩, false, none, 0, 0, j, rfl, hR, hj, Nat.zero_le _, fun x m h => by cases h⟩
set_option maxHeartbeats 8000000 in
set_option maxRecDepth 100000 in
theorem variant_any {rb : Nat} {s : ByteArray} {d : Nat} {P : Nat → Res} (hs : s.size ≤ 1000000) (hd : d ≤ 4000) (hPat : PatTo rb s d (patS P s)) (i : Nat) (w : World) (hr : Rd rb s i w) (hi : i ≤ s.size) :
    Calls Tryd.prog 27 #[pt rb, .int .i64 d] w (GotV rb s w (variS P s i)) := by
  have HR := Lib.hid hr
  have hlt := hr.lt
  obtain ⟨R, hRR⟩ : ∃ R, variS P s i = R := ⟨_, rfl⟩
  rw [hRR]
  unfold variS at hRR
  have hT1 := fun W (h : Rd rb s i W) => take_any 42 W h (by omega) hi
  obtain ⟨b1, hb1⟩ : ∃ b, isAt s i 42 = b := ⟨_, rfl⟩
  have hi1 : (if b1 = true then i + 1 else i) ≤ s.size := by
    cases b1
    · exact hi
    · exact isAt_lt hb1
  rw [hb1] at hT1 hRR
  obtain ⟨i1, hi1e⟩ : ∃ i1, (if b1 = true then i + 1 else i) = i1 := ⟨_, rfl⟩
  rw [hi1e] at hT1 hi1 hRR
  have hT2 := fun W (h : Rd rb s i1 W) => take_any 91 W h (by omega) hi1
  obtain ⟨b2, hb2⟩ : ∃ b, isAt s i1 91 = b := ⟨_, rfl⟩
  have hi2 : b2 = true → i1 + 1 ≤ s.size := fun h => isAt_lt (hb2.trans h)
  rw [hb2] at hT2 hRR
  have HT1 := Lib.hid hT1
  have HT2 := Lib.hid hT2
  have Hpat := Lib.hid hPat
  have hd0 : (d : Int) ≤ 4000 := by omega
  clear hr hT1 hb1 hi1e hT2 hb2 hPat
  unfold pt at HT1 HT2 ⊢
  cases b2
  case false =>
    rw [if_neg (by simp)] at hRR
    subst hRR
    go_enter Tryd.func27, Tryd.ntmps27
    go_wp2_with fail
    go_at_call 9
    refine (HT1.out _ (HR.out.alloc _)).mono ?_
    rintro e w1 ⟨rfl, g1, g2⟩
    have G1 := Lib.hid g1
    have HK := Lib.hid (((Kp.refl rb w).alloc (Nat.le_of_lt hlt) _).trans g2)
    have hc := BoxAt.kp (BoxAt.new w zV 71) g2 (by omega)
    have hcl := hc.lt
    have HC := Lib.hid hc
    clear g1 g2 hc
    go_wp2_with fail
    go_at_call 9
    refine (HT2.out _ G1.out).mono ?_
    rintro e w2 ⟨rfl, g3, g4⟩
    have G3 := Lib.hid (show Rd rb s i1 w2 by simpa using g3)
    have HK2 := Lib.hid (HK.out.trans g4)
    have hc2 := BoxAt.kp HC.out g4 (by omega)
    have hcl2 := hc2.lt
    have HC2 := Lib.hid hc2
    obtain ⟨q0, q1, q2, p0, p1, p2⟩ := cells3 hc2
    clear g3 g4 hc2
    go_wp2
    exact end3v Tryd.results27 (box_set3 HC2.out _ _ _) rfl rfl rfl (gotV_none (HK2.out.set3 (Nat.le_refl _) hlt _ _ _) (G3.out.set3 (by omega) _ _ _) hi1)
  have hi3 := hi2 rfl
  rw [if_pos rfl] at hRR
  have hB := bl_ok s (i1 + 1) hi3
  have hP1 := fun W (h : Rd rb s (i1 + 1) W) => pass_any endBlank W h (by omega) hi3
  obtain ⟨a, ha⟩ : ∃ a, bl s (i1 + 1) = a := ⟨_, rfl⟩
  rw [ha] at hB hP1 hRR
  have hP2 := fun W (h : Rd rb s a W) => pass_any endName W h (by omega) hB.2
  have hP3 := fun W (h : Rd rb s a W) => pass_any endNumber W h (by omega) hB.2
  have hn := nm_ok s a hB.2
  have hu := nu_ok s a hB.2
  have he1 := ext_empty s a (nm s a) hn.1 hn.2
  have hk : keyE s a = if nm s a = a then nu s a else nm s a := rfl
  obtain ⟨n1, hn1⟩ : ∃ n1, nm s a = n1 := ⟨_, rfl⟩
  obtain ⟨u1, hu1⟩ : ∃ u1, nu s a = u1 := ⟨_, rfl⟩
  rw [hn1] at hn he1 hk hP2
  rw [hu1] at hu hk hP3
  obtain ⟨k, hke⟩ : ∃ k, keyE s a = k := ⟨_, rfl⟩
  rw [hke] at hk hRR
  have hk2 : a ≤ k ∧ k ≤ s.size := by rw [hk]; split <;> omega
  have he2 := ext_empty s a k hk2.1 hk2.2
  have hP4 := fun W (h : Rd rb s k W) => pass_any endBlank W h (by omega) hk2.2
  have hB2 := bl_ok s k hk2.2
  obtain ⟨m, hm⟩ : ∃ m, bl s k = m := ⟨_, rfl⟩
  rw [hm] at hB2 hP4 hRR
  have hT3 := fun W (h : Rd rb s m W) => take_any 93 W h (by omega) hB2.2
  obtain ⟨b3, hb3⟩ : ∃ b, isAt s m 93 = b := ⟨_, rfl⟩
  have hm1 : b3 = true → m + 1 ≤ s.size := fun h => isAt_lt (hb3.trans h)
  rw [hb3] at hT3 hRR
  obtain ⟨X1, hX1⟩ : ∃ X, s.extract a n1 = X := ⟨_, rfl⟩
  obtain ⟨X, hX⟩ : ∃ X, s.extract a k = X := ⟨_, rfl⟩
  have hX2 : n1 ≠ a → X1 = X := fun h => by rw [← hX1, ← hX, hk, if_neg h]
  have hX3 : n1 = a → s.extract a u1 = X ∧ u1 = k := fun h => by rw [← hX, hk, if_pos h]; exact ⟨rfl, rfl⟩
  have hk5 : n1 ≠ a → n1 = k := fun h => by rw [hk, if_neg h]
  rw [hX1] at he1 hP2
  rw [hX] at he2 hRR
  have HP1 := Lib.hid hP1
  have HP2 := Lib.hid hP2
  have HP3 := Lib.hid hP3
  have HP4 := Lib.hid hP4
  have HT3 := Lib.hid hT3
  have HRR := Lib.hid hRR
  have HE1 := Lib.hid he1
  have HE2 := Lib.hid he2
  have HX2 := Lib.hid hX2
  have HX3 := Lib.hid hX3
  have Hk5 := Lib.hid hk5
  have Hm1 := Lib.hid hm1
  clear hP1 ha hP2 hP3 hk hn1 hu1 hke hP4 hm hT3 hb3 hX1 hX hX2 hX3 hk5 he1 he2 hRR hi2 hm1
  unfold pt at HP1 HP2 HP3 HP4 HT3
  go_enter Tryd.func27, Tryd.ntmps27
  go_wp2_with fail
  go_at_call 9
  refine (HT1.out _ (HR.out.alloc _)).mono ?_
  rintro e w1 ⟨rfl, g1, g2⟩
  have G1 := Lib.hid g1
  have HK := Lib.hid (show Kp rb (w.alloc (.cells zV 71)) w1 from g2)
  clear g1 g2
  go_wp2_with fail
  go_at_call 9
  refine (HT2.out _ G1.out).mono ?_
  rintro e w2 ⟨rfl, g1, g2⟩
  have G1 := Lib.hid (show Rd rb s (i1 + 1) w2 by simpa using g1)
  have HK2 := Lib.hid (HK.out.trans g2)
  clear g1 g2
  go_wp2_with fail
  go_at_call 10
  refine (HP1.out _ G1.out).mono ?_
  rintro e w3 ⟨rfl, g1, g2⟩
  have G3 := Lib.hid g1
  have HK3 := Lib.hid (HK2.out.trans g2)
  clear g1 g2
  go_wp2_with fail
  go_at_call 10
  refine (HP2.out _ G3.out).mono ?_
  rintro e w4 ⟨rfl, g1, g2⟩
  have G4 := Lib.hid g1
  have HK4 := Lib.hid (HK3.out.trans g2)
  clear g1 g2
  obtain ⟨x1, hx1⟩ : ∃ x, X1.toList.isEmpty = x := ⟨_, rfl⟩
  go_upto_if 22 with fail
  go_cut [7] (fun v wx => v = .string X ∧ Hid (Rd rb s k wx) ∧ Hid (Kp rb (w.alloc (.cells zV 71)) wx))
  case first =>
    cases x1
    case false =>
      have hne : n1 ≠ a := fun h => by have := HE1.out; rw [hx1, decide_eq_true h] at this; cases this
      have HX := Lib.hid (HX2.out hne)
      have Hk := Lib.hid (Hk5.out hne)
      clear hne
      go_wp2_with fail
      go_meet
      exact ⟨by rw [HX.out], by rw [← Hk.out]; exact G4.out, HK4.out⟩
    case true =>
      have hne : n1 = a := by have := HE1.out; rw [hx1] at this; exact of_decide_eq_true this.symm
      obtain ⟨hX, hk⟩ := HX3.out hne
      have G4a := Lib.hid (show Rd rb s a w4 by rw [← hne]; exact G4.out)
      have HX := Lib.hid hX
      have Hk := Lib.hid hk
      clear hne hX hk
      go_wp2_with fail
      go_at_call 10
      refine (HP3.out _ G4a.out).mono ?_
      rintro e w5 ⟨rfl, g1, g2⟩
      have G5 := Lib.hid g1
      have HK5 := Lib.hid (HK4.out.trans g2)
      clear g1 g2
      go_wp2_with fail
      go_meet
      exact ⟨by rw [HX.out], by rw [← Hk.out]; exact G5.out, HK5.out⟩
  obtain ⟨rfl, HRk, HKk⟩ := hcut
  clear HP2 HP3 HE1 HX2 HX3 Hk5 G1 G3 G4 HK HK2 HK3 HK4 hx1
  go_wp2_with fail
  go_at_call 10
  refine (HP4.out _ HRk.out).mono ?_
  rintro e w5 ⟨rfl, g1, g2⟩
  have G5 := Lib.hid g1
  have HK5 := Lib.hid (HKk.out.trans g2)
  have hc5 := BoxAt.kp (BoxAt.new w zV 71) HK5.out (by omega)
  have hcl5 := hc5.lt
  have HC5 := Lib.hid hc5
  clear g1 g2
  have HA := Lib.hid ((Kp.refl rb w).alloc (Nat.le_of_lt hlt) (.cells zV 71))
  cases hx2 : X.toList.isEmpty
  case true =>
    have hka : k = a := by have := HE2.out; rw [hx2] at this; exact of_decide_eq_true this.symm
    have hR := HRR.out
    rw [if_pos hka] at hR
    subst hR
    obtain ⟨q0, q1, q2, p0, p1, p2⟩ := cells3 hc5
    clear hka hc5
    go_wp2
    exact end3v Tryd.results27 (box_set3 HC5.out _ _ _) rfl rfl rfl (gotV_none ((HA.out.trans HK5.out).set3 (Nat.le_refl _) hlt _ _ _) (G5.out.set3 (by omega) _ _ _) hB2.2)
  have hka : k ≠ a := fun h => by have := HE2.out; rw [hx2, decide_eq_true h] at this; cases this
  have hR := HRR.out
  rw [if_neg hka] at hR
  have HR2 := Lib.hid hR
  clear hka hR hc5
  cases b3
  case false =>
    have hR := HR2.out
    rw [if_neg (by simp)] at hR
    subst hR
    go_wp2_with fail
    go_at_call 9
    refine (HT3.out _ G5.out).mono ?_
    rintro e w6 ⟨rfl, g1, g2⟩
    have G6 := Lib.hid (show Rd rb s m w6 by simpa using g1)
    have HK6 := Lib.hid (HK5.out.trans g2)
    have hc6 := BoxAt.kp HC5.out g2 (by omega)
    have hcl6 := hc6.lt
    have HC6 := Lib.hid hc6
    obtain ⟨q0, q1, q2, p0, p1, p2⟩ := cells3 hc6
    clear g1 g2 hc6
    go_wp2
    exact end3v Tryd.results27 (box_set3 HC6.out _ _ _) rfl rfl rfl (gotV_none ((HA.out.trans HK6.out).set3 (Nat.le_refl _) hlt _ _ _) (G6.out.set3 (by omega) _ _ _) hB2.2)
  have hR := HR2.out
  rw [if_pos rfl] at hR
  obtain ⟨r, hr⟩ : ∃ r, patS P s (m + 1) = r := ⟨_, rfl⟩
  have hm1 := Hm1.out rfl
  have hPt := fun W h => Hpat.out (m + 1) W h hm1
  rw [hr] at hPt hR
  have HPt := Lib.hid hPt
  have HR3 := Lib.hid hR
  unfold pt at HPt
  clear hR hr hPt
  go_wp2_with fail
  go_at_call 9
  refine (HT3.out _ G5.out).mono ?_
  rintro e w6 ⟨rfl, g1, g2⟩
  have G6 := Lib.hid (show Rd rb s (m + 1) w6 by simpa using g1)
  have HK6 := Lib.hid (HK5.out.trans g2)
  have hs6 := HK6.out.size
  rw [World.size_alloc] at hs6
  clear g1 g2
  go_wp2_with fail
  go_at_call 8
  refine (HPt.out _ G6.out).mono ?_
  rintro e w7 ⟨h1, A, n, c, j, rfl, h2, hj, hn4, h3⟩
  have HK7 := Lib.hid (HK6.out.trans h1)
  have hc7 := BoxAt.kp (BoxAt.new w zV 71) HK7.out (by omega)
  have hcl7 := hc7.lt
  have HC7 := Lib.hid hc7
  have H2 := Lib.hid h2
  have H3 := Lib.hid h3
  have d0 := h2.c0
  have d1 := h2.c1
  have hl7 := h2.lt
  have hj0 : (j : Int) ≤ 1000000 := by omega
  have hss : (s.size : Int) ≤ 1000000 := by omega
  have hn0 : (n : Int) ≤ 4000000 := by omega
  obtain ⟨il, hil⟩ : ∃ b, isAt s j 10 = b := ⟨_, rfl⟩
  have Hil := Lib.hid hil
  clear h1 h2 h3 hc7 HPt hil
  go_upto_region 12 with fail
  go_cut [10] (fun v wx => v = .bool il ∧ wx = w7.drew)
  case first =>
    have hil := Hil.out
    unfold isAt at hil
    by_cases hjl : j < s.size
    · have z1 : decide ((j : Int) < (s.size : Int)) = true := decide_eq_true (by omega)
      have z2 : (j : Int) < (s.size : Int) := by omega
      have z3 : ((s[j].toNat : Int) == 10) = il := by
        rw [decide_eq_true hjl, Bool.true_and, at0_get _ _ (by rw [size_data]; exact hjl)] at hil
        rw [← hil]
        show ((s[j].toNat : Int) == 10) = (s[j] == 10)
        rw [Bool.eq_iff_iff, beq_iff_eq, beq_iff_eq, ← UInt8.toNat_inj]
        simp
        omega
      clear hil
      go_region
      go_wp2_with fail
      go_meet
      exact ⟨rfl, rfl⟩
    · have z1 : decide ((j : Int) < (s.size : Int)) = false := decide_eq_false (by omega)
      rw [decide_eq_false hjl, Bool.false_and] at hil
      subst hil
      go_region
      go_wp2_with fail
      go_meet
      exact ⟨rfl, rfl⟩
  obtain ⟨rfl, rfl⟩ := hcut
  obtain ⟨q0, q1, q2, p0, p1, p2⟩ := cells3 HC7.out
  have hA := HA.out.trans HK7.out
  have HKf := Lib.hid hA.drew
  clear hA d0 d1
  cases r with
  | none =>
    have hR := HR3.out
    dsimp only at hR
    subst hR
    go_wp2
    exact end3v Tryd.results27 (box_set3 HC7.out.drew _ _ _) rfl rfl rfl ⟨HKf.out.set3 (Nat.le_refl _) hlt _ _ _, X, b1, A, n, c, j, rfl, H2.out.drew.set3 (by omega) _ _ _, hj, hn4, fun x q h => by cases h⟩
  | some lm =>
    obtain ⟨l, q⟩ := lm
    obtain ⟨rfl, hln, hpt⟩ := H3.out l q rfl
    have hR := HR3.out
    dsimp only at hR
    rw [Hil.out, ← len0, hln] at hR
    have HR4 := Lib.hid hR
    have HPF := Lib.hid hpt
    have Hln := Lib.hid hln
    clear hR hpt hln
    cases il
    case false =>
      have hR := HR4.out
      rw [Bool.false_and, if_neg (by simp)] at hR
      subst hR
      go_wp2
      exact end3v Tryd.results27 (box_set3 HC7.out.drew _ _ _) rfl rfl rfl ⟨HKf.out.set3 (Nat.le_refl _) hlt _ _ _, X, b1, A, n, c, q, rfl, H2.out.drew.set3 (by omega) _ _ _, hj, hn4, fun x q h => by cases h⟩
    by_cases h0 : 0 < n
    · have z : decide ((0 : Int) < (n : Int)) = true := decide_eq_true (by omega)
      have hR := HR4.out
      rw [decide_eq_false (show ¬ n = 0 by omega), if_pos (by decide)] at hR
      subst hR
      go_wp2
      refine end3v Tryd.results27 (box_set3 HC7.out.drew _ _ _) rfl rfl rfl ⟨HKf.out.set3 (Nat.le_refl _) hlt _ _ _, X, b1, A, n, c, q, rfl, H2.out.drew.set3 (by omega) _ _ _, hj, hn4, fun x q' h => ?_⟩
      cases h
      refine ⟨rfl, l, rfl, Hln.out, PatF.carry (fun z hz => ?_) HPF.out⟩
      obtain ⟨hz1, hz2⟩ := hz
      refine ⟨⟨by omega, ?_⟩, set3_heap w7 w.heap.size (.string X) (.bool b1) (.slice A n c) z (by omega)⟩
      show z < (set3 w7 w.heap.size (.string X) (.bool b1) (.slice A n c)).heap.size
      rw [set3_size]
      exact hz2
    · have z : decide ((0 : Int) < (n : Int)) = false := decide_eq_false (by omega)
      have hR := HR4.out
      rw [decide_eq_true (show n = 0 by omega), if_neg (by decide)] at hR
      subst hR
      go_wp2
      exact end3v Tryd.results27 (box_set3 HC7.out.drew _ _ _) rfl rfl rfl ⟨HKf.out.set3 (Nat.le_refl _) hlt _ _ _, X, b1, A, n, c, q, rfl, H2.out.drew.set3 (by omega) _ _ _, hj, hn4, fun x q h => by cases h⟩
end Go.Proofs.YtlijmflikcjikaaDoor

/-
  append onto a row of the call's own: as the library's law, and where the new row lies: where it lay, or in a new block.
-/
namespace Go.Proofs.YtlijmflikcjikaaDoor
open Go.RowKit Go Go.Op
set_option linter.unusedVariables false

section
variable {P : Program} (w : World)
theorem run_append_where (base : Nat) (t ty e : TypeId) (i : TypeInfo) (z : Value) (size bytes : Nat) (ht : P.underlying t = some (.slice e)) (hi : P.info? e = some i) (hz : i.zero = some z)
    (hsize : i.size = size) (hby : i.bytes = bytes) (hzs : z.cells.size = size) (hsz : 0 < size)
    (v : Value) (n : Nat) (xs : List Value) (hown : w.ownsRow base e size v n xs)
    (a : Addr) (m c : Nat) (news : List Value) (hl : news.length = m * size) (hnews : ∀ j u, news[j]? = some u → w.cell? (a.add j) = some u) (h1 : ∀ u ∈ news, u.oneCell' = true)
    (h63 : n + m ≤ maxLen) (hbytes : (n + m) * bytes ≤ 140737488355328) (hbase : base ≤ w.heap.size) (hm0 : 0 < m) :
    ∃ v' w', (Builtin.append_ #[t, t] ty #[v, .slice (some a) m c]).run P w = .ok v' w' ∧ w'.ownsRow base e size v' (n + m) (xs ++ news) ∧ w.grownBy w' v.ownBlock ∧
      (v'.ownBlock = v.ownBlock ∨ v'.ownBlock = some w.heap.size) := by
  obtain ⟨v', w', hr, h2, h3, _⟩ := run_append_own (P := P) w base t ty e i z size bytes ht hi hz hsize hby hzs hsz v n xs hown a m c news hl hnews h1 h63 hbytes hbase
  refine ⟨v', w', hr, h2, h3, ?_⟩
  subst hsize
  subst hby
  have hsmall : n + m ≤ 9223372036854775807 := by simp only [maxLen] at h63; omega
  rcases hown.2 with ⟨rfl, rfl⟩ | ⟨g, cap, cur, rfl, hbg, hg, hnc, hcm, hcs, htake⟩
  · have hr2 := run_append_nil (P := P) w t ty e i z ht hi hz a m c news hl hnews (by omega) (by omega) (by have hb := hbytes; simp only [Nat.zero_add] at hb; omega)
    have hv := hr.symm.trans hr2
    injection hv with e1 _
    rw [e1]
    exact .inr rfl
  · by_cases hroom : n + m ≤ cap
    · have hfit : n * i.size + news.length ≤ cur.size := by rw [hl, hcs, ← Nat.add_mul]; exact Nat.mul_le_mul_right _ hroom
      have hr2 := run_append_room (P := P) w t ty e i ht hi g n cap cur hg a m c news hl hnews h1 hroom hfit
      have hv := hr.symm.trans hr2
      injection hv with e1 _
      rw [e1]
      exact .inl rfl
    · have holds : ∀ j u, xs[j]? = some u → w.cell? ((⟨g, 0, none⟩ : Addr).add j) = some u := hown.cells (g := g) rfl
      have hr2 := run_append_grow (P := P) w t ty e i z ht hi hz ⟨g, 0, none⟩ n cap xs hown.1 holds a m c news hl hnews (by omega) (by omega) (growslice_fits (by omega) hbytes)
      have hv := hr.symm.trans hr2
      injection hv with e1 _
      rw [e1]
      exact .inr rfl
theorem wpList_append_where {ops : Array Oper} {rest : List Oper} {o : Oper} {a : Act} {Q : Exit → Act → World → Prop} (hgd : o.guard = none) (s x : Operand) (t : TypeId)
    (ho : o.op = .call { callee := .builtin .append, args := #[s, x], argTypes := #[t, t] })
    (base : Nat) (e : TypeId) (i : TypeInfo) (z : Value) (size bytes : Nat) (ht : P.underlying t = some (.slice e)) (hi : P.info? e = some i) (hz : i.zero = some z)
    (hsize : i.size = size) (hby : i.bytes = bytes) (hzs : z.cells.size = size) (hsz : 0 < size)
    (v : Value) (n : Nat) (xs : List Value) (hs : a.eval s = v) (hown : w.ownsRow base e size v n xs)
    (ad : Addr) (m c : Nat) (news : List Value) (hx : a.eval x = .slice (some ad) m c) (hl : news.length = m * size) (hnews : ∀ j u, news[j]? = some u → w.cell? (ad.add j) = some u) (h1 : ∀ u ∈ news, u.oneCell' = true)
    (h63 : n + m ≤ maxLen) (hbytes : (n + m) * bytes ≤ 140737488355328) (hbase : base ≤ w.heap.size) (hm0 : 0 < m)
    (h : ∀ v' w', w'.ownsRow base e size v' (n + m) (xs ++ news) → w.grownBy w' v.ownBlock → (v'.ownBlock = v.ownBlock ∨ v'.ownBlock = some w.heap.size) → wpList P ops Q rest (a.put o.dst v') w') : wpList P ops Q (o :: rest) a w := by
  refine wpList_plain hgd fun K hK => ?_
  obtain ⟨v', w', hr, h2, h3, h4⟩ := run_append_where (P := P) w base t o.type e i z size bytes ht hi hz hsize hby hzs hsz v n xs hown ad m c news hl hnews h1 h63 hbytes hbase hm0
  unfold Oper.wp execOp
  simp only [ho, resolve, invoke, builtin, Sem.run_bind, Sem.run_pure, Result.andThen_ok, List.map_toArray, List.map_cons, List.map_nil, hs, hx, hr]
  exact hK _ _ (h v' w' h2 h3 h4)
end
end Go.Proofs.YtlijmflikcjikaaDoor

/-
  Package expr: variants, given pattern.
-/
namespace Go.Proofs.YtlijmflikcjikaaDoor
open Go.RowKit
set_option linter.unusedVariables false
set_option linter.unusedSimpArgs false

/-- The values of a row of variants. -/
def VZip (W : World) (F : Nat → Prop) : List VA → List Value → Prop
  | [], xs => xs = []
  | .mk k d l :: r, xs => ∃ A n c ys, xs = .string k :: .bool d :: .slice A n c :: ys ∧ l.length = n ∧ PatF W F l (.slice A n c) ∧ VZip W F r ys
theorem VZip.snoc {W : World} {F : Nat → Prop} {k : ByteArray} {d : Bool} {l : List EL} {A : Option Addr} {n c : Nat} (hl : l.length = n) (hp : PatF W F l (.slice A n c)) : ∀ (acc : List VA) (xs : List Value), VZip W F acc xs → VZip W F (acc ++ [.mk k d l]) (xs ++ [.string k, .bool d, .slice A n c])
  | [], xs, h => by
    rw [VZip] at h
    subst h
    exact ⟨A, n, c, [], rfl, hl, hp, rfl⟩
  | .mk k' d' l' :: r, xs, h => by
    rw [VZip] at h
    obtain ⟨A', n', c', ys, rfl, h1, h2, h3⟩ := h
    exact ⟨A', n', c', _, rfl, h1, h2, VZip.snoc hl hp r ys h3⟩
theorem VZip.carry {W W' : World} {F F' : Nat → Prop} (g : ∀ b, F b → F' b ∧ W'.heap[b]? = W.heap[b]?) : ∀ (acc : List VA) (xs : List Value), VZip W F acc xs → VZip W' F' acc xs
  | [], xs, h => by rw [VZip] at h ⊢; exact h
  | .mk k' d' l' :: r, xs, h => by
    rw [VZip] at h
    obtain ⟨A', n', c', ys, rfl, h1, h2, h3⟩ := h
    exact ⟨A', n', c', ys, rfl, h1, h2.carry g, VZip.carry g r ys h3⟩
theorem VZip.vs {W : World} {F : Nat → Prop} {g : Nat} (hg : F g) : ∀ (acc : List VA) (xs : List Value) (o : Nat), (∀ j x, xs[j]? = some x → W.cell? ⟨g, o + j, none⟩ = some x) → VZip W F acc xs → VsF W F acc g o
  | [], xs, o, hc, h => by rw [VsF]; trivial
  | .mk k' d' l' :: r, xs, o, hc, h => by
    rw [VZip] at h
    obtain ⟨A', n', c', ys, rfl, h1, h2, h3⟩ := h
    rw [VsF]
    refine ⟨hg, hc 0 _ rfl, hc 1 _ rfl, ⟨_, hc 2 _ rfl, h2⟩, VZip.vs hg r ys (o + 3) (fun j x hx => ?_) h3⟩
    have := hc (j + 3) x (by simpa using hx)
    rw [show o + 3 + j = o + (j + 3) by omega]
    exact this
/-- The blocks made since, but for a row's own. -/
def OwnSet (B : Nat) (W : World) (v : Value) (b : Nat) : Prop := Since B W b ∧ some b ≠ v.ownBlock
theorem Kp.grownBy {rb : Nat} {W W' : World} (h : Kp rb W W') : W.grownBy W' (some rb) := ⟨h.below.os, h.below.tape, h.below.output, h.below.size, fun k hk hn => h.others k hk (fun e => hn (by rw [e]))⟩
theorem Kp.grown {rb : Nat} {a W W' : World} {row : Option Nat} (h : Kp rb a W) (hg : W.grownBy W' row) (hrow : ∀ k, row = some k → a.heap.size ≤ k) (hr : rb < a.heap.size) : Kp rb a W' :=
  ⟨h.below.grown hg (by have := h.size; omega) (fun k e => by have := hrow k e; omega), fun k hk hn => (hg.block k (Nat.lt_of_lt_of_le hk h.size) (fun e => by have := hrow k e.symm; omega)).trans (h.others k hk hn)⟩
theorem Rd.grown {rb : Nat} {s : ByteArray} {i : Nat} {W W' : World} {row : Option Nat} (h : Rd rb s i W) (hg : W.grownBy W' row) (hrow : ∀ k, row = some k → rb < k) : Rd rb s i W' :=
  (hg.block rb h.lt (fun e => by have := hrow rb e.symm; omega)).trans h
/-- A row of variants of the call's own. -/
def OwnV (B : Nat) (W : World) (v : Value) (acc : List VA) : Prop := ∃ xs, W.ownsRow B 71 3 v acc.length xs ∧ VZip W (OwnSet B W v) acc xs
theorem OwnV.nil (B : Nat) (W : World) : OwnV B W (.slice none 0 0) [] := ⟨[], World.ownsRow_nil _ _ _ _, rfl⟩
theorem OwnV.kp {rb B : Nat} {W W' : World} {v : Value} {acc : List VA} (h : OwnV B W v acc) (g : Kp rb W W') (hrb : rb < B) : OwnV B W' v acc := by
  obtain ⟨xs, h1, h2⟩ := h
  refine ⟨xs, h1.kept g.grownBy (.inr (fun e => by have := (h1.lt rb e).1; omega)), VZip.carry (fun b hb => ?_) _ _ h2⟩
  obtain ⟨⟨hb1, hb2⟩, hb3⟩ := hb
  exact ⟨⟨⟨hb1, Nat.lt_of_lt_of_le hb2 g.size⟩, hb3⟩, g.others b hb2 (by omega)⟩
theorem OwnV.more {B : Nat} {W W' : World} {v v' : Value} {acc : List VA} {xs : List Value} {k : ByteArray} {d : Bool} {l : List EL} {A : Option Addr} {n c : Nat} (h2 : VZip W (OwnSet B W v) acc xs)
    (ho : W'.ownsRow B 71 3 v' (acc.length + 1) (xs ++ [.string k, .bool d, .slice A n c])) (hg : W.grownBy W' v.ownBlock) (hw : v'.ownBlock = v.ownBlock ∨ v'.ownBlock = some W.heap.size) (hl : l.length = n) (hp : PatF W (OwnSet B W v) l (.slice A n c)) :
    OwnV B W' v' (acc ++ [.mk k d l]) := by
  refine ⟨_, by rw [List.length_append]; exact ho, ?_⟩
  have g : ∀ b, OwnSet B W v b → OwnSet B W' v' b ∧ W'.heap[b]? = W.heap[b]? := fun b hb => by
    obtain ⟨⟨hb1, hb2⟩, hb3⟩ := hb
    refine ⟨⟨⟨hb1, Nat.lt_of_lt_of_le hb2 hg.size⟩, ?_⟩, hg.block b hb2 hb3⟩
    rcases hw with e | e
    · rw [e]; exact hb3
    · rw [e]; intro e2; have := Option.some.inj e2; omega
  exact VZip.carry g _ _ (VZip.snoc hl hp acc xs h2)
/-- What a row of the call's own is, seen from without. -/
theorem OwnV.lie {B : Nat} {W : World} {v : Value} {acc : List VA} (h : OwnV B W v acc) : ∃ A c, v = .slice A acc.length c ∧ LieAt (VsF W (Since B W) acc) v acc.length := by
  obtain ⟨xs, h1, h2⟩ := h
  rcases h1.2 with ⟨rfl, h0⟩ | ⟨g, cap, cur, rfl, hb, hg, hc1, hc2, hcs, htk⟩
  · have : acc = [] := List.eq_nil_of_length_eq_zero h0
    subst this
    exact ⟨none, 0, rfl, none, 0, rfl, Nat.le_refl _, Nat.zero_le _, fun h => absurd h (by simp)⟩
  · refine ⟨_, _, rfl, _, _, rfl, hc1, hc2, fun _ => ⟨g, 0, rfl, VZip.vs ⟨hb, (Array.getElem?_eq_some_iff.1 hg).1⟩ acc xs 0 (fun j x hx => ?_) (VZip.carry (fun b hb => ⟨hb.1, rfl⟩) _ _ h2)⟩⟩
    have := h1.cells (g := g) rfl j x hx
    rw [Addr.add_mid] at this
    exact this
/-- How far the reader is. -/
def posOf (rb : Nat) (w : World) : Nat := match w.cell? ⟨rb, 1, none⟩ with
  | some (.int _ i) => i.toNat
  | _ => 0
theorem Rd.pos {rb : Nat} {s : ByteArray} {i : Nat} {w : World} (h : Rd rb s i w) : posOf rb w = i := by
  unfold posOf
  rw [h.c1]
  simp
/-- What reading variants gives. -/
def GotVs (rb : Nat) (s : ByteArray) (w : World) (r : Option (List VA × Nat)) (e : Ending) (w' : World) : Prop :=
  Kp rb w w' ∧ ∃ (A : Option Addr) (n c j : Nat), e = .returned (.tuple #[.slice A n c, .bool r.isSome]) ∧ Rd rb s j w' ∧ j ≤ s.size ∧
    ∀ l m, r = some (l, m) → m = j ∧ l.length = n ∧ LieAt (VsF w' (Since w.heap.size w') l) (.slice A n c) n
theorem parts_pos {s : ByteArray} {P : Nat → Res} : ∀ (m : Nat) (acc : List EL) (i : Nat), s.size - i ≤ m → i ≤ s.size → ∀ ps j, partsS P s acc i = some (ps, j) → i ≤ j ∧ j ≤ s.size := by
  intro m
  induction m with
  | zero =>
    intro acc i hm hi ps j h
    have ht : i ≤ tx s i := behN_ge _ _ _
    have ht2 : tx s i ≤ s.size := by have := behN_le txB s.data.toList i (by rw [size_data]; exact hi); rw [size_data] at this; exact this
    rw [partsS] at h
    split at h
    · next hc => have := isAt_lt hc; omega
    · cases h; omega
  | succ m ih =>
    intro acc i hm hi ps j h
    have ht : i ≤ tx s i := behN_ge _ _ _
    have ht2 : tx s i ≤ s.size := by have := behN_le txB s.data.toList i (by rw [size_data]; exact hi); rw [size_data] at this; exact this
    rw [partsS] at h
    split at h
    · split at h
      · cases h
      · split at h
        · next hg => have := ih _ _ (by omega) hg.2 ps j h; omega
        · cases h
    · cases h; omega
theorem lines_pos {s : ByteArray} {P : Nat → Res} : ∀ (m : Nat) (acc : List LN) (f p i : Nat), s.size - i ≤ m → i ≤ s.size → ∀ ls j, linesS P s acc f p i = some (ls, j) → i ≤ j ∧ j ≤ s.size := by
  intro m
  induction m with
  | zero =>
    intro acc f p i hm hi ls j h
    rw [linesS] at h
    split at h
    · cases h
    · next hp =>
      have h1 := parts_pos _ _ _ (Nat.le_refl _) hi _ _ hp
      split at h
      · cases h; exact h1
      · split at h
        · next hg => omega
        · cases h
  | succ m ih =>
    intro acc f p i hm hi ls j h
    rw [linesS] at h
    split at h
    · cases h
    · next hp =>
      have h1 := parts_pos _ _ _ (Nat.le_refl _) hi _ _ hp
      split at h
      · cases h; exact h1
      · split at h
        · next hg => have := ih _ _ _ _ (by omega) hg.2 ls j h; omega
        · cases h
theorem pat_pos {s : ByteArray} {P : Nat → Res} (i : Nat) (hi : i ≤ s.size) (l : List EL) (j : Nat) (h : patS P s i = some (l, j)) : i ≤ j ∧ j ≤ s.size := by
  unfold patS at h
  split at h
  · cases h
  · next hl =>
    cases h
    have h2 := sp_ok s i hi
    have := lines_pos _ _ _ _ _ (Nat.le_refl _) h2.2 _ _ hl
    omega
theorem vari_pos {s : ByteArray} {P : Nat → Res} (i : Nat) (hi : i ≤ s.size) (v : VA) (j : Nat) (h : variS P s i = some (v, j)) : i < j ∧ j ≤ s.size := by
  unfold variS at h
  have hii : i ≤ (if isAt s i 42 then i + 1 else i) := by split <;> omega
  generalize (if isAt s i 42 then i + 1 else i) = i1 at h hii
  split at h
  · next h1 =>
    have h2 := isAt_lt h1
    have h3 := bl_ok s (i1 + 1) h2
    generalize bl s (i1 + 1) = a at h h3
    split at h
    · cases h
    · have h4 : a ≤ keyE s a ∧ keyE s a ≤ s.size := by
        have := nm_ok s a h3.2
        have := nu_ok s a h3.2
        unfold keyE; split <;> omega
      generalize keyE s a = k at h h4
      have h5 := bl_ok s k h4.2
      generalize bl s k = m at h h5
      split at h
      · next h6 =>
        have h7 := isAt_lt h6
        split at h
        · cases h
        · next hp =>
          have h8 := pat_pos _ h7 _ _ hp
          split at h
          · cases h; omega
          · cases h
      · cases h
  · cases h
end Go.Proofs.YtlijmflikcjikaaDoor

/-
  Package expr: variants, given pattern: the walk.
-/
namespace Go.Proofs.YtlijmflikcjikaaDoor
open Go.RowKit
set_option linter.unusedVariables false
set_option linter.unusedSimpArgs false

theorem infoV : (Tryd.prog.info? 71).map (fun i => (i.zero, i.size, i.bytes)) = some (some (.agg #[.string ⟨#[]⟩, .bool false, .slice none 0 0]), 3, 48) := by kernel_rfl
theorem own_slice {w : World} {B : Nat} {e : TypeId} {size : Nat} {v : Value} {n : Nat} {xs : List Value} (h : w.ownsRow B e size v n xs) (hn : 0 < n) : ∃ A c, v = .slice A n c := by
  rcases h.2 with ⟨_, h0⟩ | ⟨g, cap, cur, rfl, _⟩
  · omega
  · exact ⟨_, _, rfl⟩
theorem ownV_push {rb B : Nat} {w5 w6 : World} {v : Value} {acc : List VA} {xs : List Value} {X : ByteArray} {df : Bool} {l : List EL} {A : Option Addr} {n c : Nat} {o1 o2 : Obj} {W3 : World} {v' : Value} (hrb : rb < B) (hB : B ≤ w5.heap.size)
    (hs : w5.heap.size ≤ w6.heap.size) (hv : ∀ k, v.ownBlock = some k → B ≤ k ∧ k < w5.heap.size) (hz : VZip w6 (OwnSet B w6 v) acc xs) (hp : PatF w6 (Since w5.heap.size w6) l (.slice A n c)) (hl : l.length = n)
    (ho : W3.ownsRow B 71 3 v' (acc.length + 1) (xs ++ [.string X, .bool df, .slice A n c])) (hg : ((w6.alloc o1).alloc o2).grownBy W3 v.ownBlock)
    (hw : v'.ownBlock = v.ownBlock ∨ v'.ownBlock = some ((w6.alloc o1).alloc o2).heap.size) : OwnV B W3 v' (acc ++ [.mk X df l]) := by
  have K : Kp rb w6 ((w6.alloc o1).alloc o2) := ((Kp.refl rb w6).alloc (by omega) _).alloc (by simp; omega) _
  refine OwnV.more (VZip.carry (fun b hb => ?_) _ _ hz) ho hg hw hl (PatF.carry (fun b hb => ?_) hp)
  · obtain ⟨⟨hb1, hb2⟩, hb3⟩ := hb
    exact ⟨⟨⟨hb1, Nat.lt_of_lt_of_le hb2 K.size⟩, hb3⟩, K.others b hb2 (by omega)⟩
  · obtain ⟨hb1, hb2⟩ := hb
    exact ⟨⟨⟨by omega, Nat.lt_of_lt_of_le hb2 K.size⟩, fun e => by have := hv b e.symm; omega⟩, K.others b hb2 (by omega)⟩
set_option maxHeartbeats 8000000 in
set_option maxRecDepth 100000 in
theorem variants_any {rb : Nat} {s : ByteArray} {d : Nat} {P : Nat → Res} (hs : s.size ≤ 1000000) (hd : d ≤ 4000) (hPat : PatTo rb s d (patS P s)) (i : Nat) (w : World) (hr : Rd rb s i w) (hi : i ≤ s.size) :
    Calls Tryd.prog 15 #[pt rb, .int .i64 d] w (GotVs rb s w (selS P s i)) := by
  obtain ⟨i0, hi0, hz0, hz1, hz2⟩ := info_parts infoV
  have HR := Lib.hid hr
  have hlt := hr.lt
  obtain ⟨R, hRR⟩ : ∃ R, selS P s i = R := ⟨_, rfl⟩
  rw [hRR]
  unfold selS at hRR
  have hS := sp_ok s i hi
  have hP1 := fun W (h : Rd rb s i W) => pass_any endSpaces W h (by omega) hi
  obtain ⟨p, hp⟩ : ∃ p, sp s i = p := ⟨_, rfl⟩
  rw [hp] at hS hP1 hRR
  have hT1 := fun W (h : Rd rb s p W) => take_any 10 W h (by omega) hS.2
  obtain ⟨b1, hb1⟩ : ∃ b, isAt s p 10 = b := ⟨_, rfl⟩
  have hp1 : b1 = true → p + 1 ≤ s.size := fun h => isAt_lt (hb1.trans h)
  rw [hb1] at hT1 hRR
  have HP1 := Lib.hid hP1
  have HT1 := Lib.hid hT1
  have HV := Lib.hid (fun j W h1 h2 => variant_any (rb := rb) hs hd hPat j W h1 h2)
  clear hr hP1 hp hT1 hb1 hPat
  unfold pt at HP1 HT1 HV ⊢
  cases b1
  case false =>
    rw [if_neg (by simp)] at hRR
    subst hRR
    go_enter Tryd.func15, Tryd.ntmps15
    go_wp2_with fail
    go_at_call 10
    refine (HP1.out _ HR.out).mono ?_
    rintro e w1 ⟨rfl, g1, g2⟩
    have G1 := Lib.hid g1
    have HK := Lib.hid g2
    clear g1 g2
    go_wp2_with fail
    go_at_call 9
    refine (HT1.out _ G1.out).mono ?_
    rintro e w2 ⟨rfl, g3, g4⟩
    have G3 := Lib.hid (show Rd rb s p w2 by simpa using g3)
    have HK2 := Lib.hid (HK.out.trans g4)
    clear g3 g4
    go_wp2
    go_ret2
    exact ⟨HK2.out, none, 0, 0, p, rfl, G3.out, hS.2, fun l m h => by cases h⟩
  have hp2 := hp1 rfl
  rw [if_pos rfl] at hRR
  have hB := bl_ok s (p + 1) hp2
  have hP2 := fun W (h : Rd rb s (p + 1) W) => pass_any endBlank W h (by omega) hp2
  obtain ⟨q, hq⟩ : ∃ q, bl s (p + 1) = q := ⟨_, rfl⟩
  rw [hq] at hB hP2 hRR
  have HP2 := Lib.hid hP2
  have HRR := Lib.hid hRR
  have hd0 : (d : Int) ≤ 4000 := by omega
  unfold pt at HP2
  clear hP2 hq hRR hp1
  go_enter Tryd.func15, Tryd.ntmps15
  go_wp2_with fail
  go_at_call 10
  refine (HP1.out _ HR.out).mono ?_
  rintro e w1 ⟨rfl, g1, g2⟩
  have G1 := Lib.hid g1
  have HK := Lib.hid g2
  clear g1 g2
  go_wp2_with fail
  go_at_call 9
  refine (HT1.out _ G1.out).mono ?_
  rintro e w2 ⟨rfl, g3, g4⟩
  have G3 := Lib.hid (show Rd rb s (p + 1) w2 by simpa using g3)
  have HK2 := Lib.hid (HK.out.trans g4)
  clear g3 g4
  go_wp2_with fail
  go_at_call 10
  refine (HP2.out _ G3.out).mono ?_
  rintro e w3 ⟨rfl, g3, g4⟩
  have G4 := Lib.hid g3
  have HK3 := Lib.hid (HK2.out.trans g4)
  clear g3 g4
  go_wp2
  go_loopw [6, 7] (fun t6 t7 wr => ∃ (acc : List VA) (j : Nat) (A : Option Addr) (c : Nat), t6 = .slice A acc.length c ∧ t7 = .int .i64 (acc.countP vaDflt : Nat) ∧ j ≤ s.size ∧ acc.length ≤ j ∧ Hid (varsS P s acc j = R) ∧ Hid (Rd rb s j wr) ∧ Hid (Kp rb w wr) ∧ Hid (OwnV w.heap.size wr (.slice A acc.length c) acc)) (fun _ _ wr => s.size - posOf rb wr)
  case atStart => exact ⟨[], q, none, 0, rfl, rfl, hB.2, Nat.zero_le _, HRR.out, G4.out, HK3.out, OwnV.nil _ _⟩
  case round =>
    obtain ⟨acc, j, A, c, rfl, rfl, hj, hal, Hans, HRd, HK, HO⟩ := hrel
    have hT := fun W (h : Rd rb s j W) => take_any 125 W h (by omega) hj
    obtain ⟨b, hb⟩ : ∃ b, isAt s j 125 = b := ⟨_, rfl⟩
    have hj1 : b = true → j + 1 ≤ s.size := fun h => isAt_lt (hb.trans h)
    have hans := Hans.out
    rw [varsS] at hans
    rw [hb] at hT hans
    have HT := Lib.hid hT
    have hcnt : acc.countP vaDflt ≤ acc.length := List.countP_le_length
    obtain ⟨cn, hcn⟩ : ∃ cn, acc.countP vaDflt = cn := ⟨_, rfl⟩
    rw [hcn] at hcnt hans ⊢
    have Hcn := Lib.hid hcn
    have hcn0 : (cn : Int) ≤ 1000000 := by omega
    have Hpos := Lib.hid HRd.out.pos
    unfold pt at HT
    clear hT hb hcn
    cases b
    case true =>
      rw [if_pos rfl] at hans
      have HRn := Lib.hid hans
      have Hj1 := Lib.hid (hj1 rfl)
      clear hans hj1
      go_wp2_with fail
      go_at_call 9
      refine (HT.out _ HRd.out).mono ?_
      rintro e w5 ⟨rfl, g1, g2⟩
      have G5 := Lib.hid (show Rd rb s (j + 1) w5 by simpa using g1)
      have HK5 := Lib.hid (HK.out.trans g2)
      have HO5 := Lib.hid (HO.out.kp g2 hlt)
      clear g1 g2
      by_cases h1 : cn = 1
      · have h11 : ((cn : Int) == 1) = true := beq_iff_eq.2 (by omega)
        have hR := HRn.out
        rw [if_pos h1] at hR
        subst hR
        clear h1
        go_wp2
        go_ret2
        obtain ⟨A', c', e1, hl⟩ := HO5.out.lie
        exact ⟨HK5.out, A, acc.length, c, j + 1, rfl, G5.out, Hj1.out, fun l m h => by cases h; exact ⟨rfl, rfl, hl⟩⟩
      · have h11 : ((cn : Int) == 1) = false := beq_eq_false_iff_ne.2 (by omega)
        have hR := HRn.out
        rw [if_neg h1] at hR
        subst hR
        clear h1
        go_wp2
        go_ret2
        exact ⟨HK5.out, A, acc.length, c, j + 1, rfl, G5.out, Hj1.out, fun l m h => by cases h⟩
    rw [if_neg (by simp)] at hans
    have hv := vari_pos (P := P) j hj
    obtain ⟨r, hr⟩ : ∃ r, variS P s j = r := ⟨_, rfl⟩
    rw [hr] at hans hv
    have hVj := fun W h => HV.out j W h hj
    rw [hr] at hVj
    have HVj := Lib.hid hVj
    have Hv := Lib.hid hv
    have HRn := Lib.hid hans
    clear hans hv hr hVj hj1
    go_wp2_with fail
    go_at_call 9
    refine (HT.out _ HRd.out).mono ?_
    rintro e w5 ⟨rfl, g1, g2⟩
    have G5 := Lib.hid (show Rd rb s j w5 by simpa using g1)
    have HK5 := Lib.hid (HK.out.trans g2)
    have HO5 := Lib.hid (HO.out.kp g2 hlt)
    clear g1 g2
    go_wp2_with fail
    go_at_call 27
    refine (HVj.out _ G5.out).mono ?_
    rintro e w6 ⟨h1, X, df, A', n, c', m, rfl, h2, hm, hn, h3⟩
    have HK6 := Lib.hid (HK5.out.trans h1)
    have HO6 := Lib.hid (HO5.out.kp h1 hlt)
    have H2 := Lib.hid h2
    have H3 := Lib.hid h3
    have hl6 := h2.lt
    have hs5 := h1.size
    clear h1 h2 h3
    cases r with
    | none =>
      have hR := HRn.out
      dsimp only at hR
      subst hR
      go_wp2
      go_ret2
      exact ⟨HK6.out.alloc (Nat.le_of_lt hl6) _, none, 0, 0, m, rfl, H2.out.alloc _, hm, fun l m h => by cases h⟩
    | some vm =>
      obtain ⟨v, m'⟩ := vm
      obtain ⟨rfl, l, rfl, hln, hpt⟩ := H3.out v m' rfl
      have hv2 := Hv.out _ _ rfl
      have HL := Lib.hid hln
      have HPF := Lib.hid hpt
      have hB7 := bl_ok s m' hm
      have hP7 := fun W (h : Rd rb s m' W) => pass_any endBlank W h (by omega) hm
      have hR := HRn.out
      dsimp only at hR
      obtain ⟨q7, hq7⟩ : ∃ q, bl s m' = q := ⟨_, rfl⟩
      rw [hq7] at hB7 hP7 hR
      rw [dif_pos (show j < q7 ∧ q7 ≤ s.size from ⟨by omega, hB7.2⟩)] at hR
      have HR7 := Lib.hid hR
      have HP7 := Lib.hid hP7
      unfold pt at HP7
      clear hR hln hpt hP7 hq7
      have hn0 : (n : Int) ≤ 4000000 := by omega
      have hacc : (acc.length : Int) ≤ 1000000 := by omega
      obtain ⟨xs6, ho6, hz6⟩ := HO6.out
      have hown1 := (ho6.alloc (.cells #[.string X, .bool df, .slice A' n c'] 71)).alloc (.cells #[.string X, .bool df, .slice A' n c'] 71)
      obtain ⟨xs5, ho5, hz5⟩ := HO5.out
      have Hv5 := Lib.hid (fun k e => ho5.lt k e)
      have hs0 := HK5.out.size
      clear ho6 ho5 hz5
      cases df
      case false =>
        go_wp2_with (at_builtin; refine wpList_append_where _ rfl _ _ 26 rfl w.heap.size 71 i0 (.agg zV) 3 48 Tryd.underlying26 hi0 hz0 hz1 hz2 rfl (by decide) _ _ _ rfl hown1 ⟨w6.heap.size + 1, 0, none⟩ 1 1 [.string X, .bool false, .slice A' n c'] rfl rfl ?c1 ?c2 ?c3 ?c4 ?c5 ?c6 ?_)
        case c1 =>
          intro j u hj
          match j, hj with
          | 0, hj => simp at hj; subst hj; simp [Addr.add]
          | 1, hj => simp at hj; subst hj; simp [Addr.add]
          | 2, hj => simp at hj; subst hj; simp [Addr.add]
        case c2 => intro u hu; simp at hu; rcases hu with rfl | rfl | rfl <;> rfl
        case c3 => unfold maxLen; omega
        case c4 => omega
        case c5 => simp; omega
        case c6 => decide
        intro v' w8 hown' hgrow hwh
        have HO8 := Lib.hid (ownV_push hlt (by omega) hs5 Hv5.out hz6 HPF.out HL.out hown' hgrow (by simpa using hwh))
        have G8 := Lib.hid (((H2.out.alloc _).alloc _).grown hgrow (fun k e => by have := Hv5.out k e; omega))
        have HK8 := Lib.hid (Kp.grown ((HK6.out.alloc (Nat.le_of_lt hl6) _).alloc (by simp; omega) _) hgrow (fun k e => (Hv5.out k e).1) hlt)
        obtain ⟨A2, c2, rfl⟩ := own_slice hown' (by omega)
        clear hown' hgrow hwh
        go_wp2_with fail
        go_at_call 10
        refine (HP7.out _ G8.out).mono ?_
        rintro e w9 ⟨rfl, g1, g2⟩
        have G9 := Lib.hid g1
        have HK9 := Lib.hid (HK8.out.trans g2)
        have HO9 := Lib.hid (HO8.out.kp g2 hlt)
        clear g1 g2
        go_wp2
        go_roundw
        case rel =>
          refine ⟨acc ++ [.mk X false l], q7, A2, c2, ?_, ?_, hB7.2, ?_, HR7, G9, HK9, ?_⟩
          · show Value.slice A2 _ c2 = _
            simp
          · show Value.int .i64 _ = _
            rw [List.countP_append, Hcn.out]
            simp [vaDflt]
          · rw [List.length_append, List.length_singleton]; omega
          · show Hid (OwnV w.heap.size _ (.slice A2 (acc ++ [VA.mk X false l]).length c2) _)
            rw [List.length_append, List.length_singleton]
            exact HO9
        case measure =>
          show s.size - posOf rb _ < s.size - posOf rb wr
          rw [G9.out.pos, Hpos.out]
          omega
      case true =>
        go_wp2_with (at_builtin; refine wpList_append_where _ rfl _ _ 26 rfl w.heap.size 71 i0 (.agg zV) 3 48 Tryd.underlying26 hi0 hz0 hz1 hz2 rfl (by decide) _ _ _ rfl hown1 ⟨w6.heap.size + 1, 0, none⟩ 1 1 [.string X, .bool true, .slice A' n c'] rfl rfl ?c1 ?c2 ?c3 ?c4 ?c5 ?c6 ?_)
        case c1 =>
          intro j u hj
          match j, hj with
          | 0, hj => simp at hj; subst hj; simp [Addr.add]
          | 1, hj => simp at hj; subst hj; simp [Addr.add]
          | 2, hj => simp at hj; subst hj; simp [Addr.add]
        case c2 => intro u hu; simp at hu; rcases hu with rfl | rfl | rfl <;> rfl
        case c3 => unfold maxLen; omega
        case c4 => omega
        case c5 => simp; omega
        case c6 => decide
        intro v' w8 hown' hgrow hwh
        have HO8 := Lib.hid (ownV_push hlt (by omega) hs5 Hv5.out hz6 HPF.out HL.out hown' hgrow (by simpa using hwh))
        have G8 := Lib.hid (((H2.out.alloc _).alloc _).grown hgrow (fun k e => by have := Hv5.out k e; omega))
        have HK8 := Lib.hid (Kp.grown ((HK6.out.alloc (Nat.le_of_lt hl6) _).alloc (by simp; omega) _) hgrow (fun k e => (Hv5.out k e).1) hlt)
        obtain ⟨A2, c2, rfl⟩ := own_slice hown' (by omega)
        clear hown' hgrow hwh
        go_wp2_with fail
        go_at_call 10
        refine (HP7.out _ G8.out).mono ?_
        rintro e w9 ⟨rfl, g1, g2⟩
        have G9 := Lib.hid g1
        have HK9 := Lib.hid (HK8.out.trans g2)
        have HO9 := Lib.hid (HO8.out.kp g2 hlt)
        clear g1 g2
        go_wp2
        go_roundw
        case rel =>
          refine ⟨acc ++ [.mk X true l], q7, A2, c2, ?_, ?_, hB7.2, ?_, HR7, G9, HK9, ?_⟩
          · show Value.slice A2 _ c2 = _
            simp
          · show Value.int .i64 _ = _
            rw [List.countP_append, Hcn.out]
            simp [vaDflt]
          · rw [List.length_append, List.length_singleton]; omega
          · show Hid (OwnV w.heap.size _ (.slice A2 (acc ++ [VA.mk X true l]).length c2) _)
            rw [List.length_append, List.length_singleton]
            exact HO9
        case measure =>
          show s.size - posOf rb _ < s.size - posOf rb wr
          rw [G9.out.pos, Hpos.out]
          omega
end Go.Proofs.YtlijmflikcjikaaDoor
