/-
  Several texts put together (part 4): what the law and the program call, walked; their contracts.
-/
import Derived.Test.YtlijmflikcjikaaDoorM3
/-
  Package expr: place, given inline and variants.
-/
namespace Go.Proofs.YtlijmflikcjikaaDoor
open Go.RowKit
set_option linter.unusedVariables false
set_option linter.unusedSimpArgs false

theorem isAt_prefix2 (s : ByteArray) (i : Nat) (c d : UInt8) (hi : i ≤ s.size) : Lib.hasPrefix (s.extract i s.size).data.toList [c, d] = (isAt s i c && isAt s (i + 1) d) := by
  rw [extract_drop]
  unfold isAt
  by_cases h : i < s.size
  · have hl : i < s.data.toList.length := by rw [size_data]; exact h
    rw [List.drop_eq_getElem_cons hl, decide_eq_true h, Bool.true_and, at0_get _ _ hl]
    unfold Lib.hasPrefix
    rw [List.isPrefixOf]
    by_cases h2 : i + 1 < s.size
    · have hl2 : i + 1 < s.data.toList.length := by rw [size_data]; exact h2
      rw [List.drop_eq_getElem_cons hl2, decide_eq_true h2, Bool.true_and, at0_get _ _ hl2, List.isPrefixOf, List.isPrefixOf, Bool.and_true]
      rw [Bool.eq_iff_iff, Bool.and_eq_true, Bool.and_eq_true, beq_iff_eq, beq_iff_eq, beq_iff_eq, beq_iff_eq]
      exact ⟨fun ⟨a, b⟩ => ⟨a.symm, b.symm⟩, fun ⟨a, b⟩ => ⟨a.symm, b.symm⟩⟩
    · rw [List.drop_eq_nil_of_le (by rw [size_data]; omega), decide_eq_false h2]
      simp [List.isPrefixOf]
  · rw [List.drop_eq_nil_of_le (by rw [size_data]; omega), decide_eq_false h]
    rfl
set_option maxHeartbeats 2000000 in
set_option maxRecDepth 100000 in
theorem take2_any {rb : Nat} {s : ByteArray} {i : Nat} (c d : UInt8) (w : World) (hr : Rd rb s i w) (hs : s.size ≤ 4000000) (hi : i ≤ s.size) :
    Calls Tryd.prog 9 #[pt rb, .string ⟨#[c, d]⟩] w fun e w' => e = .returned (.bool (isAt s i c && isAt s (i + 1) d)) ∧ Rd rb s (if isAt s i c && isAt s (i + 1) d then i + 2 else i) w' ∧ Kp rb w w' := by
  have hx := isAt_prefix2 s i c d hi
  have hp := fun W => Tryd.strings_HasPrefix (s.extract i s.size) ⟨#[c, d]⟩ W
  rw [hx] at hp
  obtain ⟨b, hb⟩ : ∃ b, (isAt s i c && isAt s (i + 1) d) = b := ⟨_, rfl⟩
  have Hb := Lib.hid hb
  rw [hb] at hp ⊢
  have HP := Lib.hid hp
  have c0 := hr.c0
  have c1 := hr.c1
  have f0 := hr.f 0
  have f1 := hr.f 1
  have hlt := hr.lt
  have HR := Lib.hid hr
  have hi0 : (i : Int) ≤ 4000000 := by omega
  have hjs : (i : Int) ≤ (s.size : Int) := by omega
  have hss : (s.size : Int) ≤ 4000000 := by omega
  have hi1 : (0 : Int) ≤ (i : Int) := by omega
  clear hx hp hb hr
  unfold pt
  go_enter Tryd.func9, Tryd.ntmps9
  go_wp2_with fail
  go_region_held3 (fun w' => w'.cell? ⟨rb, 0, none⟩ = some (.string s) ∧ w'.cell? ⟨rb, 1, none⟩ = some (.int .i64 (i : Nat)) ∧ rb + 1 ≤ w'.heap.size ∧ Rd rb s i w' ∧ Kp rb w w')
    (first | (exact rds_later (by assumption) (by assumption)) | (exact rds_of HR.out.drew (Kp.refl _ _).drew) | go_keep)
    (first | (go_at_call 20; refine (HP.out _).mono ?_; rintro e w' ⟨rfl, rfl⟩))
  have d1 : w.drew.cell? ⟨rb, 1, none⟩ = some (.int .i64 (i : Nat)) := c1
  have g1 : w.drew.frozen? ⟨rb, 1, none⟩ = false := f1
  cases b
  · go_wp2
    go_ret
    exact ⟨rfl, HR.out.drew, (Kp.refl _ _).drew⟩
  · go_wp2
    go_ret
    exact ⟨rfl, HR.out.drew.set' (by omega), (Kp.refl _ _).drew.setCell 1 _⟩
/-- A place, given how what is a brace deeper is read. -/
def plS (P : Nat → Res) (s : ByteArray) (i : Nat) : Res :=
  if isAt s i 123 then
    match inlS P s (bl s (i + 1)) with
    | none => none
    | some (e, j) =>
      if isAt s (bl s j) 125 then (if termAttr e then none else some (e, bl s j + 1))
      else if isAt s (bl s j) 45 && isAt s (bl s j + 1) 62 && mayAsk e then
        match selS P s (bl s j + 2) with
        | none => none
        | some (vs, m) => some (.mk 7 E0 E0 E0 [] (some e) vs, m)
      else none
  else none
theorem placeS_succ (s : ByteArray) (r : Nat) : placeS s (r + 1) = plS (placeS s r) s := by
  funext i
  rw [placeS, plS]
  rfl
def VsTo (rb : Nat) (s : ByteArray) (d : Nat) (Q : Nat → Option (List VA × Nat)) : Prop := ∀ (i : Nat) (w : World), Rd rb s i w → i ≤ s.size → Calls Tryd.prog 15 #[pt rb, .int .i64 d] w (GotVs rb s w (Q i))
set_option maxHeartbeats 2000000 in
set_option maxRecDepth 100000 in
/-- Too many braces. -/
theorem place_deep {rb : Nat} {s : ByteArray} {d : Nat} (hd : 20 < d) (hd2 : d ≤ 4000) : WayTo rb s 7 #[pt rb, .int .i64 d] (fun _ => none) := by
  intro i w hr hi
  have HR := Lib.hid hr
  have hlt := hr.lt
  have hd0 : decide ((d : Int) > 20) = true := decide_eq_true (by omega)
  have hd1 : decide ((20 : Int) < d) = true := decide_eq_true (by omega)
  have hd3 : (20 : Int) < d := by omega
  clear hr
  unfold pt
  go_enter Tryd.func7, Tryd.ntmps7
  have hc := BoxAt.new w zE 28
  have hcl := hc.lt
  have HC := Lib.hid hc
  obtain ⟨q0, q1, q2, q3, q4, q5, q6, p0, p1, p2, p3, p4, p5, p6⟩ := cells7 hc
  go_wp2
  exact end7w Tryd.results7 HC.out rfl rfl rfl (got_end ((Kp.refl rb w).alloc (Nat.le_of_lt hlt) _) (HR.out.alloc _) hi rfl (fun x m h => by cases h))
set_option maxHeartbeats 2000000 in
set_option maxRecDepth 100000 in
theorem termsAttr_at (k : Int) (t n a : ByteArray) (A1 : Option Addr) (n1 c1 : Nat) (p : Option Addr) (A2 : Option Addr) (n2 c2 : Nat) (w : World) :
    Calls Tryd.prog 13 #[exV k t n a A1 n1 c1 p A2 n2 c2] w fun e w' => e = .returned (.bool ((k == 4) && !emp a)) ∧ w' = w.alloc (.cells #[.int .i64 k, .string t, .string n, .string a, .slice A1 n1 c1, .pointer p, .slice A2 n2 c2] 28) := by
  unfold exV emp
  cases hz : (k == 4)
  case false =>
    go_enter Tryd.func13, Tryd.ntmps13
    go_wp2
    go_ret
    exact ⟨ret_bool (by rfl), rfl⟩
  cases hg : a.toList.isEmpty
  all_goals
    go_enter Tryd.func13, Tryd.ntmps13
    go_wp2
    go_ret
    exact ⟨ret_bool (by rfl), rfl⟩
theorem since_set7 {w : World} {c b : Nat} {x0 x1 x2 x3 x4 x5 x6 : Value} (o : Obj) (h : b < (set7 w c x0 x1 x2 x3 x4 x5 x6).heap.size) : b < ((set7 w c x0 x1 x2 x3 x4 x5 x6).alloc o).drew.heap.size := by
  show b < ((set7 w c x0 x1 x2 x3 x4 x5 x6).alloc o).heap.size
  rw [World.size_alloc]
  exact Nat.lt_succ_of_lt h
theorem heap_set7 {w : World} {c b : Nat} {x0 x1 x2 x3 x4 x5 x6 : Value} (o : Obj) (hc : b ≠ c) (h : b < (set7 w c x0 x1 x2 x3 x4 x5 x6).heap.size) : ((set7 w c x0 x1 x2 x3 x4 x5 x6).alloc o).drew.heap[b]? = w.heap[b]? :=
  (Lib.alloc_old (set7 w c x0 x1 x2 x3 x4 x5 x6) o b h).trans (set7_heap _ _ _ _ _ _ _ _ _ b hc)
theorem setCell7_size (w : World) (b : Nat) (x0 x1 x2 x3 x4 x5 x6 : Value) : (((((((w.setCell ⟨b, 0, none⟩ x0).setCell ⟨b, 1, none⟩ x1).setCell ⟨b, 2, none⟩ x2).setCell ⟨b, 3, none⟩ x3).setCell ⟨b, 4, none⟩ x4).setCell ⟨b, 5, none⟩ x5).setCell ⟨b, 6, none⟩ x6).heap.size = w.heap.size := set7_size w b x0 x1 x2 x3 x4 x5 x6
theorem setCell7_heap (w : World) (b : Nat) (x0 x1 x2 x3 x4 x5 x6 : Value) (k : Nat) (hk : k ≠ b) : (((((((w.setCell ⟨b, 0, none⟩ x0).setCell ⟨b, 1, none⟩ x1).setCell ⟨b, 2, none⟩ x2).setCell ⟨b, 3, none⟩ x3).setCell ⟨b, 4, none⟩ x4).setCell ⟨b, 5, none⟩ x5).setCell ⟨b, 6, none⟩ x6).heap[k]? = w.heap[k]? := set7_heap w b x0 x1 x2 x3 x4 x5 x6 k hk
/-- An expression read: its fields. -/
theorem exF_fields {W : World} {F : Nat → Prop} {x : EX} {k : Int} {t n a : ByteArray} {al i vs : Value} (h : ExF W F x ⟨.int .i64 k, .string t, .string n, .string a, al, i, vs⟩) :
    termAttr x = ((k == 4) && !emp a) ∧ mayAsk x = (decide (k = 0 ∨ k = 1 ∨ k = 2 ∨ k = 5) || ((k == 4) && !emp a)) := by
  obtain ⟨k', t', n', a', al', i', vs'⟩ := x
  rw [ExF] at h
  obtain ⟨h1, h2, h3, h4, _⟩ := h
  cases h1
  cases h4
  exact ⟨rfl, rfl⟩
theorem exF_sel {W : World} {F : Nat → Prop} {x : EX} {vs : List VA} {b : Nat} {c : C7} {v : Value} (hb : F b) (hc : CellsAt W b 0 c) (hx : ExF W F x c) (hv : LieAt (VsF W F vs) v vs.length) :
    ExF W F (.mk 7 E0 E0 E0 [] (some x) vs) ⟨.int .i64 7, .string E0, .string E0, .string E0, .slice none 0 0, .pointer (some ⟨b, 0, none⟩), v⟩ := by
  rw [ExF]
  refine ⟨rfl, rfl, rfl, rfl, LieN.nil _, ?_, hv⟩
  simp only [OF]
  exact ⟨b, 0, c, rfl, hb, hc, hx⟩
set_option maxHeartbeats 2000000 in
set_option maxRecDepth 100000 in
theorem place_any {rb : Nat} {s : ByteArray} {d : Nat} {P : Nat → Res} (hs : s.size ≤ 1000000) (hd : d ≤ 20) (hIn : WayTo rb s 12 #[pt rb, .int .i64 d] (inlS P s)) (hVs : VsTo rb s d (selS P s)) :
    WayTo rb s 7 #[pt rb, .int .i64 d] (plS P s) := by
  intro i w hr hi
  have HR := Lib.hid hr
  have hlt := hr.lt
  have hd0 : decide ((20 : Int) < d) = false := decide_eq_false (by omega)
  have hd1 : ¬ (20 : Int) < d := by omega
  obtain ⟨R, hRR⟩ : ∃ R, plS P s i = R := ⟨_, rfl⟩
  rw [hRR]
  unfold plS at hRR
  have hT1 := fun W (h : Rd rb s i W) => take_any 123 W h (by omega) hi
  obtain ⟨b1, hb1⟩ : ∃ b, isAt s i 123 = b := ⟨_, rfl⟩
  have hi1 : b1 = true → i + 1 ≤ s.size := fun h => isAt_lt (hb1.trans h)
  rw [hb1] at hT1 hRR
  have HT1 := Lib.hid hT1
  have HIn := Lib.hid hIn
  have HVs := Lib.hid hVs
  have HPb := Lib.hid (fun j W (h : Rd rb s j W) hj => pass_any endBlank W h (show s.size ≤ 4000000 by omega) hj)
  have HTb := Lib.hid (fun j W (h : Rd rb s j W) hj => take_any 125 W h (show s.size ≤ 4000000 by omega) hj)
  have HTa := Lib.hid (fun j W (h : Rd rb s j W) hj => take2_any 45 62 W h (show s.size ≤ 4000000 by omega) hj)
  clear hr hT1 hb1 hIn hVs
  unfold pt at HT1 HPb HTb HTa HVs HIn ⊢
  have hc0 := BoxAt.new w zE 28
  have K0 : Kp rb w (w.alloc (.cells zE 28)) := (Kp.refl rb w).alloc (Nat.le_of_lt hlt) _
  have HK0 := Lib.hid K0
  have HC0 := Lib.hid hc0
  clear hc0 K0
  cases b1
  case false =>
    rw [if_neg (by simp)] at hRR
    subst hRR
    go_enter Tryd.func7, Tryd.ntmps7
    go_wp2_with fail
    go_at_call 9
    refine (HT1.out _ (HR.out.alloc _)).mono ?_
    rintro e w1 ⟨rfl, g1, g2⟩
    have G1 := Lib.hid (show Rd rb s i w1 by simpa using g1)
    have HK := Lib.hid (HK0.out.trans g2)
    have hc := BoxAt.kp HC0.out g2 (by omega)
    have hcl := hc.lt
    have HC := Lib.hid hc
    obtain ⟨q0, q1, q2, q3, q4, q5, q6, p0, p1, p2, p3, p4, p5, p6⟩ := cells7 hc
    clear g1 g2 hc
    go_wp2
    exact end7w Tryd.results7 (box_set7 HC.out _ _ _ _ _ _ _) rfl rfl rfl (got_end (HK.out.set7 (Nat.le_refl _) hlt _ _ _ _ _ _ _) (G1.out.set7 (by omega) _ _ _ _ _ _ _) hi rfl (fun x m h => by cases h))
  have hi2 := hi1 rfl
  rw [if_pos rfl] at hRR
  have hB := bl_ok s (i + 1) hi2
  have hP1 := fun W h => HPb.out (i + 1) W h hi2
  obtain ⟨q, hq⟩ : ∃ q, bl s (i + 1) = q := ⟨_, rfl⟩
  rw [hq] at hB hRR
  have hP2 : ∀ W, Rd rb s (i + 1) W → Calls Tryd.prog 10 #[.pointer (some ⟨rb, 0, none⟩), .func (.func 11) #[] #[]] W fun e w' => e = .returned (.string (s.extract (i + 1) q)) ∧ Rd rb s q w' ∧ Kp rb W w' := by
    rw [← hq]; exact hP1
  have HP1 := Lib.hid hP2
  have hI := fun W h => HIn.out q W h hB.2
  obtain ⟨r, hrr⟩ : ∃ r, inlS P s q = r := ⟨_, rfl⟩
  rw [hrr] at hI hRR
  have HI := Lib.hid hI
  have HRR := Lib.hid hRR
  clear hi1 hP1 hP2 hI hrr hRR hq HIn
  go_enter Tryd.func7, Tryd.ntmps7
  go_wp2_with fail
  go_at_call 9
  refine (HT1.out _ (HR.out.alloc _)).mono ?_
  rintro e w1 ⟨rfl, g1, g2⟩
  have G1 := Lib.hid (show Rd rb s (i + 1) w1 by simpa using g1)
  have HK1 := Lib.hid (show Kp rb (w.alloc (.cells zE 28)) w1 from g2)
  clear g1 g2
  go_wp2_with fail
  go_at_call 10
  refine (HP1.out _ G1.out).mono ?_
  rintro e w2 ⟨rfl, g1, g2⟩
  have G2 := Lib.hid g1
  have HK2 := Lib.hid (HK1.out.trans g2)
  have hs20 := HK2.out.size
  rw [World.size_alloc] at hs20
  clear g1 g2
  go_wp2_with fail
  go_at_call 12
  refine (HI.out _ G2.out).mono ?_
  rintro e w3 ⟨h1, k, t, n, a, A1, n1, c1, p, A2, n2, c2, j, rfl, h2, hj, h3⟩
  have hs3 := h1.size
  have HK3 := Lib.hid (HK2.out.trans h1)
  have H2 := Lib.hid h2
  have H3 := Lib.hid h3
  have hl3 := h2.lt
  have hs30 := HK3.out.size
  rw [World.size_alloc] at hs30
  clear h1 h2 h3
  unfold exV
  cases r with
  | none =>
    have hR := HRR.out
    dsimp only at hR
    subst hR
    have hc := BoxAt.kp HC0.out HK3.out (by omega)
    have hcl := hc.lt
    have HC := Lib.hid hc
    obtain ⟨q0, q1, q2, q3, q4, q5, q6, p0, p1, p2, p3, p4, p5, p6⟩ := cells7 hc
    have HKE := Lib.hid (HK0.out.trans HK3.out)
    clear hc HPb HTb HTa HVs HP1 HT1 HI HK0 HK1 HK2 HK3 G1 G2 H3 HRR
    go_wp2
    exact end7w Tryd.results7 ((box_set7 HC.out _ _ _ _ _ _ _).alloc _) rfl rfl rfl (got_end ((HKE.out.set7 (Nat.le_refl _) hlt _ _ _ _ _ _ _).alloc (by rw [set7_size]; omega) _) ((H2.out.set7 (by omega) _ _ _ _ _ _ _).alloc _) hj rfl (fun x m h => by cases h))
  | some em =>
    obtain ⟨e, j'⟩ := em
    obtain ⟨rfl, hx⟩ := H3.out e j' rfl
    have hR := HRR.out
    dsimp only at hR
    obtain ⟨hf1, hf2⟩ := exF_fields hx
    rw [hf1, hf2] at hR
    have HX := Lib.hid hx
    have hB4 := bl_ok s j' hj
    have hP4 := fun W h => HPb.out j' W h hj
    obtain ⟨q4, hq4⟩ : ∃ q, bl s j' = q := ⟨_, rfl⟩
    have hP4' : ∀ W, Rd rb s j' W → Calls Tryd.prog 10 #[.pointer (some ⟨rb, 0, none⟩), .func (.func 11) #[] #[]] W fun e w' => e = .returned (.string (s.extract j' q4)) ∧ Rd rb s q4 w' ∧ Kp rb W w' := by
      rw [← hq4]; exact hP4
    rw [hq4] at hB4 hR
    have hT4 := fun W h => HTb.out q4 W h hB4.2
    obtain ⟨b4, hb4⟩ : ∃ b, isAt s q4 125 = b := ⟨_, rfl⟩
    have hi4 : b4 = true → q4 + 1 ≤ s.size := fun h => isAt_lt (hb4.trans h)
    rw [hb4] at hT4 hR
    have HP4 := Lib.hid hP4'
    have HT4 := Lib.hid hT4
    have Hi4 := Lib.hid hi4
    have HR4 := Lib.hid hR
    have HEb := Lib.hid (BoxAt.new w3 #[.int .i64 k, .string t, .string n, .string a, .slice A1 n1 c1, .pointer p, .slice A2 n2 c2] 28)
    have KE : Kp rb w3 (w3.alloc (.cells #[.int .i64 k, .string t, .string n, .string a, .slice A1 n1 c1, .pointer p, .slice A2 n2 c2] 28)) := (Kp.refl rb w3).alloc (Nat.le_of_lt hl3) _
    have HKe := Lib.hid (HK3.out.trans KE)
    have HKE := Lib.hid KE
    clear hx hR hf1 hf2 hP4 hP4' hq4 hT4 hb4 hi4 HRR HPb HTb HT1 HP1 HI KE
    go_wp2_with fail
    go_at_call 10
    refine (HP4.out _ (H2.out.alloc _)).mono ?_
    rintro e4 w4 ⟨rfl, g1, g2⟩
    have G4 := Lib.hid g1
    have HK4 := Lib.hid g2
    clear g1 g2
    go_wp2_with fail
    go_at_call 9
    refine (HT4.out _ G4.out).mono ?_
    rintro e5 w5 ⟨rfl, g1, g2⟩
    have G5 := Lib.hid g1
    have K5 := HK4.out.trans g2
    have HK5 := Lib.hid K5
    have hK := HKe.out.trans K5
    have hKw := HK0.out.trans hK
    have he5 := BoxAt.kp HEb.out K5 (by omega)
    have hc5 := BoxAt.kp HC0.out hK (by omega)
    have hel := he5.lt
    have hcl := hc5.lt
    have HC5 := Lib.hid hc5
    have HE5 := Lib.hid he5
    have HKw := Lib.hid hKw
    have Hs5 := Lib.hid (HKE.out.trans K5)
    clear g1 g2 K5 hK hKw HK4 HKe HT4 HP4
    obtain ⟨T, hT⟩ : ∃ T, ((k == 4) && !emp a) = T := ⟨_, rfl⟩
    have HTm := Lib.hid (fun W => termsAttr_at k t n a A1 n1 c1 p A2 n2 c2 W)
    have HMm := Lib.hid (fun W => mayAsk_any k t n a A1 n1 c1 p A2 n2 c2 W)
    rw [hT] at HTm HMm HR4
    obtain ⟨M, hM⟩ : ∃ M, (decide (k = 0 ∨ k = 1 ∨ k = 2 ∨ k = 5) || T) = M := ⟨_, rfl⟩
    rw [hM] at HMm HR4
    clear hT hM
    unfold exV at HTm HMm
    obtain ⟨u0, u1, u2, u3, u4, u5, u6, v0, v1, v2, v3, v4, v5, v6⟩ := cells7 he5
    cases b4
    case true =>
      have hR := HR4.out
      rw [if_pos rfl] at hR
      have Hm := Lib.hid (Hi4.out rfl)
      have HR5 := Lib.hid hR
      clear hR HMm he5 hc5 HTa HVs
      obtain ⟨q0, q1, q2, q3, q4', q5, q6, p0, p1, p2, p3, p4, p5, p6⟩ := cells7 HC5.out
      have hne : w.heap.size ≠ w3.heap.size := by omega
      have hne2 : w3.heap.size ≠ w.heap.size := by omega
      go_wp2_with fail
      go_region_held3 (fun w' => w'.cell? ⟨w3.heap.size, 0, none⟩ = some (.int .i64 k) ∧ w'.cell? ⟨w3.heap.size, 1, none⟩ = some (.string t) ∧ w'.cell? ⟨w3.heap.size, 2, none⟩ = some (.string n) ∧ w'.cell? ⟨w3.heap.size, 3, none⟩ = some (.string a) ∧ w'.cell? ⟨w3.heap.size, 4, none⟩ = some (.slice A1 n1 c1) ∧ w'.cell? ⟨w3.heap.size, 5, none⟩ = some (.pointer p) ∧ w'.cell? ⟨w3.heap.size, 6, none⟩ = some (.slice A2 n2 c2))
        (first | go_keep)
        (first | (go_at_call 13; refine (HTm.out _).mono ?_; rintro e w' ⟨rfl, rfl⟩))
      have hl5 := G5.out.lt
      have G5c := Lib.hid (show Rd rb s (q4 + 1) w5 by simpa using G5.out)
      clear q0 q1 q2 q3 q4' q5 q6 p0 p1 p2 p3 p4 p5 p6 u0 u1 u2 u3 u4 u5 u6 v0 v1 v2 v3 v4 v5 v6
      go_wp2
      have hR := HR5.out
      subst hR
      refine end7w Tryd.results7 ((box_set7 HC5.out _ _ _ _ _ _ _).alloc _).drew rfl rfl rfl (got_end (((HKw.out.set7 (Nat.le_refl _) hlt _ _ _ _ _ _ _).alloc (by rw [set7_size]; omega) _).drew) (((G5c.out.set7 (by omega) _ _ _ _ _ _ _).alloc _).drew) Hm.out (by cases T <;> rfl) (fun x m h => ?_))
      cases T with
      | true => cases h
      | false =>
        cases h
        refine ⟨rfl, ExF.carry (fun b hb => ?_) _ _ HX.out⟩
        obtain ⟨hb1, hb2⟩ := hb
        have hb3 := Hs5.out.others b hb2 (by omega)
        have hb5 := Hs5.out.size
        have hb4 : b < (set7 w5 w.heap.size (.int .i64 k) (.string t) (.string n) (.string a) (.slice A1 n1 c1) (.pointer p) (.slice A2 n2 c2)).heap.size := by rw [set7_size]; omega
        exact ⟨⟨by omega, since_set7 _ hb4⟩, (heap_set7 _ (by omega) hb4).trans hb3⟩
    case false =>
      have hR := HR4.out
      rw [if_neg (by simp)] at hR
      have G5b := Lib.hid (show Rd rb s q4 w5 by simpa using G5.out)
      have hT5 := fun W h => HTa.out q4 W h hB4.2
      obtain ⟨b5, hb5⟩ : ∃ b, (isAt s q4 45 && isAt s (q4 + 1) 62) = b := ⟨_, rfl⟩
      have hi5 : b5 = true → q4 + 2 ≤ s.size := fun h => by rw [← hb5, Bool.and_eq_true] at h; have := isAt_lt h.2; omega
      rw [hb5] at hT5 hR
      have HT5 := Lib.hid hT5
      have Hi5 := Lib.hid hi5
      have HR5 := Lib.hid hR
      clear hT5 hb5 hi5 hR HTa HTm
      cases b5
      case false =>
        have hR := HR5.out
        rw [Bool.false_and, if_neg (by simp)] at hR
        subst hR
        go_wp2_with fail
        go_at_call 9
        refine (HT5.out _ G5b.out).mono ?_
        rintro e6 w6 ⟨rfl, g1, g2⟩
        have G6 := Lib.hid (show Rd rb s q4 w6 by simpa using g1)
        have hc6 := BoxAt.kp HC5.out g2 (by omega)
        have hcl6 := hc6.lt
        have HK6 := Lib.hid (HKw.out.trans g2)
        have HC6 := Lib.hid hc6
        obtain ⟨q0, q1, q2, q3, q4', q5, q6, p0, p1, p2, p3, p4, p5, p6⟩ := cells7 hc6
        clear g1 g2 hc6
        go_wp2
        exact end7w Tryd.results7 (box_set7 HC6.out _ _ _ _ _ _ _) rfl rfl rfl (got_end (HK6.out.set7 (Nat.le_refl _) hlt _ _ _ _ _ _ _) (G6.out.set7 (by omega) _ _ _ _ _ _ _) hB4.2 rfl (fun x m h => by cases h))
      have hR := HR5.out
      rw [Bool.true_and] at hR
      have hm2 := Hi5.out rfl
      have HR6 := Lib.hid hR
      clear hR
      go_wp2_with fail
      go_at_call 9
      refine (HT5.out _ G5b.out).mono ?_
      rintro e6 w6 ⟨rfl, g1, g2⟩
      have G6 := Lib.hid (show Rd rb s (q4 + 2) w6 by simpa using g1)
      have hc6 := BoxAt.kp HC5.out g2 (by omega)
      have he6 := BoxAt.kp HE5.out g2 (by omega)
      have hcl6 := hc6.lt
      have hel6 := he6.lt
      have HK6 := Lib.hid (HKw.out.trans g2)
      have Hs6 := Lib.hid (Hs5.out.trans g2)
      have HC6 := Lib.hid hc6
      have HE6 := Lib.hid he6
      clear u0 u1 u2 u3 u4 u5 u6 v0 v1 v2 v3 v4 v5 v6
      obtain ⟨u0, u1, u2, u3, u4, u5, u6, v0, v1, v2, v3, v4, v5, v6⟩ := cells7 he6
      clear g1 g2 hc6 he6
      go_wp2_with fail
      go_at_call 14
      refine (HMm.out _).mono ?_
      rintro e7 w7 ⟨rfl, hb7⟩
      have hc7 := HC6.out.later hb7
      have he7 := HE6.out.later hb7
      have hcl7 := hc7.lt
      have hel7 := he7.lt
      have G7 := Lib.hid (G6.out.later hb7)
      have HK7 := Lib.hid (HK6.out.trans (Kp.of_below hb7 (by omega)))
      have Hs7 := Lib.hid (Hs6.out.trans (Kp.of_below hb7 (by omega)))
      have HC7 := Lib.hid hc7
      have HE7 := Lib.hid he7
      clear hb7 u0 u1 u2 u3 u4 u5 u6 v0 v1 v2 v3 v4 v5 v6
      cases M
      case false =>
        have hR := HR6.out
        rw [if_neg (by simp)] at hR
        subst hR
        obtain ⟨q0, q1, q2, q3, q4', q5, q6, p0, p1, p2, p3, p4, p5, p6⟩ := cells7 hc7
        clear hc7 he7
        go_wp2
        exact end7w Tryd.results7 (box_set7 HC7.out _ _ _ _ _ _ _) rfl rfl rfl (got_end (HK7.out.set7 (Nat.le_refl _) hlt _ _ _ _ _ _ _) (G7.out.set7 (by omega) _ _ _ _ _ _ _) hm2 rfl (fun x m h => by cases h))
      have hR := HR6.out
      rw [if_pos rfl] at hR
      have hV := fun W h => HVs.out (q4 + 2) W h hm2
      obtain ⟨rv, hrv⟩ : ∃ r, selS P s (q4 + 2) = r := ⟨_, rfl⟩
      rw [hrv] at hV hR
      have HV := Lib.hid hV
      have HR7 := Lib.hid hR
      clear hc7 he7 hV hrv hR HVs
      unfold pt at HV
      go_wp2_with fail
      go_at_call 15
      refine (HV.out _ G7.out).mono ?_
      rintro e8 w8 ⟨g1, A8, n8, c8, j8, rfl, g2, hj8, g3⟩
      have hc8 := BoxAt.kp HC7.out g1 (by omega)
      have he8 := BoxAt.kp HE7.out g1 (by omega)
      have hcl8 := hc8.lt
      have hel8 := he8.lt
      have HK8 := Lib.hid (HK7.out.trans g1)
      have Hs8 := Lib.hid (Hs7.out.trans g1)
      have hs78 := Hs7.out.size
      have HC8 := Lib.hid hc8
      have HE8 := Lib.hid he8
      have G8 := Lib.hid g2
      have H8 := Lib.hid g3
      obtain ⟨q0, q1, q2, q3, q4', q5, q6, p0, p1, p2, p3, p4, p5, p6⟩ := cells7 hc8
      clear g1 g2 g3 hc8 he8
      go_wp2
      have hR := HR7.out
      refine end7w Tryd.results7 (box_set7 HC8.out _ _ _ _ _ _ _) rfl rfl rfl (got_end (HK8.out.set7 (Nat.le_refl _) hlt _ _ _ _ _ _ _) (G8.out.set7 (by omega) _ _ _ _ _ _ _) hj8 ?_ (fun x m h => ?_))
      · rw [← hR]
        cases rv with
        | none => rfl
        | some v => obtain ⟨vs, m⟩ := v; rfl
      · cases rv with
        | none => rw [← hR] at h; cases h
        | some v =>
          obtain ⟨vs, m'⟩ := v
          rw [← hR] at h
          cases h
          obtain ⟨h1, h2, h3⟩ := H8.out _ _ rfl
          have hs88 := Hs8.out.size
          refine ⟨h1, exF_sel (b := w3.heap.size) ⟨by omega, by rw [setCell7_size]; exact hel8⟩ (cells_box (t := 28) ((setCell7_heap _ _ _ _ _ _ _ _ _ w3.heap.size (by omega)).trans HE8.out)) (ExF.carry (fun b hb => ?_) _ _ HX.out) ?_⟩
          · obtain ⟨hb1, hb2⟩ := hb
            exact ⟨⟨by omega, by rw [setCell7_size]; omega⟩, (setCell7_heap _ _ _ _ _ _ _ _ _ b (by omega)).trans (Hs8.out.others b hb2 (by omega))⟩
          · rw [h2]
            refine h3.imp (fun b o => VsF.carry (fun b hb => ?_) _ _ _)
            obtain ⟨hb1, hb2⟩ := hb
            exact ⟨⟨by omega, by rw [setCell7_size]; exact hb2⟩, setCell7_heap _ _ _ _ _ _ _ _ _ b (by omega)⟩
end Go.Proofs.YtlijmflikcjikaaDoor

/-
  Package expr: parts, given place.
-/
namespace Go.Proofs.YtlijmflikcjikaaDoor
open Go.RowKit
set_option linter.unusedVariables false
set_option linter.unusedSimpArgs false

theorem infoL : (Tryd.prog.info? 36).map (fun i => (i.zero, i.size, i.bytes)) = some (some (.agg #[.string ⟨#[]⟩, .pointer none]), 2, 24) := by kernel_rfl
/-- The values of a row of elements. -/
def EZip (W : World) (F : Nat → Prop) : List EL → List Value → Prop
  | [], xs => xs = []
  | .mk t p :: r, xs => ∃ u ys, xs = .string t :: u :: ys ∧ OF W F p u ∧ EZip W F r ys
theorem EZip.snoc {W : World} {F : Nat → Prop} {t : ByteArray} {p : Option EX} {u : Value} (hp : OF W F p u) : ∀ (acc : List EL) (xs : List Value), EZip W F acc xs → EZip W F (acc ++ [.mk t p]) (xs ++ [.string t, u])
  | [], xs, h => by
    rw [EZip] at h
    subst h
    exact ⟨u, [], rfl, hp, rfl⟩
  | .mk t' p' :: r, xs, h => by
    rw [EZip] at h
    obtain ⟨u', ys, rfl, h2, h3⟩ := h
    exact ⟨u', _, rfl, h2, EZip.snoc hp r ys h3⟩
theorem EZip.carry {W W' : World} {F F' : Nat → Prop} (g : ∀ b, F b → F' b ∧ W'.heap[b]? = W.heap[b]?) : ∀ (acc : List EL) (xs : List Value), EZip W F acc xs → EZip W' F' acc xs
  | [], xs, h => by rw [EZip] at h ⊢; exact h
  | .mk t' p' :: r, xs, h => by
    rw [EZip] at h
    obtain ⟨u', ys, rfl, h2, h3⟩ := h
    exact ⟨u', ys, rfl, h2.carry g, EZip.carry g r ys h3⟩
theorem EZip.es {W : World} {F : Nat → Prop} {g : Nat} (hg : F g) : ∀ (acc : List EL) (xs : List Value) (o : Nat), (∀ j x, xs[j]? = some x → W.cell? ⟨g, o + j, none⟩ = some x) → EZip W F acc xs → EsF W F acc g o
  | [], xs, o, hc, h => by rw [EsF]; trivial
  | .mk t' p' :: r, xs, o, hc, h => by
    rw [EZip] at h
    obtain ⟨u', ys, rfl, h2, h3⟩ := h
    rw [EsF]
    refine ⟨hg, hc 0 _ rfl, ⟨_, hc 1 _ rfl, h2⟩, EZip.es hg r ys (o + 2) (fun j x hx => ?_) h3⟩
    have := hc (j + 2) x (by simpa using hx)
    rw [show o + 2 + j = o + (j + 2) by omega]
    exact this
/-- A row of elements of the call's own. -/
def OwnE (B : Nat) (W : World) (v : Value) (acc : List EL) : Prop := ∃ xs, W.ownsRow B 36 2 v acc.length xs ∧ EZip W (OwnSet B W v) acc xs
theorem OwnE.nil (B : Nat) (W : World) : OwnE B W (.slice none 0 0) [] := ⟨[], World.ownsRow_nil _ _ _ _, rfl⟩
theorem OwnE.kp {rb B : Nat} {W W' : World} {v : Value} {acc : List EL} (h : OwnE B W v acc) (g : Kp rb W W') (hrb : rb < B) : OwnE B W' v acc := by
  obtain ⟨xs, h1, h2⟩ := h
  refine ⟨xs, h1.kept g.grownBy (.inr (fun e => by have := (h1.lt rb e).1; omega)), EZip.carry (fun b hb => ?_) _ _ h2⟩
  obtain ⟨⟨hb1, hb2⟩, hb3⟩ := hb
  exact ⟨⟨⟨hb1, Nat.lt_of_lt_of_le hb2 g.size⟩, hb3⟩, g.others b hb2 (by omega)⟩
theorem OwnE.below {B : Nat} {W W' : World} {v : Value} {acc : List EL} (h : OwnE B W v acc) (g : Below W.heap.size W W') : OwnE B W' v acc := by
  obtain ⟨xs, h1, h2⟩ := h
  refine ⟨xs, h1.kept (⟨g.os, g.tape, g.output, g.size, fun k hk _ => g.block k hk⟩ : W.grownBy W' none) (by by_cases h : v.ownBlock = none; exact .inl h; exact .inr h), EZip.carry (fun b hb => ?_) _ _ h2⟩
  obtain ⟨⟨hb1, hb2⟩, hb3⟩ := hb
  exact ⟨⟨⟨hb1, Nat.lt_of_lt_of_le hb2 g.size⟩, hb3⟩, g.block b hb2⟩
theorem OwnE.more {B : Nat} {W W' : World} {v v' : Value} {acc : List EL} {xs : List Value} {t : ByteArray} {p : Option EX} {u : Value} (h2 : EZip W (OwnSet B W v) acc xs)
    (ho : W'.ownsRow B 36 2 v' (acc.length + 1) (xs ++ [.string t, u])) (hg : W.grownBy W' v.ownBlock) (hw : v'.ownBlock = v.ownBlock ∨ v'.ownBlock = some W.heap.size) (hp : OF W (OwnSet B W v) p u) :
    OwnE B W' v' (acc ++ [.mk t p]) := by
  refine ⟨_, by rw [List.length_append]; exact ho, ?_⟩
  have g : ∀ b, OwnSet B W v b → OwnSet B W' v' b ∧ W'.heap[b]? = W.heap[b]? := fun b hb => by
    obtain ⟨⟨hb1, hb2⟩, hb3⟩ := hb
    refine ⟨⟨⟨hb1, Nat.lt_of_lt_of_le hb2 hg.size⟩, ?_⟩, hg.block b hb2 hb3⟩
    rcases hw with e | e
    · rw [e]; exact hb3
    · rw [e]; intro e2; have := Option.some.inj e2; omega
  exact EZip.carry g _ _ (EZip.snoc hp acc xs h2)
/-- What a row of the call's own is, seen from without. -/
theorem OwnE.pat {B : Nat} {W : World} {v : Value} {acc : List EL} (h : OwnE B W v acc) : ∃ A c, v = .slice A acc.length c ∧ PatF W (Since B W) acc v := by
  obtain ⟨xs, h1, h2⟩ := h
  rcases h1.2 with ⟨rfl, h0⟩ | ⟨g, cap, cur, rfl, hb, hg, hc1, hc2, hcs, htk⟩
  · have : acc = [] := List.eq_nil_of_length_eq_zero h0
    subst this
    exact ⟨none, 0, rfl, none, 0, rfl, Nat.le_refl _, Nat.zero_le _, fun h => absurd h (by simp)⟩
  · refine ⟨_, _, rfl, _, _, rfl, hc1, hc2, fun _ => ⟨g, 0, rfl, EZip.es ⟨hb, (Array.getElem?_eq_some_iff.1 hg).1⟩ acc xs 0 (fun j x hx => ?_) (EZip.carry (fun b hb => ⟨hb.1, rfl⟩) _ _ h2)⟩⟩
    have := h1.cells (g := g) rfl j x hx
    rw [Addr.add_mid] at this
    exact this
theorem ownE_push {rb B : Nat} {w1 W2 W3 : World} {v v' : Value} {acc : List EL} {xs : List Value} {t : ByteArray} {p : Option EX} {u : Value} (hrb : rb < B) (K : Kp rb w1 W2) (hz : EZip w1 (OwnSet B w1 v) acc xs) (hp : OF W2 (OwnSet B W2 v) p u)
    (ho : W3.ownsRow B 36 2 v' (acc.length + 1) (xs ++ [.string t, u])) (hg : W2.grownBy W3 v.ownBlock) (hw : v'.ownBlock = v.ownBlock ∨ v'.ownBlock = some W2.heap.size) : OwnE B W3 v' (acc ++ [.mk t p]) := by
  refine OwnE.more (EZip.carry (fun b hb => ?_) _ _ hz) ho hg hw hp
  obtain ⟨⟨hb1, hb2⟩, hb3⟩ := hb
  exact ⟨⟨⟨hb1, Nat.lt_of_lt_of_le hb2 K.size⟩, hb3⟩, K.others b hb2 (by omega)⟩
/-- What reading a line's parts gives. -/
def GotPs (rb : Nat) (s : ByteArray) (w : World) (r : Option (List EL × Nat)) (e : Ending) (w' : World) : Prop :=
  Kp rb w w' ∧ ∃ (A : Option Addr) (n c j : Nat), e = .returned (.tuple #[.slice A n c, .bool r.isSome]) ∧ Rd rb s j w' ∧ j ≤ s.size ∧
    ∀ l m, r = some (l, m) → m = j ∧ l.length = n ∧ n ≤ j ∧ PatF w' (Since w.heap.size w') l (.slice A n c)
end Go.Proofs.YtlijmflikcjikaaDoor

/-
  Package expr: parts, given place: the walk.
-/
namespace Go.Proofs.YtlijmflikcjikaaDoor
open Go.RowKit
set_option linter.unusedVariables false
set_option linter.unusedSimpArgs false

theorem ownOF {rb B : Nat} {w3 w4 W : World} {v : Value} {e : EX} {x0 x1 x2 x3 x4 x5 x6 : Value} {t : TypeId} (hbox : BoxAt W w4.heap.size #[x0, x1, x2, x3, x4, x5, x6] t) (hv : ∀ k, v.ownBlock = some k → B ≤ k ∧ k < w3.heap.size) (hs : w3.heap.size ≤ w4.heap.size)
    (hB : B ≤ w3.heap.size) (hrb : rb < B) (K : Kp rb w4 W) (hx : ExF w4 (Since w3.heap.size w4) e ⟨x0, x1, x2, x3, x4, x5, x6⟩) : OF W (OwnSet B W v) (some e) (.pointer (some ⟨w4.heap.size, 0, none⟩)) := by
  simp only [OF]
  refine ⟨w4.heap.size, 0, _, rfl, ⟨⟨by omega, hbox.lt⟩, fun h => by have := hv _ h.symm; omega⟩, cells_box hbox, ExF.carry (fun b hb => ?_) _ _ hx⟩
  obtain ⟨hb1, hb2⟩ := hb
  exact ⟨⟨⟨by omega, Nat.lt_of_lt_of_le hb2 K.size⟩, fun h => by have := hv _ h.symm; omega⟩, K.others b hb2 (by omega)⟩
theorem tx_ok (s : ByteArray) (i : Nat) (hi : i ≤ s.size) : i ≤ tx s i ∧ tx s i ≤ s.size := ⟨behN_ge _ _ _, by have := behN_le txB s.data.toList i (by rw [size_data]; exact hi); rw [size_data] at this; exact this⟩
set_option maxHeartbeats 2000000 in
set_option maxRecDepth 100000 in
theorem parts_any {rb : Nat} {s : ByteArray} {d : Nat} {P : Nat → Res} (hA : Ascii s) (hs : s.size ≤ 1000000) (hd : d ≤ 4000) (hP : WayTo rb s 7 #[pt rb, .int .i64 d] P) (hPos : PosOk s P) (i : Nat) (w : World) (hr : Rd rb s i w) (hi : i ≤ s.size) :
    Calls Tryd.prog 18 #[pt rb, .int .i64 d] w (GotPs rb s w (partsS P s [] i)) := by
  obtain ⟨i0, hi0, hz0, hz1, hz2⟩ := info_parts infoL
  have HR := Lib.hid hr
  have hlt := hr.lt
  obtain ⟨R, hRR⟩ : ∃ R, partsS P s [] i = R := ⟨_, rfl⟩
  rw [hRR]
  have HRR := Lib.hid hRR
  have HP := Lib.hid hP
  have HPos := Lib.hid hPos
  have HPt := Lib.hid (fun j W (h : Rd rb s j W) hj => pass_any (endText hA) W h (show s.size ≤ 4000000 by omega) hj)
  have hd0 : (d : Int) ≤ 4000 := by omega
  clear hr hRR hP hPos
  unfold pt at HP HPt ⊢
  go_enter Tryd.func18, Tryd.ntmps18
  go_wp2
  go_loopw [6] (fun t4 wr => ∃ (acc : List EL) (j : Nat) (A : Option Addr) (c : Nat), t4 = .slice A acc.length c ∧ j ≤ s.size ∧ acc.length ≤ j ∧ Hid (partsS P s acc j = R) ∧ Hid (Rd rb s j wr) ∧ Hid (Kp rb w wr) ∧ Hid (OwnE w.heap.size wr (.slice A acc.length c) acc)) (fun _ wr => s.size - posOf rb wr)
  case atStart => exact ⟨[], i, none, 0, rfl, hi, Nat.zero_le _, HRR.out, HR.out, Kp.refl _ _, OwnE.nil _ _⟩
  case round =>
    obtain ⟨acc, j, A, c, rfl, hj, hal, Hans, HRd, HK, HO⟩ := hrel
    have hT := tx_ok s j hj
    have hans := Hans.out
    rw [partsS] at hans
    have hPt := fun W h => HPt.out j W h hj
    have he := ext_empty s j (tx s j) hT.1 hT.2
    obtain ⟨q, hq⟩ : ∃ q, tx s j = q := ⟨_, rfl⟩
    rw [hq] at hPt hans hT he
    have HPq := Lib.hid hPt
    have Hans2 := Lib.hid hans
    have HE := Lib.hid he
    have Hpos := Lib.hid HRd.out.pos
    obtain ⟨X, hX⟩ : ∃ X, s.extract j q = X := ⟨_, rfl⟩
    rw [hX] at HPq HE
    have HX := Lib.hid hX
    clear hPt hans he hX
    clear hq
    go_wp2_with fail
    go_at_call 10
    refine (HPq.out _ HRd.out).mono ?_
    rintro e w1 ⟨rfl, g1, g2⟩
    have G1 := Lib.hid g1
    have HK1 := Lib.hid (HK.out.trans g2)
    have HO1 := Lib.hid (HO.out.kp g2 hlt)
    clear g1 g2
    obtain ⟨acc2, hacc2⟩ : ∃ l, addT s acc j q = l := ⟨_, rfl⟩
    have Hacc2 := Lib.hid hacc2
    have hal2 : acc2.length ≤ q := by
      rw [← hacc2]
      unfold addT
      split
      · rw [List.length_append, List.length_singleton]; omega
      · omega
    have hans := Hans2.out
    rw [hacc2] at hans
    have Hans3 := Lib.hid hans
    clear hacc2 hans Hans2 Hans
    go_upto_if 13 with fail
    go_cut [6] (fun v wx => ∃ A2 c2, v = .slice A2 acc2.length c2 ∧ Hid (Rd rb s q wx) ∧ Hid (Kp rb w wx) ∧ Hid (OwnE w.heap.size wx (.slice A2 acc2.length c2) acc2))
    case first =>
      cases hx : X.toList.isEmpty
      case true =>
        have hqj : q = j := by have := HE.out; rw [hx] at this; exact of_decide_eq_true this.symm
        have hac := Hacc2.out
        unfold addT at hac
        rw [if_neg (by omega)] at hac
        subst hac
        clear hqj
        go_wp2_with fail
        go_meet
        exact ⟨A, c, rfl, G1, HK1, HO1⟩
      case false =>
        have hqj : q ≠ j := fun h => by have := HE.out; rw [hx, decide_eq_true h] at this; cases this
        have hac := Hacc2.out
        unfold addT at hac
        rw [if_pos (by omega)] at hac
        have Hac := Lib.hid hac
        have hacc : (acc.length : Int) ≤ 1000000 := by omega
        obtain ⟨xs6, ho6, hz6⟩ := HO1.out
        have hown1 := ho6.alloc (.cells #[.string X, .pointer none] 36)
        have Hv5 := Lib.hid (fun k e => ho6.lt k e)
        have hs1 := HK1.out.size
        have hl1 := G1.out.lt
        clear hqj hac ho6
        go_wp2_with (at_builtin; refine wpList_append_where _ rfl _ _ 32 rfl w.heap.size 36 i0 (.agg #[.string ⟨#[]⟩, .pointer none]) 2 24 Tryd.underlying32 hi0 hz0 hz1 hz2 rfl (by decide) _ _ _ rfl hown1 ⟨w1.heap.size, 0, none⟩ 1 1 [.string X, .pointer none] rfl rfl ?c1 ?c2 ?c3 ?c4 ?c5 ?c6 ?_)
        case c1 =>
          intro j u hj
          match j, hj with
          | 0, hj => simp at hj; subst hj; simp [Addr.add] <;> rfl
          | 1, hj => simp at hj; subst hj; simp [Addr.add]
        case c2 => intro u hu; simp at hu; rcases hu with rfl | rfl <;> rfl
        case c3 => unfold maxLen; omega
        case c4 => omega
        case c5 => simp; omega
        case c6 => decide
        intro v' w8 hown' hgrow hwh
        have K1 : Kp rb w1 (w1.alloc (.cells #[.string X, .pointer none] 36)) := (Kp.refl rb w1).alloc (Nat.le_of_lt hl1) _
        have HO8 := Lib.hid (ownE_push hlt K1 hz6 (p := none) (by simp only [OF]) hown' hgrow (by simpa using hwh))
        have G8 := Lib.hid ((G1.out.alloc _).grown hgrow (fun k e => by have := Hv5.out k e; omega))
        have HK8 := Lib.hid (Kp.grown (HK1.out.trans K1) hgrow (fun k e => (Hv5.out k e).1) hlt)
        obtain ⟨A2, c2, rfl⟩ := own_slice hown' (by omega)
        have hl8 : acc2.length = acc.length + 1 := by rw [← Hac.out]; simp
        clear hown' hgrow hwh K1
        go_wp2_with fail
        go_meet
        refine ⟨A2, c2, by rw [hl8], G8, HK8, ?_⟩
        have e1 := Hac.out
        rw [HX.out] at e1
        rw [hl8, ← e1]
        exact HO8
    obtain ⟨A2, c2, rfl, HR2, HK2, HO2⟩ := hcut
    have hx := isAt_prefix s q 123 hT.2
    have hp := fun W => Tryd.strings_HasPrefix (s.extract q s.size) ⟨#[123]⟩ W
    rw [hx] at hp
    obtain ⟨b, hb⟩ : ∃ b, isAt s q 123 = b := ⟨_, rfl⟩
    have hans := Hans3.out
    rw [hb] at hp hans
    have HHP := Lib.hid hp
    have Hans4 := Lib.hid hans
    have hr0 := HR2.out.c0
    have hr1 := HR2.out.c1
    have hl2 := HR2.out.lt
    have hi0' : (q : Int) ≤ 4000000 := by omega
    have hjs : (q : Int) ≤ (s.size : Int) := by omega
    have hss : (s.size : Int) ≤ 4000000 := by omega
    have hi1' : (0 : Int) ≤ (q : Int) := by omega
    clear hx hp hb hans Hans3 HPq HE HX HO1 HK1 G1 Hacc2
    go_wp2_with fail
    go_region_held3 (fun w' => w'.cell? ⟨rb, 0, none⟩ = some (.string s) ∧ w'.cell? ⟨rb, 1, none⟩ = some (.int .i64 (q : Nat)) ∧ rb + 1 ≤ w'.heap.size ∧ Rd rb s q w' ∧ Kp rb w w')
      (first | (exact rds_later (by assumption) (by assumption)) | (exact rds_of HR2.out.drew HK2.out.drew) | go_keep)
      (first | (go_at_call 20; refine (HHP.out _).mono ?_; rintro e w' ⟨rfl, rfl⟩))
    have HR3 := Lib.hid HR2.out.drew
    have HK3 := Lib.hid HK2.out.drew
    have HO3 := Lib.hid (HO2.out.kp ((Kp.refl rb wc).drew) hlt)
    obtain ⟨W3, hW3⟩ : ∃ W, wc.drew = W := ⟨_, rfl⟩
    rw [hW3] at HR3 HK3 HO3 ⊢
    have hl3 := HR3.out.lt
    clear hW3 hr0 hr1 HR2 HK2 HO2 HHP
    cases b
    case false =>
      have hR := Hans4.out
      rw [if_neg (by simp)] at hR
      have Hfin := Lib.hid hR
      clear hR Hans4
      go_wp2
      go_ret2
      have hR := Hfin.out
      subst hR
      refine ⟨HK3.out, A2, acc2.length, c2, q, rfl, HR3.out, hT.2, fun l m h => ?_⟩
      cases h
      obtain ⟨A', c', e1, hpat⟩ := HO3.out.pat
      exact ⟨rfl, rfl, hal2, hpat⟩
    have hR := Hans4.out
    rw [if_pos rfl] at hR
    have hPl := fun W h => HP.out q W h hT.2
    have hpos := HPos.out q
    obtain ⟨r, hr⟩ : ∃ r, P q = r := ⟨_, rfl⟩
    rw [hr] at hPl hpos hR
    have HPl := Lib.hid hPl
    have Hpq := Lib.hid hpos
    have Hans5 := Lib.hid hR
    clear hPl hpos hr hR Hans4
    go_wp2_with fail
    go_at_call 7
    refine (HPl.out _ HR3.out).mono ?_
    rintro e w4 ⟨h1, k, t, n, a, A1, n1, c1, p, Ax, n2, cx, m, rfl, h2, hm, h3⟩
    have HK4 := Lib.hid (HK3.out.trans h1)
    have HO4 := Lib.hid (HO3.out.kp h1 hlt)
    have H2 := Lib.hid h2
    have H3 := Lib.hid h3
    have hs3 := h1.size
    have hl4 := h2.lt
    have hs30 := HK3.out.size
    clear h1 h2 h3
    unfold exV
    cases r with
    | none =>
      have hR := Hans5.out
      dsimp only at hR
      subst hR
      go_wp2
      go_ret2
      exact ⟨HK4.out.alloc (by omega) _, none, 0, 0, m, rfl, H2.out.alloc _, hm, fun l m h => by cases h⟩
    | some em =>
      obtain ⟨e, m'⟩ := em
      obtain ⟨rfl, hx⟩ := H3.out e m' rfl
      obtain ⟨hp1, hp2⟩ := Hpq.out _ _ rfl
      have hR := Hans5.out
      dsimp only at hR
      rw [dif_pos (show j < m' ∧ m' ≤ s.size from ⟨by omega, hp2⟩)] at hR
      have Hans6 := Lib.hid hR
      have HX := Lib.hid hx
      obtain ⟨xs6, ho6, hz6⟩ := HO4.out
      have hown1 := (ho6.alloc (.cells #[.int .i64 k, .string t, .string n, .string a, .slice A1 n1 c1, .pointer p, .slice Ax n2 cx] 28)).alloc (.cells #[.string E0, .pointer (some ⟨w4.heap.size, 0, none⟩)] 36)
      obtain ⟨xs5, ho5, _⟩ := HO3.out
      have Hv5 := Lib.hid (fun k e => ho5.lt k e)
      have hacc : (acc2.length : Int) ≤ 1000000 := by omega
      clear ho6 ho5 hR hx
      go_wp2_with (at_builtin; refine wpList_append_where _ rfl _ _ 32 rfl w.heap.size 36 i0 (.agg #[.string ⟨#[]⟩, .pointer none]) 2 24 Tryd.underlying32 hi0 hz0 hz1 hz2 rfl (by decide) _ _ _ rfl hown1 ⟨w4.heap.size + 1, 0, none⟩ 1 1 [.string E0, .pointer (some ⟨w4.heap.size, 0, none⟩)] rfl rfl ?c1 ?c2 ?c3 ?c4 ?c5 ?c6 ?_)
      case c1 =>
        intro j u hj
        match j, hj with
        | 0, hj => simp at hj; subst hj; simp [Addr.add] <;> rfl
        | 1, hj => simp at hj; subst hj; simp [Addr.add]
      case c2 => intro u hu; simp at hu; rcases hu with rfl | rfl <;> rfl
      case c3 => unfold maxLen; omega
      case c4 => omega
      case c5 => simp; omega
      case c6 => decide
      intro v' w8 hown' hgrow hwh
      have K1 : Kp rb w4 ((w4.alloc (.cells #[.int .i64 k, .string t, .string n, .string a, .slice A1 n1 c1, .pointer p, .slice Ax n2 cx] 28)).alloc (.cells #[.string E0, .pointer (some ⟨w4.heap.size, 0, none⟩)] 36)) := ((Kp.refl rb w4).alloc (Nat.le_of_lt hl4) _).alloc (by simp; omega) _
      have hbox := (BoxAt.new w4 #[.int .i64 k, .string t, .string n, .string a, .slice A1 n1 c1, .pointer p, .slice Ax n2 cx] 28).alloc (.cells #[.string E0, .pointer (some ⟨w4.heap.size, 0, none⟩)] 36)
      have hoF := ownOF (t := 28) hbox Hv5.out hs3 (by omega) hlt K1 HX.out
      have HO8 := Lib.hid (ownE_push hlt K1 hz6 hoF hown' hgrow (by simpa using hwh))
      have G8 := Lib.hid (((H2.out.alloc _).alloc _).grown hgrow (fun k e => by have := Hv5.out k e; omega))
      have HK8 := Lib.hid (Kp.grown (HK4.out.trans K1) hgrow (fun k e => (Hv5.out k e).1) hlt)
      obtain ⟨A3, c3, rfl⟩ := own_slice hown' (by omega)
      clear hown' hgrow hwh K1 hbox hoF
      go_wp2
      go_roundw
      case rel =>
        refine ⟨acc2 ++ [.mk E0 (some e)], m', A3, c3, ?_, hp2, ?_, Hans6, G8, HK8, ?_⟩
        · show Value.slice A3 _ c3 = _
          simp
        · rw [List.length_append, List.length_singleton]; omega
        · rw [List.length_append, List.length_singleton]
          exact HO8
      case measure =>
        show s.size - posOf rb _ < s.size - posOf rb wr
        rw [G8.out.pos, Hpos.out]
        omega
end Go.Proofs.YtlijmflikcjikaaDoor

/-
  Package expr: rows of lines; leastSpaces.
-/
namespace Go.Proofs.YtlijmflikcjikaaDoor
open Go.RowKit
set_option linter.unusedVariables false
set_option linter.unusedSimpArgs false

/-- Lines lie there, one behind another. -/
def LsAt (W : World) (F : Nat → Prop) (g o : Nat) (ls : List LN) : Prop := ∀ (k : Nat) (x : LN), ls[k]? = some x → W.cell? ⟨g, o + k * 3, none⟩ = some (.int .i64 x.feeds) ∧ W.cell? ⟨g, o + k * 3 + 1, none⟩ = some (.int .i64 x.spaces) ∧
  ∃ A c, W.cell? ⟨g, o + k * 3 + 2, none⟩ = some (.slice A x.parts.length c) ∧ PatF W F x.parts (.slice A x.parts.length c)
theorem LsAt.carry {W W' : World} {F F' : Nat → Prop} {g o : Nat} {ls : List LN} (h : LsAt W F g o ls) (hg : W'.heap[g]? = W.heap[g]?) (hF : ∀ b, F b → F' b ∧ W'.heap[b]? = W.heap[b]?) : LsAt W' F' g o ls := by
  intro k x hx
  obtain ⟨h1, h2, A, c, h3, h4⟩ := h k x hx
  exact ⟨(cell_same hg _).trans h1, (cell_same hg _).trans h2, A, c, (cell_same hg _).trans h3, h4.carry hF⟩
theorem LsAt.tail {W : World} {F : Nat → Prop} {g o : Nat} {x : LN} {ls : List LN} (h : LsAt W F g o (x :: ls)) : LsAt W F g (o + 3) ls := by
  intro k y hy
  have := h (k + 1) y (by simpa using hy)
  rw [show o + (k + 1) * 3 = o + 3 + k * 3 by omega] at this
  exact this
theorem leastS_zero : leastS [] = 0 := rfl
theorem leastS_snoc (ls : List LN) (y : LN) : leastS (ls ++ [y]) = if ls = [] ∨ y.spaces < leastS ls then y.spaces else leastS ls := by
  cases ls with
  | nil => simp [leastS]
  | cons x r => simp [leastS, List.foldl_append]
theorem leastS_take (ls : List LN) (k : Nat) (hk : k < ls.length) : leastS (ls.take (k + 1)) = if k = 0 ∨ ls[k].spaces < leastS (ls.take k) then ls[k].spaces else leastS (ls.take k) := by
  rw [List.take_succ_eq_append_getElem hk, leastS_snoc]
  have : (ls.take k = []) = (k = 0) := by
    rw [List.take_eq_nil_iff]
    exact propext ⟨fun h => h.elim id (fun e => by rw [e] at hk; exact absurd hk (Nat.not_lt_zero _)), Or.inl⟩
  simp only [this]
theorem leastS_le {ls : List LN} {m : Nat} (h : ∀ x ∈ ls, x.spaces ≤ m) : leastS ls ≤ m := by
  induction hn : ls.length generalizing ls with
  | zero => have := List.eq_nil_of_length_eq_zero hn; subst this; exact Nat.zero_le _
  | succ n ih =>
    obtain ⟨ys, y, rfl⟩ : ∃ ys y, ls = ys ++ [y] := ⟨ls.dropLast, ls.getLast (by intro e; rw [e] at hn; cases hn), (List.dropLast_concat_getLast _).symm⟩
    rw [leastS_snoc]
    have h1 := h y (by simp)
    have h2 := ih (ls := ys) (fun x hx => h x (by simp [hx])) (by simpa using hn)
    split <;> omega
set_option maxHeartbeats 2000000 in
set_option maxRecDepth 100000 in
theorem leastSpaces_any (ls : List LN) (F : Nat → Prop) (A : Option Addr) (g o c : Nat) (w : World) (hn : ls.length ≤ 4000000) (hsp : ∀ x ∈ ls, x.spaces ≤ 4000000) (hA : 0 < ls.length → A = some ⟨g, o, none⟩) (hc : LsAt w F g o ls) (hg : ls.length = 0 ∨ g < w.heap.size) :
    Calls Tryd.prog 33 #[.slice A ls.length c] w fun e w' => e = .returned (.int .i64 (leastS ls)) ∧ Below w.heap.size w w' := by
  have hn0 : (ls.length : Int) ≤ 4000000 := by omega
  have HC := Lib.hid hc
  have HA := Lib.hid hA
  have Hsp := Lib.hid hsp
  clear hc hA hsp
  go_enter Tryd.func33, Tryd.ntmps33
  go_wp2
  go_loopw [3, 8] (fun t3 t8 wr => ∃ k : Nat, t8 = .int .i64 k ∧ t3 = .int .i64 (leastS (ls.take k)) ∧ k ≤ ls.length ∧ Hid (Below w.heap.size w wr)) (fun _ t8 _ => ls.length - (intOf t8).toNat)
  case atStart => exact ⟨0, rfl, rfl, Nat.zero_le _, Below.refl _ _⟩
  case round =>
    obtain ⟨k, rfl, rfl, hk, HB⟩ := hrel
    have hk0 : (k : Int) ≤ 4000000 := by omega
    have hsz := HB.out.size
    obtain ⟨m, hm⟩ : ∃ m, leastS (ls.take k) = m := ⟨_, rfl⟩
    have hm0 : m ≤ 4000000 := by rw [← hm]; exact leastS_le (fun x hx => Hsp.out x (List.mem_of_mem_take hx))
    rw [hm]
    have Hm := Lib.hid hm
    clear hm
    by_cases hlt : k < ls.length
    · have hAe := HA.out (by omega)
      subst hAe
      have hstep := leastS_take ls k hlt
      obtain ⟨x, hx⟩ : ∃ x, ls[k]? = some x := ⟨_, List.getElem?_eq_getElem hlt⟩
      have hxe : ls[k] = x := by rw [List.getElem?_eq_getElem hlt] at hx; exact Option.some.inj hx
      rw [hxe, Hm.out] at hstep
      have hgl : g < w.heap.size := hg.resolve_left (by omega)
      obtain ⟨h1, h2, A3, c3, h3, h4⟩ := HC.out k x hx
      have e0 := HB.out.block g hgl
      have d0 := (cell_same e0 (o + k * 3)).trans h1
      have d1 := (cell_same e0 (o + k * 3 + 1)).trans h2
      have d2 := (cell_same e0 (o + k * 3 + 2)).trans h3
      have hxs : x.spaces ≤ 4000000 := Hsp.out x (List.mem_of_getElem? hx)
      have hf0 : ∃ f : Nat, x.feeds = f := ⟨_, rfl⟩
      have hlt' : decide ((k : Int) < (ls.length : Int)) = true := decide_eq_true (by omega)
      have hlt3 : (k : Int) < (ls.length : Int) := by omega
      have Hstep0 := Lib.hid hstep
      clear hstep h1 h2 h3 h4 e0 hx hxe
      obtain ⟨sp1, hsp1⟩ : ∃ q, x.spaces = q := ⟨_, rfl⟩
      obtain ⟨fd1, hfd1⟩ : ∃ q, x.feeds = q := ⟨_, rfl⟩
      obtain ⟨pl1, hpl1⟩ : ∃ q, x.parts.length = q := ⟨_, rfl⟩
      rw [hfd1] at d0
      have hstep2 := Hstep0.out
      rw [hsp1] at d1 hxs hstep2
      have Hstep := Lib.hid hstep2
      rw [hpl1] at d2
      have hs0 : (sp1 : Int) ≤ 4000000 := by omega
      have hgw : g < wr.heap.size := by omega
      have hAl := Lib.hid (HB.out.alloc (by omega) (.cells #[.int .i64 fd1, .int .i64 sp1, .slice A3 pl1 c3] 54))
      clear hsp1 hfd1 hpl1 hf0 hstep2 Hstep0
      by_cases hk1 : k = 0
      · have b0 : ((k : Int) == 0) = true := beq_iff_eq.2 (by omega)
        have hst := Hstep.out
        rw [if_pos (Or.inl hk1)] at hst
        have Hst := Lib.hid hst
        clear hst Hstep hk1
        go_wp2
        go_roundw
        case rel =>
          refine ⟨k + 1, ?_, ?_, by omega, HB.out.alloc (by omega) _⟩
          · show Value.int .i64 _ = _
            rw [show ((k + 1 : Nat) : Int) = (k : Int) + 1 by omega]
          · show Value.int .i64 _ = _
            rw [Hst.out]
        case measure =>
          show ls.length - ((k : Int) + 1).toNat < ls.length - ((k : Int)).toNat
          omega
      · have b0 : ((k : Int) == 0) = false := beq_eq_false_iff_ne.2 (by omega)
        by_cases hs1 : sp1 < m
        · have b1 : decide ((sp1 : Int) < (m : Int)) = true := decide_eq_true (by omega)
          have b2 : (sp1 : Int) < (m : Int) := by omega
          have hst := Hstep.out
          rw [if_pos (Or.inr hs1)] at hst
          have Hst := Lib.hid hst
          clear hst Hstep hk1 hs1
          go_wp2
          go_roundw
          case rel =>
            refine ⟨k + 1, ?_, ?_, by omega, HB.out.alloc (by omega) _⟩
            · show Value.int .i64 _ = _
              rw [show ((k + 1 : Nat) : Int) = (k : Int) + 1 by omega]
            · show Value.int .i64 _ = _
              rw [Hst.out]
          case measure =>
            show ls.length - ((k : Int) + 1).toNat < ls.length - ((k : Int)).toNat
            omega
        · have b1 : decide ((sp1 : Int) < (m : Int)) = false := decide_eq_false (by omega)
          have b2 : ¬ (sp1 : Int) < (m : Int) := by omega
          have hst := Hstep.out
          rw [if_neg (by omega)] at hst
          have Hst := Lib.hid hst
          clear hst Hstep hk1 hs1
          go_wp2
          go_roundw
          case rel =>
            refine ⟨k + 1, ?_, ?_, by omega, HB.out.alloc (by omega) _⟩
            · show Value.int .i64 _ = _
              rw [show ((k + 1 : Nat) : Int) = (k : Int) + 1 by omega]
            · show Value.int .i64 _ = _
              rw [Hst.out]
          case measure =>
            show ls.length - ((k : Int) + 1).toNat < ls.length - ((k : Int)).toNat
            omega
    · have hlt' : decide ((k : Int) < (ls.length : Int)) = false := decide_eq_false (by omega)
      have hlt3 : ¬ (k : Int) < (ls.length : Int) := by omega
      have hke : k = ls.length := by omega
      have Hke := Lib.hid hke
      clear hke
      go_wp2
      go_ret
      refine ⟨?_, HB.out⟩
      rw [← Hm.out, Hke.out, List.take_length]
      rfl
end Go.Proofs.YtlijmflikcjikaaDoor

/-
  Package expr: join's endText.
-/
namespace Go.Proofs.YtlijmflikcjikaaDoor
open Go.RowKit
set_option linter.unusedVariables false
set_option linter.unusedSimpArgs false

/-- A row of elements of the call's own, whose places lie in what was there before. -/
def RowJ (w : World) (F : Nat → Prop) (B : Nat) (acc : List EL) (W : World) (v : Value) : Prop := ∃ xs, W.ownsRow B 36 2 v acc.length xs ∧ EZip w F acc xs
abbrev BldJ (B tb : Nat) (bs : List UInt8) (W : World) : Prop := Lib.IsBuilderF 78 5 B tb (Lib.byteCells bs) W
/-- While join runs: the list in a box, the text in a builder. -/
structure JAt (w : World) (F : Nat → Prop) (B lb tb : Nat) (bx : List (Nat × Obj)) (acc : List EL) (bs : List UInt8) (W : World) : Prop where
  below : Below B w W
  row : ∃ v, BoxAt W lb #[v] 32 ∧ RowJ w F B acc W v ∧ ∀ q ∈ bx, W.heap[q.1]? = some q.2 ∧ v.ownBlock ≠ some q.1
  bld : BldJ B tb bs W
  lbB : B ≤ lb
  tbB : B ≤ tb
  BW : B ≤ W.heap.size
  ex : ∀ q ∈ bx, q.1 ≠ lb ∧ q.1 ≠ tb ∧ ∀ c fz, q.2 ≠ .cells c 5 fz
theorem row_kind {W : World} {B : Nat} {v : Value} {n : Nat} {xs : List Value} (h : W.ownsRow B 36 2 v n xs) {b : Nat} {cs : Array Value} {t : TypeId} {fz : Nat × Nat} (hb : W.heap[b]? = some (.cells cs t fz)) (ht : t ≠ 36) : v.ownBlock ≠ some b := by
  rcases h.2 with ⟨rfl, _⟩ | ⟨g, cap, cur, rfl, _, hg, _⟩
  · simp [Value.ownBlock]
  · intro h
    simp only [Value.ownBlock, Option.some.injEq] at h
    subst h
    rw [hg] at hb
    simp only [Option.some.injEq, Obj.cells.injEq] at hb
    exact ht hb.2.1.symm
theorem bld_heap {B tb : Nat} {bs : List UInt8} {W : World} (h : BldJ B tb bs W) : ∃ p v, W.heap[tb]? = some (.cells #[p, v] 78 (0, 0)) := by
  rcases h with ⟨_, v, hb, _⟩ | ⟨_, v, hb, _⟩ <;> exact ⟨_, _, hb⟩
theorem bldAt_kept {B tb : Nat} {p : Value} {bs : List Value} {W W' : World} (h : Lib.BuilderAtF 78 5 B tb p bs W) {row : Option Nat} (hg : W.grownBy W' row) (hr : ∀ k, row = some k → ∃ c t fz, W.heap[k]? = some (.cells c t fz) ∧ t ≠ 78 ∧ t ≠ 5) :
    Lib.BuilderAtF 78 5 B tb p bs W' := by
  have hlt := h.lt
  obtain ⟨hB, v, hb, hown, hne⟩ := h
  refine ⟨hB, v, ?_, hown.kept hg ?_, hne⟩
  · refine (hg.block tb hlt (fun e => ?_)).trans hb
    obtain ⟨c, t, fz, h1, h2, h3⟩ := hr tb e.symm
    rw [hb] at h1
    simp only [Option.some.injEq, Obj.cells.injEq] at h1
    exact h2 h1.2.1.symm
  · by_cases hv : v.ownBlock = none
    · exact .inl hv
    · refine .inr (fun e => ?_)
      obtain ⟨k, hk⟩ : ∃ k, v.ownBlock = some k := Option.ne_none_iff_exists'.1 hv
      obtain ⟨c, t, fz, h1, h2, h3⟩ := hr k (e.symm.trans hk)
      obtain ⟨c', fz', h4⟩ := Lib.ownsRowF_kind hown k hk
      rw [h4] at h1
      simp only [Option.some.injEq, Obj.cells.injEq] at h1
      exact h3 h1.2.1.symm
theorem bld_kept {B tb : Nat} {bs : List UInt8} {W W' : World} (h : BldJ B tb bs W) {row : Option Nat} (hg : W.grownBy W' row) (hr : ∀ k, row = some k → ∃ c t fz, W.heap[k]? = some (.cells c t fz) ∧ t ≠ 78 ∧ t ≠ 5) : BldJ B tb bs W' :=
  h.elim (fun h => .inl (bldAt_kept h hg hr)) (fun h => .inr (bldAt_kept h hg hr))
/-- The builder is written. -/
theorem JAt.write {w : World} {F : Nat → Prop} {B lb tb : Nat} {bx : List (Nat × Obj)} {acc : List EL} {bs bs' : List UInt8} {W W' : World} (h : JAt w F B lb tb bx acc bs W) (hb : BldJ B tb bs' W') (hB : Below B W W') (hk : Lib.OthersKept 5 (some tb) W W') : JAt w F B lb tb bx acc bs' W' := by
  obtain ⟨h1, ⟨v, h2, ⟨xs, h3, h4⟩, hx⟩, h5, h6, h7, h8, h9⟩ := h
  obtain ⟨p0, v0, htb⟩ := bld_heap h5
  refine ⟨h1.trans hB, ⟨v, ?_, ⟨xs, ?_, h4⟩, fun q hq => ⟨hk q.1 q.2 (hx q hq).1 (fun e => (h9 q hq).2.1 (Option.some.inj e)) (h9 q hq).2.2, (hx q hq).2⟩⟩, hb, h6, h7, Nat.le_trans h8 hB.size, h9⟩
  · refine hk lb _ h2 (fun e => ?_) (fun c fz e => ?_)
    · have e := Option.some.inj e
      subst e
      unfold BoxAt at h2
      rw [htb] at h2
      simp at h2
    · simp at e
  · refine ⟨h3.1, ?_⟩
    rcases h3.2 with hn | ⟨g, cap, cur, rfl, hb', hg, rest⟩
    · exact .inl hn
    · refine .inr ⟨g, cap, cur, rfl, hb', hk g _ hg (fun e => ?_) (fun c fz e => ?_), rest⟩
      · have e := Option.some.inj e
        subst e
        rw [htb] at hg
        simp at hg
      · simp at e
/-- What was there already. -/
theorem JAt.more {w : World} {F : Nat → Prop} {B lb tb : Nat} {bx : List (Nat × Obj)} {acc : List EL} {bs : List UInt8} {W W' : World} (h : JAt w F B lb tb bx acc bs W) (hB : Below W.heap.size W W') : JAt w F B lb tb bx acc bs W' := by
  obtain ⟨h1, ⟨v, h2, ⟨xs, h3, h4⟩, hx⟩, h5, h6, h7, h8, h9⟩ := h
  have hg : W.grownBy W' none := ⟨hB.os, hB.tape, hB.output, hB.size, fun k hk _ => hB.block k hk⟩
  exact ⟨h1.trans (hB.mono h8), ⟨v, h2.later hB, ⟨xs, h3.kept hg (by by_cases h : v.ownBlock = none; exact .inl h; exact .inr h), h4⟩, fun q hq => ⟨(hB.block q.1 (Array.getElem?_eq_some_iff.1 (hx q hq).1).1).trans (hx q hq).1, (hx q hq).2⟩⟩, bld_kept h5 hg (fun k e => by cases e), h6, h7, Nat.le_trans h8 hB.size, h9⟩
/-- A box beside. -/
theorem JAt.put {w : World} {F : Nat → Prop} {B lb tb : Nat} {bx : List (Nat × Obj)} {acc : List EL} {bs : List UInt8} {W : World} (h : JAt w F B lb tb bx acc bs W) (o : Obj) (ho : ∀ c fz, o ≠ .cells c 5 fz) : JAt w F B lb tb ((W.heap.size, o) :: bx) acc bs (W.alloc o) := by
  have h' := h.more ((Below.refl _ W).alloc (Nat.le_refl _) o)
  obtain ⟨p0, v0, htb⟩ := bld_heap h.bld
  obtain ⟨v, h2, ⟨xs, h3, h4⟩, hx⟩ := h'.row
  obtain ⟨v1, g2, ⟨xs1, g3, g4⟩, _⟩ := h.row
  have hvv : v = v1 := by
    have e1 := g2.alloc o
    unfold BoxAt at e1 h2
    rw [e1] at h2
    simp at h2
    exact h2.symm
  refine ⟨h'.below, ⟨v, h2, ⟨xs, h3, h4⟩, fun q hq => ?_⟩, h'.bld, h'.lbB, h'.tbB, h'.BW, fun q hq => ?_⟩
  · rcases List.mem_cons.1 hq with rfl | hq
    · refine ⟨(by show (W.heap.push o)[W.heap.size]? = some o; simp : (W.alloc o).heap[W.heap.size]? = some o), fun e => ?_⟩
      rw [hvv] at e
      have := (g3.lt _ e).2
      omega
    · exact hx q hq
  · rcases List.mem_cons.1 hq with rfl | hq
    · have a1 := g2.lt
      have a2 := (Array.getElem?_eq_some_iff.1 htb).1
      exact ⟨by show W.heap.size ≠ lb; omega, by show W.heap.size ≠ tb; omega, ho⟩
    · exact h'.ex q hq
theorem JAt.drop {w : World} {F : Nat → Prop} {B lb tb : Nat} {bx bx' : List (Nat × Obj)} {acc : List EL} {bs : List UInt8} {W : World} (h : JAt w F B lb tb bx acc bs W) (hs : ∀ q ∈ bx', q ∈ bx) : JAt w F B lb tb bx' acc bs W := by
  obtain ⟨h1, ⟨v, h2, ⟨xs, h3, h4⟩, hx⟩, h5, h6, h7, h8, h9⟩ := h
  exact ⟨h1, ⟨v, h2, ⟨xs, h3, h4⟩, fun q hq => hx q (hs q hq)⟩, h5, h6, h7, h8, fun q hq => h9 q (hs q hq)⟩
theorem JAt.at_ {w : World} {F : Nat → Prop} {B lb tb : Nat} {bx : List (Nat × Obj)} {acc : List EL} {bs : List UInt8} {W : World} (h : JAt w F B lb tb bx acc bs W) {k : Nat} {o : Obj} (hk : (k, o) ∈ bx) : W.heap[k]? = some o := by
  obtain ⟨_, ⟨v, _, _, hx⟩, _⟩ := h
  exact (hx _ hk).1
/-- An element is put behind the list. -/
theorem JAt.push {w : World} {F : Nat → Prop} {B lb tb : Nat} {bx : List (Nat × Obj)} {acc : List EL} {bs : List UInt8} {W W' : World} {v v' : Value} {xs : List Value} {t : ByteArray} {p : Option EX} {u : Value} (h : JAt w F B lb tb bx acc bs W) (hl : BoxAt W lb #[v] 32) (hr : W.ownsRow B 36 2 v acc.length xs) (hz : EZip w F acc xs)
    (hx : ∀ q ∈ bx, W.heap[q.1]? = some q.2 ∧ v.ownBlock ≠ some q.1) (hg : W.grownBy W' v.ownBlock) (hw : v'.ownBlock = v.ownBlock ∨ v'.ownBlock = some W.heap.size) (ho : W'.ownsRow B 36 2 v' (acc.length + 1) (xs ++ [.string t, u])) (hp : OF w F p u) : JAt w F B lb tb bx (acc ++ [.mk t p]) bs (W'.setCell ⟨lb, 0, none⟩ v') := by
  obtain ⟨h1, _, h5, h6, h7, h8, h9⟩ := h
  have hne := row_kind hr hl (by decide)
  have hl2 : BoxAt W' lb #[v] 32 := (hg.block lb hl.lt (fun e => hne e.symm)).trans hl
  have hs : W'.grownBy (W'.setCell ⟨lb, 0, none⟩ v') (some lb) := ⟨rfl, rfl, rfl, by simp, fun k _ hk => Below.heap_setCell _ _ _ _ (fun e => hk (by simp [e]))⟩
  have hne2 := row_kind ho hl2 (by decide)
  refine ⟨(h1.grown hg h8 (fun k hk => (hr.lt k hk).1)).setCell (p := ⟨lb, 0, none⟩) h6 _, ⟨v', ?_, ⟨xs ++ [.string t, u], ?_, EZip.snoc hp acc xs hz⟩, fun q hq => ?_⟩, ?_, h6, h7, ?_, h9⟩
  · unfold BoxAt at hl2 ⊢
    simp [World.setCell, Array.getElem?_modify, hl2]
  · rw [List.length_append]
    exact ho.kept hs (.inr hne2)
  · obtain ⟨e1, e2⟩ := hx q hq
    have hql := (Array.getElem?_eq_some_iff.1 e1).1
    refine ⟨(Below.heap_setCell _ _ _ q.1 (h9 q hq).1).trans ((hg.block q.1 hql (fun e => e2 e.symm)).trans e1), ?_⟩
    rcases hw with e | e
    · rw [e]; exact e2
    · rw [e]; intro e3; have := Option.some.inj e3; omega
  · refine bld_kept (bld_kept h5 hg (fun k hk => ?_)) hs (fun k hk => ?_)
    · rcases hr.2 with ⟨rfl, _⟩ | ⟨g, cap, cur, rfl, _, hgg, _⟩
      · simp [Value.ownBlock] at hk
      · simp only [Value.ownBlock, Option.some.injEq] at hk
        subst hk
        exact ⟨_, _, _, hgg, by decide, by decide⟩
    · have := Option.some.inj hk
      subst this
      exact ⟨_, _, _, hl2, by decide, by decide⟩
  · have := hg.size
    simp
    omega
set_option maxHeartbeats 2000000 in
set_option maxRecDepth 100000 in
theorem bld_Reset {B tb : Nat} {bs : List UInt8} (w : World) (h : BldJ B tb bs w) (hB : B ≤ tb) :
    Calls Tryd.prog 32 #[.pointer (some ⟨tb, 0, none⟩)] w fun e w' => e = .returned (.tuple #[]) ∧ BldJ B tb [] w' ∧ Below B w w' ∧ Lib.OthersKept 5 (some tb) w w' := by
  obtain ⟨p, v, hb⟩ := bld_heap h
  have c0 : w.cell? ⟨tb, 0, none⟩ = some p := by rw [Lib.cell_of_heap hb]; rfl
  have c1 : w.cell? ⟨tb, 1, none⟩ = some v := by rw [Lib.cell_of_heap hb]; rfl
  have f0 : w.frozen? ⟨tb, 0, none⟩ = false := Lib.frozen_of_heap hb 0
  have f1 : w.frozen? ⟨tb, 1, none⟩ = false := Lib.frozen_of_heap hb 1
  have Hb := Lib.hid hb
  clear h hb
  go_enter Tryd.func32, Tryd.ntmps32
  go_wp2
  go_end0
  have hb := Hb.out
  refine ⟨rfl, .inl ⟨hB, .slice none 0 0, ?_, World.ownsRowF_nil _ _ _ _, by simp [Value.ownBlock]⟩, ((Below.refl B w).setCell (p := ⟨tb, 0, none⟩) hB _).setCell (p := ⟨tb, 1, none⟩) hB _, ((Lib.OthersKept.refl _ _ w).setCell ⟨tb, 0, none⟩ rfl _).setCell ⟨tb, 1, none⟩ rfl _⟩
  simp [World.setCell, Array.getElem?_modify, hb]
/-- What endText makes of the list. -/
def addX (acc : List EL) (X : ByteArray) : List EL := if X.toList.isEmpty = true then acc else acc ++ [.mk X none]
set_option maxHeartbeats 2000000 in
set_option maxRecDepth 100000 in
theorem joinEnd_any {w : World} {F : Nat → Prop} {B lb tb : Nat} {bx : List (Nat × Obj)} {acc : List EL} {bs : List UInt8} (X : ByteArray) (W : World) (h : JAt w F B lb tb bx acc bs W) (hn : acc.length ≤ 40000000) :
    Calls Tryd.prog 31 #[.string X, .pointer (some ⟨lb, 0, none⟩), .pointer (some ⟨tb, 0, none⟩)] W fun e W' => e = .returned (.tuple #[]) ∧ JAt w F B lb tb bx (addX acc X) [] W' := by
  obtain ⟨i0, hi0, hz0, hz1, hz2⟩ := info_parts infoL
  have HR := Lib.hid (fun (l : List EL) (cs : List UInt8) (U : World) (h : JAt w F B lb tb bx l cs U) => bld_Reset U h.bld h.tbB)
  have HJ := Lib.hid h
  have hn0 : (acc.length : Int) ≤ 40000000 := by omega
  obtain ⟨v, hv, ⟨xs, hr, hz⟩, hxx⟩ := h.row
  have c0 := hv.cell 0
  have f0 := Lib.frozen_of_heap hv 0
  have hlt := hv.lt
  have hBW := h.BW
  simp at c0
  unfold addX
  cases hx : X.toList.isEmpty
  case true =>
    rw [if_pos rfl]
    clear h hxx
    go_enter Tryd.func31, Tryd.ntmps31
    go_wp2_with fail
    go_at_call 32
    refine (HR.out _ _ _ HJ.out).mono ?_
    rintro e W' ⟨rfl, h1, h2, h3⟩
    have HJ2 := Lib.hid (HJ.out.write h1 h2 h3)
    clear h1 h2 h3
    go_wp2
    go_end0
    exact ⟨rfl, HJ2.out⟩
  case false =>
    rw [if_neg (by simp)]
    have hown1 := hr.alloc (.cells #[.string X, .pointer none] 36)
    have HV := Lib.hid hv
    have HRr := Lib.hid hr
    have HZ := Lib.hid hz
    have HX := Lib.hid hxx
    clear h hv hr hz hxx
    go_enter Tryd.func31, Tryd.ntmps31
    go_wp2_with (at_builtin; refine wpList_append_where _ rfl _ _ 32 rfl B 36 i0 (.agg #[.string ⟨#[]⟩, .pointer none]) 2 24 Tryd.underlying32 hi0 hz0 hz1 hz2 rfl (by decide) _ _ _ rfl hown1 ⟨W.heap.size, 0, none⟩ 1 1 [.string X, .pointer none] rfl rfl ?c1 ?c2 ?c3 ?c4 ?c5 ?c6 ?_)
    case c1 =>
      intro j u hj
      match j, hj with
      | 0, hj => simp at hj; subst hj; simp [Addr.add]
      | 1, hj => simp at hj; subst hj; simp [Addr.add]
    case c2 => intro u hu; simp at hu; rcases hu with rfl | rfl <;> rfl
    case c3 => unfold maxLen; omega
    case c4 => omega
    case c5 => simp; omega
    case c6 => decide
    intro v' W8 hown' hgrow hwh
    have hbel : Below W.heap.size W (W.alloc (.cells #[.string X, .pointer none] 36)) := (Below.refl _ W).alloc (Nat.le_refl _) _
    have HJ8 := Lib.hid ((HJ.out.more hbel).push (p := none) (HV.out.later hbel) hown1 HZ.out (fun q hq => ⟨(hbel.block q.1 (Array.getElem?_eq_some_iff.1 (HX.out q hq).1).1).trans (HX.out q hq).1, (HX.out q hq).2⟩) hgrow (by simpa using hwh) hown' (by simp only [OF]))
    have hne := row_kind hown1 (HV.out.later hbel) (by decide)
    have hl8 : BoxAt W8 lb #[v] 32 := (hgrow.block lb (HV.out.later hbel).lt (fun e => hne e.symm)).trans (HV.out.later hbel)
    have d0 := hl8.cell 0
    have g0 := Lib.frozen_of_heap hl8 0
    have hlt8 := hl8.lt
    simp at d0
    obtain ⟨A2, c2, rfl⟩ := own_slice hown' (by omega)
    clear hown' hgrow hwh hbel hne hl8 hown1 c0 f0 hlt
    go_wp2_with fail
    go_at_call 32
    refine (HR.out _ _ _ HJ8.out).mono ?_
    rintro e W' ⟨rfl, h1, h2, h3⟩
    have HJ2 := Lib.hid (HJ8.out.write h1 h2 h3)
    clear h1 h2 h3
    go_wp2
    go_end0
    exact ⟨rfl, HJ2.out⟩
end Go.Proofs.YtlijmflikcjikaaDoor

/-
  Package expr: join: what it calls.
-/
namespace Go.Proofs.YtlijmflikcjikaaDoor
open Go.RowKit
set_option linter.unusedVariables false
set_option linter.unusedSimpArgs false

theorem repeatL_one (c : UInt8) (n : Nat) : Lib.repeatL [c] n = List.replicate n c := by
  induction n with
  | zero => rfl
  | succ n ih => rw [Lib.repeatL, ih, List.replicate_succ]; rfl
theorem rep_any (c : UInt8) (n : Nat) (w : World) (hn : n ≤ 4000000) : Calls Tryd.prog 36 #[.string ⟨#[c]⟩, .int .i64 n] w fun e w' => e = .returned (.string (mkB (List.replicate n c))) ∧ Below w.heap.size w w' := by
  have h := Tryd.strings_Repeat ⟨#[c]⟩ n w (by omega) (by show 1 * n ≤ _; omega)
  rw [show (⟨#[c]⟩ : ByteArray).data.toList = [c] from rfl, repeatL_one] at h
  exact h
theorem mkB_data (l : List UInt8) : (mkB l).data.toList = l := rfl
theorem mkB_size (l : List UInt8) : (mkB l).size = l.length := rfl
theorem mkB_empty (l : List UInt8) : ((mkB l).toList.isEmpty = true) = (l = []) := by
  rw [Lib.toList_data, mkB_data]
  cases l <;> simp
theorem trim_any (l : List UInt8) (w : World) (hl : l.length ≤ 400000000) : Calls Tryd.prog 38 #[.string (mkB l), .string ⟨#[32]⟩] w fun e w' => e = .returned (.string (mkB (trimR l))) ∧ w' = w := by
  have h := Tryd.strings_TrimRight_one (mkB l) 32 (by decide) w (by rw [mkB_size]; omega)
  rw [mkB_data] at h
  exact h
section
variable {w : World} {F : Nat → Prop} {B lb tb : Nat} {bx : List (Nat × Obj)} {acc : List EL} {bs : List UInt8}
theorem JAt.writeStr (X : ByteArray) (W : World) (h : JAt w F B lb tb bx acc bs W) (hn : bs.length + X.size ≤ 140737488355328) :
    Calls Tryd.prog 35 #[.pointer (some ⟨tb, 0, none⟩), .string X] W fun e W' => e = .returned (.tuple #[.int .i64 X.size, .nilIface]) ∧ JAt w F B lb tb bx acc (bs ++ X.data.toList) W' := by
  refine (bld_WriteString B tb (Lib.byteCells bs) X W h.bld (by rw [Lib.byteCells, List.length_map]; omega) h.BW).mono ?_
  rintro e W' ⟨he, h1, h2, h3⟩
  refine ⟨he, h.write ?_ h2 h3⟩
  rw [Lib.strCells_eq, ← Lib.byteCells_append] at h1
  exact .inr h1
theorem JAt.str (W : World) (h : JAt w F B lb tb bx acc bs W) : Calls Tryd.prog 37 #[.pointer (some ⟨tb, 0, none⟩)] W fun e W' => e = .returned (.string (mkB bs)) ∧ JAt w F B lb tb bx acc bs W' := by
  refine (Tryd.Builder_String_any_k B tb bs W h.bld h.BW).mono ?_
  rintro e W' ⟨he, h1, h2, h3⟩
  exact ⟨he, h.write h1 h2 h3⟩
theorem JAt.len (W : World) (h : JAt w F B lb tb bx acc bs W) : Calls Tryd.prog 34 #[.pointer (some ⟨tb, 0, none⟩)] W fun e W' => e = .returned (.int .i64 bs.length) ∧ W' = W := by
  have := Tryd.Builder_Len_f B tb (Lib.byteCells bs) W h.bld
  rw [Lib.byteCells, List.length_map] at this
  exact this
end
theorem addX_endS (acc : List EL) (bs : List UInt8) : addX acc (mkB bs) = endS (acc, bs) := by
  unfold addX endS
  by_cases h : bs = []
  · rw [if_pos (by rw [mkB_empty]; exact h), if_pos h]
  · rw [if_neg (by rw [mkB_empty]; exact h), if_neg h]
theorem leastS_mem (ls : List LN) (x : LN) (hx : x ∈ ls) : leastS ls ≤ x.spaces := by
  induction hn : ls.length generalizing ls with
  | zero => have := List.eq_nil_of_length_eq_zero hn; subst this; cases hx
  | succ n ih =>
    obtain ⟨ys, y, rfl⟩ : ∃ ys y, ls = ys ++ [y] := ⟨ls.dropLast, ls.getLast (by intro e; rw [e] at hn; cases hn), (List.dropLast_concat_getLast _).symm⟩
    rw [leastS_snoc]
    rcases List.mem_append.1 hx with h | h
    · have h2 := ih ys h (by simpa using hn)
      have hne : ys ≠ [] := fun e => by rw [e] at h; cases h
      by_cases hlt : y.spaces < leastS ys
      · rw [if_pos (Or.inr hlt)]; omega
      · rw [if_neg (by rintro (h | h) <;> contradiction)]; exact h2
    · have e := List.mem_singleton.1 h
      subst e
      split
      · exact Nat.le_refl _
      · next h => have h : ¬ (ys = [] ∨ x.spaces < leastS ys) := h; omega
/-- How much a row of lines may make. -/
def elW : EL → Nat | .mk t _ => 1 + t.size
def wtP (l : List EL) : Nat := (l.map elW).sum
def wtL (x : LN) : Nat := 1 + x.feeds + x.spaces + wtP x.parts
def wtLs (ls : List LN) : Nat := (ls.map wtL).sum
theorem endS_len (b : JS) : (endS b).length ≤ b.1.length + b.2.length := by
  unfold endS
  split
  · omega
  · next h =>
    rw [List.length_append, List.length_singleton]
    have : 0 < b.2.length := List.length_pos_iff.2 h
    omega
theorem partJ_len (b : JS) (e : EL) : (partJ b e).1.length + (partJ b e).2.length ≤ b.1.length + b.2.length + elW e := by
  obtain ⟨t, p⟩ := e
  cases p with
  | none =>
    show b.1.length + (b.2 ++ t.data.toList).length ≤ _
    rw [List.length_append, size_data]
    show _ ≤ _ + (1 + t.size)
    omega
  | some x =>
    show (endS b ++ [EL.mk t (some x)]).length + 0 ≤ _
    rw [List.length_append, List.length_singleton]
    have := endS_len b
    show _ ≤ _ + (1 + t.size)
    omega
theorem partsJ_len (l : List EL) (b : JS) : (l.foldl partJ b).1.length + (l.foldl partJ b).2.length ≤ b.1.length + b.2.length + wtP l := by
  induction l generalizing b with
  | nil => simp [wtP]
  | cons e r ih =>
    rw [List.foldl_cons]
    have h1 := ih (partJ b e)
    have h2 := partJ_len b e
    unfold wtP at *
    rw [List.map_cons, List.sum_cons]
    omega
theorem headJ_len (m : Nat) (b : JS) (x : LN) : (headJ m b x).1.length + (headJ m b x).2.length ≤ b.1.length + b.2.length + x.feeds + x.spaces := by
  unfold headJ
  split
  · omega
  · simp only [List.length_append, List.length_replicate]
    omega
theorem lineJ_len (m : Nat) (b : JS) (x : LN) : (lineJ m b x).1.length + (lineJ m b x).2.length ≤ b.1.length + b.2.length + wtL x := by
  unfold lineJ wtL
  have h1 := partsJ_len x.parts (headJ m b x)
  have h2 := headJ_len m b x
  omega
theorem linesJ_len (m : Nat) (ls : List LN) (b : JS) : (ls.foldl (lineJ m) b).1.length + (ls.foldl (lineJ m) b).2.length ≤ b.1.length + b.2.length + wtLs ls := by
  induction ls generalizing b with
  | nil => simp [wtLs]
  | cons x r ih =>
    rw [List.foldl_cons]
    have h1 := ih (lineJ m b x)
    have h2 := lineJ_len m b x
    unfold wtLs at *
    rw [List.map_cons, List.sum_cons]
    omega
end Go.Proofs.YtlijmflikcjikaaDoor

/-
  Package expr: join.
-/
namespace Go.Proofs.YtlijmflikcjikaaDoor
open Go.RowKit
set_option linter.unusedVariables false
set_option linter.unusedSimpArgs false

theorem EsF.nth {W : World} {F : Nat → Prop} : ∀ (l : List EL) (b o j : Nat) (t : ByteArray) (p : Option EX), EsF W F l b o → l[j]? = some (.mk t p) → F b ∧ W.cell? ⟨b, o + j * 2, none⟩ = some (.string t) ∧ ∃ u, W.cell? ⟨b, o + j * 2 + 1, none⟩ = some u ∧ OF W F p u
  | [], b, o, j, t, p, h, hj => by simp at hj
  | .mk t' p' :: r, b, o, 0, t, p, h, hj => by
    rw [EsF] at h
    obtain ⟨h0, h1, ⟨u, h2, h3⟩, h4⟩ := h
    simp at hj
    obtain ⟨rfl, rfl⟩ := hj
    exact ⟨h0, h1, u, h2, h3⟩
  | .mk t' p' :: r, b, o, j + 1, t, p, h, hj => by
    rw [EsF] at h
    obtain ⟨h0, h1, ⟨u, h2, h3⟩, h4⟩ := h
    have := EsF.nth r b (o + 2) j t p h4 (by simpa using hj)
    rw [show o + (j + 1) * 2 = o + 2 + j * 2 by omega]
    exact this
section
variable {w : World} {F : Nat → Prop} {B lb tb : Nat} {bx : List (Nat × Obj)} {acc : List EL} {bs : List UInt8} {W : World}
theorem JAt.box (h : JAt w F B lb tb bx acc bs W) : ∃ A c xs, BoxAt W lb #[.slice A acc.length c] 32 ∧ W.ownsRow B 36 2 (.slice A acc.length c) acc.length xs ∧ EZip w F acc xs ∧ ∀ q ∈ bx, W.heap[q.1]? = some q.2 ∧ (Value.slice A acc.length c).ownBlock ≠ some q.1 := by
  obtain ⟨_, ⟨v, h2, ⟨xs, h3, h4⟩, hx⟩, _, _, _, _⟩ := h
  rcases h3.2 with ⟨rfl, h0⟩ | ⟨g, cap, cur, rfl, _⟩
  · exact ⟨none, 0, xs, by rw [h0]; exact h2, by rw [h0] at h3 ⊢; exact h3, h4, fun q hq => ⟨(hx q hq).1, by simp [Value.ownBlock]⟩⟩
  · exact ⟨_, _, xs, h2, h3, h4, hx⟩
end
theorem jAt_new (w : World) (F : Nat → Prop) : JAt w F w.heap.size w.heap.size (w.heap.size + 1) [] [] [] ((w.alloc (.cells #[.slice none 0 0] 32)).alloc (.cells #[.pointer none, .slice none 0 0] 78)) := by
  have h1 := BoxAt.new w #[.slice none 0 0] 32
  have h2 := BoxAt.new (w.alloc (.cells #[.slice none 0 0] 32)) #[.pointer none, .slice none 0 0] 78
  rw [World.size_alloc] at h2
  exact ⟨((Below.refl _ w).alloc (Nat.le_refl _) _).alloc (by simp) _, ⟨.slice none 0 0, h1.alloc _, ⟨[], World.ownsRow_nil _ _ _ _, rfl⟩, fun q hq => by cases hq⟩, .inl ⟨by omega, .slice none 0 0, h2, World.ownsRowF_nil _ _ _ _, by simp [Value.ownBlock]⟩, Nat.le_refl _, by omega, by simp; omega, fun q hq => by cases hq⟩
def foldL (m : Nat) (ls : List LN) (k : Nat) : JS := (ls.take k).foldl (lineJ m) ([], [])
def foldP (l : List EL) (b : JS) (j : Nat) : JS := (l.take j).foldl partJ b
theorem foldL_step (m : Nat) (ls : List LN) (k : Nat) (x : LN) (h : ls[k]? = some x) : foldL m ls (k + 1) = lineJ m (foldL m ls k) x := by
  unfold foldL
  rw [List.take_add_one, h, List.foldl_append]
  rfl
theorem foldP_step (l : List EL) (b : JS) (j : Nat) (x : EL) (h : l[j]? = some x) : foldP l b (j + 1) = partJ (foldP l b j) x := by
  unfold foldP
  rw [List.take_add_one, h, List.foldl_append]
  rfl
theorem wt_take {α : Type} (f : α → Nat) (ls : List α) (k : Nat) : ((ls.take k).map f).sum ≤ (ls.map f).sum := by
  conv => rhs; rw [← List.take_append_drop k ls]
  rw [List.map_append, List.sum_append]
  omega
theorem foldL_len (m : Nat) (ls : List LN) (k : Nat) : (foldL m ls k).1.length + (foldL m ls k).2.length ≤ wtLs ls := by
  have h1 := linesJ_len m (ls.take k) ([], [])
  have h2 := wt_take wtL ls k
  unfold foldL wtLs at *
  simp only [List.length_nil] at h1
  omega
theorem wtP_len (l : List EL) : l.length ≤ wtP l := by
  induction l with
  | nil => simp [wtP]
  | cons e r ih =>
    unfold wtP at *
    rw [List.map_cons, List.sum_cons, List.length_cons]
    obtain ⟨t, p⟩ := e
    show r.length + 1 ≤ 1 + t.size + _
    omega
theorem wtL_mem (ls : List LN) (y : LN) (h : y ∈ ls) : wtL y ≤ wtLs ls := by
  induction ls with
  | nil => cases h
  | cons x r ih =>
    unfold wtLs at *
    rw [List.map_cons, List.sum_cons]
    rcases List.mem_cons.1 h with rfl | h
    · omega
    · have := ih h; omega
theorem wtP_mem (l : List EL) (y : EL) (h : y ∈ l) : elW y ≤ wtP l := by
  induction l with
  | nil => cases h
  | cons x r ih =>
    unfold wtP at *
    rw [List.map_cons, List.sum_cons]
    rcases List.mem_cons.1 h with rfl | h
    · omega
    · have := ih h; omega
theorem foldP_len (l : List EL) (b : JS) (j : Nat) : (foldP l b j).1.length + (foldP l b j).2.length ≤ b.1.length + b.2.length + wtP l := by
  have h1 := partsJ_len (l.take j) b
  have h2 := wt_take elW l j
  unfold foldP wtP at *
  omega
theorem rowJ_pat {w W : World} {F : Nat → Prop} {B : Nat} {acc : List EL} {v : Value} {xs : List Value} (h1 : W.ownsRow B 36 2 v acc.length xs) (h2 : EZip w F acc xs) (hB : Below w.heap.size w W) (hF : ∀ b, F b → b < w.heap.size) : PatF W (fun b => F b ∨ Since B W b) acc v := by
  rcases h1.2 with ⟨rfl, h0⟩ | ⟨g, cap, cur, rfl, hb, hg, hc1, hc2, hcs, htk⟩
  · have : acc = [] := List.eq_nil_of_length_eq_zero h0
    subst this
    exact ⟨none, 0, rfl, Nat.le_refl _, Nat.zero_le _, fun h => absurd h (by simp)⟩
  · refine ⟨_, _, rfl, hc1, hc2, fun _ => ⟨g, 0, rfl, EZip.es (.inr ⟨hb, (Array.getElem?_eq_some_iff.1 hg).1⟩) acc xs 0 (fun j x hx => ?_) (EZip.carry (fun b hb => ⟨.inl hb, hB.block b (hF b hb)⟩) _ _ h2)⟩⟩
    have := h1.cells (g := g) rfl j x hx
    rw [Addr.add_mid] at this
    exact this
set_option maxHeartbeats 8000000 in
set_option maxRecDepth 100000 in
theorem join_any (ls : List LN) (F : Nat → Prop) (g c : Nat) (w : World) (hn : 0 < ls.length) (hn2 : ls.length ≤ c) (hn4 : ls.length ≤ 4000000) (hw : wtLs ls ≤ 4000000) (hc : LsAt w F g 0 ls) (hg : g < w.heap.size) (hF : ∀ b, F b → b < w.heap.size) :
    Calls Tryd.prog 19 #[.slice (some ⟨g, 0, none⟩) ls.length c] w fun e w' => Below w.heap.size w w' ∧ ∃ A n c', e = .returned (.slice A n c') ∧ (joinS ls).length = n ∧ n ≤ 4000000 ∧ PatF w' (fun b => F b ∨ Since w.heap.size w' b) (joinS ls) (.slice A n c') := by
  obtain ⟨x, r, rfl⟩ : ∃ x r, ls = x :: r := by cases ls with | nil => exact absurd hn (by simp) | cons x r => exact ⟨x, r, rfl⟩
  have hwt := Lib.hid hw
  obtain ⟨m, hm⟩ : ∃ m, leastS r = m := ⟨_, rfl⟩
  have hL : ∀ (A : Option Addr) (c' : Nat) (W : World), Below w.heap.size w W → (0 < r.length → A = some ⟨g, 0 + 3, none⟩) → Calls Tryd.prog 33 #[.slice A r.length c'] W fun e w' => e = .returned (.int .i64 m) ∧ Below W.heap.size W w' := by
    intro A c' W hB hA
    rw [← hm]
    refine leastSpaces_any r F A g (0 + 3) c' W (by simp at hn4; omega) (fun y hy => ?_) hA (LsAt.carry hc.tail (hB.block g hg) (fun b hb => ⟨hb, hB.block b (hF b hb)⟩)) (.inr (Nat.lt_of_lt_of_le hg hB.size))
    have := wtL_mem (x :: r) y (List.mem_cons_of_mem _ hy)
    unfold wtL at this
    omega
  have HL := Lib.hid hL
  have HC := Lib.hid hc
  have Hm := Lib.hid hm
  have Hsz := Lib.hid (foldL_len m (x :: r))
  clear hL hc hm hw
  have hjs : joinS (x :: r) = endS ((foldL m (x :: r) (x :: r).length).1, trimR (foldL m (x :: r) (x :: r).length).2) := by
    unfold joinS foldL
    rw [List.take_length, ← Hm.out]
    rfl
  have Hjs := Lib.hid hjs
  have hrl : r.length = (x :: r).length - 1 := by simp
  have htl : (x :: r).tail = r := rfl
  clear hjs
  generalize x :: r = ls at *
  rw [hrl] at HL
  have Htl := Lib.hid htl
  clear hrl htl
  have Hj0 := Lib.hid (jAt_new w F)
  have hls0 : (ls.length : Int) ≤ (c : Int) := by omega
  have hls1 : (1 : Int) ≤ (ls.length : Int) := by omega
  go_enter Tryd.func19, Tryd.ntmps19
  go_upto_region 4 with fail
  go_cut [0, 6] (fun v0 v wx => v0 = .slice (some ⟨g, 0, none⟩) ls.length c ∧ v = .int .i64 m ∧ Hid (JAt w F w.heap.size w.heap.size (w.heap.size + 1) [] [] [] wx))
  case first =>
    go_wp2_with (first | (go_at_call 33; refine (HL.out _ _ _ (Hj0.out.below) (by intro h; first | rfl | omega)).mono ?_; rintro e w1 ⟨rfl, hb1⟩))
    all_goals
      go_meet
      exact ⟨by first | rfl | (congr 1; omega), rfl, Hj0.out.more hb1⟩
  obtain ⟨rfl, rfl, HJ1⟩ := hcut
  clear HL Hj0
  go_wp2
  go_loopw [18] (fun t18 wr => ∃ k : Nat, t18 = .int .i64 k ∧ k ≤ ls.length ∧ Hid (JAt w F w.heap.size w.heap.size (w.heap.size + 1) [] (foldL m ls k).1 (foldL m ls k).2 wr)) (fun t18 _ => ls.length - (intOf t18).toNat)
  case atStart => exact ⟨0, rfl, Nat.zero_le _, HJ1⟩
  case round =>
    obtain ⟨k, rfl, hk, HJ⟩ := hrel
    by_cases hlt : k < ls.length
    · obtain ⟨y, hy⟩ : ∃ y, ls[k]? = some y := ⟨_, List.getElem?_eq_getElem hlt⟩
      have hmem := List.mem_of_getElem? hy
      have hstep := foldL_step m ls k y hy
      obtain ⟨h1, h2, A3, c3, h3, h4⟩ := HC.out k y hy
      rw [Nat.zero_add] at h1 h2 h3
      have hwy := wtL_mem ls y hmem
      have hw4 := hwt.out
      have hsz := Hsz.out k
      have e0 := HJ.out.below.block g hg
      have d0 := (cell_same e0 (k * 3)).trans h1
      have d1 := (cell_same e0 (k * 3 + 1)).trans h2
      have d2 := (cell_same e0 (k * 3 + 2)).trans h3
      have hgw : g < wr.heap.size := Nat.lt_of_lt_of_le hg HJ.out.below.size
      have hlt' : decide ((k : Int) < (ls.length : Int)) = true := decide_eq_true (by omega)
      have hlt3 : (k : Int) < (ls.length : Int) := by omega
      have hpl := wtP_len y.parts
      have hms : k ≠ 0 → m ≤ y.spaces := fun h0 => by
        have := Htl.out
        rw [← Hm.out, ← this]
        refine leastS_mem _ y (List.mem_of_getElem? (i := k - 1) ?_)
        rw [List.getElem?_tail, show k - 1 + 1 = k by omega]
        exact hy
      have hk00 : k = 0 → foldL m ls k = ([], []) := fun h => by subst h; rfl
      obtain ⟨b, hb⟩ : ∃ b, foldL m ls k = b := ⟨_, rfl⟩
      rw [hb] at hstep hsz HJ hk00
      obtain ⟨acc, bs⟩ := b
      unfold wtL at hwy
      dsimp only at hsz HJ
      have Hpat := Lib.hid h4
      obtain ⟨fd, hfd⟩ : ∃ q, y.feeds = q := ⟨_, rfl⟩
      obtain ⟨sp1, hsp1⟩ : ∃ q, y.spaces = q := ⟨_, rfl⟩
      obtain ⟨n3, hn3⟩ : ∃ q, y.parts.length = q := ⟨_, rfl⟩
      obtain ⟨hd, hhd⟩ : ∃ q, headJ m (acc, bs) y = q := ⟨_, rfl⟩
      have hlj : lineJ m (acc, bs) y = foldP y.parts hd n3 := by unfold lineJ foldP; rw [← hn3, List.take_length, hhd]
      have hhl := headJ_len m (acc, bs) y
      rw [hhd] at hhl
      have hhd2 := hhd
      unfold headJ at hhd2
      rw [hfd, hsp1] at hhd2
      rw [hfd] at d0 hwy hhl
      rw [hsp1] at d1 hwy hhl hms
      rw [hn3] at d2 hpl
      dsimp only at hhl hhd2
      have hf0 : (fd : Int) ≤ 4000000 := by omega
      have hs0 : (sp1 : Int) ≤ 4000000 := by omega
      have hn30 : (n3 : Int) ≤ 4000000 := by omega
      have hk0 : (k : Int) ≤ 4000000 := by omega
      have hm0 : 0 ≤ (m : Int) := by omega
      have Hhd := Lib.hid hhd2
      have Hlj := Lib.hid hlj
      have Hstep := Lib.hid hstep
      have Hms := Lib.hid hms
      have Hk00 := Lib.hid hk00
      have Hn3 := Lib.hid hn3
      clear h1 h2 h3 h4 e0 hfd hsp1 hhd hhd2 hlj hstep hms hk00 hn3 hb hy hmem
      obtain ⟨isF, hisF⟩ : ∃ q, decide (acc = [] ∧ bs = []) = q := ⟨_, rfl⟩
      have HisF := Lib.hid hisF
      clear hisF
      obtain ⟨A4, c4, xs4, hb4, _⟩ := HJ.out.box
      have q0 := hb4.cell 0
      have hl4 := hb4.lt
      simp at q0
      have HP := Lib.hid (HJ.out.put (.cells #[.int .i64 fd, .int .i64 sp1, .slice A3 n3 c3] 54) (by intro c fz h; simp at h))
      clear hb4
      go_upto_region 8 with fail
      go_cut [9] (fun v wx => v = .bool isF ∧ wx = wr.alloc (.cells #[.int .i64 fd, .int .i64 sp1, .slice A3 n3 c3] 54))
      case first =>
        by_cases e1 : acc = []
        · have z1 : acc.length = 0 := by rw [e1]; rfl
          have z2 : ((acc.length : Int) == 0) = true := beq_iff_eq.2 (by omega)
          have z3 : decide (bs.length = 0) = isF := by
            rw [← HisF.out]
            rw [decide_eq_decide]
            exact ⟨fun h => ⟨e1, List.eq_nil_of_length_eq_zero h⟩, fun h => by rw [h.2]; rfl⟩
          have z4 : ((bs.length : Int) == 0) = isF := by
            rw [← z3, Bool.eq_iff_iff, beq_iff_eq, decide_eq_true_iff]
            omega
          have Hz := Lib.hid z3
          clear e1 z3
          go_wp2_with fail
          go_at_call 34
          refine (HP.out.len _).mono ?_
          rintro e w2 ⟨rfl, rfl⟩
          go_wp2_with fail
          go_meet
          exact ⟨rfl, rfl⟩
        · have z1 : acc.length ≠ 0 := fun h => e1 (List.eq_nil_of_length_eq_zero h)
          have z2 : ((acc.length : Int) == 0) = false := beq_eq_false_iff_ne.2 (by omega)
          have z3 : isF = false := by
            rw [← HisF.out]
            exact decide_eq_false (fun h => e1 h.1)
          have Hz := Lib.hid z3
          clear e1 z3
          go_wp2_with fail
          go_meet
          exact ⟨by rw [Hz.out], rfl⟩
      obtain ⟨rfl, rfl⟩ := hcut
      go_upto_if 30 with fail
      go_cut [9] (fun v wx => v = .bool isF ∧ Hid (JAt w F w.heap.size w.heap.size (w.heap.size + 1) [(wr.heap.size, .cells #[.int .i64 fd, .int .i64 sp1, .slice A3 n3 c3] 54)] hd.1 hd.2 wx))
      case first =>
        have hhd := Hhd.out
        have hif := HisF.out
        cases isF
        case true =>
          rw [if_pos (of_decide_eq_true hif)] at hhd
          subst hhd
          clear hif
          go_wp2_with fail
          go_meet
          exact ⟨rfl, HP.out⟩
        case false =>
          have hno := of_decide_eq_false hif
          rw [if_neg hno] at hhd
          have hk1 : k ≠ 0 := fun h => by
            have := Hk00.out h
            cases this
            exact hno ⟨rfl, rfl⟩
          have hms := Hms.out hk1
          have hsub : (sp1 : Int) - (m : Int) = ((sp1 - m : Nat) : Int) := by omega
          have Hhd2 := Lib.hid hhd
          have hl1 := hl4
          have hmle : (m : Int) ≤ (sp1 : Int) := by omega
          have hrep := fun U => rep_any 32 (sp1 - m) U (by omega)
          rw [← hsub] at hrep
          have Hrep := Lib.hid hrep
          have Hrep1 := Lib.hid (fun U => rep_any 10 fd U (by omega))
          have hpb := BoxAt.new wr #[.int .i64 fd, .int .i64 sp1, .slice A3 n3 c3] 54
          have p0 := hpb.cell 0
          have hpl1 := hpb.lt
          simp at p0
          clear hif hno hk1 hms hhd hsub hrep hpb
          go_wp2_with fail
          go_at_call 36
          refine (Hrep1.out _).mono ?_
          rintro e w2 ⟨rfl, hb2⟩
          have HP2 := Lib.hid (HP.out.more hb2)
          clear hb2
          go_wp2_with fail
          go_at_call 35
          refine (HP2.out.writeStr _ _ (by rw [mkB_size, List.length_replicate]; omega)).mono ?_
          rintro e w3 ⟨rfl, h3⟩
          have HP3 := Lib.hid (show JAt w F w.heap.size w.heap.size (w.heap.size + 1) [(wr.heap.size, .cells #[.int .i64 fd, .int .i64 sp1, .slice A3 n3 c3] 54)] acc (bs ++ List.replicate fd 10) w3 from h3)
          have hbx : BoxAt w3 wr.heap.size #[.int .i64 fd, .int .i64 sp1, .slice A3 n3 c3] 54 := h3.at_ (List.mem_cons_self ..)
          have r1 := hbx.cell 1
          have hlx := hbx.lt
          simp at r1
          clear h3 hbx p0
          go_wp2_with fail
          go_at_call 36
          refine (Hrep.out _).mono ?_
          rintro e w4 ⟨rfl, hb4⟩
          have HP4 := Lib.hid (HP3.out.more hb4)
          clear hb4
          go_wp2_with fail
          go_at_call 35
          refine (HP4.out.writeStr _ _ (by rw [mkB_size, List.length_append, List.length_replicate, List.length_replicate]; omega)).mono ?_
          rintro e w5 ⟨rfl, h5⟩
          have HP5 := Lib.hid (show JAt w F w.heap.size w.heap.size (w.heap.size + 1) [(wr.heap.size, .cells #[.int .i64 fd, .int .i64 sp1, .slice A3 n3 c3] 54)] acc (bs ++ List.replicate fd 10 ++ List.replicate (sp1 - m) 32) w5 from h5)
          clear h5
          go_wp2_with fail
          go_meet
          refine ⟨rfl, ?_⟩
          rw [← Hhd2.out]
          exact HP5
      obtain ⟨rfl, HJ2⟩ := hcut
      have hbx : BoxAt wc wr.heap.size #[.int .i64 fd, .int .i64 sp1, .slice A3 n3 c3] 54 := HJ2.out.at_ (List.mem_cons_self ..)
      have r2 := hbx.cell 2
      have hlx := hbx.lt
      simp at r2
      have HJ3 := Lib.hid (HJ2.out.drop (bx' := []) (fun q hq => by cases hq))
      clear hbx HP HJ2 HJ Hhd HisF Hms Hk00 d0 d1 d2 q0
      go_wp2
      go_loopw [44] (fun t44 wx => ∃ j : Nat, t44 = .int .i64 j ∧ j ≤ n3 ∧ Hid (JAt w F w.heap.size w.heap.size (w.heap.size + 1) [] (foldP y.parts hd j).1 (foldP y.parts hd j).2 wx)) (fun t44 _ => n3 - (intOf t44).toNat)
      case atStart => exact ⟨0, rfl, Nat.zero_le _, HJ3⟩
      case round =>
        obtain ⟨j, rfl, hj, HJ⟩ := hrel
        by_cases hjlt : j < n3
        · obtain ⟨e, he⟩ : ∃ e, y.parts[j]? = some e := ⟨_, List.getElem?_eq_getElem (by rw [Hn3.out]; exact hjlt)⟩
          have hst := foldP_step y.parts hd j e he
          obtain ⟨t, p⟩ := e
          obtain ⟨A5, c5, e5, _, _, h5⟩ := Hpat.out
          obtain ⟨b3, o3, e6, h6⟩ := h5 (by rw [Hn3.out]; omega)
          have hA3 : A3 = some ⟨b3, o3, none⟩ := by injection e5 with e7 _ _; exact e7.trans e6
          subst hA3
          obtain ⟨hF3, s0, u, s1, hOF⟩ := EsF.nth y.parts b3 o3 j t p h6 he
          have e0 := HJ.out.below.block b3 (hF b3 hF3)
          have x0 := (cell_same e0 (o3 + j * 2)).trans s0
          have x1 := (cell_same e0 (o3 + j * 2 + 1)).trans s1
          have hb3 : b3 < wr.heap.size := Nat.lt_of_lt_of_le (hF b3 hF3) HJ.out.below.size
          have hfl := foldP_len y.parts hd j
          have hets : elW (.mk t p) ≤ wtP y.parts := by
            exact wtP_mem _ _ (List.mem_of_getElem? he)
          obtain ⟨fb, hfb⟩ : ∃ q, foldP y.parts hd j = q := ⟨_, rfl⟩
          rw [hfb] at hst HJ hfl
          obtain ⟨acc1, bs1⟩ := fb
          dsimp only at HJ hfl
          have hts : 1 + t.size ≤ wtP y.parts := hets
          obtain ⟨A6, c6, xs6, hb6, _⟩ := HJ.out.box
          have hl6 := hb6.lt
          have Hst := Lib.hid hst
          have hlt' : decide ((j : Int) < (n3 : Int)) = true := decide_eq_true (by omega)
          have hlt3 : (j : Int) < (n3 : Int) := by omega
          have hj0 : (j : Int) ≤ 4000000 := by omega
          clear hst he e5 e6 h5 h6 e0 s0 s1 hfb hets hb6
          cases p with
          | none =>
            simp only [OF] at hOF
            subst hOF
            have HP := Lib.hid (HJ.out.put (.cells #[.string t, .pointer none] 36) (by intro c fz h; simp at h))
            go_wp2_with fail
            go_at_call 35
            refine (HP.out.writeStr _ _ (by omega)).mono ?_
            rintro e w2 ⟨rfl, h2⟩
            have HJ2 := Lib.hid (h2.drop (bx' := []) (fun q hq => by cases hq))
            clear h2
            go_wp2
            go_roundw
            case rel =>
              refine ⟨j + 1, ?_, by omega, ?_⟩
              · show Value.int .i64 _ = _
                rw [show ((j + 1 : Nat) : Int) = (j : Int) + 1 by omega]
              · rw [Hst.out]
                exact HJ2
            case measure =>
              show n3 - ((j : Int) + 1).toNat < n3 - ((j : Int)).toNat
              omega
          | some ex =>
            obtain ⟨i0, hi0, hz0, hz1, hz2⟩ := info_parts infoL
            have HOF := Lib.hid hOF
            simp only [OF] at hOF
            obtain ⟨b7, o7, c7, rfl, hF7, hc7, hx7⟩ := hOF
            have HP := Lib.hid (HJ.out.put (.cells #[.string t, .pointer (some ⟨b7, o7, none⟩)] 36) (by intro c fz h; simp at h))
            clear hc7 hx7
            go_wp2_with fail
            go_at_call 37
            refine (HP.out.str _).mono ?_
            rintro e w2 ⟨rfl, h2⟩
            have HJ2 := Lib.hid h2
            clear h2
            have hal1 : acc1.length ≤ 40000000 := by omega
            go_wp2_with fail
            go_at_call 31
            refine (joinEnd_any _ _ HJ2.out hal1).mono ?_
            rintro e w3 ⟨rfl, h3⟩
            have hL : (addX acc1 (mkB bs1)).length ≤ acc1.length + bs1.length := by
              rw [addX_endS]
              exact endS_len (acc1, bs1)
            have hLe := addX_endS acc1 bs1
            obtain ⟨L, hLL⟩ : ∃ l, addX acc1 (mkB bs1) = l := ⟨_, rfl⟩
            rw [hLL] at h3 hL hLe
            have HLe := Lib.hid hLe
            have HJ3 := Lib.hid h3
            have hpb : BoxAt w3 wr.heap.size #[.string t, .pointer (some ⟨b7, o7, none⟩)] 36 := h3.at_ (List.mem_cons_self ..)
            obtain ⟨A8, c8, xs8, hb8, ho8, hz8, hx8⟩ := h3.box
            have y0 := hb8.cell 0
            have y1 := Lib.frozen_of_heap hb8 0
            have z0 := hpb.cell 0
            have z1 := hpb.cell 1
            have hl8 := hb8.lt
            have hlp := hpb.lt
            simp at y0 z0 z1
            have hL0 : (L.length : Int) ≤ 40000000 := by omega
            have hown1 := ho8.alloc (.cells #[.string t, .pointer (some ⟨b7, o7, none⟩)] 36)
            have HB8 := Lib.hid hb8
            have HZ8 := Lib.hid hz8
            have HX8 := Lib.hid hx8
            have hBW := h3.BW
            clear h3 hLL hLe hpb hb8 ho8 hz8 hx8
            go_wp2_with (at_builtin; refine wpList_append_where _ rfl _ _ 32 rfl w.heap.size 36 i0 (.agg #[.string ⟨#[]⟩, .pointer none]) 2 24 Tryd.underlying32 hi0 hz0 hz1 hz2 rfl (by decide) _ _ _ rfl hown1 ⟨w3.heap.size, 0, none⟩ 1 1 [.string t, .pointer (some ⟨b7, o7, none⟩)] rfl rfl ?c1 ?c2 ?c3 ?c4 ?c5 ?c6 ?_)
            case c1 =>
              intro j u hj
              match j, hj with
              | 0, hj => simp at hj; subst hj; simp [Addr.add]
              | 1, hj => simp at hj; subst hj; simp [Addr.add]
            case c2 => intro u hu; simp at hu; rcases hu with rfl | rfl <;> rfl
            case c3 => unfold maxLen; omega
            case c4 => omega
            case c5 => simp; omega
            case c6 => decide
            intro v' W8 hown' hgrow hwh
            have hbel : Below w3.heap.size w3 (w3.alloc (.cells #[.string t, .pointer (some ⟨b7, o7, none⟩)] 36)) := (Below.refl _ w3).alloc (Nat.le_refl _) _
            have HJ8 := Lib.hid (((HJ3.out.more hbel).push (p := some ex) (HB8.out.later hbel) hown1 HZ8.out (fun q hq => ⟨(hbel.block q.1 (Array.getElem?_eq_some_iff.1 (HX8.out q hq).1).1).trans (HX8.out q hq).1, (HX8.out q hq).2⟩) hgrow (by simpa using hwh) hown' HOF.out).drop (bx' := []) (fun q hq => by cases hq))
            have hne := row_kind hown1 (HB8.out.later hbel) (by decide)
            have hlb : BoxAt W8 w.heap.size #[.slice A8 L.length c8] 32 := (hgrow.block w.heap.size (HB8.out.later hbel).lt (fun e => hne e.symm)).trans (HB8.out.later hbel)
            have d0 := hlb.cell 0
            have g0 := Lib.frozen_of_heap hlb 0
            have hlt8 := hlb.lt
            simp at d0
            obtain ⟨A9, c9, rfl⟩ := own_slice hown' (by omega)
            clear hown' hgrow hwh hbel hne hlb hown1 y0 y1 z0 z1
            go_wp2
            go_roundw
            case rel =>
              refine ⟨j + 1, ?_, by omega, ?_⟩
              · show Value.int .i64 _ = _
                rw [show ((j + 1 : Nat) : Int) = (j : Int) + 1 by omega]
              · rw [Hst.out]
                show Hid (JAt _ _ _ _ _ [] (endS (acc1, bs1) ++ [EL.mk t (some ex)]) [] _)
                rw [← HLe.out]
                exact HJ8
            case measure =>
              show n3 - ((j : Int) + 1).toNat < n3 - ((j : Int)).toNat
              omega
        · have hlt' : decide ((j : Int) < (n3 : Int)) = false := decide_eq_false (by omega)
          have hlt3 : ¬ (j : Int) < (n3 : Int) := by omega
          have hje : j = n3 := by omega
          subst hje
          have hst : foldL m ls (k + 1) = foldP y.parts hd j := by rw [Hstep.out, Hlj.out]
          have Hst := Lib.hid hst
          clear hst
          go_wp2
          go_roundw
          case rel =>
            refine ⟨k + 1, ?_, by omega, ?_⟩
            · show Value.int .i64 _ = _
              rw [show ((k + 1 : Nat) : Int) = (k : Int) + 1 by omega]
            · rw [Hst.out]
              exact HJ
          case measure =>
            show ls.length - ((k : Int) + 1).toNat < ls.length - ((k : Int)).toNat
            omega
    · have hlt' : decide ((k : Int) < (ls.length : Int)) = false := decide_eq_false (by omega)
      have hlt3 : ¬ (k : Int) < (ls.length : Int) := by omega
      have hke : k = ls.length := by omega
      subst hke
      obtain ⟨acc, hacc⟩ : ∃ l, (foldL m ls ls.length).1 = l := ⟨_, rfl⟩
      obtain ⟨bs, hbs⟩ : ∃ l, (foldL m ls ls.length).2 = l := ⟨_, rfl⟩
      have hjs := Hjs.out
      have hsz := Hsz.out ls.length
      have hw4 := hwt.out
      rw [hacc, hbs] at HJ hjs hsz
      have Hjs2 := Lib.hid hjs
      have hal : acc.length ≤ 4000000 := by omega
      have hbl : bs.length ≤ 4000000 := by omega
      clear hjs hacc hbs Hjs
      have HS := Lib.hid (fun (U : World) (h : JAt w F w.heap.size w.heap.size (w.heap.size + 1) [] acc bs U) => h.str U)
      have HE := Lib.hid (fun (U : World) (h : JAt w F w.heap.size w.heap.size (w.heap.size + 1) [] acc bs U) => joinEnd_any (mkB (trimR bs)) U h (by omega))
      have HT := Lib.hid (fun U => trim_any bs U (by omega))
      go_wp2_with fail
      go_at_call 37
      refine (HS.out _ HJ.out).mono ?_
      rintro e w2 ⟨rfl, h2⟩
      have HJ2 := Lib.hid h2
      clear h2
      go_wp2_with fail
      go_at_call 38
      refine (HT.out _).mono ?_
      rintro e w3 ⟨rfl, rfl⟩
      go_wp2_with fail
      go_at_call 31
      refine (HE.out _ HJ2.out).mono ?_
      rintro e w4 ⟨rfl, h4⟩
      have hbel := h4.below
      obtain ⟨A4, c4, xs4, hb4, ho4, hz4, _⟩ := h4.box
      have c0 := hb4.cell 0
      have hl4 := hb4.lt
      simp at c0
      have HB4 := Lib.hid hbel
      have HO4 := Lib.hid ho4
      have HZ4 := Lib.hid hz4
      have hjs := Hjs2.out
      rw [← addX_endS] at hjs
      have Hjs3 := Lib.hid hjs
      clear h4 hbel hb4 ho4 hz4 hjs
      go_wp2
      go_ret
      refine ⟨HB4.out, A4, (joinS ls).length, c4, by rw [Hjs3.out]; rfl, rfl, ?_, ?_⟩
      · rw [Hjs3.out, addX_endS]
        have h1 := endS_len (acc, trimR bs)
        have h2 : (trimR bs).length ≤ bs.length := by
          unfold trimR
          rw [List.length_reverse]
          have := (List.dropWhile_suffix (l := bs.reverse) (· == 32)).length_le
          rw [List.length_reverse] at this
          exact this
        have h3 : (acc, trimR bs).1.length + (acc, trimR bs).2.length = acc.length + (trimR bs).length := rfl
        omega
      · rw [Hjs3.out]
        exact rowJ_pat HO4.out HZ4.out HB4.out hF
end Go.Proofs.YtlijmflikcjikaaDoor

/-
  Package expr: pattern: rows of lines, and how much they weigh.
-/
namespace Go.Proofs.YtlijmflikcjikaaDoor
open Go.RowKit
set_option linter.unusedVariables false
set_option linter.unusedSimpArgs false

theorem wtP_append (a b : List EL) : wtP (a ++ b) = wtP a + wtP b := by
  unfold wtP
  rw [List.map_append, List.sum_append]
theorem wtLs_append (a b : List LN) : wtLs (a ++ b) = wtLs a + wtLs b := by
  unfold wtLs
  rw [List.map_append, List.sum_append]
theorem wtP_one (t : ByteArray) (p : Option EX) : wtP [.mk t p] = 1 + t.size := by
  unfold wtP
  show (1 + t.size) + 0 = _
  omega
theorem addT_wt (s : ByteArray) (acc : List EL) (i t : Nat) (h1 : i ≤ t) (h2 : t ≤ s.size) : wtP (addT s acc i t) ≤ wtP acc + 2 * (t - i) := by
  unfold addT
  split
  · rw [wtP_append, wtP_one, ByteArray.size_extract]
    omega
  · omega
theorem parts_wt {s : ByteArray} {P : Nat → Res} (hPos : PosOk s P) : ∀ (m : Nat) (acc : List EL) (i : Nat), s.size - i ≤ m → i ≤ s.size → ∀ ps j, partsS P s acc i = some (ps, j) → wtP ps ≤ wtP acc + 2 * (j - i) ∧ i ≤ j := by
  intro m
  induction m with
  | zero =>
    intro acc i hm hi ps j h
    have ht := tx_ok s i hi
    rw [partsS] at h
    split at h
    · next hc => have := isAt_lt hc; omega
    · cases h
      exact ⟨addT_wt s acc i _ ht.1 ht.2, ht.1⟩
  | succ m ih =>
    intro acc i hm hi ps j h
    have ht := tx_ok s i hi
    have ha := addT_wt s acc i _ ht.1 ht.2
    rw [partsS] at h
    split at h
    · split at h
      · cases h
      · next e j' hp =>
        split at h
        · next hg =>
          have h3 := hPos _ _ _ hp
          have h4 := ih _ _ (by omega) hg.2 ps j h
          rw [wtP_append, wtP_one] at h4
          have : (E0 : ByteArray).size = 0 := rfl
          omega
        · cases h
    · cases h
      exact ⟨ha, ht.1⟩
theorem nl_wt {s : ByteArray} (i0 : Nat) : ∀ (m f fr q : Nat), s.size - q ≤ m → q ≤ s.size → fr ≤ q → f + (q - fr) + i0 ≤ q → (nlS s f fr q).2.1 ≤ (nlS s f fr q).2.2 ∧ (nlS s f fr q).1 + ((nlS s f fr q).2.2 - (nlS s f fr q).2.1) + i0 ≤ (nlS s f fr q).2.2 := by
  intro m
  induction m with
  | zero =>
    intro f fr q hm hq h1 h2
    rw [nlS]
    split
    · next hc => have := isAt_lt hc; omega
    · exact ⟨h1, h2⟩
  | succ m ih =>
    intro f fr q hm hq h1 h2
    rw [nlS]
    split
    · next hc =>
      have := isAt_lt hc
      have h3 := sp_ok s (q + 1) this
      exact ih _ _ _ (by omega) h3.2 h3.1 (by omega)
    · exact ⟨h1, h2⟩
theorem next_wt {s : ByteArray} {i : Nat} (hi : i ≤ s.size) {f p k : Nat} (h : nextS s i = some (f, p, k)) : f + p + i ≤ k := by
  have := nl_wt i (s.size - i) 0 i i (Nat.le_refl _) hi (Nat.le_refl _) (by omega)
  unfold nextS at h
  split at h
  · cases h
  · cases h
    exact this.2
theorem lines_wt {s : ByteArray} {P : Nat → Res} (hPos : PosOk s P) : ∀ (m : Nat) (acc : List LN) (f p i : Nat), s.size - i ≤ m → i ≤ s.size → ∀ ls j, linesS P s acc f p i = some (ls, j) → wtLs ls ≤ wtLs acc + 1 + f + p + 3 * (j - i) ∧ i ≤ j := by
  intro m
  induction m with
  | zero =>
    intro acc f p i hm hi ls j h
    rw [linesS] at h
    split at h
    · cases h
    · next ps j0 hp =>
      have h1 := parts_wt hPos _ _ _ (Nat.le_refl _) hi _ _ hp
      split at h
      · cases h
        rw [wtLs_append]
        refine ⟨?_, h1.2⟩
        have h2 : wtP ([] : List EL) = 0 := rfl
        show wtLs acc + ((1 + f + p + wtP ps) + 0) ≤ _
        omega
      · split at h
        · next hg => omega
        · cases h
  | succ m ih =>
    intro acc f p i hm hi ls j h
    rw [linesS] at h
    split at h
    · cases h
    · next ps j0 hp =>
      have h1 := parts_wt hPos _ _ _ (Nat.le_refl _) hi _ _ hp
      have hj0 := (parts_pos _ _ _ (Nat.le_refl _) hi _ _ hp).2
      have h2 : wtP ([] : List EL) = 0 := rfl
      split at h
      · cases h
        rw [wtLs_append]
        refine ⟨?_, h1.2⟩
        show wtLs acc + ((1 + f + p + wtP ps) + 0) ≤ _
        omega
      · next f' p' k hn =>
        split at h
        · next hg =>
          have h3 := next_wt hj0 hn
          have h4 := ih _ _ _ _ (by omega) hg.2 ls j h
          rw [wtLs_append] at h4
          have h5 : wtLs [(⟨f, p, ps⟩ : LN)] = 1 + f + p + wtP ps := by show (1 + f + p + wtP ps) + 0 = _; omega
          omega
        · cases h
theorem infoLine : (Tryd.prog.info? 54).map (fun i => (i.zero, i.size, i.bytes)) = some (some (.agg #[.int .i64 0, .int .i64 0, .slice none 0 0]), 3, 40) := by kernel_rfl
/-- The values of a row of lines. -/
def LZip (W : World) (F : Nat → Prop) : List LN → List Value → Prop
  | [], xs => xs = []
  | x :: r, xs => ∃ A c ys, xs = .int .i64 x.feeds :: .int .i64 x.spaces :: .slice A x.parts.length c :: ys ∧ PatF W F x.parts (.slice A x.parts.length c) ∧ LZip W F r ys
theorem LZip.snoc {W : World} {F : Nat → Prop} {f p : Nat} {l : List EL} {A : Option Addr} {c : Nat} (hp : PatF W F l (.slice A l.length c)) : ∀ (acc : List LN) (xs : List Value), LZip W F acc xs → LZip W F (acc ++ [⟨f, p, l⟩]) (xs ++ [.int .i64 f, .int .i64 p, .slice A l.length c])
  | [], xs, h => by
    rw [LZip] at h
    subst h
    exact ⟨A, c, [], rfl, hp, rfl⟩
  | x :: r, xs, h => by
    rw [LZip] at h
    obtain ⟨A', c', ys, rfl, h2, h3⟩ := h
    exact ⟨A', c', _, rfl, h2, LZip.snoc hp r ys h3⟩
theorem LZip.carry {W W' : World} {F F' : Nat → Prop} (g : ∀ b, F b → F' b ∧ W'.heap[b]? = W.heap[b]?) : ∀ (acc : List LN) (xs : List Value), LZip W F acc xs → LZip W' F' acc xs
  | [], xs, h => by rw [LZip] at h ⊢; exact h
  | x :: r, xs, h => by
    rw [LZip] at h
    obtain ⟨A', c', ys, rfl, h2, h3⟩ := h
    exact ⟨A', c', ys, rfl, h2.carry g, LZip.carry g r ys h3⟩
theorem LZip.at_ {W : World} {F : Nat → Prop} {g : Nat} : ∀ (acc : List LN) (xs : List Value) (o : Nat), (∀ j x, xs[j]? = some x → W.cell? ⟨g, o + j, none⟩ = some x) → LZip W F acc xs → LsAt W F g o acc
  | [], xs, o, hc, h => fun k x hx => by simp at hx
  | y :: r, xs, o, hc, h => by
    rw [LZip] at h
    obtain ⟨A', c', ys, rfl, h2, h3⟩ := h
    intro k x hx
    cases k with
    | zero =>
      simp at hx
      subst hx
      exact ⟨hc 0 _ rfl, hc 1 _ rfl, A', c', hc 2 _ rfl, h2⟩
    | succ k =>
      have := LZip.at_ r ys (o + 3) (fun j x hx => by
        have := hc (j + 3) x (by simpa using hx)
        rw [show o + 3 + j = o + (j + 3) by omega]
        exact this) h3 k x (by simpa using hx)
      rw [show o + (k + 1) * 3 = o + 3 + k * 3 by omega]
      exact this
/-- A row of lines of the call's own. -/
def OwnL (B : Nat) (W : World) (v : Value) (acc : List LN) : Prop := ∃ xs, W.ownsRow B 54 3 v acc.length xs ∧ LZip W (OwnSet B W v) acc xs
theorem OwnL.nil (B : Nat) (W : World) : OwnL B W (.slice none 0 0) [] := ⟨[], World.ownsRow_nil _ _ _ _, rfl⟩
theorem OwnL.kp {rb B : Nat} {W W' : World} {v : Value} {acc : List LN} (h : OwnL B W v acc) (g : Kp rb W W') (hrb : rb < B) : OwnL B W' v acc := by
  obtain ⟨xs, h1, h2⟩ := h
  refine ⟨xs, h1.kept g.grownBy (.inr (fun e => by have := (h1.lt rb e).1; omega)), LZip.carry (fun b hb => ?_) _ _ h2⟩
  obtain ⟨⟨hb1, hb2⟩, hb3⟩ := hb
  exact ⟨⟨⟨hb1, Nat.lt_of_lt_of_le hb2 g.size⟩, hb3⟩, g.others b hb2 (by omega)⟩
theorem ownL_push {rb B : Nat} {w1 W2 W3 : World} {v v' : Value} {acc : List LN} {xs : List Value} {f p : Nat} {l : List EL} {A : Option Addr} {c : Nat} (hrb : rb < B) (K : Kp rb w1 W2) (hz : LZip w1 (OwnSet B w1 v) acc xs) (hp : PatF W2 (OwnSet B W2 v) l (.slice A l.length c))
    (ho : W3.ownsRow B 54 3 v' (acc.length + 1) (xs ++ [.int .i64 f, .int .i64 p, .slice A l.length c])) (hg : W2.grownBy W3 v.ownBlock) (hw : v'.ownBlock = v.ownBlock ∨ v'.ownBlock = some W2.heap.size) : OwnL B W3 v' (acc ++ [⟨f, p, l⟩]) := by
  refine ⟨_, by rw [List.length_append]; exact ho, ?_⟩
  have g : ∀ b, OwnSet B W2 v b → OwnSet B W3 v' b ∧ W3.heap[b]? = W2.heap[b]? := fun b hb => by
    obtain ⟨⟨hb1, hb2⟩, hb3⟩ := hb
    refine ⟨⟨⟨hb1, Nat.lt_of_lt_of_le hb2 hg.size⟩, ?_⟩, hg.block b hb2 hb3⟩
    rcases hw with e | e
    · rw [e]; exact hb3
    · rw [e]; intro e2; have := Option.some.inj e2; omega
  refine LZip.carry g _ _ (LZip.snoc hp acc xs (LZip.carry (fun b hb => ?_) _ _ hz))
  obtain ⟨⟨hb1, hb2⟩, hb3⟩ := hb
  exact ⟨⟨⟨hb1, Nat.lt_of_lt_of_le hb2 K.size⟩, hb3⟩, K.others b hb2 (by omega)⟩
end Go.Proofs.YtlijmflikcjikaaDoor

/-
  Package expr: pattern, given place one deeper.
-/
namespace Go.Proofs.YtlijmflikcjikaaDoor
open Go.RowKit
set_option linter.unusedVariables false
set_option linter.unusedSimpArgs false

theorem next_pos {s : ByteArray} {i : Nat} (hi : i ≤ s.size) {f p k : Nat} (h : nextS s i = some (f, p, k)) : i < k := by
  have h0 := nl_wt i (s.size - i) 0 i i (Nat.le_refl _) hi (Nat.le_refl _) (by omega)
  unfold nextS at h
  split at h
  · cases h
  · next hn =>
    cases h
    have h1 : ¬ (nlS s 0 i i).2.2 = (nlS s 0 i i).2.1 := fun e => hn (Or.inl e)
    omega
theorem OwnL.set {B : Nat} {W : World} {v : Value} {acc : List LN} (h : OwnL B W v acc) {nb : Nat} (hb : nb < B) (o : Nat) (x : Value) : OwnL B (W.setCell ⟨nb, o, none⟩ x) v acc := by
  obtain ⟨xs, h1, h2⟩ := h
  refine ⟨xs, h1.kept (row := some nb) ⟨rfl, rfl, rfl, by simp, fun k _ hk => Below.heap_setCell _ _ _ _ (fun e => hk (by simp [e]))⟩ (.inr (fun e => by have := (h1.lt nb e).1; omega)), LZip.carry (fun b hb' => ?_) _ _ h2⟩
  obtain ⟨⟨hb1, hb2⟩, hb3⟩ := hb'
  exact ⟨⟨⟨hb1, by simpa using hb2⟩, hb3⟩, Below.heap_setCell _ ⟨nb, o, none⟩ _ b (by show b ≠ nb; omega)⟩
theorem box_third {w : World} {k : Nat} {a b c : Value} {t : TypeId} (h : BoxAt w k #[a, b, c] t) (v : Value) : BoxAt (w.setCell ⟨k, 2, none⟩ v) k #[a, b, v] t := by
  unfold BoxAt at h ⊢
  simp [World.setCell, Array.getElem?_modify, h]
def patQ : Option (List LN × Nat) → Option (List EL × Nat)
  | none => none
  | some (ls, j) => some (joinS ls, j)
theorem patS_q (P : Nat → Res) (s : ByteArray) (i : Nat) : patS P s i = patQ (linesS P s [] 0 0 (sp s i)) := by
  unfold patS
  cases linesS P s [] 0 0 (sp s i) with
  | none => rfl
  | some v => obtain ⟨ls, j⟩ := v; rfl
set_option maxHeartbeats 4000000 in
set_option maxRecDepth 100000 in
theorem pattern_any {rb : Nat} {s : ByteArray} {d : Nat} {P : Nat → Res} (hA : Ascii s) (hs : s.size ≤ 1000000) (hd : d ≤ 3000) (hP : WayTo rb s 7 #[pt rb, .int .i64 ((d + 1 : Nat) : Int)] P) (hPos : PosOk s P) : PatTo rb s d (patS P s) := by
  intro i w hr hi
  obtain ⟨i0, hi0, hz0, hz1, hz2⟩ := info_parts infoLine
  have HR := Lib.hid hr
  have hlt := hr.lt
  have hS := sp_ok s i hi
  have hP1 := fun W (h : Rd rb s i W) => pass_any endSpaces W h (by omega) hi
  obtain ⟨R, hRR⟩ : ∃ R, linesS P s [] 0 0 (sp s i) = R := ⟨_, rfl⟩
  have hwt := fun ls j h => lines_wt hPos _ _ _ _ _ (Nat.le_refl _) hS.2 ls j (hRR.trans h)
  rw [patS_q, hRR]
  obtain ⟨p0, hp0⟩ : ∃ p, sp s i = p := ⟨_, rfl⟩
  rw [hp0] at hS hP1 hRR hwt
  have hPt := fun j W (h : Rd rb s j W) hj => parts_any hA hs (show d + 1 ≤ 4000 by omega) hP hPos j W h hj
  have hNx := fun j W (h : Rd rb s j W) hj => nextLine_any hs j W h hj
  obtain ⟨Q, hQ⟩ : ∃ Q, patQ R = Q := ⟨_, rfl⟩
  rw [show ((d + 1 : Nat) : Int) = (d : Int) + 1 by omega] at hPt
  rw [hQ]
  have HP1 := Lib.hid hP1
  have HPt := Lib.hid hPt
  have HNx := Lib.hid hNx
  have HQ := Lib.hid hQ
  have HRR := Lib.hid hRR
  have Hwt := Lib.hid hwt
  have hd0 : (d : Int) ≤ 3000 := by omega
  clear hr hP1 hp0 hP hPos hPt hNx hQ hRR hwt
  unfold pt at HP1 HPt HNx ⊢
  go_enter Tryd.func8, Tryd.ntmps8
  go_wp2_with fail
  go_at_call 10
  refine (HP1.out _ HR.out).mono ?_
  rintro e w1 ⟨rfl, g1, g2⟩
  have G1 := Lib.hid g1
  have HK := Lib.hid g2
  clear g1 g2
  go_wp2
  go_loopw [6, 8] (fun t6 t8 wr => ∃ (acc : List LN) (j f p : Nat) (gb : Bool) (A : Option Addr) (c : Nat), t6 = .slice A acc.length c ∧ t8 = .bool gb ∧ j ≤ s.size ∧ f ≤ s.size ∧ p ≤ s.size ∧ acc.length ≤ j + 1 ∧ (gb = true → acc.length ≤ j) ∧ Hid (gb = true → linesS P s acc f p j = R) ∧ Hid (gb = false → some (acc, j) = R ∧ 0 < acc.length) ∧ Hid (Rd rb s j wr) ∧ Hid (Kp rb w wr) ∧ Hid (BoxAt wr w1.heap.size #[.int .i64 f, .int .i64 p, .slice none 0 0] 54) ∧ Hid (OwnL (w1.heap.size + 1) wr (.slice A acc.length c) acc)) (fun _ t8 wr => match t8 with | .bool true => s.size - posOf rb wr + 1 | _ => 0)
  case atStart => exact ⟨[], p0, 0, 0, true, none, 0, rfl, rfl, hS.2, Nat.zero_le _, Nat.zero_le _, Nat.zero_le _, fun _ => Nat.zero_le _, fun _ => HRR.out, (fun h => by cases h), G1.out.alloc _, HK.out.alloc (by have := HK.out.size; omega) _, BoxAt.new _ _ _, OwnL.nil _ _⟩
  case round =>
    obtain ⟨acc, j, f, p, gb, A, c, rfl, rfl, hj, hf, hp, hal, hal2, Hl, He, HRd, HKr, HB, HO⟩ := hrel
    have Hpos := Lib.hid HRd.out.pos
    have hs1 := HK.out.size
    have hsr := HKr.out.size
    have hbl := HB.out.lt
    cases gb
    case false =>
      obtain ⟨hRe, h0⟩ := He.out rfl
      obtain ⟨xs, ho, hz⟩ := HO.out
      rcases ho.2 with ⟨_, hn⟩ | ⟨g, cap, cur, hv, hb, hg, hc1, hc2, hcs, htk⟩
      · omega
      cases hv
      have hw := (Hwt.out acc j hRe.symm).1
      have hw0 : wtLs ([] : List LN) = 0 := rfl
      have hJ := join_any acc (OwnSet (w1.heap.size + 1) wr (.slice (some ⟨g, 0, none⟩) acc.length c)) g c wr h0 hc1 (by omega) (by omega) (LZip.at_ acc xs 0 (fun j x hx => by
        have := ho.cells (g := g) rfl j x hx
        rw [Addr.add_mid] at this
        exact this) hz) (Array.getElem?_eq_some_iff.1 hg).1 (fun b hb => hb.1.2)
      have HJ := Lib.hid hJ
      have HRe := Lib.hid hRe
      clear hJ hRe hw hw0 ho hz hg hcs htk hc1 hc2
      go_wp2_with fail
      go_at_call 19
      refine (HJ.out).mono ?_
      rintro e w2 ⟨hb2, A2, n2, c2, rfl, hn, hn4, hpat⟩
      have HB2 := Lib.hid hb2
      have HPt2 := Lib.hid hpat
      clear hb2 hpat
      go_wp2
      go_ret2
      have hQe : Q = some (joinS acc, j) := by rw [← HQ.out, ← HRe.out]; rfl
      subst hQe
      have hb2 := HB2.out.size
      refine ⟨HKr.out.trans (Kp.of_below HB2.out (by omega)), A2, n2, c2, j, rfl, HRd.out.later HB2.out, hj, hn4, fun l m h => ?_⟩
      cases h
      refine ⟨rfl, hn, PatF.carry (fun b hb => ?_) HPt2.out⟩
      rcases hb with ⟨⟨b1, b2⟩, _⟩ | ⟨b1, b2⟩
      · exact ⟨⟨by omega, by omega⟩, rfl⟩
      · exact ⟨⟨by omega, b2⟩, rfl⟩
    case true =>
      have hans := Hl.out rfl
      have hal3 := hal2 rfl
      rw [linesS] at hans
      have hPt := fun W h => HPt.out j W h hj
      obtain ⟨r, hrr⟩ : ∃ r, partsS P s [] j = r := ⟨_, rfl⟩
      have hjp := fun ps j' (h : r = some (ps, j')) => parts_pos _ _ _ (Nat.le_refl _) hj ps j' (hrr.trans h)
      rw [hrr] at hPt hans
      have HPr := Lib.hid hPt
      have Hans := Lib.hid hans
      have Hjp := Lib.hid hjp
      have hacc : (acc.length : Int) ≤ 1000000 := by omega
      have hrb1 : rb ≠ w1.heap.size := by omega
      clear hPt hans hrr hjp
      go_wp2_with fail
      go_at_call 18
      refine (HPr.out _ HRd.out).mono ?_
      rintro e w2 ⟨h1, A2, n2, c2, j2, rfl, h2, hj2, h3⟩
      have HK2 := Lib.hid (HKr.out.trans h1)
      have HB2 := Lib.hid (BoxAt.kp HB.out h1 (fun e => hrb1 e.symm))
      have HO2 := Lib.hid (HO.out.kp h1 (by omega))
      have H2 := Lib.hid h2
      have H3 := Lib.hid h3
      have hs2 := h1.size
      clear h1 h2 h3
      cases r with
      | none =>
        have hR := Hans.out
        dsimp only at hR
        have HRn := Lib.hid hR
        clear hR
        go_wp2
        go_ret2
        have hQe : Q = none := by rw [← HQ.out, ← HRn.out]; rfl
        subst hQe
        exact ⟨HK2.out, none, 0, 0, j2, rfl, H2.out, hj2, Nat.zero_le _, fun l m h => by cases h⟩
      | some pj =>
        obtain ⟨ps, j2'⟩ := pj
        obtain ⟨rfl, hpl, hpn, hpt⟩ := H3.out ps j2' rfl
        subst hpl
        have hR := Hans.out
        dsimp only at hR
        have hjj := Hjp.out _ _ rfl
        have hNx := fun W h => HNx.out j2' W h hj2
        have hnp := fun f' p' k (h : nextS s j2' = some (f', p', k)) => next_pos hj2 h
        obtain ⟨rn, hrn⟩ : ∃ r, nextS s j2' = r := ⟨_, rfl⟩
        rw [hrn] at hR hNx hnp
        have HRn := Lib.hid hR
        have HN := Lib.hid hNx
        have Hnp := Lib.hid hnp
        have HPF := Lib.hid hpt
        obtain ⟨q0, q1, q2, p0', p1, p2⟩ := cells3 HB2.out
        have hl2 := HB2.out.lt
        obtain ⟨xs6, ho6, hz6⟩ := (HO2.out.set (nb := w1.heap.size) (by omega) 2 (.slice A2 ps.length c2))
        have hown1 := ho6.alloc (.cells #[.int .i64 f, .int .i64 p, .slice A2 ps.length c2] 54)
        have hnew : BoxAt ((w2.setCell ⟨w1.heap.size, 2, none⟩ (.slice A2 ps.length c2)).alloc (.cells #[.int .i64 f, .int .i64 p, .slice A2 ps.length c2] 54)) w2.heap.size #[.int .i64 f, .int .i64 p, .slice A2 ps.length c2] 54 := BoxAt.new' _ _ _ _ (by simp)
        have hmid : BoxAt ((w2.setCell ⟨w1.heap.size, 2, none⟩ (.slice A2 ps.length c2)).alloc (.cells #[.int .i64 f, .int .i64 p, .slice A2 ps.length c2] 54)) w1.heap.size #[.int .i64 f, .int .i64 p, .slice A2 ps.length c2] 54 := (box_third HB2.out (.slice A2 ps.length c2)).alloc _
        have Hmid := Lib.hid hmid
        clear hmid
        obtain ⟨_, ho5, _⟩ := HO.out
        have Hv5 := Lib.hid (fun k e => ho5.lt k e)
        clear hR hNx hnp hrn hpt ho6 ho5
        go_wp2_with (at_builtin; refine wpList_append_where _ rfl _ _ 52 rfl (w1.heap.size + 1) 54 i0 (.agg #[.int .i64 0, .int .i64 0, .slice none 0 0]) 3 40 Tryd.underlying52 hi0 hz0 hz1 hz2 rfl (by decide) _ _ _ rfl hown1 ⟨w2.heap.size, 0, none⟩ 1 1 [.int .i64 f, .int .i64 p, .slice A2 ps.length c2] rfl rfl ?c1 ?c2 ?c3 ?c4 ?c5 ?c6 ?_)
        case c1 =>
          intro j u hj
          match j, hj with
          | 0, hj => simp at hj; subst hj; exact hnew.cell 0
          | 1, hj => simp at hj; subst hj; exact hnew.cell 1
          | 2, hj => simp at hj; subst hj; exact hnew.cell 2
        case c2 => intro u hu; simp at hu; rcases hu with rfl | rfl | rfl <;> rfl
        case c3 => unfold maxLen; omega
        case c4 => omega
        case c5 => simp; omega
        case c6 => decide
        intro v' w8 hown' hgrow hwh
        have K2 : Kp rb (w2.setCell ⟨w1.heap.size, 2, none⟩ (.slice A2 ps.length c2)) ((w2.setCell ⟨w1.heap.size, 2, none⟩ (.slice A2 ps.length c2)).alloc (.cells #[.int .i64 f, .int .i64 p, .slice A2 ps.length c2] 54)) := (Kp.refl rb _).alloc (by simp; omega) _
        have hcar : ∀ b, Since wr.heap.size w2 b → OwnSet (w1.heap.size + 1) ((w2.setCell ⟨w1.heap.size, 2, none⟩ (.slice A2 ps.length c2)).alloc (.cells #[.int .i64 f, .int .i64 p, .slice A2 ps.length c2] 54)) (.slice A acc.length c) b ∧ ((w2.setCell ⟨w1.heap.size, 2, none⟩ (.slice A2 ps.length c2)).alloc (.cells #[.int .i64 f, .int .i64 p, .slice A2 ps.length c2] 54)).heap[b]? = w2.heap[b]? := fun b hb => by
          obtain ⟨b1, b2⟩ := hb
          refine ⟨⟨⟨by omega, by simp; omega⟩, fun e => by have := Hv5.out b e.symm; omega⟩, ?_⟩
          exact (Lib.alloc_old _ _ b (by simpa using b2)).trans (Below.heap_setCell _ ⟨w1.heap.size, 2, none⟩ _ b (by show b ≠ w1.heap.size; omega))
        have HO8 := Lib.hid (ownL_push (rb := rb) (f := f) (p := p) (l := ps) (by omega) K2 hz6 (PatF.carry hcar HPF.out) hown' hgrow (by simpa using hwh))
        have G8 := Lib.hid (((H2.out.setOther hrb1 2 _).alloc _).grown hgrow (fun k e => by have := Hv5.out k e; omega))
        have HK8 := Lib.hid (Kp.grown ((HK2.out.setNew (b := w1.heap.size) hs1 hlt 2 _).alloc (by simp; omega) _) hgrow (fun k e => by have := (Hv5.out k e).1; omega) hlt)
        have HB8 := Lib.hid (show BoxAt w8 w1.heap.size #[.int .i64 f, .int .i64 p, .slice A2 ps.length c2] 54 from (hgrow.block w1.heap.size Hmid.out.lt (fun e => by have := (Hv5.out _ e.symm).1; omega)).trans Hmid.out)
        obtain ⟨A9, c9, rfl⟩ := own_slice hown' (by omega)
        clear hown' hgrow hwh K2 hcar hnew q0 q1 q2 p0' p1 p2 hown1 hz6
        go_wp2_with fail
        go_at_call 17
        refine (HN.out _ G8.out).mono ?_
        rintro e w9 ⟨h4, f', p', j3, rfl, h5, hj3, hf', hp', hnone, hsome⟩
        have HK9 := Lib.hid (HK8.out.trans h4)
        have HB9 := Lib.hid (BoxAt.kp HB8.out h4 (fun e => hrb1 e.symm))
        have HO9 := Lib.hid (HO8.out.kp h4 (by omega))
        have H9 := Lib.hid h5
        have hl9 := HB9.out.lt
        obtain ⟨q0, q1, q2, p0', p1, p2⟩ := cells3 HB9.out
        have Hnone := Lib.hid hnone
        have Hsome := Lib.hid hsome
        clear h4 h5 hnone hsome
        go_wp2
        go_roundw
        case rel =>
          refine ⟨acc ++ [⟨f, p, ps⟩], j3, f', p', rn.isSome, A9, c9, ?_, rfl, hj3, hf', hp', ?_, ?_, ?_, ?_, H9.out.set3 hrb1 _ _ _, HK9.out.set3 hs1 hlt _ _ _, box_set3 HB9.out _ _ _, ?_⟩
          · show Value.slice A9 _ c9 = _
            simp
          · rw [List.length_append, List.length_singleton]
            cases rn with
            | none => have := Hnone.out rfl; omega
            | some v => obtain ⟨f2, p2, k2⟩ := v; have := Hnp.out _ _ _ rfl; obtain ⟨_, _, e⟩ := Hsome.out _ _ _ rfl; omega
          · intro hg
            rw [List.length_append, List.length_singleton]
            cases rn with
            | none => cases hg
            | some v => obtain ⟨f2, p2, k2⟩ := v; have := Hnp.out _ _ _ rfl; obtain ⟨_, _, e⟩ := Hsome.out _ _ _ rfl; omega
          · intro hg
            cases rn with
            | none => cases hg
            | some v =>
              obtain ⟨f2, p2, k2⟩ := v
              have := Hnp.out _ _ _ rfl
              obtain ⟨rfl, rfl, rfl⟩ := Hsome.out _ _ _ rfl
              have hR := HRn.out
              dsimp only at hR
              rw [dif_pos (show j < k2 ∧ k2 ≤ s.size from ⟨by omega, hj3⟩)] at hR
              exact hR
          · intro hg
            cases rn with
            | some v => cases hg
            | none =>
              have e := Hnone.out rfl
              subst e
              have hR := HRn.out
              dsimp only at hR
              exact ⟨hR, by simp⟩
          · rw [List.length_append, List.length_singleton]
            exact ((HO9.out.set (nb := w1.heap.size) (by omega) 0 _).set (nb := w1.heap.size) (by omega) 1 _).set (nb := w1.heap.size) (by omega) 2 _
        case measure =>
          have e3 := (H9.out.set3 hrb1 (.int .i64 f') (.int .i64 p') (.slice none 0 0)).pos
          cases rn with
          | none => show 0 < s.size - posOf rb wr + 1; omega
          | some v =>
            obtain ⟨f2, p2, k2⟩ := v
            have := Hnp.out _ _ _ rfl
            obtain ⟨_, _, e⟩ := Hsome.out _ _ _ rfl
            have e4 := Hpos.out
            show s.size - posOf rb (set3 w9 w1.heap.size (.int .i64 f') (.int .i64 p') (.slice none 0 0)) + 1 < s.size - posOf rb wr + 1
            rw [e3, e4]
            omega
end Go.Proofs.YtlijmflikcjikaaDoor

/-
  Package expr: what is read moves on.
-/
namespace Go.Proofs.YtlijmflikcjikaaDoor
open Go.RowKit
set_option linter.unusedVariables false
set_option linter.unusedSimpArgs false

theorem or_some {α : Type} {a b : Option α} {v : α} (h : a.or b = some v) : a = some v ∨ b = some v := by
  cases a with
  | none => exact .inr (by simpa using h)
  | some x => exact .inl (by simpa using h)
section
variable {s : ByteArray} {P : Nat → Res} {i j : Nat} {e : EX}
theorem quo_pos (hi : i ≤ s.size) (h : quoS s i = some (e, j)) : i < j ∧ j ≤ s.size := by
  obtain ⟨T, n, b, _, hn, _, h4⟩ := quo_val s i hi
  obtain ⟨rfl, _, h0⟩ := h4 _ _ h
  omega
theorem var_pos (hi : i ≤ s.size) (h : varS s i = some (e, j)) : i < j ∧ j ≤ s.size := by
  unfold varS at h
  split at h
  · next hc =>
    rw [Bool.and_eq_true, decide_eq_true_iff] at hc
    have h1 := isAt_lt hc.1
    have h2 := nm_ok s (i + 1) h1
    cases h
    omega
  · cases h
theorem nest_pos (hP : PosOk s P) (h : nestS P i = some (e, j)) : i < j ∧ j ≤ s.size := by
  unfold nestS at h
  split at h
  · next hp => cases h; exact hP _ _ _ hp
  · cases h
theorem ref_pos {k : Int} (hi : i ≤ s.size) (h : refS k s i = some (e, j)) : i < j ∧ j ≤ s.size := by
  unfold refS at h
  have h1 := nm_ok s i hi
  split at h
  · cases h
  · split at h
    · next hd =>
      have h2 := isAt_lt hd
      have h3 := nm_ok s (nm s i + 1) h2
      split at h
      · cases h
      · cases h; omega
    · cases h; omega
theorem ter_pos (hi : i ≤ s.size) (h : terS s i = some (e, j)) : i < j ∧ j ≤ s.size := by
  unfold terS at h
  split at h
  · next hc =>
    have h1 := isAt_lt hc
    have := ref_pos (by omega) h
    omega
  · cases h
theorem nub_pos (hi : i ≤ s.size) (h : nubS s i = some (e, j)) : i < j ∧ j ≤ s.size := by
  unfold nubS at h
  have h1 := nu_ok s i hi
  split at h
  · cases h
  · cases h; omega
theorem head_pos (hP : PosOk s P) (hi : i ≤ s.size) (h : headS P s i = some (e, j)) : i < j ∧ j ≤ s.size := by
  unfold headS at h
  rcases or_some h with h | h
  · exact quo_pos hi h
  rcases or_some h with h | h
  · exact var_pos hi h
  rcases or_some h with h | h
  · exact nest_pos hP h
  rcases or_some h with h | h
  · exact ter_pos hi h
  rcases or_some h with h | h
  · exact ref_pos hi h
  · exact nub_pos hi h
theorem opn_pos (e : EX) (hj : j ≤ s.size) : j ≤ (opnS s e j).2 ∧ (opnS s e j).2 ≤ s.size := by
  unfold opnS
  have h1 := bl_ok s j hj
  split
  · split
    · next hc => have h2 := isAt_lt hc; exact ⟨by show j ≤ bl s j + 1; omega, h2⟩
    · exact h1
  · exact ⟨Nat.le_refl _, hj⟩
theorem nam_pos {n : ByteArray} (hi : i ≤ s.size) (h : namS s i = some (n, e, j)) : i < j ∧ j ≤ s.size := by
  unfold namS at h
  have h1 := nm_ok s i hi
  have h2 := bl_ok s (nm s i) h1.2
  split at h
  · cases h
  · split at h
    · next hc =>
      have h3 := isAt_lt hc
      have h4 := bl_ok s (bl s (nm s i) + 1) h3
      split at h
      · next e' q ho =>
        cases h
        have : bl s (bl s (nm s i) + 1) < j ∧ j ≤ s.size := by
          rcases or_some ho with ho | ho
          · exact quo_pos h4.2 ho
          · exact nub_pos h4.2 ho
        omega
      · cases h
    · cases h
theorem arg_pos {n : ByteArray} (hP : PosOk s P) (hi : i ≤ s.size) (h : argS P s i = some (n, e, j)) : i < j ∧ j ≤ s.size := by
  unfold argS at h
  split at h
  · next hn => cases h; exact nam_pos hi hn
  · split at h
    · next hh => cases h; exact head_pos hP hi hh
    · cases h
theorem args_pos (hP : PosOk s P) : ∀ (m : Nat) (xs : List AR) (want : Bool) (i : Nat), s.size - i ≤ m → i ≤ s.size → ∀ l j, argsS P s xs want i = some (l, j) → i < j ∧ j ≤ s.size := by
  intro m
  induction m with
  | zero =>
    intro xs want i hm hi l j h
    have h1 := bl_ok s i hi
    rw [argsS] at h
    split at h
    · next hc => have := isAt_lt hc; omega
    · split at h
      · split at h
        · next hc => have := isAt_lt hc; omega
        · cases h
      · split at h
        · cases h
        · next hh => have := arg_pos hP h1.2 hh; omega
  | succ m ih =>
    intro xs want i hm hi l j h
    have h1 := bl_ok s i hi
    rw [argsS] at h
    split at h
    · next hc => have := isAt_lt hc; cases h; omega
    · split at h
      · split at h
        · next hc =>
          have h2 := isAt_lt hc
          have := ih _ _ _ (by omega) h2 l j h
          omega
        · cases h
      · split at h
        · cases h
        · next n e' j' hh =>
          have h2 := arg_pos hP h1.2 hh
          split at h
          · split at h
            · next hg =>
              split at h
              · cases h
              · next hh2 =>
                have h3 := ih _ _ _ (by omega) hg.2 _ _ hh2
                split at h
                · next hg2 =>
                  split at h
                  · have := ih _ _ _ (by omega) hg2.2 l j h
                    omega
                  · cases h
                · cases h
            · cases h
          · generalize (if emp n = true then (opnS s e' j').2 else j') = q at h
            split at h
            · next hg =>
              split at h
              · have := ih _ _ _ (by omega) hg.2 l j h
                omega
              · cases h
            · cases h
theorem inl_pos (hP : PosOk s P) (hi : i ≤ s.size) (h : inlS P s i = some (e, j)) : i < j ∧ j ≤ s.size := by
  unfold inlS at h
  split at h
  · cases h
  · next e' j' hh =>
    have h1 := head_pos hP hi hh
    have h2 := opn_pos e' h1.2
    split at h
    · split at h
      · cases h
      · next ha =>
        cases h
        have := args_pos hP _ _ _ _ (Nat.le_refl _) h2.2 _ _ ha
        omega
    · cases h; omega
theorem vars_pos : ∀ (m : Nat) (acc : List VA) (i : Nat), s.size - i ≤ m → i ≤ s.size → ∀ l j, varsS P s acc i = some (l, j) → i < j ∧ j ≤ s.size := by
  intro m
  induction m with
  | zero =>
    intro acc i hm hi l j h
    rw [varsS] at h
    split at h
    · next hc => have := isAt_lt hc; omega
    · split at h
      · cases h
      · split at h
        · next hg => omega
        · cases h
  | succ m ih =>
    intro acc i hm hi l j h
    rw [varsS] at h
    split at h
    · next hc =>
      have := isAt_lt hc
      split at h
      · cases h; omega
      · cases h
    · split at h
      · cases h
      · split at h
        · next hg => have := ih _ _ (by omega) hg.2 l j h; omega
        · cases h
theorem sel_pos {l : List VA} (hi : i ≤ s.size) (h : selS P s i = some (l, j)) : i < j ∧ j ≤ s.size := by
  unfold selS at h
  have h1 := sp_ok s i hi
  split at h
  · next hc =>
    have h2 := isAt_lt hc
    have h3 := bl_ok s (sp s i + 1) h2
    have := vars_pos _ _ _ (Nat.le_refl _) h3.2 _ _ h
    omega
  · cases h
theorem pl_pos (hP : PosOk s P) : PosOk s (plS P s) := by
  intro i e j h
  unfold plS at h
  split at h
  · next hc =>
    have h1 := isAt_lt hc
    have h2 := bl_ok s (i + 1) h1
    split at h
    · cases h
    · next e' j' hin =>
      have h3 := inl_pos hP h2.2 hin
      have h4 := bl_ok s j' h3.2
      split at h
      · next hb =>
        have h5 := isAt_lt hb
        split at h
        · cases h
        · cases h; omega
      · split at h
        · next hb =>
          rw [Bool.and_eq_true, Bool.and_eq_true] at hb
          have h5 := isAt_lt hb.1.2
          split at h
          · cases h
          · next hsl =>
            cases h
            have := sel_pos (by omega) hsl
            omega
        · cases h
  · cases h
end
theorem place_pos (s : ByteArray) : ∀ r, PosOk s (placeS s r)
  | 0 => by
    intro i e j h
    rw [placeS] at h
    cases h
  | r + 1 => by
    rw [placeS_succ]
    exact pl_pos (place_pos s r)
/-- Inline at a depth, whatever place is one deeper. -/
def InKnot (rb : Nat) (s : ByteArray) : Prop := ∀ (d : Nat) (P : Nat → Res), d ≤ 20 → WayTo rb s 7 #[pt rb, .int .i64 ((d + 1 : Nat) : Int)] P → PosOk s P → WayTo rb s 12 #[pt rb, .int .i64 d] (inlS P s)
theorem place_knot {rb : Nat} {s : ByteArray} (hA : Ascii s) (hs : s.size ≤ 1000000) (hIn : InKnot rb s) : ∀ (r d : Nat), d + r = 21 → WayTo rb s 7 #[pt rb, .int .i64 (d : Nat)] (placeS s r)
  | 0, d, h => by
    have := place_deep (rb := rb) (s := s) (d := d) (by omega) (by omega)
    have e : placeS s 0 = fun _ => none := by funext i; rw [placeS]
    rw [e]
    exact this
  | r + 1, d, h => by
    rw [placeS_succ]
    have hP := place_knot hA hs hIn r (d + 1) (by omega)
    have hPos := place_pos s r
    refine place_any hs (by omega) (hIn d _ (by omega) hP hPos) ?_
    intro i w hr hi
    exact variants_any hs (by omega) (pattern_any hA hs (by omega) hP hPos) i w hr hi
end Go.Proofs.YtlijmflikcjikaaDoor
