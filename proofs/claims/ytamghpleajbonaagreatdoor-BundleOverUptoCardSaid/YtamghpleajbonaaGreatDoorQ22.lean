/-
  Several texts put together (part 22): what the law and the program call, walked; their contracts.
-/
import Derived.Test.YtamghpleajbonaaGreatDoorQ18
namespace Go.Proofs.YtamghpleajbonaaGreatDoor
open Go.RowKit
set_option linter.unusedVariables false
set_option linter.unusedSimpArgs false
theorem isAt_prefix2 (s : ByteArray) (i : Nat) (c d : UInt8) (hi : i ≤ s.size) : Lib.hasPrefix (s.extract i s.size).data.toList [c, d] = (isAt s i c && isAt s (i + 1) d) := by
  rw [extract_drop]
  unfold isAt
  by_cases h : i < s.size
  · have hl : i < s.data.toList.length := by rw [size_data]; exact h
    rw [List.drop_eq_getElem_cons hl, decide_eq_true h, Bool.true_and, at0_get _ _ hl]
    unfold Lib.hasPrefix
    rw [List.isPrefixOf]
    by_cases h2 : i + 1 < s.size
    · have hl2 : i + 1 < s.data.toList.length := by rw [size_data]; exact h2
      rw [List.drop_eq_getElem_cons hl2, decide_eq_true h2, Bool.true_and, at0_get _ _ hl2, List.isPrefixOf, List.isPrefixOf, Bool.and_true]
      rw [Bool.eq_iff_iff, Bool.and_eq_true, Bool.and_eq_true, beq_iff_eq, beq_iff_eq, beq_iff_eq, beq_iff_eq]
      exact ⟨fun ⟨a, b⟩ => ⟨a.symm, b.symm⟩, fun ⟨a, b⟩ => ⟨a.symm, b.symm⟩⟩
    · rw [List.drop_eq_nil_of_le (by rw [size_data]; omega), decide_eq_false h2]
      simp [List.isPrefixOf]
  · rw [List.drop_eq_nil_of_le (by rw [size_data]; omega), decide_eq_false h]
    rfl
set_option maxHeartbeats 2000000 in
set_option maxRecDepth 100000 in
theorem take2_any {rb : Nat} {s : ByteArray} {i : Nat} (c d : UInt8) (w : World) (hr : Rd rb s i w) (hs : s.size ≤ 4000000) (hi : i ≤ s.size) :
    Calls Tryz.prog 122 #[pt rb, .string ⟨#[c, d]⟩] w fun e w' => e = .returned (.bool (isAt s i c && isAt s (i + 1) d)) ∧ Rd rb s (if isAt s i c && isAt s (i + 1) d then i + 2 else i) w' ∧ Kp rb w w' := by
  have hx := isAt_prefix2 s i c d hi
  have hp := fun W => Tryz.strings_HasPrefix (s.extract i s.size) ⟨#[c, d]⟩ W
  rw [hx] at hp
  obtain ⟨b, hb⟩ : ∃ b, (isAt s i c && isAt s (i + 1) d) = b := ⟨_, rfl⟩
  have Hb := Lib.hid hb
  rw [hb] at hp ⊢
  have HP := Lib.hid hp
  have c0 := hr.c0
  have c1 := hr.c1
  have f0 := hr.f 0
  have f1 := hr.f 1
  have hlt := hr.lt
  have HR := Lib.hid hr
  have hi0 : (i : Int) ≤ 4000000 := by omega
  have hjs : (i : Int) ≤ (s.size : Int) := by omega
  have hss : (s.size : Int) ≤ 4000000 := by omega
  have hi1 : (0 : Int) ≤ (i : Int) := by omega
  clear hx hp hb hr
  unfold pt
  go_enter Tryz.func122, Tryz.ntmps122
  go_wp2_with fail
  go_region_held3 (fun w' => w'.cell? ⟨rb, 0, none⟩ = some (.string s) ∧ w'.cell? ⟨rb, 1, none⟩ = some (.int .i64 (i : Nat)) ∧ rb + 1 ≤ w'.heap.size ∧ Rd rb s i w' ∧ Kp rb w w')
    (first | (exact rds_later (by assumption) (by assumption)) | (exact rds_of HR.out.drew (Kp.refl _ _).drew) | go_keep)
    (first | (go_at_call 63; refine (HP.out _).mono ?_; rintro e w' ⟨rfl, rfl⟩))
  have d1 : w.drew.cell? ⟨rb, 1, none⟩ = some (.int .i64 (i : Nat)) := c1
  have g1 : w.drew.frozen? ⟨rb, 1, none⟩ = false := f1
  cases b
  · go_wp2
    go_ret
    exact ⟨rfl, HR.out.drew, (Kp.refl _ _).drew⟩
  · go_wp2
    go_ret
    exact ⟨rfl, HR.out.drew.set' (by omega), (Kp.refl _ _).drew.setCell 1 _⟩
def plS (P : Nat → Res) (s : ByteArray) (i : Nat) : Res :=
  if isAt s i 123 then
    match inlS P s (bl s (i + 1)) with
    | none => none
    | some (e, j) =>
      if isAt s (bl s j) 125 then (if termAttr e then none else some (e, bl s j + 1))
      else if isAt s (bl s j) 45 && isAt s (bl s j + 1) 62 && mayAsk e then
        match selS P s (bl s j + 2) with
        | none => none
        | some (vs, m) => some (.mk 7 E0 E0 E0 [] (some e) vs, m)
      else none
  else none
theorem placeS_succ (s : ByteArray) (r : Nat) : placeS s (r + 1) = plS (placeS s r) s := by
  funext i
  rw [placeS, plS]
  rfl
def VsTo (rb : Nat) (s : ByteArray) (d : Nat) (Q : Nat → Option (List VA × Nat)) : Prop := ∀ (i : Nat) (w : World), Rd rb s i w → i ≤ s.size → Calls Tryz.prog 126 #[pt rb, .int .i64 d] w (GotVs rb s w (Q i))
set_option maxHeartbeats 2000000 in
set_option maxRecDepth 100000 in
theorem place_deep {rb : Nat} {s : ByteArray} {d : Nat} (hd : 20 < d) (hd2 : d ≤ 4000) : WayTo rb s 111 #[pt rb, .int .i64 d] (fun _ => none) := by
  intro i w hr hi
  have HR := Lib.hid hr
  have hlt := hr.lt
  have hd0 : decide ((d : Int) > 20) = true := decide_eq_true (by omega)
  have hd1 : decide ((20 : Int) < d) = true := decide_eq_true (by omega)
  have hd3 : (20 : Int) < d := by omega
  clear hr
  unfold pt
  go_enter Tryz.func111, Tryz.ntmps111
  have hc := BoxAt.new w zE 88
  have hcl := hc.lt
  have HC := Lib.hid hc
  obtain ⟨q0, q1, q2, q3, q4, q5, q6, p0, p1, p2, p3, p4, p5, p6⟩ := cells7 hc
  go_wp2
  exact end7w Tryz.results111 HC.out rfl rfl rfl (got_end ((Kp.refl rb w).alloc (Nat.le_of_lt hlt) _) (HR.out.alloc _) hi rfl (fun x m h => by cases h))
set_option maxHeartbeats 2000000 in
set_option maxRecDepth 100000 in
theorem termsAttr_at (k : Int) (t n a : ByteArray) (A1 : Option Addr) (n1 c1 : Nat) (p : Option Addr) (A2 : Option Addr) (n2 c2 : Nat) (w : World) :
    Calls Tryz.prog 124 #[exV k t n a A1 n1 c1 p A2 n2 c2] w fun e w' => e = .returned (.bool ((k == 4) && !emp a)) ∧ w' = w.alloc (.cells #[.int .i64 k, .string t, .string n, .string a, .slice A1 n1 c1, .pointer p, .slice A2 n2 c2] 88) := by
  unfold exV emp
  cases hz : (k == 4)
  case false =>
    go_enter Tryz.func124, Tryz.ntmps124
    go_wp2
    go_ret
    exact ⟨ret_bool (by rfl), rfl⟩
  cases hg : a.toList.isEmpty
  all_goals
    go_enter Tryz.func124, Tryz.ntmps124
    go_wp2
    go_ret
    exact ⟨ret_bool (by rfl), rfl⟩
theorem since_set7 {w : World} {c b : Nat} {x0 x1 x2 x3 x4 x5 x6 : Value} (o : Obj) (h : b < (set7 w c x0 x1 x2 x3 x4 x5 x6).heap.size) : b < ((set7 w c x0 x1 x2 x3 x4 x5 x6).alloc o).drew.heap.size := by
  show b < ((set7 w c x0 x1 x2 x3 x4 x5 x6).alloc o).heap.size
  rw [World.size_alloc]
  exact Nat.lt_succ_of_lt h
theorem heap_set7 {w : World} {c b : Nat} {x0 x1 x2 x3 x4 x5 x6 : Value} (o : Obj) (hc : b ≠ c) (h : b < (set7 w c x0 x1 x2 x3 x4 x5 x6).heap.size) : ((set7 w c x0 x1 x2 x3 x4 x5 x6).alloc o).drew.heap[b]? = w.heap[b]? :=
  (Lib.alloc_old (set7 w c x0 x1 x2 x3 x4 x5 x6) o b h).trans (set7_heap _ _ _ _ _ _ _ _ _ b hc)
theorem setCell7_size (w : World) (b : Nat) (x0 x1 x2 x3 x4 x5 x6 : Value) : (((((((w.setCell ⟨b, 0, none⟩ x0).setCell ⟨b, 1, none⟩ x1).setCell ⟨b, 2, none⟩ x2).setCell ⟨b, 3, none⟩ x3).setCell ⟨b, 4, none⟩ x4).setCell ⟨b, 5, none⟩ x5).setCell ⟨b, 6, none⟩ x6).heap.size = w.heap.size := set7_size w b x0 x1 x2 x3 x4 x5 x6
theorem setCell7_heap (w : World) (b : Nat) (x0 x1 x2 x3 x4 x5 x6 : Value) (k : Nat) (hk : k ≠ b) : (((((((w.setCell ⟨b, 0, none⟩ x0).setCell ⟨b, 1, none⟩ x1).setCell ⟨b, 2, none⟩ x2).setCell ⟨b, 3, none⟩ x3).setCell ⟨b, 4, none⟩ x4).setCell ⟨b, 5, none⟩ x5).setCell ⟨b, 6, none⟩ x6).heap[k]? = w.heap[k]? := set7_heap w b x0 x1 x2 x3 x4 x5 x6 k hk
theorem exF_fields {W : World} {F : Nat → Prop} {x : EX} {k : Int} {t n a : ByteArray} {al i vs : Value} (h : ExF W F x ⟨.int .i64 k, .string t, .string n, .string a, al, i, vs⟩) :
    termAttr x = ((k == 4) && !emp a) ∧ mayAsk x = (decide (k = 0 ∨ k = 1 ∨ k = 2 ∨ k = 5) || ((k == 4) && !emp a)) := by
  obtain ⟨k', t', n', a', al', i', vs'⟩ := x
  rw [ExF] at h
  obtain ⟨h1, h2, h3, h4, _⟩ := h
  cases h1
  cases h4
  exact ⟨rfl, rfl⟩
theorem exF_sel {W : World} {F : Nat → Prop} {x : EX} {vs : List VA} {b : Nat} {c : C7} {v : Value} (hb : F b) (hc : CellsAt W b 0 c) (hx : ExF W F x c) (hv : LieAt (VsF W F vs) v vs.length) :
    ExF W F (.mk 7 E0 E0 E0 [] (some x) vs) ⟨.int .i64 7, .string E0, .string E0, .string E0, .slice none 0 0, .pointer (some ⟨b, 0, none⟩), v⟩ := by
  rw [ExF]
  refine ⟨rfl, rfl, rfl, rfl, LieN.nil _, ?_, hv⟩
  simp only [OF]
  exact ⟨b, 0, c, rfl, hb, hc, hx⟩
set_option maxHeartbeats 2000000 in
set_option maxRecDepth 100000 in
theorem place_any {rb : Nat} {s : ByteArray} {d : Nat} {P : Nat → Res} (hs : s.size ≤ 1000000) (hd : d ≤ 20) (hIn : WayTo rb s 123 #[pt rb, .int .i64 d] (inlS P s)) (hVs : VsTo rb s d (selS P s)) :
    WayTo rb s 111 #[pt rb, .int .i64 d] (plS P s) := by
  intro i w hr hi
  have HR := Lib.hid hr
  have hlt := hr.lt
  have hd0 : decide ((20 : Int) < d) = false := decide_eq_false (by omega)
  have hd1 : ¬ (20 : Int) < d := by omega
  obtain ⟨R, hRR⟩ : ∃ R, plS P s i = R := ⟨_, rfl⟩
  rw [hRR]
  unfold plS at hRR
  have hT1 := fun W (h : Rd rb s i W) => take_any 123 W h (by omega) hi
  obtain ⟨b1, hb1⟩ : ∃ b, isAt s i 123 = b := ⟨_, rfl⟩
  have hi1 : b1 = true → i + 1 ≤ s.size := fun h => isAt_lt (hb1.trans h)
  rw [hb1] at hT1 hRR
  have HT1 := Lib.hid hT1
  have HIn := Lib.hid hIn
  have HVs := Lib.hid hVs
  have HPb := Lib.hid (fun j W (h : Rd rb s j W) hj => pass_any endBlank W h (show s.size ≤ 4000000 by omega) hj)
  have HTb := Lib.hid (fun j W (h : Rd rb s j W) hj => take_any 125 W h (show s.size ≤ 4000000 by omega) hj)
  have HTa := Lib.hid (fun j W (h : Rd rb s j W) hj => take2_any 45 62 W h (show s.size ≤ 4000000 by omega) hj)
  clear hr hT1 hb1 hIn hVs
  unfold pt at HT1 HPb HTb HTa HVs HIn ⊢
  have hc0 := BoxAt.new w zE 88
  have K0 : Kp rb w (w.alloc (.cells zE 88)) := (Kp.refl rb w).alloc (Nat.le_of_lt hlt) _
  have HK0 := Lib.hid K0
  have HC0 := Lib.hid hc0
  clear hc0 K0
  cases b1
  case false =>
    rw [if_neg (by simp)] at hRR
    subst hRR
    go_enter Tryz.func111, Tryz.ntmps111
    go_wp2_with fail
    go_at_call 122
    refine (HT1.out _ (HR.out.alloc _)).mono ?_
    rintro e w1 ⟨rfl, g1, g2⟩
    have G1 := Lib.hid (show Rd rb s i w1 by simpa using g1)
    have HK := Lib.hid (HK0.out.trans g2)
    have hc := BoxAt.kp HC0.out g2 (by omega)
    have hcl := hc.lt
    have HC := Lib.hid hc
    obtain ⟨q0, q1, q2, q3, q4, q5, q6, p0, p1, p2, p3, p4, p5, p6⟩ := cells7 hc
    clear g1 g2 hc
    go_wp2
    exact end7w Tryz.results111 (box_set7 HC.out _ _ _ _ _ _ _) rfl rfl rfl (got_end (HK.out.set7 (Nat.le_refl _) hlt _ _ _ _ _ _ _) (G1.out.set7 (by omega) _ _ _ _ _ _ _) hi rfl (fun x m h => by cases h))
  have hi2 := hi1 rfl
  rw [if_pos rfl] at hRR
  have hB := bl_ok s (i + 1) hi2
  have hP1 := fun W h => HPb.out (i + 1) W h hi2
  obtain ⟨q, hq⟩ : ∃ q, bl s (i + 1) = q := ⟨_, rfl⟩
  rw [hq] at hB hRR
  have hP2 : ∀ W, Rd rb s (i + 1) W → Calls Tryz.prog 103 #[.pointer (some ⟨rb, 0, none⟩), .func (.func 97) #[] #[]] W fun e w' => e = .returned (.string (s.extract (i + 1) q)) ∧ Rd rb s q w' ∧ Kp rb W w' := by
    rw [← hq]; exact hP1
  have HP1 := Lib.hid hP2
  have hI := fun W h => HIn.out q W h hB.2
  obtain ⟨r, hrr⟩ : ∃ r, inlS P s q = r := ⟨_, rfl⟩
  rw [hrr] at hI hRR
  have HI := Lib.hid hI
  have HRR := Lib.hid hRR
  clear hi1 hP1 hP2 hI hrr hRR hq HIn
  go_enter Tryz.func111, Tryz.ntmps111
  go_wp2_with fail
  go_at_call 122
  refine (HT1.out _ (HR.out.alloc _)).mono ?_
  rintro e w1 ⟨rfl, g1, g2⟩
  have G1 := Lib.hid (show Rd rb s (i + 1) w1 by simpa using g1)
  have HK1 := Lib.hid (show Kp rb (w.alloc (.cells zE 88)) w1 from g2)
  clear g1 g2
  go_wp2_with fail
  go_at_call 103
  refine (HP1.out _ G1.out).mono ?_
  rintro e w2 ⟨rfl, g1, g2⟩
  have G2 := Lib.hid g1
  have HK2 := Lib.hid (HK1.out.trans g2)
  have hs20 := HK2.out.size
  rw [World.size_alloc] at hs20
  clear g1 g2
  go_wp2_with fail
  go_at_call 123
  refine (HI.out _ G2.out).mono ?_
  rintro e w3 ⟨h1, k, t, n, a, A1, n1, c1, p, A2, n2, c2, j, rfl, h2, hj, h3⟩
  have hs3 := h1.size
  have HK3 := Lib.hid (HK2.out.trans h1)
  have H2 := Lib.hid h2
  have H3 := Lib.hid h3
  have hl3 := h2.lt
  have hs30 := HK3.out.size
  rw [World.size_alloc] at hs30
  clear h1 h2 h3
  unfold exV
  cases r with
  | none =>
    have hR := HRR.out
    dsimp only at hR
    subst hR
    have hc := BoxAt.kp HC0.out HK3.out (by omega)
    have hcl := hc.lt
    have HC := Lib.hid hc
    obtain ⟨q0, q1, q2, q3, q4, q5, q6, p0, p1, p2, p3, p4, p5, p6⟩ := cells7 hc
    have HKE := Lib.hid (HK0.out.trans HK3.out)
    clear hc HPb HTb HTa HVs HP1 HT1 HI HK0 HK1 HK2 HK3 G1 G2 H3 HRR
    go_wp2
    exact end7w Tryz.results111 ((box_set7 HC.out _ _ _ _ _ _ _).alloc _) rfl rfl rfl (got_end ((HKE.out.set7 (Nat.le_refl _) hlt _ _ _ _ _ _ _).alloc (by rw [set7_size]; omega) _) ((H2.out.set7 (by omega) _ _ _ _ _ _ _).alloc _) hj rfl (fun x m h => by cases h))
  | some em =>
    obtain ⟨e, j'⟩ := em
    obtain ⟨rfl, hx⟩ := H3.out e j' rfl
    have hR := HRR.out
    dsimp only at hR
    obtain ⟨hf1, hf2⟩ := exF_fields hx
    rw [hf1, hf2] at hR
    have HX := Lib.hid hx
    have hB4 := bl_ok s j' hj
    have hP4 := fun W h => HPb.out j' W h hj
    obtain ⟨q4, hq4⟩ : ∃ q, bl s j' = q := ⟨_, rfl⟩
    have hP4' : ∀ W, Rd rb s j' W → Calls Tryz.prog 103 #[.pointer (some ⟨rb, 0, none⟩), .func (.func 97) #[] #[]] W fun e w' => e = .returned (.string (s.extract j' q4)) ∧ Rd rb s q4 w' ∧ Kp rb W w' := by
      rw [← hq4]; exact hP4
    rw [hq4] at hB4 hR
    have hT4 := fun W h => HTb.out q4 W h hB4.2
    obtain ⟨b4, hb4⟩ : ∃ b, isAt s q4 125 = b := ⟨_, rfl⟩
    have hi4 : b4 = true → q4 + 1 ≤ s.size := fun h => isAt_lt (hb4.trans h)
    rw [hb4] at hT4 hR
    have HP4 := Lib.hid hP4'
    have HT4 := Lib.hid hT4
    have Hi4 := Lib.hid hi4
    have HR4 := Lib.hid hR
    have HEb := Lib.hid (BoxAt.new w3 #[.int .i64 k, .string t, .string n, .string a, .slice A1 n1 c1, .pointer p, .slice A2 n2 c2] 88)
    have KE : Kp rb w3 (w3.alloc (.cells #[.int .i64 k, .string t, .string n, .string a, .slice A1 n1 c1, .pointer p, .slice A2 n2 c2] 88)) := (Kp.refl rb w3).alloc (Nat.le_of_lt hl3) _
    have HKe := Lib.hid (HK3.out.trans KE)
    have HKE := Lib.hid KE
    clear hx hR hf1 hf2 hP4 hP4' hq4 hT4 hb4 hi4 HRR HPb HTb HT1 HP1 HI KE
    go_wp2_with fail
    go_at_call 103
    refine (HP4.out _ (H2.out.alloc _)).mono ?_
    rintro e4 w4 ⟨rfl, g1, g2⟩
    have G4 := Lib.hid g1
    have HK4 := Lib.hid g2
    clear g1 g2
    go_wp2_with fail
    go_at_call 122
    refine (HT4.out _ G4.out).mono ?_
    rintro e5 w5 ⟨rfl, g1, g2⟩
    have G5 := Lib.hid g1
    have K5 := HK4.out.trans g2
    have HK5 := Lib.hid K5
    have hK := HKe.out.trans K5
    have hKw := HK0.out.trans hK
    have he5 := BoxAt.kp HEb.out K5 (by omega)
    have hc5 := BoxAt.kp HC0.out hK (by omega)
    have hel := he5.lt
    have hcl := hc5.lt
    have HC5 := Lib.hid hc5
    have HE5 := Lib.hid he5
    have HKw := Lib.hid hKw
    have Hs5 := Lib.hid (HKE.out.trans K5)
    clear g1 g2 K5 hK hKw HK4 HKe HT4 HP4
    obtain ⟨T, hT⟩ : ∃ T, ((k == 4) && !emp a) = T := ⟨_, rfl⟩
    have HTm := Lib.hid (fun W => termsAttr_at k t n a A1 n1 c1 p A2 n2 c2 W)
    have HMm := Lib.hid (fun W => mayAsk_any k t n a A1 n1 c1 p A2 n2 c2 W)
    rw [hT] at HTm HMm HR4
    obtain ⟨M, hM⟩ : ∃ M, (decide (k = 0 ∨ k = 1 ∨ k = 2 ∨ k = 5) || T) = M := ⟨_, rfl⟩
    rw [hM] at HMm HR4
    clear hT hM
    unfold exV at HTm HMm
    obtain ⟨u0, u1, u2, u3, u4, u5, u6, v0, v1, v2, v3, v4, v5, v6⟩ := cells7 he5
    cases b4
    case true =>
      have hR := HR4.out
      rw [if_pos rfl] at hR
      have Hm := Lib.hid (Hi4.out rfl)
      have HR5 := Lib.hid hR
      clear hR HMm he5 hc5 HTa HVs
      obtain ⟨q0, q1, q2, q3, q4', q5, q6, p0, p1, p2, p3, p4, p5, p6⟩ := cells7 HC5.out
      have hne : w.heap.size ≠ w3.heap.size := by omega
      have hne2 : w3.heap.size ≠ w.heap.size := by omega
      go_wp2_with fail
      go_region_held3 (fun w' => w'.cell? ⟨w3.heap.size, 0, none⟩ = some (.int .i64 k) ∧ w'.cell? ⟨w3.heap.size, 1, none⟩ = some (.string t) ∧ w'.cell? ⟨w3.heap.size, 2, none⟩ = some (.string n) ∧ w'.cell? ⟨w3.heap.size, 3, none⟩ = some (.string a) ∧ w'.cell? ⟨w3.heap.size, 4, none⟩ = some (.slice A1 n1 c1) ∧ w'.cell? ⟨w3.heap.size, 5, none⟩ = some (.pointer p) ∧ w'.cell? ⟨w3.heap.size, 6, none⟩ = some (.slice A2 n2 c2))
        (first | go_keep)
        (first | (go_at_call 124; refine (HTm.out _).mono ?_; rintro e w' ⟨rfl, rfl⟩))
      have hl5 := G5.out.lt
      have G5c := Lib.hid (show Rd rb s (q4 + 1) w5 by simpa using G5.out)
      clear q0 q1 q2 q3 q4' q5 q6 p0 p1 p2 p3 p4 p5 p6 u0 u1 u2 u3 u4 u5 u6 v0 v1 v2 v3 v4 v5 v6
      go_wp2
      have hR := HR5.out
      subst hR
      refine end7w Tryz.results111 ((box_set7 HC5.out _ _ _ _ _ _ _).alloc _).drew rfl rfl rfl (got_end (((HKw.out.set7 (Nat.le_refl _) hlt _ _ _ _ _ _ _).alloc (by rw [set7_size]; omega) _).drew) (((G5c.out.set7 (by omega) _ _ _ _ _ _ _).alloc _).drew) Hm.out (by cases T <;> rfl) (fun x m h => ?_))
      cases T with
      | true => cases h
      | false =>
        cases h
        refine ⟨rfl, ExF.carry (fun b hb => ?_) _ _ HX.out⟩
        obtain ⟨hb1, hb2⟩ := hb
        have hb3 := Hs5.out.others b hb2 (by omega)
        have hb5 := Hs5.out.size
        have hb4 : b < (set7 w5 w.heap.size (.int .i64 k) (.string t) (.string n) (.string a) (.slice A1 n1 c1) (.pointer p) (.slice A2 n2 c2)).heap.size := by rw [set7_size]; omega
        exact ⟨⟨by omega, since_set7 _ hb4⟩, (heap_set7 _ (by omega) hb4).trans hb3⟩
    case false =>
      have hR := HR4.out
      rw [if_neg (by simp)] at hR
      have G5b := Lib.hid (show Rd rb s q4 w5 by simpa using G5.out)
      have hT5 := fun W h => HTa.out q4 W h hB4.2
      obtain ⟨b5, hb5⟩ : ∃ b, (isAt s q4 45 && isAt s (q4 + 1) 62) = b := ⟨_, rfl⟩
      have hi5 : b5 = true → q4 + 2 ≤ s.size := fun h => by rw [← hb5, Bool.and_eq_true] at h; have := isAt_lt h.2; omega
      rw [hb5] at hT5 hR
      have HT5 := Lib.hid hT5
      have Hi5 := Lib.hid hi5
      have HR5 := Lib.hid hR
      clear hT5 hb5 hi5 hR HTa HTm
      cases b5
      case false =>
        have hR := HR5.out
        rw [Bool.false_and, if_neg (by simp)] at hR
        subst hR
        go_wp2_with fail
        go_at_call 122
        refine (HT5.out _ G5b.out).mono ?_
        rintro e6 w6 ⟨rfl, g1, g2⟩
        have G6 := Lib.hid (show Rd rb s q4 w6 by simpa using g1)
        have hc6 := BoxAt.kp HC5.out g2 (by omega)
        have hcl6 := hc6.lt
        have HK6 := Lib.hid (HKw.out.trans g2)
        have HC6 := Lib.hid hc6
        obtain ⟨q0, q1, q2, q3, q4', q5, q6, p0, p1, p2, p3, p4, p5, p6⟩ := cells7 hc6
        clear g1 g2 hc6
        go_wp2
        exact end7w Tryz.results111 (box_set7 HC6.out _ _ _ _ _ _ _) rfl rfl rfl (got_end (HK6.out.set7 (Nat.le_refl _) hlt _ _ _ _ _ _ _) (G6.out.set7 (by omega) _ _ _ _ _ _ _) hB4.2 rfl (fun x m h => by cases h))
      have hR := HR5.out
      rw [Bool.true_and] at hR
      have hm2 := Hi5.out rfl
      have HR6 := Lib.hid hR
      clear hR
      go_wp2_with fail
      go_at_call 122
      refine (HT5.out _ G5b.out).mono ?_
      rintro e6 w6 ⟨rfl, g1, g2⟩
      have G6 := Lib.hid (show Rd rb s (q4 + 2) w6 by simpa using g1)
      have hc6 := BoxAt.kp HC5.out g2 (by omega)
      have he6 := BoxAt.kp HE5.out g2 (by omega)
      have hcl6 := hc6.lt
      have hel6 := he6.lt
      have HK6 := Lib.hid (HKw.out.trans g2)
      have Hs6 := Lib.hid (Hs5.out.trans g2)
      have HC6 := Lib.hid hc6
      have HE6 := Lib.hid he6
      clear u0 u1 u2 u3 u4 u5 u6 v0 v1 v2 v3 v4 v5 v6
      obtain ⟨u0, u1, u2, u3, u4, u5, u6, v0, v1, v2, v3, v4, v5, v6⟩ := cells7 he6
      clear g1 g2 hc6 he6
      go_wp2_with fail
      go_at_call 125
      refine (HMm.out _).mono ?_
      rintro e7 w7 ⟨rfl, hb7⟩
      have hc7 := HC6.out.later hb7
      have he7 := HE6.out.later hb7
      have hcl7 := hc7.lt
      have hel7 := he7.lt
      have G7 := Lib.hid (G6.out.later hb7)
      have HK7 := Lib.hid (HK6.out.trans (Kp.of_below hb7 (by omega)))
      have Hs7 := Lib.hid (Hs6.out.trans (Kp.of_below hb7 (by omega)))
      have HC7 := Lib.hid hc7
      have HE7 := Lib.hid he7
      clear hb7 u0 u1 u2 u3 u4 u5 u6 v0 v1 v2 v3 v4 v5 v6
      cases M
      case false =>
        have hR := HR6.out
        rw [if_neg (by simp)] at hR
        subst hR
        obtain ⟨q0, q1, q2, q3, q4', q5, q6, p0, p1, p2, p3, p4, p5, p6⟩ := cells7 hc7
        clear hc7 he7
        go_wp2
        exact end7w Tryz.results111 (box_set7 HC7.out _ _ _ _ _ _ _) rfl rfl rfl (got_end (HK7.out.set7 (Nat.le_refl _) hlt _ _ _ _ _ _ _) (G7.out.set7 (by omega) _ _ _ _ _ _ _) hm2 rfl (fun x m h => by cases h))
      have hR := HR6.out
      rw [if_pos rfl] at hR
      have hV := fun W h => HVs.out (q4 + 2) W h hm2
      obtain ⟨rv, hrv⟩ : ∃ r, selS P s (q4 + 2) = r := ⟨_, rfl⟩
      rw [hrv] at hV hR
      have HV := Lib.hid hV
      have HR7 := Lib.hid hR
      clear hc7 he7 hV hrv hR HVs
      unfold pt at HV
      go_wp2_with fail
      go_at_call 126
      refine (HV.out _ G7.out).mono ?_
      rintro e8 w8 ⟨g1, A8, n8, c8, j8, rfl, g2, hj8, g3⟩
      have hc8 := BoxAt.kp HC7.out g1 (by omega)
      have he8 := BoxAt.kp HE7.out g1 (by omega)
      have hcl8 := hc8.lt
      have hel8 := he8.lt
      have HK8 := Lib.hid (HK7.out.trans g1)
      have Hs8 := Lib.hid (Hs7.out.trans g1)
      have hs78 := Hs7.out.size
      have HC8 := Lib.hid hc8
      have HE8 := Lib.hid he8
      have G8 := Lib.hid g2
      have H8 := Lib.hid g3
      obtain ⟨q0, q1, q2, q3, q4', q5, q6, p0, p1, p2, p3, p4, p5, p6⟩ := cells7 hc8
      clear g1 g2 g3 hc8 he8
      go_wp2
      have hR := HR7.out
      refine end7w Tryz.results111 (box_set7 HC8.out _ _ _ _ _ _ _) rfl rfl rfl (got_end (HK8.out.set7 (Nat.le_refl _) hlt _ _ _ _ _ _ _) (G8.out.set7 (by omega) _ _ _ _ _ _ _) hj8 ?_ (fun x m h => ?_))
      · rw [← hR]
        cases rv with
        | none => rfl
        | some v => obtain ⟨vs, m⟩ := v; rfl
      · cases rv with
        | none => rw [← hR] at h; cases h
        | some v =>
          obtain ⟨vs, m'⟩ := v
          rw [← hR] at h
          cases h
          obtain ⟨h1, h2, h3⟩ := H8.out _ _ rfl
          have hs88 := Hs8.out.size
          refine ⟨h1, exF_sel (b := w3.heap.size) ⟨by omega, by rw [setCell7_size]; exact hel8⟩ (cells_box (t := 88) ((setCell7_heap _ _ _ _ _ _ _ _ _ w3.heap.size (by omega)).trans HE8.out)) (ExF.carry (fun b hb => ?_) _ _ HX.out) ?_⟩
          · obtain ⟨hb1, hb2⟩ := hb
            exact ⟨⟨by omega, by rw [setCell7_size]; omega⟩, (setCell7_heap _ _ _ _ _ _ _ _ _ b (by omega)).trans (Hs8.out.others b hb2 (by omega))⟩
          · rw [h2]
            refine h3.imp (fun b o => VsF.carry (fun b hb => ?_) _ _ _)
            obtain ⟨hb1, hb2⟩ := hb
            exact ⟨⟨by omega, by rw [setCell7_size]; exact hb2⟩, setCell7_heap _ _ _ _ _ _ _ _ _ b (by omega)⟩
end Go.Proofs.YtamghpleajbonaaGreatDoor
