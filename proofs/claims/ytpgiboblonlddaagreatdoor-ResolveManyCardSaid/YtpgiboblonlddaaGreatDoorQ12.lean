/-
  Several texts put together (part 12): what the law and the program call, walked; their contracts.
-/
import Derived.Test.YtpgiboblonlddaaGreatDoorQ11
import Derived.Test.YtpgiboblonlddaaGreatDoorQ7
import Derived.Test.YtpgiboblonlddaaGreatDoorQ5
import Derived.Test.YtpgiboblonlddaaGreatDoorQ8
import Derived.Lib.Join
namespace Go.Proofs.YtpgiboblonlddaaGreatDoor
open Go.RowKit
set_option linter.unusedVariables false
set_option linter.unusedSimpArgs false
theorem isAt_prefix2 (s : ByteArray) (i : Nat) (c d : UInt8) (hi : i ≤ s.size) : Lib.hasPrefix (s.extract i s.size).data.toList [c, d] = (isAt s i c && isAt s (i + 1) d) := by
  rw [extract_drop]
  unfold isAt
  by_cases h : i < s.size
  · have hl : i < s.data.toList.length := by rw [size_data]; exact h
    rw [List.drop_eq_getElem_cons hl, decide_eq_true h, Bool.true_and, at0_get _ _ hl]
    unfold Lib.hasPrefix
    rw [List.isPrefixOf]
    by_cases h2 : i + 1 < s.size
    · have hl2 : i + 1 < s.data.toList.length := by rw [size_data]; exact h2
      rw [List.drop_eq_getElem_cons hl2, decide_eq_true h2, Bool.true_and, at0_get _ _ hl2, List.isPrefixOf, List.isPrefixOf, Bool.and_true]
      rw [Bool.eq_iff_iff, Bool.and_eq_true, Bool.and_eq_true, beq_iff_eq, beq_iff_eq, beq_iff_eq, beq_iff_eq]
      exact ⟨fun ⟨a, b⟩ => ⟨a.symm, b.symm⟩, fun ⟨a, b⟩ => ⟨a.symm, b.symm⟩⟩
    · rw [List.drop_eq_nil_of_le (by rw [size_data]; omega), decide_eq_false h2]
      simp [List.isPrefixOf]
  · rw [List.drop_eq_nil_of_le (by rw [size_data]; omega), decide_eq_false h]
    rfl
set_option maxHeartbeats 2000000 in
set_option maxRecDepth 100000 in
theorem take2_any {rb : Nat} {s : ByteArray} {i : Nat} (c d : UInt8) (w : World) (hr : Rd rb s i w) (hs : s.size ≤ 4000000) (hi : i ≤ s.size) :
    Calls Tryz.prog 253 #[pt rb, .string ⟨#[c, d]⟩] w fun e w' => e = .returned (.bool (isAt s i c && isAt s (i + 1) d)) ∧ Rd rb s (if isAt s i c && isAt s (i + 1) d then i + 2 else i) w' ∧ Kp rb w w' := by
  have hx := isAt_prefix2 s i c d hi
  have hp := fun W => Tryz.strings_HasPrefix (s.extract i s.size) ⟨#[c, d]⟩ W
  rw [hx] at hp
  obtain ⟨b, hb⟩ : ∃ b, (isAt s i c && isAt s (i + 1) d) = b := ⟨_, rfl⟩
  have Hb := Lib.hid hb
  rw [hb] at hp ⊢
  have HP := Lib.hid hp
  have c0 := hr.c0
  have c1 := hr.c1
  have f0 := hr.f 0
  have f1 := hr.f 1
  have hlt := hr.lt
  have HR := Lib.hid hr
  have hi0 : (i : Int) ≤ 4000000 := by omega
  have hjs : (i : Int) ≤ (s.size : Int) := by omega
  have hss : (s.size : Int) ≤ 4000000 := by omega
  have hi1 : (0 : Int) ≤ (i : Int) := by omega
  clear hx hp hb hr
  unfold pt
  go_enter Tryz.func253, Tryz.ntmps253
  go_wp2_with fail
  go_region_held3 (fun w' => w'.cell? ⟨rb, 0, none⟩ = some (.string s) ∧ w'.cell? ⟨rb, 1, none⟩ = some (.int .i64 (i : Nat)) ∧ rb + 1 ≤ w'.heap.size ∧ Rd rb s i w' ∧ Kp rb w w')
    (first | (exact rds_later (by assumption) (by assumption)) | (exact rds_of HR.out.drew (Kp.refl _ _).drew) | go_keep)
    (first | (go_at_call 127; refine (HP.out _).mono ?_; rintro e w' ⟨rfl, rfl⟩))
  have d1 : w.drew.cell? ⟨rb, 1, none⟩ = some (.int .i64 (i : Nat)) := c1
  have g1 : w.drew.frozen? ⟨rb, 1, none⟩ = false := f1
  cases b
  · go_wp2
    go_ret
    exact ⟨rfl, HR.out.drew, (Kp.refl _ _).drew⟩
  · go_wp2
    go_ret
    exact ⟨rfl, HR.out.drew.set' (by omega), (Kp.refl _ _).drew.setCell 1 _⟩
def plS (P : Nat → Res) (s : ByteArray) (i : Nat) : Res :=
  if isAt s i 123 then
    match inlS P s (bl s (i + 1)) with
    | none => none
    | some (e, j) =>
      if isAt s (bl s j) 125 then (if termAttr e then none else some (e, bl s j + 1))
      else if isAt s (bl s j) 45 && isAt s (bl s j + 1) 62 && mayAsk e then
        match selS P s (bl s j + 2) with
        | none => none
        | some (vs, m) => some (.mk 7 E0 E0 E0 [] (some e) vs, m)
      else none
  else none
theorem placeS_succ (s : ByteArray) (r : Nat) : placeS s (r + 1) = plS (placeS s r) s := by
  funext i
  rw [placeS, plS]
  rfl
def VsTo (rb : Nat) (s : ByteArray) (d : Nat) (Q : Nat → Option (List VA × Nat)) : Prop := ∀ (i : Nat) (w : World), Rd rb s i w → i ≤ s.size → Calls Tryz.prog 257 #[pt rb, .int .i64 d] w (GotVs rb s w (Q i))
set_option maxHeartbeats 2000000 in
set_option maxRecDepth 100000 in
theorem place_deep {rb : Nat} {s : ByteArray} {d : Nat} (hd : 20 < d) (hd2 : d ≤ 4000) : WayTo rb s 241 #[pt rb, .int .i64 d] (fun _ => none) := by
  intro i w hr hi
  have HR := Lib.hid hr
  have hlt := hr.lt
  have hd0 : decide ((d : Int) > 20) = true := decide_eq_true (by omega)
  have hd1 : decide ((20 : Int) < d) = true := decide_eq_true (by omega)
  have hd3 : (20 : Int) < d := by omega
  clear hr
  unfold pt
  go_enter Tryz.func241, Tryz.ntmps241
  have hc := BoxAt.new w zE 257
  have hcl := hc.lt
  have HC := Lib.hid hc
  obtain ⟨q0, q1, q2, q3, q4, q5, q6, p0, p1, p2, p3, p4, p5, p6⟩ := cells7 hc
  go_wp2
  exact end7w Tryz.results241 HC.out rfl rfl rfl (got_end ((Kp.refl rb w).alloc (Nat.le_of_lt hlt) _) (HR.out.alloc _) hi rfl (fun x m h => by cases h))
set_option maxHeartbeats 2000000 in
set_option maxRecDepth 100000 in
theorem termsAttr_at (k : Int) (t n a : ByteArray) (A1 : Option Addr) (n1 c1 : Nat) (p : Option Addr) (A2 : Option Addr) (n2 c2 : Nat) (w : World) :
    Calls Tryz.prog 255 #[exV k t n a A1 n1 c1 p A2 n2 c2] w fun e w' => e = .returned (.bool ((k == 4) && !emp a)) ∧ w' = w.alloc (.cells #[.int .i64 k, .string t, .string n, .string a, .slice A1 n1 c1, .pointer p, .slice A2 n2 c2] 257) := by
  unfold exV emp
  cases hz : (k == 4)
  case false =>
    go_enter Tryz.func255, Tryz.ntmps255
    go_wp2
    go_ret
    exact ⟨ret_bool (by rfl), rfl⟩
  cases hg : a.toList.isEmpty
  all_goals
    go_enter Tryz.func255, Tryz.ntmps255
    go_wp2
    go_ret
    exact ⟨ret_bool (by rfl), rfl⟩
theorem since_set7 {w : World} {c b : Nat} {x0 x1 x2 x3 x4 x5 x6 : Value} (o : Obj) (h : b < (set7 w c x0 x1 x2 x3 x4 x5 x6).heap.size) : b < ((set7 w c x0 x1 x2 x3 x4 x5 x6).alloc o).drew.heap.size := by
  show b < ((set7 w c x0 x1 x2 x3 x4 x5 x6).alloc o).heap.size
  rw [World.size_alloc]
  exact Nat.lt_succ_of_lt h
theorem heap_set7 {w : World} {c b : Nat} {x0 x1 x2 x3 x4 x5 x6 : Value} (o : Obj) (hc : b ≠ c) (h : b < (set7 w c x0 x1 x2 x3 x4 x5 x6).heap.size) : ((set7 w c x0 x1 x2 x3 x4 x5 x6).alloc o).drew.heap[b]? = w.heap[b]? :=
  (Lib.alloc_old (set7 w c x0 x1 x2 x3 x4 x5 x6) o b h).trans (set7_heap _ _ _ _ _ _ _ _ _ b hc)
theorem setCell7_size (w : World) (b : Nat) (x0 x1 x2 x3 x4 x5 x6 : Value) : (((((((w.setCell ⟨b, 0, none⟩ x0).setCell ⟨b, 1, none⟩ x1).setCell ⟨b, 2, none⟩ x2).setCell ⟨b, 3, none⟩ x3).setCell ⟨b, 4, none⟩ x4).setCell ⟨b, 5, none⟩ x5).setCell ⟨b, 6, none⟩ x6).heap.size = w.heap.size := set7_size w b x0 x1 x2 x3 x4 x5 x6
theorem setCell7_heap (w : World) (b : Nat) (x0 x1 x2 x3 x4 x5 x6 : Value) (k : Nat) (hk : k ≠ b) : (((((((w.setCell ⟨b, 0, none⟩ x0).setCell ⟨b, 1, none⟩ x1).setCell ⟨b, 2, none⟩ x2).setCell ⟨b, 3, none⟩ x3).setCell ⟨b, 4, none⟩ x4).setCell ⟨b, 5, none⟩ x5).setCell ⟨b, 6, none⟩ x6).heap[k]? = w.heap[k]? := set7_heap w b x0 x1 x2 x3 x4 x5 x6 k hk
theorem exF_fields {W : World} {F : Nat → Prop} {x : EX} {k : Int} {t n a : ByteArray} {al i vs : Value} (h : ExF W F x ⟨.int .i64 k, .string t, .string n, .string a, al, i, vs⟩) :
    termAttr x = ((k == 4) && !emp a) ∧ mayAsk x = (decide (k = 0 ∨ k = 1 ∨ k = 2 ∨ k = 5) || ((k == 4) && !emp a)) := by
  obtain ⟨k', t', n', a', al', i', vs'⟩ := x
  rw [ExF] at h
  obtain ⟨h1, h2, h3, h4, _⟩ := h
  cases h1
  cases h4
  exact ⟨rfl, rfl⟩
theorem exF_sel {W : World} {F : Nat → Prop} {x : EX} {vs : List VA} {b : Nat} {c : C7} {v : Value} (hb : F b) (hc : CellsAt W b 0 c) (hx : ExF W F x c) (hv : LieAt (VsF W F vs) v vs.length) :
    ExF W F (.mk 7 E0 E0 E0 [] (some x) vs) ⟨.int .i64 7, .string E0, .string E0, .string E0, .slice none 0 0, .pointer (some ⟨b, 0, none⟩), v⟩ := by
  rw [ExF]
  refine ⟨rfl, rfl, rfl, rfl, LieN.nil _, ?_, hv⟩
  simp only [OF]
  exact ⟨b, 0, c, rfl, hb, hc, hx⟩
set_option maxHeartbeats 2000000 in
set_option maxRecDepth 100000 in
theorem place_any {rb : Nat} {s : ByteArray} {d : Nat} {P : Nat → Res} (hs : s.size ≤ 1000000) (hd : d ≤ 20) (hIn : WayTo rb s 254 #[pt rb, .int .i64 d] (inlS P s)) (hVs : VsTo rb s d (selS P s)) :
    WayTo rb s 241 #[pt rb, .int .i64 d] (plS P s) := by
  intro i w hr hi
  have HR := Lib.hid hr
  have hlt := hr.lt
  have hd0 : decide ((20 : Int) < d) = false := decide_eq_false (by omega)
  have hd1 : ¬ (20 : Int) < d := by omega
  obtain ⟨R, hRR⟩ : ∃ R, plS P s i = R := ⟨_, rfl⟩
  rw [hRR]
  unfold plS at hRR
  have hT1 := fun W (h : Rd rb s i W) => take_any 123 W h (by omega) hi
  obtain ⟨b1, hb1⟩ : ∃ b, isAt s i 123 = b := ⟨_, rfl⟩
  have hi1 : b1 = true → i + 1 ≤ s.size := fun h => isAt_lt (hb1.trans h)
  rw [hb1] at hT1 hRR
  have HT1 := Lib.hid hT1
  have HIn := Lib.hid hIn
  have HVs := Lib.hid hVs
  have HPb := Lib.hid (fun j W (h : Rd rb s j W) hj => pass_any endBlank W h (show s.size ≤ 4000000 by omega) hj)
  have HTb := Lib.hid (fun j W (h : Rd rb s j W) hj => take_any 125 W h (show s.size ≤ 4000000 by omega) hj)
  have HTa := Lib.hid (fun j W (h : Rd rb s j W) hj => take2_any 45 62 W h (show s.size ≤ 4000000 by omega) hj)
  clear hr hT1 hb1 hIn hVs
  unfold pt at HT1 HPb HTb HTa HVs HIn ⊢
  have hc0 := BoxAt.new w zE 257
  have K0 : Kp rb w (w.alloc (.cells zE 257)) := (Kp.refl rb w).alloc (Nat.le_of_lt hlt) _
  have HK0 := Lib.hid K0
  have HC0 := Lib.hid hc0
  clear hc0 K0
  cases b1
  case false =>
    rw [if_neg (by simp)] at hRR
    subst hRR
    go_enter Tryz.func241, Tryz.ntmps241
    go_wp2_with fail
    go_at_call 253
    refine (HT1.out _ (HR.out.alloc _)).mono ?_
    rintro e w1 ⟨rfl, g1, g2⟩
    have G1 := Lib.hid (show Rd rb s i w1 by simpa using g1)
    have HK := Lib.hid (HK0.out.trans g2)
    have hc := BoxAt.kp HC0.out g2 (by omega)
    have hcl := hc.lt
    have HC := Lib.hid hc
    obtain ⟨q0, q1, q2, q3, q4, q5, q6, p0, p1, p2, p3, p4, p5, p6⟩ := cells7 hc
    clear g1 g2 hc
    go_wp2
    exact end7w Tryz.results241 (box_set7 HC.out _ _ _ _ _ _ _) rfl rfl rfl (got_end (HK.out.set7 (Nat.le_refl _) hlt _ _ _ _ _ _ _) (G1.out.set7 (by omega) _ _ _ _ _ _ _) hi rfl (fun x m h => by cases h))
  have hi2 := hi1 rfl
  rw [if_pos rfl] at hRR
  have hB := bl_ok s (i + 1) hi2
  have hP1 := fun W h => HPb.out (i + 1) W h hi2
  obtain ⟨q, hq⟩ : ∃ q, bl s (i + 1) = q := ⟨_, rfl⟩
  rw [hq] at hB hRR
  have hP2 : ∀ W, Rd rb s (i + 1) W → Calls Tryz.prog 218 #[.pointer (some ⟨rb, 0, none⟩), .func (.func 196) #[] #[]] W fun e w' => e = .returned (.string (s.extract (i + 1) q)) ∧ Rd rb s q w' ∧ Kp rb W w' := by
    rw [← hq]; exact hP1
  have HP1 := Lib.hid hP2
  have hI := fun W h => HIn.out q W h hB.2
  obtain ⟨r, hrr⟩ : ∃ r, inlS P s q = r := ⟨_, rfl⟩
  rw [hrr] at hI hRR
  have HI := Lib.hid hI
  have HRR := Lib.hid hRR
  clear hi1 hP1 hP2 hI hrr hRR hq HIn
  go_enter Tryz.func241, Tryz.ntmps241
  go_wp2_with fail
  go_at_call 253
  refine (HT1.out _ (HR.out.alloc _)).mono ?_
  rintro e w1 ⟨rfl, g1, g2⟩
  have G1 := Lib.hid (show Rd rb s (i + 1) w1 by simpa using g1)
  have HK1 := Lib.hid (show Kp rb (w.alloc (.cells zE 257)) w1 from g2)
  clear g1 g2
  go_wp2_with fail
  go_at_call 218
  refine (HP1.out _ G1.out).mono ?_
  rintro e w2 ⟨rfl, g1, g2⟩
  have G2 := Lib.hid g1
  have HK2 := Lib.hid (HK1.out.trans g2)
  have hs20 := HK2.out.size
  rw [World.size_alloc] at hs20
  clear g1 g2
  go_wp2_with fail
  go_at_call 254
  refine (HI.out _ G2.out).mono ?_
  rintro e w3 ⟨h1, k, t, n, a, A1, n1, c1, p, A2, n2, c2, j, rfl, h2, hj, h3⟩
  have hs3 := h1.size
  have HK3 := Lib.hid (HK2.out.trans h1)
  have H2 := Lib.hid h2
  have H3 := Lib.hid h3
  have hl3 := h2.lt
  have hs30 := HK3.out.size
  rw [World.size_alloc] at hs30
  clear h1 h2 h3
  unfold exV
  cases r with
  | none =>
    have hR := HRR.out
    dsimp only at hR
    subst hR
    have hc := BoxAt.kp HC0.out HK3.out (by omega)
    have hcl := hc.lt
    have HC := Lib.hid hc
    obtain ⟨q0, q1, q2, q3, q4, q5, q6, p0, p1, p2, p3, p4, p5, p6⟩ := cells7 hc
    have HKE := Lib.hid (HK0.out.trans HK3.out)
    clear hc HPb HTb HTa HVs HP1 HT1 HI HK0 HK1 HK2 HK3 G1 G2 H3 HRR
    go_wp2
    exact end7w Tryz.results241 ((box_set7 HC.out _ _ _ _ _ _ _).alloc _) rfl rfl rfl (got_end ((HKE.out.set7 (Nat.le_refl _) hlt _ _ _ _ _ _ _).alloc (by rw [set7_size]; omega) _) ((H2.out.set7 (by omega) _ _ _ _ _ _ _).alloc _) hj rfl (fun x m h => by cases h))
  | some em =>
    obtain ⟨e, j'⟩ := em
    obtain ⟨rfl, hx⟩ := H3.out e j' rfl
    have hR := HRR.out
    dsimp only at hR
    obtain ⟨hf1, hf2⟩ := exF_fields hx
    rw [hf1, hf2] at hR
    have HX := Lib.hid hx
    have hB4 := bl_ok s j' hj
    have hP4 := fun W h => HPb.out j' W h hj
    obtain ⟨q4, hq4⟩ : ∃ q, bl s j' = q := ⟨_, rfl⟩
    have hP4' : ∀ W, Rd rb s j' W → Calls Tryz.prog 218 #[.pointer (some ⟨rb, 0, none⟩), .func (.func 196) #[] #[]] W fun e w' => e = .returned (.string (s.extract j' q4)) ∧ Rd rb s q4 w' ∧ Kp rb W w' := by
      rw [← hq4]; exact hP4
    rw [hq4] at hB4 hR
    have hT4 := fun W h => HTb.out q4 W h hB4.2
    obtain ⟨b4, hb4⟩ : ∃ b, isAt s q4 125 = b := ⟨_, rfl⟩
    have hi4 : b4 = true → q4 + 1 ≤ s.size := fun h => isAt_lt (hb4.trans h)
    rw [hb4] at hT4 hR
    have HP4 := Lib.hid hP4'
    have HT4 := Lib.hid hT4
    have Hi4 := Lib.hid hi4
    have HR4 := Lib.hid hR
    have HEb := Lib.hid (BoxAt.new w3 #[.int .i64 k, .string t, .string n, .string a, .slice A1 n1 c1, .pointer p, .slice A2 n2 c2] 257)
    have KE : Kp rb w3 (w3.alloc (.cells #[.int .i64 k, .string t, .string n, .string a, .slice A1 n1 c1, .pointer p, .slice A2 n2 c2] 257)) := (Kp.refl rb w3).alloc (Nat.le_of_lt hl3) _
    have HKe := Lib.hid (HK3.out.trans KE)
    have HKE := Lib.hid KE
    clear hx hR hf1 hf2 hP4 hP4' hq4 hT4 hb4 hi4 HRR HPb HTb HT1 HP1 HI KE
    go_wp2_with fail
    go_at_call 218
    refine (HP4.out _ (H2.out.alloc _)).mono ?_
    rintro e4 w4 ⟨rfl, g1, g2⟩
    have G4 := Lib.hid g1
    have HK4 := Lib.hid g2
    clear g1 g2
    go_wp2_with fail
    go_at_call 253
    refine (HT4.out _ G4.out).mono ?_
    rintro e5 w5 ⟨rfl, g1, g2⟩
    have G5 := Lib.hid g1
    have K5 := HK4.out.trans g2
    have HK5 := Lib.hid K5
    have hK := HKe.out.trans K5
    have hKw := HK0.out.trans hK
    have he5 := BoxAt.kp HEb.out K5 (by omega)
    have hc5 := BoxAt.kp HC0.out hK (by omega)
    have hel := he5.lt
    have hcl := hc5.lt
    have HC5 := Lib.hid hc5
    have HE5 := Lib.hid he5
    have HKw := Lib.hid hKw
    have Hs5 := Lib.hid (HKE.out.trans K5)
    clear g1 g2 K5 hK hKw HK4 HKe HT4 HP4
    obtain ⟨T, hT⟩ : ∃ T, ((k == 4) && !emp a) = T := ⟨_, rfl⟩
    have HTm := Lib.hid (fun W => termsAttr_at k t n a A1 n1 c1 p A2 n2 c2 W)
    have HMm := Lib.hid (fun W => mayAsk_any k t n a A1 n1 c1 p A2 n2 c2 W)
    rw [hT] at HTm HMm HR4
    obtain ⟨M, hM⟩ : ∃ M, (decide (k = 0 ∨ k = 1 ∨ k = 2 ∨ k = 5) || T) = M := ⟨_, rfl⟩
    rw [hM] at HMm HR4
    clear hT hM
    unfold exV at HTm HMm
    obtain ⟨u0, u1, u2, u3, u4, u5, u6, v0, v1, v2, v3, v4, v5, v6⟩ := cells7 he5
    cases b4
    case true =>
      have hR := HR4.out
      rw [if_pos rfl] at hR
      have Hm := Lib.hid (Hi4.out rfl)
      have HR5 := Lib.hid hR
      clear hR HMm he5 hc5 HTa HVs
      obtain ⟨q0, q1, q2, q3, q4', q5, q6, p0, p1, p2, p3, p4, p5, p6⟩ := cells7 HC5.out
      have hne : w.heap.size ≠ w3.heap.size := by omega
      have hne2 : w3.heap.size ≠ w.heap.size := by omega
      go_wp2_with fail
      go_region_held3 (fun w' => w'.cell? ⟨w3.heap.size, 0, none⟩ = some (.int .i64 k) ∧ w'.cell? ⟨w3.heap.size, 1, none⟩ = some (.string t) ∧ w'.cell? ⟨w3.heap.size, 2, none⟩ = some (.string n) ∧ w'.cell? ⟨w3.heap.size, 3, none⟩ = some (.string a) ∧ w'.cell? ⟨w3.heap.size, 4, none⟩ = some (.slice A1 n1 c1) ∧ w'.cell? ⟨w3.heap.size, 5, none⟩ = some (.pointer p) ∧ w'.cell? ⟨w3.heap.size, 6, none⟩ = some (.slice A2 n2 c2))
        (first | go_keep)
        (first | (go_at_call 255; refine (HTm.out _).mono ?_; rintro e w' ⟨rfl, rfl⟩))
      have hl5 := G5.out.lt
      have G5c := Lib.hid (show Rd rb s (q4 + 1) w5 by simpa using G5.out)
      clear q0 q1 q2 q3 q4' q5 q6 p0 p1 p2 p3 p4 p5 p6 u0 u1 u2 u3 u4 u5 u6 v0 v1 v2 v3 v4 v5 v6
      go_wp2
      have hR := HR5.out
      subst hR
      refine end7w Tryz.results241 ((box_set7 HC5.out _ _ _ _ _ _ _).alloc _).drew rfl rfl rfl (got_end (((HKw.out.set7 (Nat.le_refl _) hlt _ _ _ _ _ _ _).alloc (by rw [set7_size]; omega) _).drew) (((G5c.out.set7 (by omega) _ _ _ _ _ _ _).alloc _).drew) Hm.out (by cases T <;> rfl) (fun x m h => ?_))
      cases T with
      | true => cases h
      | false =>
        cases h
        refine ⟨rfl, ExF.carry (fun b hb => ?_) _ _ HX.out⟩
        obtain ⟨hb1, hb2⟩ := hb
        have hb3 := Hs5.out.others b hb2 (by omega)
        have hb5 := Hs5.out.size
        have hb4 : b < (set7 w5 w.heap.size (.int .i64 k) (.string t) (.string n) (.string a) (.slice A1 n1 c1) (.pointer p) (.slice A2 n2 c2)).heap.size := by rw [set7_size]; omega
        exact ⟨⟨by omega, since_set7 _ hb4⟩, (heap_set7 _ (by omega) hb4).trans hb3⟩
    case false =>
      have hR := HR4.out
      rw [if_neg (by simp)] at hR
      have G5b := Lib.hid (show Rd rb s q4 w5 by simpa using G5.out)
      have hT5 := fun W h => HTa.out q4 W h hB4.2
      obtain ⟨b5, hb5⟩ : ∃ b, (isAt s q4 45 && isAt s (q4 + 1) 62) = b := ⟨_, rfl⟩
      have hi5 : b5 = true → q4 + 2 ≤ s.size := fun h => by rw [← hb5, Bool.and_eq_true] at h; have := isAt_lt h.2; omega
      rw [hb5] at hT5 hR
      have HT5 := Lib.hid hT5
      have Hi5 := Lib.hid hi5
      have HR5 := Lib.hid hR
      clear hT5 hb5 hi5 hR HTa HTm
      cases b5
      case false =>
        have hR := HR5.out
        rw [Bool.false_and, if_neg (by simp)] at hR
        subst hR
        go_wp2_with fail
        go_at_call 253
        refine (HT5.out _ G5b.out).mono ?_
        rintro e6 w6 ⟨rfl, g1, g2⟩
        have G6 := Lib.hid (show Rd rb s q4 w6 by simpa using g1)
        have hc6 := BoxAt.kp HC5.out g2 (by omega)
        have hcl6 := hc6.lt
        have HK6 := Lib.hid (HKw.out.trans g2)
        have HC6 := Lib.hid hc6
        obtain ⟨q0, q1, q2, q3, q4', q5, q6, p0, p1, p2, p3, p4, p5, p6⟩ := cells7 hc6
        clear g1 g2 hc6
        go_wp2
        exact end7w Tryz.results241 (box_set7 HC6.out _ _ _ _ _ _ _) rfl rfl rfl (got_end (HK6.out.set7 (Nat.le_refl _) hlt _ _ _ _ _ _ _) (G6.out.set7 (by omega) _ _ _ _ _ _ _) hB4.2 rfl (fun x m h => by cases h))
      have hR := HR5.out
      rw [Bool.true_and] at hR
      have hm2 := Hi5.out rfl
      have HR6 := Lib.hid hR
      clear hR
      go_wp2_with fail
      go_at_call 253
      refine (HT5.out _ G5b.out).mono ?_
      rintro e6 w6 ⟨rfl, g1, g2⟩
      have G6 := Lib.hid (show Rd rb s (q4 + 2) w6 by simpa using g1)
      have hc6 := BoxAt.kp HC5.out g2 (by omega)
      have he6 := BoxAt.kp HE5.out g2 (by omega)
      have hcl6 := hc6.lt
      have hel6 := he6.lt
      have HK6 := Lib.hid (HKw.out.trans g2)
      have Hs6 := Lib.hid (Hs5.out.trans g2)
      have HC6 := Lib.hid hc6
      have HE6 := Lib.hid he6
      clear u0 u1 u2 u3 u4 u5 u6 v0 v1 v2 v3 v4 v5 v6
      obtain ⟨u0, u1, u2, u3, u4, u5, u6, v0, v1, v2, v3, v4, v5, v6⟩ := cells7 he6
      clear g1 g2 hc6 he6
      go_wp2_with fail
      go_at_call 256
      refine (HMm.out _).mono ?_
      rintro e7 w7 ⟨rfl, hb7⟩
      have hc7 := HC6.out.later hb7
      have he7 := HE6.out.later hb7
      have hcl7 := hc7.lt
      have hel7 := he7.lt
      have G7 := Lib.hid (G6.out.later hb7)
      have HK7 := Lib.hid (HK6.out.trans (Kp.of_below hb7 (by omega)))
      have Hs7 := Lib.hid (Hs6.out.trans (Kp.of_below hb7 (by omega)))
      have HC7 := Lib.hid hc7
      have HE7 := Lib.hid he7
      clear hb7 u0 u1 u2 u3 u4 u5 u6 v0 v1 v2 v3 v4 v5 v6
      cases M
      case false =>
        have hR := HR6.out
        rw [if_neg (by simp)] at hR
        subst hR
        obtain ⟨q0, q1, q2, q3, q4', q5, q6, p0, p1, p2, p3, p4, p5, p6⟩ := cells7 hc7
        clear hc7 he7
        go_wp2
        exact end7w Tryz.results241 (box_set7 HC7.out _ _ _ _ _ _ _) rfl rfl rfl (got_end (HK7.out.set7 (Nat.le_refl _) hlt _ _ _ _ _ _ _) (G7.out.set7 (by omega) _ _ _ _ _ _ _) hm2 rfl (fun x m h => by cases h))
      have hR := HR6.out
      rw [if_pos rfl] at hR
      have hV := fun W h => HVs.out (q4 + 2) W h hm2
      obtain ⟨rv, hrv⟩ : ∃ r, selS P s (q4 + 2) = r := ⟨_, rfl⟩
      rw [hrv] at hV hR
      have HV := Lib.hid hV
      have HR7 := Lib.hid hR
      clear hc7 he7 hV hrv hR HVs
      unfold pt at HV
      go_wp2_with fail
      go_at_call 257
      refine (HV.out _ G7.out).mono ?_
      rintro e8 w8 ⟨g1, A8, n8, c8, j8, rfl, g2, hj8, g3⟩
      have hc8 := BoxAt.kp HC7.out g1 (by omega)
      have he8 := BoxAt.kp HE7.out g1 (by omega)
      have hcl8 := hc8.lt
      have hel8 := he8.lt
      have HK8 := Lib.hid (HK7.out.trans g1)
      have Hs8 := Lib.hid (Hs7.out.trans g1)
      have hs78 := Hs7.out.size
      have HC8 := Lib.hid hc8
      have HE8 := Lib.hid he8
      have G8 := Lib.hid g2
      have H8 := Lib.hid g3
      obtain ⟨q0, q1, q2, q3, q4', q5, q6, p0, p1, p2, p3, p4, p5, p6⟩ := cells7 hc8
      clear g1 g2 g3 hc8 he8
      go_wp2
      have hR := HR7.out
      refine end7w Tryz.results241 (box_set7 HC8.out _ _ _ _ _ _ _) rfl rfl rfl (got_end (HK8.out.set7 (Nat.le_refl _) hlt _ _ _ _ _ _ _) (G8.out.set7 (by omega) _ _ _ _ _ _ _) hj8 ?_ (fun x m h => ?_))
      · rw [← hR]
        cases rv with
        | none => rfl
        | some v => obtain ⟨vs, m⟩ := v; rfl
      · cases rv with
        | none => rw [← hR] at h; cases h
        | some v =>
          obtain ⟨vs, m'⟩ := v
          rw [← hR] at h
          cases h
          obtain ⟨h1, h2, h3⟩ := H8.out _ _ rfl
          have hs88 := Hs8.out.size
          refine ⟨h1, exF_sel (b := w3.heap.size) ⟨by omega, by rw [setCell7_size]; exact hel8⟩ (cells_box (t := 257) ((setCell7_heap _ _ _ _ _ _ _ _ _ w3.heap.size (by omega)).trans HE8.out)) (ExF.carry (fun b hb => ?_) _ _ HX.out) ?_⟩
          · obtain ⟨hb1, hb2⟩ := hb
            exact ⟨⟨by omega, by rw [setCell7_size]; omega⟩, (setCell7_heap _ _ _ _ _ _ _ _ _ b (by omega)).trans (Hs8.out.others b hb2 (by omega))⟩
          · rw [h2]
            refine h3.imp (fun b o => VsF.carry (fun b hb => ?_) _ _ _)
            obtain ⟨hb1, hb2⟩ := hb
            exact ⟨⟨by omega, by rw [setCell7_size]; exact hb2⟩, setCell7_heap _ _ _ _ _ _ _ _ _ b (by omega)⟩
end Go.Proofs.YtpgiboblonlddaaGreatDoor

namespace Go.Proofs.YtpgiboblonlddaaGreatDoor
open Go.RowKit
set_option linter.unusedVariables false
set_option linter.unusedSimpArgs false
def li (s : ByteArray) (i : Nat) : Nat := behN nlB s.data.toList i
def beh (s : ByteArray) (i : Nat) : Nat := if li s i < s.size then li s i + 1 else s.size
theorem li_ok (s : ByteArray) (i : Nat) (hi : i ≤ s.size) : i ≤ li s i ∧ li s i ≤ s.size := ⟨behN_ge _ _ _, by have := behN_le nlB s.data.toList i (by rw [size_data]; exact hi); rw [size_data] at this; exact this⟩
theorem beh_ok (s : ByteArray) (i : Nat) (hi : i ≤ s.size) : i ≤ beh s i ∧ beh s i ≤ s.size ∧ (i < s.size → i < beh s i) := by
  have := li_ok s i hi
  unfold beh
  split <;> omega
def passE (s : ByteArray) (i : Nat) : Nat :=
  if h : i < s.size then
    if sp s i < s.size ∧ isAt s (sp s i) 10 = false then i
    else if h2 : i < beh s (sp s i) then passE s (beh s (sp s i)) else i
  else i
termination_by s.size - i
decreasing_by omega
def mayB (s : ByteArray) (i : Nat) : Bool := isAt s i 35 || isAt s i 45 || decide (i < nm s i)
def junkTo (s : ByteArray) (i : Nat) : Nat :=
  if h : i < s.size ∧ mayB s i = false then
    if h2 : i < beh s i then junkTo s (beh s i) else i
  else i
termination_by s.size - i
decreasing_by omega
def namedS (s : ByteArray) (i : Nat) : Option (ByteArray × List EL × Nat) :=
  if nm s i = i then none
  else if isAt s (sp s (nm s i)) 61 then
    match patS (placeS s 20) s (sp s (nm s i) + 1) with
    | none => none
    | some (l, e) => if e = s.size ∨ isAt s e 10 = true then some (s.extract i (nm s i), l, e) else none
  else none
def attrS (s : ByteArray) (i : Nat) : Option (ByteArray × List EL × Nat) :=
  if isAt s (bl s i) 46 && (at0 s.data.toList (bl s i - 1) == 32) then
    match namedS s (bl s i + 1) with
    | none => none
    | some (x, l, e) => if l.isEmpty then none else some (x, l, e)
  else none
def atsS (s : ByteArray) (acc : List AT) (i : Nat) : List AT × Nat :=
  match attrS s i with
  | none => (acc, i)
  | some (x, l, e) => if h : i < e ∧ e ≤ s.size then atsS s (acc ++ [.mk x l]) e else (acc, i)
termination_by s.size - i
decreasing_by omega
structure EN where
  ty : Int
  lv : Int
  tx : ByteArray
  nm : ByteArray
  val : List EL
  ats : List AT
  fr : Nat
  tu : Nat
def msgS (s : ByteArray) (i : Nat) : Option EN :=
  match namedS s (if isAt s i 45 then i + 1 else i) with
  | none => none
  | some (x, l, e) =>
    if !l.isEmpty || (!isAt s i 45 && !(atsS s [] e).1.isEmpty) then some ⟨if isAt s i 45 then 2 else 1, 0, E0, x, l, (atsS s [] e).1, i, beh s (atsS s [] e).2⟩ else none
def junkS (s : ByteArray) (i : Nat) : EN := ⟨3, 0, s.extract i (junkTo s (beh s i)), E0, [], [], i, junkTo s (beh s i)⟩
end Go.Proofs.YtpgiboblonlddaaGreatDoor

namespace Go.Proofs.YtpgiboblonlddaaGreatDoor
open Go.RowKit Go.ChangeMaps
set_option linter.unusedVariables false
set_option linter.unusedSimpArgs false
structure VE where
  x : EN
  A : Option Addr
  c : Nat
  B : Option Addr
  d : Nat
def VE.v (e : VE) : Value := .agg #[.int .i64 e.x.ty, .int .i64 e.x.lv, .string e.x.tx, .string e.x.nm, .slice e.A e.x.val.length e.c, .slice e.B e.x.ats.length e.d, .int .i64 e.x.fr, .int .i64 e.x.tu]
def entM (p : VE × Nat) : MapEntry := { key := .string p.1.x.nm, val := p.1.v, born := p.2 }
def mapOf (L : List VE) : Array MapEntry := (L.zipIdx.map entM).toArray
def putL (over : Bool) (e : VE) : List VE → List VE × Bool
  | [] => ([e], false)
  | y :: r => if y.x.nm = e.x.nm then ((if over then e else y) :: r, true) else (y :: (putL over e r).1, (putL over e r).2)
theorem find_put (over : Bool) (e : VE) : ∀ (L : List VE) (j : Nat), ∃ r, Instr.findNow .string (.string e.x.nm) ((L.zipIdx j).map entM) j = some r ∧
    (r = none → putL over e L = (L ++ [e], false)) ∧ (∀ i v, r = some (i, v) → j ≤ i ∧ ∃ y, L[i - j]? = some y ∧ y.x.nm = e.x.nm ∧ v = y.v ∧ putL over e L = (if over then L.set (i - j) e else L, true))
  | [], j => ⟨none, rfl, fun _ => rfl, fun i v h => by cases h⟩
  | y :: L, j => by
    have e0 : Instr.findNow .string (.string e.x.nm) (((y :: L).zipIdx j).map entM) j = (match (some (e.x.nm == y.x.nm) : Option Bool) with | some true => some (some (j, y.v)) | some false => Instr.findNow .string (.string e.x.nm) ((L.zipIdx (j + 1)).map entM) (j + 1) | none => none) := by
      rw [List.zipIdx_cons, List.map_cons]
      rfl
    rw [e0]
    cases hb : (e.x.nm == y.x.nm) with
    | true =>
      have hn : y.x.nm = e.x.nm := (beqT.1 hb).symm
      refine ⟨some (j, y.v), rfl, (fun h => by cases h), fun i v h => ?_⟩
      cases h
      refine ⟨Nat.le_refl _, y, by simp, hn, rfl, ?_⟩
      rw [putL, if_pos hn, Nat.sub_self]
      cases over <;> rfl
    | false =>
      have hn : ¬ y.x.nm = e.x.nm := fun h => by rw [beqT.2 h.symm] at hb; cases hb
      obtain ⟨r, h1, h2, h3⟩ := find_put over e L (j + 1)
      refine ⟨r, h1, fun hr => ?_, fun i v hr => ?_⟩
      · rw [putL, if_neg hn, h2 hr]
        rfl
      · obtain ⟨h4, z, h5, h6, h7, h8⟩ := h3 i v hr
        refine ⟨by omega, z, ?_, h6, h7, ?_⟩
        · rw [show i - j = (i - (j + 1)) + 1 by omega, List.getElem?_cons_succ]
          exact h5
        · rw [putL, if_neg hn, h8, show i - j = (i - (j + 1)) + 1 by omega]
          cases over <;> rfl
theorem mapOf_push (L : List VE) (e : VE) : (mapOf L).push { key := .string e.x.nm, val := e.v, born := L.length } = mapOf (L ++ [e]) := by
  unfold mapOf
  rw [List.zipIdx_append, List.map_append]
  apply Array.toList_inj.1
  simp [entM]
theorem zip_set : ∀ (L : List VE) (i j : Nat) (e : VE), ((L.set i e).zipIdx j) = (L.zipIdx j).modify i (fun p => (e, p.2))
  | [], i, j, e => by cases i <;> rfl
  | y :: L, 0, j, e => by rw [List.set_cons_zero, List.zipIdx_cons, List.zipIdx_cons]; rfl
  | y :: L, i + 1, j, e => by
    rw [List.set_cons_succ, List.zipIdx_cons, List.zipIdx_cons, zip_set L i (j + 1) e]
    rfl
theorem mapOf_set (L : List VE) (i : Nat) (e : VE) : (mapOf L).modify i (fun y => { y with key := .string e.x.nm, val := e.v }) = mapOf (L.set i e) := by
  unfold mapOf
  apply Array.toList_inj.1
  rw [zip_set, Array.toList_modify]
  apply List.ext_getElem?
  intro k
  simp only [List.getElem?_modify, List.getElem?_map]
  by_cases h : i = k
  · subst h
    cases (L.zipIdx)[i]? <;> simp [entM]
  · simp [h]
theorem mapOf_get {L : List VE} {i : Nat} {y : VE} (h : L[i]? = some y) : (mapOf L)[i]? = some (entM (y, i)) := by
  unfold mapOf
  rw [List.getElem?_toArray, List.getElem?_map, List.getElem?_zipIdx, h]
  simp
theorem put_all (mb : Nat) (L : List VE) (e : VE) (over : Bool) (w : World) (hm : MapAt w mb (mapOf L) L.length) :
    Calls Tryz.prog 43 #[.map (some mb), e.v, .bool over] w fun e' w' => e' = .returned (.bool (putL over e L).2) ∧ MapAt w' mb (mapOf (putL over e L).1) (putL over e L).1.length ∧ Kp mb w w' := by
  obtain ⟨r, h1, h2, h3⟩ := find_put over e L 0
  have h1' : Instr.findNow .string (.string e.x.nm) (mapOf L).toList 0 = some r := h1
  have hl := hm.lt
  cases r with
  | none =>
    rw [h2 rfl]
    refine (put_new mb L.length (mapOf L) e.x.nm _ _ _ _ _ _ _ over w hm h1').mono ?_
    rintro e' w' ⟨rfl, g1, g2⟩
    refine ⟨rfl, ?_, g2⟩
    rw [List.length_append, ← mapOf_push]
    exact g1
  | some p =>
    obtain ⟨i, v⟩ := p
    obtain ⟨h4, y, h5, h6, rfl, h7⟩ := h3 i v rfl
    rw [Nat.sub_zero] at h5 h7
    rw [h7]
    cases over with
    | false =>
      refine (put_kept mb L.length i (mapOf L) e.x.nm _ _ _ _ _ _ _ _ _ _ _ _ _ _ _ _ _ _ _ w hm h1').mono ?_
      rintro e' w' ⟨rfl, g1, g2⟩
      exact ⟨rfl, g1, Kp.of_below g2 (Nat.le_of_lt hl)⟩
    | true =>
      refine (put_over mb L.length i (mapOf L) e.x.nm _ _ _ _ _ _ _ _ _ _ _ _ _ _ _ _ _ _ _ (entM (y, i)) w hm h1' (mapOf_get h5) (by unfold entM; rw [h6])).mono ?_
      rintro e' w' ⟨rfl, g1, g2⟩
      refine ⟨rfl, ?_, g2⟩
      simp only [if_true]
      rw [List.length_set, ← mapOf_set]
      exact g1
end Go.Proofs.YtpgiboblonlddaaGreatDoor

namespace Go.Proofs.YtpgiboblonlddaaGreatDoor
open Go.RowKit
set_option linter.unusedVariables false
set_option linter.unusedSimpArgs false
def hsB (c : UInt8) : Bool := c == 35
def hs (s : ByteArray) (i : Nat) : Nat := behN hsB s.data.toList i
def comL (s : ByteArray) (i : Nat) : Nat × ByteArray :=
  if 3 < hs s i - i ∨ (hs s i < li s i ∧ isAt s (hs s i) 32 = false) then (0, E0)
  else (hs s i - i, if hs s i < li s i then s.extract (hs s i + 1) (li s i) else E0)
def comGo (s : ByteArray) (lv : Nat) (acc : List ByteArray) (k : Nat) (w : ByteArray) : List ByteArray × Nat :=
  if h : (comL s (beh s k)).1 = lv ∧ k < beh s k ∧ beh s k ≤ s.size then comGo s lv (acc ++ [w]) (beh s k) (comL s (beh s k)).2
  else (acc ++ [w], beh s k)
termination_by s.size - k
decreasing_by omega
def comS (s : ByteArray) (i : Nat) : Option EN :=
  if (comL s i).1 = 0 then none
  else some ⟨0, (comL s i).1, mkB (Lib.join ((comGo s (comL s i).1 [] i (comL s i).2).1.map (·.data.toList)) [10]), E0, [], [], i, (comGo s (comL s i).1 [] i (comL s i).2).2⟩
def readS (s : ByteArray) (i : Nat) : EN := match comS s i with
  | some x => x
  | none => match msgS s i with
    | some x => x
    | none => junkS s i
def parseGo (s : ByteArray) (acc : List EN) (i : Nat) : List EN :=
  if h : i < s.size ∧ i < passE s (readS s i).tu then parseGo s (acc ++ [readS s i]) (passE s (readS s i).tu) else acc
termination_by s.size - i
decreasing_by omega
def parseS (s : ByteArray) : List EN := parseGo s [] (passE s 0)
end Go.Proofs.YtpgiboblonlddaaGreatDoor

namespace Go.Proofs.YtpgiboblonlddaaGreatDoor
open Go.RowKit
set_option linter.unusedVariables false
set_option linter.unusedSimpArgs false
theorem line_nat (s : ByteArray) (i : Nat) (hs : s.size ≤ 4000000) (hi : i ≤ s.size) (w : World) : Calls Tryz.prog 136 #[.string s, .int .i64 i] w fun e w' => e = .returned (.int .i64 (li s i : Nat)) ∧ w = w' := by
  have h := line_any s (i : Int) w (by omega)
  have e : lineI s.data.toList (i : Int) = (li s i : Nat) := by
    unfold lineI li
    by_cases hl : i < s.size
    · rw [if_pos ⟨by omega, by rw [size_data]; omega⟩, Int.toNat_natCast]
    · rw [if_neg (by rw [size_data]; omega)]
      have := behN_end nlB s.data.toList i (by rw [size_data]; omega)
      rw [this]
  rw [e] at h
  exact h
set_option maxHeartbeats 1000000 in
theorem behind_any (s : ByteArray) (i : Nat) (hs : s.size ≤ 4000000) (hi : i ≤ s.size) (w : World) : Calls Tryz.prog 99 #[.string s, .int .i64 i] w fun e w' => e = .returned (.int .i64 (beh s i : Nat)) ∧ w = w' := by
  have hL := fun W => line_nat s i hs hi W
  have hok := li_ok s i hi
  obtain ⟨l, hl⟩ : ∃ l, li s i = l := ⟨_, rfl⟩
  unfold beh
  rw [hl] at hL hok ⊢
  have HL := Lib.hid hL
  have hl0 : (l : Int) ≤ 4000000 := by omega
  clear hL hl
  by_cases h : l < s.size
  · rw [if_pos h]
    have h1 : ((l : Int) + 1) ≤ (s.size : Int) := by omega
    have h2 : min ((l : Int) + 1) (s.size : Int) = (l : Int) + 1 := by omega
    go_enter Tryz.func99, Tryz.ntmps99
    go_wp2_with fail
    go_at_call 136
    refine (HL.out _).mono ?_
    rintro e w' ⟨rfl, rfl⟩
    go_wp2
    go_ret
    exact ⟨by go_num, rfl⟩
  · rw [if_neg h]
    have h0 : l = s.size := by omega
    have h1 : ¬ ((l : Int) + 1) ≤ (s.size : Int) := by omega
    have h2 : min ((l : Int) + 1) (s.size : Int) = (s.size : Int) := by omega
    clear h0
    go_enter Tryz.func99, Tryz.ntmps99
    go_wp2_with fail
    go_at_call 136
    refine (HL.out _).mono ?_
    rintro e w' ⟨rfl, rfl⟩
    go_wp2
    go_ret
    exact ⟨rfl, rfl⟩
theorem isAt_get (s : ByteArray) (q : Nat) (hc : q < s.size) (c : UInt8) : isAt s q c = ((s[q]'hc).toNat == c.toNat) := by
  unfold isAt at0
  rw [decide_eq_true hc, Bool.true_and, List.getD_eq_getElem?_getD, List.getElem?_eq_getElem (by rw [size_data]; exact hc), Option.getD_some, Bool.eq_iff_iff, beq_iff_eq, beq_iff_eq]
  exact ⟨fun h => by rw [show (s.data.toList[q]'(by rw [size_data]; exact hc)) = s[q]'hc from rfl] at h; rw [h], fun h => UInt8.toNat_inj.1 h⟩
theorem passE_go (s : ByteArray) (i : Nat) (hi : i < s.size) (h : ¬ (sp s i < s.size ∧ isAt s (sp s i) 10 = false)) : passE s i = passE s (beh s (sp s i)) ∧ i < beh s (sp s i) ∧ beh s (sp s i) ≤ s.size := by
  have h1 : i ≤ sp s i := sp_ge s i
  have h2 : sp s i ≤ s.size := by have := behN_le spB s.data.toList i (by rw [size_data]; omega); rw [size_data] at this; exact this
  have h3 := beh_ok s (sp s i) h2
  have h4 : i < beh s (sp s i) := by
    by_cases hl : sp s i < s.size
    · have := h3.2.2 hl; omega
    · unfold beh
      have := li_ok s (sp s i) h2
      rw [if_neg (by omega)]
      exact hi
  refine ⟨?_, h4, h3.2.1⟩
  rw [passE, dif_pos hi, if_neg h, dif_pos h4]
set_option maxHeartbeats 2000000 in
set_option maxRecDepth 100000 in
theorem passEmpty_any (s : ByteArray) (i : Nat) (hs : s.size ≤ 4000000) (hi : i ≤ s.size) (w : World) : Calls Tryz.prog 66 #[.string s, .int .i64 i] w fun e w' => e = .returned (.int .i64 (passE s i : Nat)) ∧ Below w.heap.size w w' := by
  have HS := Lib.hid (fun j W (hj : j ≤ s.size) => ((endSpaces (s := s)).2 j W hs hj).2.2)
  have HB := Lib.hid (fun j W (hj : j ≤ s.size) => behind_any s j hs hj W)
  obtain ⟨R, hR⟩ : ∃ R, passE s i = R := ⟨_, rfl⟩
  rw [hR]
  have HR := Lib.hid hR
  clear hR
  go_enter Tryz.func66, Tryz.ntmps66
  go_wp2
  go_loopw [1] (fun t1 wr => ∃ j : Nat, t1 = .int .i64 j ∧ j ≤ s.size ∧ Hid (passE s j = R) ∧ Hid (Below w.heap.size w wr)) (fun t1 _ => s.size - (intOf t1).toNat)
  case atStart => exact ⟨i, rfl, hi, HR, Below.refl _ _⟩
  case round =>
    obtain ⟨j, rfl, hj, HP, HBel⟩ := hrel
    have hj0 : (j : Int) ≤ 4000000 := by omega
    by_cases hlt : j < s.size
    · have d1 : decide ((j : Int) < (s.size : Int)) = true := decide_eq_true (by omega)
      have d2 : (j : Int) < (s.size : Int) := by omega
      have hS := fun W => HS.out j W hj
      have h2 : sp s j ≤ s.size := by have := behN_le spB s.data.toList j (by rw [size_data]; omega); rw [size_data] at this; exact this
      have hgo := passE_go s j hlt
      have hst : (sp s j < s.size ∧ isAt s (sp s j) 10 = false) → passE s j = j := fun h => by rw [passE, dif_pos hlt, if_pos h]
      have hBb := fun W => HB.out (sp s j) W h2
      obtain ⟨q, hq⟩ : ∃ q, sp s j = q := ⟨_, rfl⟩
      obtain ⟨nx, hnx⟩ : ∃ nx, beh s (sp s j) = nx := ⟨_, rfl⟩
      rw [hnx] at hgo hBb
      rw [hq] at hS h2 hgo hst hBb
      have HSj := Lib.hid hS
      have HBj := Lib.hid hBb
      have Hgo := Lib.hid hgo
      have Hst := Lib.hid hst
      have hq0 : (q : Int) ≤ 4000000 := by omega
      have hq1 : (0 : Int) ≤ (q : Int) := by omega
      clear hS hgo hst hBb hq hnx
      go_wp2_with fail
      go_at_call 98
      refine (HSj.out _).mono ?_
      rintro e w1 ⟨rfl, hb⟩
      have HB1 := Lib.hid (HBel.out.trans (hb.mono HBel.out.size))
      clear hb
      by_cases hc : q < s.size
      · have d3 : decide ((q : Int) < (s.size : Int)) = true := decide_eq_true (by omega)
        have d4 : (q : Int) < (s.size : Int) := by omega
        have e1 : isAt s q 10 = ((s[q]'hc).toNat == 10) := isAt_get s q hc 10
        by_cases hb10 : (s[q]'hc).toNat = 10
        · have d5 : (((s[q]'hc).toNat : Int) != 10) = false := by rw [bne_eq_false_iff_eq]; omega
          obtain ⟨h3, h4, h5⟩ := Hgo.out (fun h => by have := h.2; rw [e1, hb10] at this; cases this)
          have H3 := Lib.hid h3
          clear h3 e1 hb10
          go_wp2_with fail
          go_at_call 99
          refine (HBj.out _).mono ?_
          rintro e w2 ⟨rfl, rfl⟩
          go_wp2
          go_roundw
          case rel => exact ⟨nx, rfl, h5, H3.out.symm.trans HP.out, HB1⟩
          case measure => simp [intOf]; omega
        · have d5 : (((s[q]'hc).toNat : Int) != 10) = true := by rw [bne_iff_ne]; omega
          have h3 := Hst.out ⟨hc, by rw [e1, beq_eq_false_iff_ne]; exact hb10⟩
          have H3 := Lib.hid h3
          clear h3 e1 hb10
          go_wp2
          go_ret
          exact ⟨by rw [← HP.out, H3.out]; rfl, HB1.out⟩
      · have d3 : decide ((q : Int) < (s.size : Int)) = false := decide_eq_false (by omega)
        have d4 : ¬ (q : Int) < (s.size : Int) := by omega
        obtain ⟨h3, h4, h5⟩ := Hgo.out (fun h => hc h.1)
        have H3 := Lib.hid h3
        clear h3
        go_wp2_with fail
        go_at_call 99
        refine (HBj.out _).mono ?_
        rintro e w2 ⟨rfl, rfl⟩
        go_wp2
        go_roundw
        case rel => exact ⟨nx, rfl, h5, H3.out.symm.trans HP.out, HB1⟩
        case measure => simp [intOf]; omega
    · have d1 : decide ((j : Int) < (s.size : Int)) = false := decide_eq_false (by omega)
      have d2 : ¬ (j : Int) < (s.size : Int) := by omega
      have h3 : passE s j = j := by rw [passE, dif_neg hlt]
      have H3 := Lib.hid h3
      clear h3
      go_wp2
      go_ret
      exact ⟨by rw [← HP.out, H3.out]; rfl, HBel.out⟩
set_option maxHeartbeats 2000000 in
set_option maxRecDepth 100000 in
theorem mayBegin_any (s : ByteArray) (i : Nat) (hs : s.size ≤ 4000000) (hi : i < s.size) (w : World) : Calls Tryz.prog 141 #[.string s, .int .i64 i] w fun e w' => e = .returned (.bool (mayB s i)) ∧ Below w.heap.size w w' := by
  have hN := fun W => ((endName (s := s)).2 i W hs (Nat.le_of_lt hi)).2.2
  obtain ⟨m, hm⟩ : ∃ m, nm s i = m := ⟨_, rfl⟩
  have e1 := isAt_get s i hi 35
  have e2 := isAt_get s i hi 45
  unfold mayB
  rw [hm] at hN
  rw [e1, e2, hm]
  have HN := Lib.hid hN
  obtain ⟨c, hc⟩ : ∃ c, (s[i]'hi).toNat = c := ⟨_, rfl⟩
  rw [hc, show (35 : UInt8).toNat = 35 from rfl, show (45 : UInt8).toNat = 45 from rfl]
  have hi0 : (i : Int) < (s.size : Int) := by omega
  have hi1 : (0 : Int) ≤ (i : Int) := by omega
  clear hN e1 e2 hm
  by_cases h1 : c = 35
  · have d1 : ((c : Int) == 35) = true := beq_iff_eq.2 (by omega)
    have E : (c == 35 || c == 45 || decide (i < m)) = true := by rw [h1]; rfl
    rw [E]
    clear h1 E
    go_enter Tryz.func141, Tryz.ntmps141
    go_wp2
    go_ret
    exact ⟨rfl, Below.refl _ _⟩
  have d1 : ((c : Int) == 35) = false := beq_eq_false_iff_ne.2 (by omega)
  by_cases h2 : c = 45
  · have d2 : ((c : Int) == 45) = true := beq_iff_eq.2 (by omega)
    have E : (c == 35 || c == 45 || decide (i < m)) = true := by rw [h2]; rfl
    rw [E]
    clear h1 h2 E
    go_enter Tryz.func141, Tryz.ntmps141
    go_wp2
    go_ret
    exact ⟨rfl, Below.refl _ _⟩
  have d2 : ((c : Int) == 45) = false := beq_eq_false_iff_ne.2 (by omega)
  have E : (c == 35 || c == 45 || decide (i < m)) = decide (i < m) := by rw [beq_eq_false_iff_ne.2 h1, beq_eq_false_iff_ne.2 h2]; rfl
  rw [E]
  clear h1 h2 E
  go_enter Tryz.func141, Tryz.ntmps141
  go_wp2_with fail
  go_at_call 166
  refine (HN.out _).mono ?_
  rintro e w1 ⟨rfl, hb⟩
  have HB := Lib.hid hb
  clear hb
  go_wp2
  go_ret
  refine ⟨?_, HB.out⟩
  by_cases h : i < m
  · simp [h]
  · simp [h]
abbrev zEn : Array Value := #[.int .i64 0, .int .i64 0, .string ⟨#[]⟩, .string ⟨#[]⟩, .slice none 0 0, .slice none 0 0, .int .i64 0, .int .i64 0]
theorem junk_go (s : ByteArray) (i : Nat) (hi : i < s.size) : (mayB s i = true → junkTo s i = i) ∧ (mayB s i = false → junkTo s i = junkTo s (beh s i) ∧ i < beh s i ∧ beh s i ≤ s.size) := by
  have h := beh_ok s i (Nat.le_of_lt hi)
  refine ⟨fun hm => by rw [junkTo, dif_neg (by rw [hm]; simp)], fun hm => ⟨by rw [junkTo, dif_pos ⟨hi, hm⟩, dif_pos (h.2.2 hi)], h.2.2 hi, h.2.1⟩⟩
theorem junk_end (s : ByteArray) (i : Nat) (hi : ¬ i < s.size) : junkTo s i = i := by rw [junkTo, dif_neg (fun h => hi h.1)]
theorem cellsE {w : World} {k : Nat} {x0 x1 x2 x3 x4 x5 x6 x7 : Value} {t : TypeId} (h : BoxAt w k #[x0, x1, x2, x3, x4, x5, x6, x7] t) :
    w.cell? ⟨k, 0, none⟩ = some x0 ∧ w.cell? ⟨k, 1, none⟩ = some x1 ∧ w.cell? ⟨k, 2, none⟩ = some x2 ∧ w.cell? ⟨k, 3, none⟩ = some x3 ∧ w.cell? ⟨k, 4, none⟩ = some x4 ∧ w.cell? ⟨k, 5, none⟩ = some x5 ∧ w.cell? ⟨k, 6, none⟩ = some x6 ∧ w.cell? ⟨k, 7, none⟩ = some x7 ∧
    w.frozen? ⟨k, 0, none⟩ = false ∧ w.frozen? ⟨k, 1, none⟩ = false ∧ w.frozen? ⟨k, 2, none⟩ = false ∧ w.frozen? ⟨k, 3, none⟩ = false ∧ w.frozen? ⟨k, 4, none⟩ = false ∧ w.frozen? ⟨k, 5, none⟩ = false ∧ w.frozen? ⟨k, 6, none⟩ = false ∧ w.frozen? ⟨k, 7, none⟩ = false :=
  ⟨h.cell 0, h.cell 1, h.cell 2, h.cell 3, h.cell 4, h.cell 5, h.cell 6, h.cell 7, Lib.frozen_of_heap h 0, Lib.frozen_of_heap h 1, Lib.frozen_of_heap h 2, Lib.frozen_of_heap h 3, Lib.frozen_of_heap h 4, Lib.frozen_of_heap h 5, Lib.frozen_of_heap h 6, Lib.frozen_of_heap h 7⟩
set_option maxRecDepth 100000 in
theorem resE {fn : Func} {A : Nat} {tmps : Array Value} {w : World} {b : Nat} {x0 x1 x2 x3 x4 x5 x6 x7 : Value} {t : TypeId} (hres : fn.results = #[.cell A 89]) (ha : tmps.getD A undef = .pointer (some ⟨b, 0, none⟩))
    (hb : BoxAt w b #[x0, x1, x2, x3, x4, x5, x6, x7] t) : (results fn tmps).run Tryz.prog w = .ok (.agg #[x0, x1, x2, x3, x4, x5, x6, x7]) w := by
  obtain ⟨q0, q1, q2, q3, q4, q5, q6, q7, _⟩ := cellsE hb
  have ha' : tmps[A]?.getD undef = .pointer (some ⟨b, 0, none⟩) := by rw [← ha]; simp
  simp [results, hres, ha', go_sem, q0, q1, q2, q3, q4, q5, q6, q7]
theorem endE {fn : Func} {R : Ending → World → Prop} {a : Act} {w2 : World} {A b : Nat} {x0 x1 x2 x3 x4 x5 x6 x7 : Value} {t : TypeId} (hres : fn.results = #[.cell A 89]) (hbox : BoxAt w2 b #[x0, x1, x2, x3, x4, x5, x6, x7] t)
    (ha : a.tmps.getD A undef = .pointer (some ⟨b, 0, none⟩)) (hd : a.defers = []) (hR : R (.returned (.agg #[x0, x1, x2, x3, x4, x5, x6, x7])) w2) : bodyPost Tryz.prog fn R .ret a w2 :=
  bodyPost_ret (resE hres ha hbox) hd hR
theorem below_set8 {B : Nat} {a w : World} (h : Below B a w) {b : Nat} (hb : B ≤ b) (x0 x1 x2 x3 x4 x5 x6 x7 : Value) : Below B a (set8 w b x0 x1 x2 x3 x4 x5 x6 x7) :=
  (((((((h.setCell (p := ⟨b, 0, none⟩) hb x0).setCell (p := ⟨b, 1, none⟩) hb x1).setCell (p := ⟨b, 2, none⟩) hb x2).setCell (p := ⟨b, 3, none⟩) hb x3).setCell (p := ⟨b, 4, none⟩) hb x4).setCell (p := ⟨b, 5, none⟩) hb x5).setCell (p := ⟨b, 6, none⟩) hb x6).setCell (p := ⟨b, 7, none⟩) hb x7
set_option maxHeartbeats 2000000 in
set_option maxRecDepth 100000 in
theorem junk_any (s : ByteArray) (i : Nat) (hs : s.size ≤ 4000000) (hi : i < s.size) (w : World) : Calls Tryz.prog 102 #[.string s, .int .i64 i] w fun e w' => e = .returned (entV 3 0 (s.extract i (junkTo s (beh s i))) ⟨#[]⟩ (.slice none 0 0) (.slice none 0 0) i (junkTo s (beh s i) : Nat)) ∧ Below w.heap.size w w' := by
  have hB0 := fun W => behind_any s i hs (Nat.le_of_lt hi) W
  have hok := beh_ok s i (Nat.le_of_lt hi)
  have hok2 := hok.2.2 hi
  obtain ⟨b, hb⟩ : ∃ b, beh s i = b := ⟨_, rfl⟩
  rw [hb] at hB0 hok hok2 ⊢
  have HB0 := Lib.hid hB0
  have HB := Lib.hid (fun j W (hj : j ≤ s.size) => behind_any s j hs hj W)
  have HM := Lib.hid (fun j W (hj : j < s.size) => mayBegin_any s j hs hj W)
  obtain ⟨R, hR⟩ : ∃ R, junkTo s b = R := ⟨_, rfl⟩
  rw [hR]
  have HR := Lib.hid hR
  have hc0 := BoxAt.new w zEn 89
  have HC0 := Lib.hid hc0
  clear hB0 hb hR hc0
  unfold entV
  go_enter Tryz.func102, Tryz.ntmps102
  go_wp2_with fail
  go_at_call 99
  refine (HB0.out _).mono ?_
  rintro e w1 ⟨rfl, rfl⟩
  go_wp2
  go_loopw [5] (fun t5 wr => ∃ j : Nat, t5 = .int .i64 j ∧ i ≤ j ∧ j ≤ s.size ∧ Hid (junkTo s j = R) ∧ Hid (BoxAt wr w.heap.size zEn 89) ∧ Hid (Below w.heap.size w wr)) (fun t5 _ => s.size - (intOf t5).toNat)
  case atStart => exact ⟨b, rfl, hok.1, hok.2.1, HR, HC0.out, (Below.refl _ _).alloc (Nat.le_refl _) _⟩
  case round =>
    obtain ⟨j, rfl, hij, hj, HJ, HC, HBel⟩ := hrel
    have hj0 : (j : Int) ≤ 4000000 := by omega
    obtain ⟨q0, q1, q2, q3, q4, q5, q6, q7, p0, p1, p2, p3, p4, p5, p6, p7⟩ := cellsE HC.out
    have hlt0 := HC.out.lt
    by_cases hlt : j < s.size
    · have d1 : decide ((j : Int) < (s.size : Int)) = true := decide_eq_true (by omega)
      have d2 : (j : Int) < (s.size : Int) := by omega
      have hM := fun W => HM.out j W hlt
      have hgo := junk_go s j hlt
      have hBb := fun W => HB.out j W hj
      obtain ⟨b2, hb2⟩ : ∃ b, mayB s j = b := ⟨_, rfl⟩
      obtain ⟨nx, hnx⟩ : ∃ nx, beh s j = nx := ⟨_, rfl⟩
      rw [hb2] at hM hgo
      rw [hnx] at hgo hBb
      have HMj := Lib.hid hM
      have Hgo := Lib.hid hgo
      have HBj := Lib.hid hBb
      clear hM hgo hBb hb2 hnx
      go_wp2_with fail
      go_at_call 141
      refine (HMj.out _).mono ?_
      rintro e w2 ⟨rfl, hb⟩
      have HB2 := Lib.hid (HBel.out.trans (hb.mono HBel.out.size))
      have hc2 := HC.out.later hb
      have HC2 := Lib.hid hc2
      clear hb
      cases b2
      case false =>
        obtain ⟨h3, h4, h5⟩ := Hgo.out.2 rfl
        have H3 := Lib.hid h3
        clear h3 hc2
        go_wp2_with fail
        go_at_call 99
        refine (HBj.out _).mono ?_
        rintro e w3 ⟨rfl, rfl⟩
        go_wp2
        go_roundw
        case rel => exact ⟨nx, rfl, by omega, h5, H3.out.symm.trans HJ.out, HC2, HB2⟩
        case measure => simp [intOf]; omega
      case true =>
        have h3 := Hgo.out.1 rfl
        have hRj : R = j := HJ.out.symm.trans h3
        obtain ⟨r0, r1, r2, r3, r4, r5, r6, r7, f0, f1, f2, f3, f4, f5, f6, f7⟩ := cellsE hc2
        have hlt2 := hc2.lt
        have HRj := Lib.hid hRj
        clear h3 hc2 hRj q0 q1 q2 q3 q4 q5 q6 q7 p0 p1 p2 p3 p4 p5 p6 p7
        go_wp2
        refine endE Tryz.results102 (box_set8 HC2.out _ _ _ _ _ _ _ _) rfl rfl ⟨by rw [HRj.out], below_set8 HB2.out (Nat.le_refl _) _ _ _ _ _ _ _ _⟩
    · have d1 : decide ((j : Int) < (s.size : Int)) = false := decide_eq_false (by omega)
      have d2 : ¬ (j : Int) < (s.size : Int) := by omega
      have hRj : R = j := HJ.out.symm.trans (junk_end s j hlt)
      have HRj := Lib.hid hRj
      clear hRj
      go_wp2
      refine endE Tryz.results102 (box_set8 HC.out _ _ _ _ _ _ _ _) rfl rfl ⟨by rw [HRj.out], below_set8 HBel.out (Nat.le_refl _) _ _ _ _ _ _ _ _⟩
end Go.Proofs.YtpgiboblonlddaaGreatDoor

namespace Go.Proofs.YtpgiboblonlddaaGreatDoor
open Go.RowKit
set_option linter.unusedVariables false
set_option linter.unusedSimpArgs false
theorem tw_in {p q : UInt8 → Bool} (h : ∀ c, p c = true → q c = true) : ∀ l : List UInt8, (l.takeWhile q).takeWhile p = l.takeWhile p
  | [] => rfl
  | a :: l => by
    by_cases hp : p a = true
    · rw [List.takeWhile_cons, h a hp, if_pos rfl, List.takeWhile_cons, List.takeWhile_cons, hp, if_pos rfl, if_pos rfl, tw_in h l]
    · by_cases hq : q a = true
      · rw [List.takeWhile_cons, hq, if_pos rfl, List.takeWhile_cons, List.takeWhile_cons, if_neg hp, if_neg hp]
      · rw [List.takeWhile_cons, if_neg hq, List.takeWhile_cons, if_neg hp]; rfl
theorem dw_drop (p : UInt8 → Bool) : ∀ l : List UInt8, l.dropWhile p = l.drop (l.takeWhile p).length
  | [] => rfl
  | a :: l => by
    by_cases h : p a = true
    · rw [List.dropWhile_cons, List.takeWhile_cons, if_pos h, if_pos h, List.length_cons, List.drop_succ_cons, dw_drop p l]
    · rw [List.dropWhile_cons, List.takeWhile_cons, if_neg h, if_neg h]; rfl
theorem tw_take (q : UInt8 → Bool) (l : List UInt8) : l.take (l.takeWhile q).length = l.takeWhile q := by
  induction l with
  | nil => rfl
  | cons a l ih =>
    by_cases h : q a = true
    · rw [List.takeWhile_cons, if_pos h, List.length_cons, List.take_succ_cons, ih]
    · rw [List.takeWhile_cons, if_neg h]; rfl
theorem tw_len (p : UInt8 → Bool) : ∀ l : List UInt8, (l.takeWhile p).length ≤ l.length
  | [] => Nat.le_refl _
  | a :: l => by
    by_cases h : p a = true
    · rw [List.takeWhile_cons, if_pos h, List.length_cons, List.length_cons]; have := tw_len p l; omega
    · rw [List.takeWhile_cons, if_neg h]; exact Nat.zero_le _
theorem hs_ok (s : ByteArray) (i : Nat) (hi : i ≤ s.size) : i ≤ hs s i ∧ hs s i ≤ li s i := by
  refine ⟨behN_ge _ _ _, ?_⟩
  unfold hs li behN
  have h : ∀ c, hsB c = true → nlB c = true := fun c hc => by
    unfold hsB at hc
    rw [beq_iff_eq] at hc
    rw [hc]; decide
  rw [← tw_in h]
  have := tw_len hsB ((s.data.toList.drop i).takeWhile nlB)
  omega
theorem extract_list (s : ByteArray) (i j : Nat) : (s.extract i j).data.toList = (s.data.toList.take j).drop i := by
  rw [List.drop_take]
  simp [ByteArray.extract, ByteArray.copySlice]
theorem trim_hash (s : ByteArray) (i : Nat) (hi : i ≤ s.size) : (⟨(Lib.trimLeftB (s.extract i (li s i)).data.toList 35).toArray⟩ : ByteArray) = s.extract (hs s i) (li s i) := by
  apply bytes_eq
  rw [extract_list, extract_list]
  have h : ∀ c, hsB c = true → nlB c = true := fun c hc => by
    unfold hsB at hc
    rw [beq_iff_eq] at hc
    rw [hc]; decide
  have e1 : (s.data.toList.take (li s i)).drop i = (s.data.toList.drop i).takeWhile nlB := by
    rw [List.drop_take]
    unfold li behN
    rw [Nat.add_sub_cancel_left, tw_take]
  have e2 : hs s i = i + (((s.data.toList.drop i).takeWhile nlB).takeWhile hsB).length := by
    unfold hs behN
    rw [tw_in h]
  rw [e2, ← List.drop_drop, e1]
  show Lib.trimLeftB _ 35 = _
  exact dw_drop hsB _
theorem trimP_space (B : ByteArray) : (Lib.hasPrefix B.data.toList [32] = true → 0 < B.size ∧ (⟨(Lib.trimPrefix B.data.toList [32]).toArray⟩ : ByteArray) = B.extract 1 B.size) ∧ (Lib.hasPrefix B.data.toList [32] = false → (⟨(Lib.trimPrefix B.data.toList [32]).toArray⟩ : ByteArray) = B) := by
  constructor
  · intro h
    refine ⟨?_, ?_⟩
    · rw [← size_data]
      cases e : B.data.toList with
      | nil => rw [e] at h; cases h
      | cons a l => simp
    · apply bytes_eq
      unfold Lib.trimPrefix
      rw [h, if_pos rfl, extract_drop]
      rfl
  · intro h
    apply bytes_eq
    unfold Lib.trimPrefix
    rw [h, if_neg (by simp)]
theorem ext_ext (s : ByteArray) (i j : Nat) (hj : j ≤ s.size) (hi : i < j) : (s.extract i j).extract 1 (s.extract i j).size = s.extract (i + 1) j := by
  apply bytes_eq
  rw [extract_drop, extract_list, extract_list, List.drop_drop]
theorem pre_space (s : ByteArray) (i j : Nat) (hj : j ≤ s.size) (hi : i ≤ j) : Lib.hasPrefix (s.extract i j).data.toList [32] = (decide (i < j) && isAt s i 32) := by
  by_cases h : i < j
  · rw [decide_eq_true h, Bool.true_and, ← isAt_prefix s i 32 (by omega), extract_list, extract_drop]
    unfold Lib.hasPrefix
    have hl : i < s.data.toList.length := by rw [size_data]; omega
    have hl2 : i < (s.data.toList.take j).length := by rw [List.length_take, size_data]; omega
    rw [List.drop_eq_getElem_cons hl, List.drop_eq_getElem_cons hl2, List.getElem_take]
    simp [List.isPrefixOf]
  · have e : i = j := by omega
    subst e
    rw [decide_eq_false h, Bool.false_and]
    have : (s.extract i i).data.toList = [] := by
      rw [extract_list, List.drop_eq_nil_of_le]
      rw [List.length_take]; omega
    rw [this]
    rfl
set_option maxHeartbeats 2000000 in
set_option maxRecDepth 100000 in
theorem commentLine_any (s : ByteArray) (i : Nat) (hsz : s.size ≤ 4000000) (hi : i ≤ s.size) (w : World) : Calls Tryz.prog 137 #[.string s, .int .i64 i] w fun e w' => e = .returned (.tuple #[.int .i64 ((comL s i).1 : Nat), .string (comL s i).2]) ∧ w = w' := by
  have hL := fun W => line_nat s i hsz hi W
  have hok := li_ok s i hi
  have hh := hs_ok s i hi
  have ht := trim_hash s i hi
  obtain ⟨R, hR⟩ : ∃ R, comL s i = R := ⟨_, rfl⟩
  rw [hR]
  unfold comL at hR
  obtain ⟨l, hl⟩ : ∃ l, li s i = l := ⟨_, rfl⟩
  obtain ⟨h, he⟩ : ∃ h, hs s i = h := ⟨_, rfl⟩
  rw [hl, he] at hh ht hR
  rw [hl] at hL hok
  have hT := fun W => Tryz.strings_TrimLeft_one (s.extract i l) 35 (by decide) W
  rw [ht] at hT
  have hC := fun W => Tryz.strings_CutPrefix (s.extract h l) ⟨#[32]⟩ W
  have hp := pre_space s h l hok.2 hh.2
  have hz1 : (s.extract i l).size = l - i := by rw [ByteArray.size_extract]; omega
  have hz2 : (s.extract h l).size = l - h := by rw [ByteArray.size_extract]; omega
  have hX := trimP_space (s.extract h l)
  have hE := fun hlt => ext_ext s h l hok.2 hlt
  have hem := ext_empty s h l hh.2 hok.2
  obtain ⟨B, hB⟩ : ∃ B, s.extract h l = B := ⟨_, rfl⟩
  obtain ⟨X, hXe⟩ : ∃ X : ByteArray, ⟨(Lib.trimPrefix B.data.toList [32]).toArray⟩ = X := ⟨_, rfl⟩
  obtain ⟨P, hP⟩ : ∃ P, Lib.hasPrefix B.data.toList [32] = P := ⟨_, rfl⟩
  rw [hB] at hT hC hp hz2 hX hE hem
  have Hem := Lib.hid hem
  rw [show (⟨#[32]⟩ : ByteArray).data.toList = [32] from rfl, hXe, hP] at hC
  rw [hXe, hP] at hX
  rw [hP] at hp
  have HL := Lib.hid hL
  have HT := Lib.hid hT
  have HC := Lib.hid hC
  have HR := Lib.hid hR
  have HX := Lib.hid hX
  have HE := Lib.hid hE
  have Hp := Lib.hid hp
  have hl0 : (l : Int) ≤ (s.size : Int) := by omega
  have hss : (s.size : Int) ≤ 4000000 := by omega
  have hi0 : (i : Int) ≤ (l : Int) := by omega
  obtain ⟨x, hx⟩ : ∃ x, h = i + x := ⟨h - i, by omega⟩
  obtain ⟨m, hm⟩ : ∃ m, l - i = m := ⟨_, rfl⟩
  obtain ⟨y, hy⟩ : ∃ y, l - h = y := ⟨_, rfl⟩
  have hd : (m : Int) - (y : Int) = (x : Int) := by omega
  have hx0 : (x : Int) ≤ 4000000 := by omega
  have hR2 : (if 3 < x ∨ 0 < y ∧ isAt s h 32 = false then (0, E0) else (x, if 0 < y then s.extract (h + 1) l else E0)) = R := by
    rw [← HR.out, show h - i = x by omega]
    by_cases hlt : h < l
    · have : 0 < y := by omega
      simp [hlt, this]
    · have : ¬ 0 < y := by omega
      simp [hlt, this]
  have HR2 := Lib.hid hR2
  rw [hm] at hz1
  rw [hy] at hz2
  have Hz2 := Lib.hid hz2
  have Hy := Lib.hid (show 0 < y ↔ h < l by omega)
  clear hem hL hT hC hR hX hE hp ht hl he hB hXe hP hR2 hm hy hx HR
  go_enter Tryz.func137, Tryz.ntmps137
  go_wp2_with fail
  go_at_call 136
  refine (HL.out _).mono ?_
  rintro e w1 ⟨rfl, rfl⟩
  go_wp2_with fail
  go_at_call 83
  refine (HT.out _).mono ?_
  rintro e w1 ⟨rfl, rfl⟩
  go_wp2_with fail
  go_at_call 27
  refine (HC.out _).mono ?_
  rintro e w1 ⟨rfl, rfl⟩
  by_cases h3 : 3 < x
  · have d1 : decide ((3 : Int) < (x : Int)) = true := decide_eq_true (by omega)
    have d2 : (3 : Int) < (x : Int) := by omega
    have hR := HR2.out
    rw [if_pos (Or.inl h3)] at hR
    subst hR
    go_wp2
    go_ret2
    exact ⟨rfl, rfl⟩
  have d1 : decide ((3 : Int) < (x : Int)) = false := decide_eq_false (by omega)
  have d2 : ¬ (3 : Int) < (x : Int) := by omega
  by_cases h0 : 0 < y
  case neg =>
    have hBe : B = ⟨#[]⟩ := bytes_eq (List.eq_nil_of_length_eq_zero (by rw [size_data, Hz2.out]; omega))
    have hPe : P = false := by rw [Hp.out, decide_eq_false (fun e => h0 (Hy.out.2 e))]; rfl
    have hXe := HX.out.2 hPe
    subst hPe
    rw [hBe] at hXe
    subst hBe
    subst hXe
    have hR := HR2.out
    rw [if_neg (by omega), if_neg h0] at hR
    subst hR
    go_wp2
    go_ret2
    exact ⟨rfl, rfl⟩
  have hlt := Hy.out.1 h0
  rw [hlt |> decide_eq_true, Bool.true_and] at Hp
  have hne : B.toList.isEmpty = false := by rw [Hem.out, decide_eq_false (by omega)]
  cases P
  case false =>
    have hR := HR2.out
    rw [if_pos (Or.inr ⟨h0, Hp.out.symm⟩)] at hR
    subst hR
    go_wp2
    go_ret2
    exact ⟨rfl, rfl⟩
  case true =>
    have hXe := (HX.out.1 rfl).2.trans (HE.out hlt)
    have hR := HR2.out
    rw [if_neg (by rw [← Hp.out]; simp; omega), if_pos h0, ← hXe] at hR
    subst hR
    go_wp2
    go_ret2
    exact ⟨rfl, rfl⟩
end Go.Proofs.YtpgiboblonlddaaGreatDoor

namespace Go.Proofs.YtpgiboblonlddaaGreatDoor
open Go.RowKit
set_option linter.unusedVariables false
set_option linter.unusedSimpArgs false
def GotPC (s : ByteArray) (w : World) (r : Option (List EL × Nat)) (e : Ending) (w' : World) : Prop :=
  Below w.heap.size w w' ∧ ∃ (A : Option Addr) (n c j : Nat), e = .returned (.tuple #[.slice A n c, .int .i64 j, .bool r.isSome]) ∧ j ≤ s.size ∧ n ≤ 4000000 ∧
    ∀ l m, r = some (l, m) → m = j ∧ l.length = n ∧ PatF w' (Since w.heap.size w') l (.slice A n c)
def PatCall (s : ByteArray) : Prop := ∀ (i : Nat) (w : World), i ≤ s.size → Calls Tryz.prog 167 #[.string s, .int .i64 i] w (GotPC s w (patS (placeS s 20) s i))
def GotN (s : ByteArray) (w : World) (r : Option (ByteArray × List EL × Nat)) (e : Ending) (w' : World) : Prop :=
  Below w.heap.size w w' ∧ ∃ (X : ByteArray) (A : Option Addr) (n c j : Nat), e = .returned (.tuple #[.agg #[.string X, .slice A n c], .int .i64 j, .bool r.isSome]) ∧ j ≤ s.size ∧ n ≤ 4000000 ∧
    ∀ x l m, r = some (x, l, m) → x = X ∧ m = j ∧ l.length = n ∧ PatF w' (Since w.heap.size w') l (.slice A n c)
abbrev zAt : Array Value := #[.string ⟨#[]⟩, .slice none 0 0]
set_option maxRecDepth 100000 in
theorem res2a {fn : Func} {A M N : Nat} {tmps : Array Value} {w : World} {b : Nat} {x0 x1 u v : Value} {t : TypeId} (hres : fn.results = #[.cell A 128, .tmp M, .tmp N]) (ha : tmps.getD A undef = .pointer (some ⟨b, 0, none⟩)) (hm : tmps.getD M undef = u) (hn : tmps.getD N undef = v)
    (hb : BoxAt w b #[x0, x1] t) : (results fn tmps).run Tryz.prog w = .ok (.tuple #[.agg #[x0, x1], u, v]) w := by
  have q0 := hb.cell 0
  have q1 := hb.cell 1
  simp at q0 q1
  have ha' : tmps[A]?.getD undef = .pointer (some ⟨b, 0, none⟩) := by rw [← ha]; simp
  have hm' : tmps[M]?.getD undef = u := by rw [← hm]; simp
  have hn' : tmps[N]?.getD undef = v := by rw [← hn]; simp
  simp [results, hres, ha', hm', hn', go_sem, q0, q1]
theorem end2a {fn : Func} {R : Ending → World → Prop} {a : Act} {w2 : World} {A M N b : Nat} {x0 x1 u v : Value} {t : TypeId} (hres : fn.results = #[.cell A 128, .tmp M, .tmp N]) (hbox : BoxAt w2 b #[x0, x1] t)
    (ha : a.tmps.getD A undef = .pointer (some ⟨b, 0, none⟩)) (hm : a.tmps.getD M undef = u) (hn : a.tmps.getD N undef = v) (hd : a.defers = []) (hR : R (.returned (.tuple #[.agg #[x0, x1], u, v])) w2) : bodyPost Tryz.prog fn R .ret a w2 :=
  bodyPost_ret (res2a hres ha hm hn hbox) hd hR
theorem box_set2 {w : World} {E : Nat} {x0 x1 : Value} {t : TypeId} (h : BoxAt w E #[x0, x1] t) (y0 y1 : Value) : BoxAt ((w.setCell ⟨E, 0, none⟩ y0).setCell ⟨E, 1, none⟩ y1) E #[y0, y1] t := by
  unfold BoxAt at h ⊢
  simp [World.setCell, Array.getElem?_modify, h]
theorem below_set2 {B : Nat} {a w : World} (h : Below B a w) {b : Nat} (hb : B ≤ b) (x0 x1 : Value) : Below B a ((w.setCell ⟨b, 0, none⟩ x0).setCell ⟨b, 1, none⟩ x1) := (h.setCell (p := ⟨b, 0, none⟩) hb x0).setCell (p := ⟨b, 1, none⟩) hb x1
theorem set2_heap (w : World) (b : Nat) (x0 x1 : Value) (k : Nat) (hk : k ≠ b) : ((w.setCell ⟨b, 0, none⟩ x0).setCell ⟨b, 1, none⟩ x1).heap[k]? = w.heap[k]? := by
  rw [Below.heap_setCell _ _ _ k hk, Below.heap_setCell _ _ _ k hk]
theorem set2_size (w : World) (b : Nat) (x0 x1 : Value) : ((w.setCell ⟨b, 0, none⟩ x0).setCell ⟨b, 1, none⟩ x1).heap.size = w.heap.size := by simp
theorem pat_set2 {w w2 : World} {l : List EL} {v : Value} (h : PatF w2 (Since (w.heap.size + 1) w2) l v) (x0 x1 : Value) : PatF ((w2.setCell ⟨w.heap.size, 0, none⟩ x0).setCell ⟨w.heap.size, 1, none⟩ x1) (Since w.heap.size ((w2.setCell ⟨w.heap.size, 0, none⟩ x0).setCell ⟨w.heap.size, 1, none⟩ x1)) l v :=
  PatF.carry (fun b hb => ⟨⟨by have := hb.1; omega, by rw [set2_size]; exact hb.2⟩, set2_heap _ _ _ _ b (by have := hb.1; omega)⟩) h
set_option maxHeartbeats 2000000 in
set_option maxRecDepth 100000 in
theorem named_call {s : ByteArray} (hPC : PatCall s) (hs : s.size ≤ 1000000) (i : Nat) (hi : i ≤ s.size) (w : World) : Calls Tryz.prog 139 #[.string s, .int .i64 i] w (GotN s w (namedS s i)) := by
  have hN := fun W => ((endName (s := s)).2 i W (by omega) hi).2.2
  have hnk := nm_ok s i hi
  obtain ⟨R, hR⟩ : ∃ R, namedS s i = R := ⟨_, rfl⟩
  rw [hR]
  unfold namedS at hR
  obtain ⟨m, hm⟩ : ∃ m, nm s i = m := ⟨_, rfl⟩
  rw [hm] at hN hnk hR
  have hS := fun W => ((endSpaces (s := s)).2 m W (by omega) hnk.2).2.2
  have hsk : m ≤ sp s m ∧ sp s m ≤ s.size := ⟨sp_ge s m, by have := behN_le spB s.data.toList m (by rw [size_data]; exact hnk.2); rw [size_data] at this; exact this⟩
  obtain ⟨q, hq⟩ : ∃ q, sp s m = q := ⟨_, rfl⟩
  rw [hq] at hS hsk hR
  have hx := isAt_prefix s q 61 hsk.2
  have hp := fun W => Tryz.strings_HasPrefix (s.extract q s.size) ⟨#[61]⟩ W
  rw [hx] at hp
  obtain ⟨b, hb⟩ : ∃ b, isAt s q 61 = b := ⟨_, rfl⟩
  have hq1 : b = true → q + 1 ≤ s.size := fun h => isAt_lt (hb.trans h)
  rw [hb] at hp hR
  have HN := Lib.hid hN
  have HS := Lib.hid hS
  have HP := Lib.hid hp
  have hi0 : (i : Int) ≤ 1000000 := by omega
  have hm0 : (m : Int) ≤ 1000000 := by omega
  have hq0 : (q : Int) ≤ 1000000 := by omega
  have hqs : (q : Int) ≤ (s.size : Int) := by omega
  have hss : (s.size : Int) ≤ 1000000 := by omega
  have hq2 : (0 : Int) ≤ (q : Int) := by omega
  have hc0 := BoxAt.new w zAt 128
  have HC0 := Lib.hid hc0
  clear hN hS hp hx hm hq hb hc0
  go_enter Tryz.func139, Tryz.ntmps139
  go_wp2_with fail
  go_at_call 166
  refine (HN.out _).mono ?_
  rintro e w1 ⟨rfl, hb1⟩
  have HB1 := Lib.hid (((Below.refl w.heap.size w).alloc (Nat.le_refl _) (.cells zAt 128)).trans (hb1.mono (by simp)))
  have HC1 := Lib.hid (BoxAt.later HC0.out hb1)
  clear hb1
  go_wp2_with fail
  go_at_call 98
  refine (HS.out _).mono ?_
  rintro e w2 ⟨rfl, hb2⟩
  have HB2 := Lib.hid (HB1.out.trans (hb2.mono HB1.out.size))
  have hc2 := BoxAt.later HC1.out hb2
  have HC2 := Lib.hid hc2
  have q0 := hc2.cell 0
  have q1 := hc2.cell 1
  have f0 := Lib.frozen_of_heap hc2 0
  have f1 := Lib.frozen_of_heap hc2 1
  have hlt := hc2.lt
  simp at q0 q1
  clear hb2 hc2 HN HS HC0 HC1
  by_cases hmi : m = i
  · rw [if_pos hmi] at hR
    subst hR
    have d1 : ((m : Int) == (i : Int)) = true := beq_iff_eq.2 (by omega)
    clear hmi
    go_wp2
    exact end2a Tryz.results139 (box_set2 HC2.out _ _) rfl rfl rfl rfl ⟨below_set2 HB2.out (Nat.le_refl _) _ _, ⟨#[]⟩, none, 0, 0, 0, rfl, Nat.zero_le _, Nat.zero_le _, fun x l m h => by cases h⟩
  have d1 : ((m : Int) == (i : Int)) = false := beq_eq_false_iff_ne.2 (by omega)
  have d2 : ¬ (m : Int) = (i : Int) := by omega
  rw [if_neg hmi] at hR
  cases b
  case false =>
    rw [if_neg (by simp)] at hR
    subst hR
    clear hmi
    go_wp2_with fail
    go_at_call 127
    refine (HP.out _).mono ?_
    rintro e w3 ⟨rfl, rfl⟩
    go_wp2
    exact end2a Tryz.results139 (box_set2 HC2.out _ _) rfl rfl rfl rfl ⟨below_set2 HB2.out (Nat.le_refl _) _ _, ⟨#[]⟩, none, 0, 0, 0, rfl, Nat.zero_le _, Nat.zero_le _, fun x l m h => by cases h⟩
  rw [if_pos rfl] at hR
  have hq3 := hq1 rfl
  have hPt := fun W => hPC (q + 1) W hq3
  obtain ⟨r, hr⟩ : ∃ r, patS (placeS s 20) s (q + 1) = r := ⟨_, rfl⟩
  rw [hr, show ((q + 1 : Nat) : Int) = (q : Int) + 1 by omega] at hPt
  rw [hr] at hR
  have HPt := Lib.hid hPt
  have HR := Lib.hid hR
  have hmi1 : (i : Int) ≤ (m : Int) := by omega
  have hms : (m : Int) ≤ (s.size : Int) := by omega
  clear hPt hr hR hq1 hmi
  go_wp2_with fail
  go_at_call 127
  refine (HP.out _).mono ?_
  rintro e w3 ⟨rfl, rfl⟩
  go_wp2_with fail
  go_at_call 167
  refine (HPt.out _).mono ?_
  rintro e w4 ⟨hb4, A, n, c, j, rfl, hj, hn4, h3⟩
  have HB4 := Lib.hid (HB2.out.trans (hb4.mono HB2.out.size))
  have hc4 := BoxAt.later HC2.out hb4
  have HC4 := Lib.hid hc4
  have e0 := hc4.cell 0
  have e1 := hc4.cell 1
  have g0 := Lib.frozen_of_heap hc4 0
  have g1 := Lib.frozen_of_heap hc4 1
  have hlt4 := hc4.lt
  simp at e0 e1
  have H3 := Lib.hid h3
  have hs4 := hb4.size
  have hj0 : (j : Int) ≤ 1000000 := by omega
  have hj1 : (0 : Int) ≤ (j : Int) := by omega
  clear hb4 hc4 h3 q0 q1 f0 f1
  obtain ⟨ib, hib⟩ : ∃ ib : Bool, (decide (j = s.size) || isAt s j 10) = ib := ⟨_, rfl⟩
  have hfin : R.isSome = (r.isSome && ib) ∧ ∀ x l m', R = some (x, l, m') → x = s.extract i m ∧ m' = j ∧ l.length = n ∧ PatF w4 (Since (w.heap.size + 1) w4) l (.slice A n c) := by
    have hR := HR.out
    cases r with
    | none => dsimp only at hR; subst hR; exact ⟨rfl, fun x l m' h => by cases h⟩
    | some le =>
      obtain ⟨l, e⟩ := le
      obtain ⟨rfl, h5, h6⟩ := H3.out l e rfl
      dsimp only at hR
      by_cases hc : e = s.size ∨ isAt s e 10 = true
      · rw [if_pos hc] at hR
        subst hR
        have : ib = true := by
          rw [← hib]
          rcases hc with h | h
          · rw [decide_eq_true h]; rfl
          · rw [h, Bool.or_true]
        rw [this]
        refine ⟨rfl, fun x l' m' h => ?_⟩
        cases h
        exact ⟨rfl, rfl, h5, PatF.carry (fun b hb => ⟨⟨by have := hb.1; have := HB2.out.size; omega, hb.2⟩, rfl⟩) h6⟩
      · rw [if_neg hc] at hR
        subst hR
        have : ib = false := by
          rw [← hib]
          simp only [not_or, Bool.not_eq_true] at hc
          rw [decide_eq_false hc.1, hc.2]; rfl
        rw [this, Bool.and_false]
        exact ⟨rfl, fun x l' m' h => by cases h⟩
  obtain ⟨rs, hrs⟩ : ∃ q : Bool, r.isSome = q := ⟨_, rfl⟩
  rw [hrs] at hfin ⊢
  have Hfin := Lib.hid hfin
  clear hfin hrs H3 HR
  by_cases hje : j = s.size
  · have d3 : ((j : Int) == (s.size : Int)) = true := beq_iff_eq.2 (by omega)
    have hib2 : ib = true := by rw [← hib, decide_eq_true hje]; rfl
    subst hib2
    clear hib hje
    cases rs
    all_goals
      go_wp2
      exact end2a Tryz.results139 (box_set2 HC4.out _ _) rfl rfl rfl rfl ⟨below_set2 HB4.out (Nat.le_refl _) _ _, s.extract i m, A, n, c, j, by rw [Hfin.out.1]; rfl, hj, hn4, fun x l m' h => by
        obtain ⟨h1, h2, h3, h4⟩ := Hfin.out.2 x l m' h
        exact ⟨h1, h2, h3, pat_set2 h4 _ _⟩⟩
  · have d3 : ((j : Int) == (s.size : Int)) = false := beq_eq_false_iff_ne.2 (by omega)
    have hjl : j < s.size := by omega
    have d4 : (j : Int) < (s.size : Int) := by omega
    have hg := isAt_get s j hjl 10
    rw [decide_eq_false hje, Bool.false_or] at hib
    rw [hg] at hib
    have hib3 : (((s[j]'hjl).toNat : Int) == 10) = ib := by rw [← hib, Bool.eq_iff_iff, beq_iff_eq, beq_iff_eq]; show _ ↔ (s[j]'hjl).toNat = 10; omega
    clear hib hje hg
    cases rs
    all_goals
      go_wp2
      exact end2a Tryz.results139 (box_set2 HC4.out _ _) rfl rfl rfl rfl ⟨below_set2 HB4.out (Nat.le_refl _) _ _, s.extract i m, A, n, c, j, by rw [Hfin.out.1]; rfl, hj, hn4, fun x l m' h => by
        obtain ⟨h1, h2, h3, h4⟩ := Hfin.out.2 x l m' h
        exact ⟨h1, h2, h3, pat_set2 h4 _ _⟩⟩
end Go.Proofs.YtpgiboblonlddaaGreatDoor

namespace Go.Proofs.YtpgiboblonlddaaGreatDoor
open Go.RowKit
set_option linter.unusedVariables false
set_option linter.unusedSimpArgs false
theorem at0_byte (s : ByteArray) (q : Nat) (hc : q < s.size) (c : UInt8) : (at0 s.data.toList q == c) = ((s[q]'hc).toNat == c.toNat) := by
  have := isAt_get s q hc c
  unfold isAt at this
  rw [decide_eq_true hc, Bool.true_and] at this
  exact this
theorem pat_fin2 {w w2 : World} {l : List EL} {v : Value} (h : PatF w2 (Since (w.heap.size + 1) w2) l v) (x0 x1 : Value) (o : Obj) : PatF (((w2.setCell ⟨w.heap.size, 0, none⟩ x0).setCell ⟨w.heap.size, 1, none⟩ x1).alloc o).drew (Since w.heap.size (((w2.setCell ⟨w.heap.size, 0, none⟩ x0).setCell ⟨w.heap.size, 1, none⟩ x1).alloc o).drew) l v :=
  PatF.carry (fun b hb => by
    have h2 : b < ((w2.setCell ⟨w.heap.size, 0, none⟩ x0).setCell ⟨w.heap.size, 1, none⟩ x1).heap.size := by rw [set2_size]; exact hb.2
    exact ⟨⟨by have := hb.1; omega, by show b < (World.alloc _ o).heap.size; rw [World.size_alloc]; omega⟩, (Lib.alloc_old _ o b h2).trans (set2_heap _ _ _ _ b (by have := hb.1; omega))⟩) h
set_option maxHeartbeats 4000000 in
set_option maxRecDepth 100000 in
theorem attr_call {s : ByteArray} (hPC : PatCall s) (hs : s.size ≤ 1000000) (i : Nat) (h1i : 1 ≤ i) (hi : i ≤ s.size) (w : World) : Calls Tryz.prog 168 #[.string s, .int .i64 i] w (GotN s w (attrS s i)) := by
  have hBl := fun W => ((endBlank (s := s)).2 i W (by omega) hi).2.2
  have hbk := bl_ok s i hi
  obtain ⟨R, hR⟩ : ∃ R, attrS s i = R := ⟨_, rfl⟩
  rw [hR]
  unfold attrS at hR
  obtain ⟨q, hq⟩ : ∃ q, bl s i = q := ⟨_, rfl⟩
  rw [hq] at hBl hbk hR
  have hx := isAt_prefix s q 46 hbk.2
  have hp := fun W => Tryz.strings_HasPrefix (s.extract q s.size) ⟨#[46]⟩ W
  rw [hx] at hp
  obtain ⟨b, hb⟩ : ∃ b, isAt s q 46 = b := ⟨_, rfl⟩
  have hq1 : b = true → q + 1 ≤ s.size := fun h => isAt_lt (hb.trans h)
  rw [hb] at hp hR
  have HB := Lib.hid hBl
  have HP := Lib.hid hp
  have hq0 : (q : Int) ≤ 1000000 := by omega
  have hqs : (q : Int) ≤ (s.size : Int) := by omega
  have hss : (s.size : Int) ≤ 1000000 := by omega
  have hq2 : (1 : Int) ≤ (q : Int) := by omega
  have hq22 : (0 : Int) ≤ (q : Int) := by omega
  have hc0 := BoxAt.new w zAt 128
  have HC0 := Lib.hid hc0
  clear hBl hp hx hq hb hc0
  go_enter Tryz.func168, Tryz.ntmps168
  go_wp2_with fail
  go_at_call 196
  refine (HB.out _).mono ?_
  rintro e w1 ⟨rfl, hb1⟩
  have HB1 := Lib.hid (((Below.refl w.heap.size w).alloc (Nat.le_refl _) (.cells zAt 128)).trans (hb1.mono (by simp)))
  have hc1 := BoxAt.later HC0.out hb1
  have HC1 := Lib.hid hc1
  have q0 := hc1.cell 0
  have q1 := hc1.cell 1
  have f0 := Lib.frozen_of_heap hc1 0
  have f1 := Lib.frozen_of_heap hc1 1
  have hlt := hc1.lt
  simp at q0 q1
  clear hb1 hc1 HB HC0
  cases b
  case false =>
    rw [Bool.false_and, if_neg (by simp)] at hR
    subst hR
    go_wp2_with fail
    go_at_call 127
    refine (HP.out _).mono ?_
    rintro e w3 ⟨rfl, rfl⟩
    go_wp2
    exact end2a Tryz.results168 (box_set2 HC1.out _ _) rfl rfl rfl rfl ⟨below_set2 HB1.out (Nat.le_refl _) _ _, ⟨#[]⟩, none, 0, 0, 0, rfl, Nat.zero_le _, Nat.zero_le _, fun x l m h => by cases h⟩
  have hq3 := hq1 rfl
  rw [Bool.true_and, at0_byte s (q - 1) (by omega) 32] at hR
  obtain ⟨k, rfl⟩ : ∃ k, q = k + 1 := ⟨q - 1, by omega⟩
  have hkl : k < s.size := by omega
  have hk1 : (k : Int) < (s.size : Int) := by omega
  have hk0 : (0 : Int) ≤ (k : Int) := by omega
  have hR2 : (if ((s[k]'hkl).toNat == (32 : UInt8).toNat) = true then (match namedS s (k + 1 + 1) with
      | none => none
      | some (x, l, e) => if l.isEmpty = true then none else some (x, l, e)) else none) = R := hR
  obtain ⟨c, hc⟩ : ∃ c, (s[k]'hkl).toNat = c := ⟨_, rfl⟩
  rw [hc, show (32 : UInt8).toNat = 32 from rfl] at hR2
  clear hR hq1
  by_cases h32 : c = 32
  case neg =>
    have d1 : ((c : Int) != 32) = true := by rw [bne_iff_ne]; omega
    rw [if_neg (by rw [beq_iff_eq]; exact h32)] at hR2
    subst hR2
    clear h32
    go_wp2_with fail
    go_at_call 127
    refine (HP.out _).mono ?_
    rintro e w3 ⟨rfl, rfl⟩
    go_wp2
    exact end2a Tryz.results168 (box_set2 HC1.out _ _) rfl rfl rfl rfl ⟨below_set2 HB1.out (Nat.le_refl _) _ _, ⟨#[]⟩, none, 0, 0, 0, rfl, Nat.zero_le _, Nat.zero_le _, fun x l m h => by cases h⟩
  have d1 : ((c : Int) != 32) = false := by rw [bne_eq_false_iff_eq]; omega
  rw [if_pos (by rw [beq_iff_eq]; exact h32)] at hR2
  have hNm := fun W => named_call hPC hs (k + 1 + 1) hq3 W
  obtain ⟨r, hr⟩ : ∃ r, namedS s (k + 1 + 1) = r := ⟨_, rfl⟩
  rw [hr, show ((k + 1 + 1 : Nat) : Int) = (k : Int) + 1 + 1 by omega] at hNm
  rw [hr] at hR2
  have HNm := Lib.hid hNm
  have HR := Lib.hid hR2
  clear hNm hr hR2 h32
  go_wp2_with fail
  go_at_call 127
  refine (HP.out _).mono ?_
  rintro e w3 ⟨rfl, rfl⟩
  go_wp2_with fail
  go_at_call 139
  refine (HNm.out _).mono ?_
  rintro e w4 ⟨hb4, X, A, n, cp, j, rfl, hj, hn4, h3⟩
  have HB4 := Lib.hid (HB1.out.trans (hb4.mono HB1.out.size))
  have hc4 := BoxAt.later HC1.out hb4
  have HC4 := Lib.hid hc4
  have hlt4 := hc4.lt
  have e0 := hc4.cell 0
  have e1 := hc4.cell 1
  have g0 := Lib.frozen_of_heap hc4 0
  have g1 := Lib.frozen_of_heap hc4 1
  simp at e0 e1
  have H3 := Lib.hid h3
  have hs4 := hb4.size
  have hj0 : (j : Int) ≤ 1000000 := by omega
  have hn0 : (n : Int) ≤ 4000000 := by omega
  have hfin : R.isSome = (r.isSome && decide (0 < n)) ∧ ∀ x l m', R = some (x, l, m') → x = X ∧ m' = j ∧ l.length = n ∧ PatF w4 (Since (w.heap.size + 1) w4) l (.slice A n cp) := by
    have hR := HR.out
    cases r with
    | none => dsimp only at hR; subst hR; exact ⟨rfl, fun x l m' h => by cases h⟩
    | some le =>
      obtain ⟨x, l, e⟩ := le
      obtain ⟨h4, h5, h6, h7⟩ := H3.out x l e rfl
      dsimp only at hR
      by_cases hl : l = []
      · rw [hl] at hR
        simp at hR
        subst hR
        rw [hl] at h6
        have : n = 0 := h6.symm
        rw [this]
        exact ⟨rfl, fun x l' m' h => by cases h⟩
      · have hle : l.isEmpty = false := by cases l with
          | nil => exact absurd rfl hl
          | cons a b => rfl
        rw [hle] at hR
        simp at hR
        subst hR
        have hl0 : 0 < n := by rw [← h6]; exact List.length_pos_iff.2 hl
        rw [decide_eq_true hl0]
        refine ⟨rfl, fun x' l' m' h => ?_⟩
        cases h
        exact ⟨h4, h5, h6, PatF.carry (fun b hb => ⟨⟨by have := hb.1; have := HB1.out.size; omega, hb.2⟩, rfl⟩) h7⟩
  obtain ⟨rs, hrs⟩ : ∃ q : Bool, r.isSome = q := ⟨_, rfl⟩
  rw [hrs] at hfin ⊢
  have Hfin := Lib.hid hfin
  clear hb4 hc4 h3 hfin hrs H3 HR q0 q1 f0 f1
  cases rs
  all_goals
    go_wp2_with fail
    go_region
    all_goals (go_wp2_with fail)
    exact end2a Tryz.results168 (((box_set2 HC4.out _ _).alloc _)) rfl rfl rfl rfl ⟨((below_set2 HB4.out (Nat.le_refl _) _ _).alloc (by rw [set2_size]; omega) _).drew, X, A, n, cp, j, by rw [Hfin.out.1]; rfl, hj, hn4, fun x l m' h => by
      obtain ⟨h1, h2, h3, h4⟩ := Hfin.out.2 x l m' h
      exact ⟨h1, h2, h3, pat_fin2 h4 _ _ _⟩⟩
end Go.Proofs.YtpgiboblonlddaaGreatDoor
