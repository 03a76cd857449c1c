/-
  Several texts put together (part 11): what the law and the program call, walked; their contracts.
-/
import Derived.Test.YtpgiboblonlddaaGreatDoorQ10
import Derived.Lib.IndexAny
import Derived.Lib.Bytealg
import Derived.Deep.DeepCutAuto
import Derived.Test.YtpgiboblonlddaaGreatDoorQ5
namespace Go.Proofs.YtpgiboblonlddaaGreatDoor
open Go.RowKit
set_option linter.unusedVariables false
set_option linter.unusedSimpArgs false
abbrev zA : Array Value := #[.string ⟨#[]⟩, .int .i64 0, .string ⟨#[]⟩, .string ⟨#[]⟩, .string ⟨#[]⟩, .slice none 0 0, .pointer none, .slice none 0 0]
theorem cells8 {w : World} {k : Nat} {x0 x1 x2 x3 x4 x5 x6 x7 : Value} {t : TypeId} (h : BoxAt w k #[x0, x1, x2, x3, x4, x5, x6, x7] t) :
    w.cell? ⟨k, 0, none⟩ = some x0 ∧ w.cell? ⟨k, 1, none⟩ = some x1 ∧ w.cell? ⟨k, 2, none⟩ = some x2 ∧ w.cell? ⟨k, 3, none⟩ = some x3 ∧ w.cell? ⟨k, 4, none⟩ = some x4 ∧ w.cell? ⟨k, 5, none⟩ = some x5 ∧ w.cell? ⟨k, 6, none⟩ = some x6 ∧ w.cell? ⟨k, 7, none⟩ = some x7 ∧
    w.frozen? ⟨k, 0, none⟩ = false ∧ w.frozen? ⟨k, 1, none⟩ = false ∧ w.frozen? ⟨k, 2, none⟩ = false ∧ w.frozen? ⟨k, 3, none⟩ = false ∧ w.frozen? ⟨k, 4, none⟩ = false ∧ w.frozen? ⟨k, 5, none⟩ = false ∧ w.frozen? ⟨k, 6, none⟩ = false ∧ w.frozen? ⟨k, 7, none⟩ = false :=
  ⟨h.cell 0, h.cell 1, h.cell 2, h.cell 3, h.cell 4, h.cell 5, h.cell 6, h.cell 7, Lib.frozen_of_heap h 0, Lib.frozen_of_heap h 1, Lib.frozen_of_heap h 2, Lib.frozen_of_heap h 3, Lib.frozen_of_heap h 4, Lib.frozen_of_heap h 5, Lib.frozen_of_heap h 6, Lib.frozen_of_heap h 7⟩
def set8 (w : World) (b : Nat) (x0 x1 x2 x3 x4 x5 x6 x7 : Value) : World := (set7 w b x0 x1 x2 x3 x4 x5 x6).setCell ⟨b, 7, none⟩ x7
theorem set8_heap (w : World) (b : Nat) (x0 x1 x2 x3 x4 x5 x6 x7 : Value) (k : Nat) (hk : k ≠ b) : (set8 w b x0 x1 x2 x3 x4 x5 x6 x7).heap[k]? = w.heap[k]? := by
  unfold set8
  rw [Below.heap_setCell _ _ _ k hk, set7_heap _ _ _ _ _ _ _ _ _ k hk]
theorem set8_size (w : World) (b : Nat) (x0 x1 x2 x3 x4 x5 x6 x7 : Value) : (set8 w b x0 x1 x2 x3 x4 x5 x6 x7).heap.size = w.heap.size := by
  unfold set8; simp [set7_size]
theorem Kp.set8 {rb : Nat} {a w : World} (h : Kp rb a w) {b : Nat} (hb : a.heap.size ≤ b) (hr : rb < a.heap.size) (x0 x1 x2 x3 x4 x5 x6 x7 : Value) : Kp rb a (set8 w b x0 x1 x2 x3 x4 x5 x6 x7) := (h.set7 hb hr x0 x1 x2 x3 x4 x5 x6).setNew hb hr 7 x7
theorem Rd.set8 {rb : Nat} {s : ByteArray} {i : Nat} {w : World} (h : Rd rb s i w) {b : Nat} (hb : rb ≠ b) (x0 x1 x2 x3 x4 x5 x6 x7 : Value) : Rd rb s i (set8 w b x0 x1 x2 x3 x4 x5 x6 x7) := (h.set7 hb x0 x1 x2 x3 x4 x5 x6).setOther hb 7 x7
theorem box_set8 {w : World} {E : Nat} {x0 x1 x2 x3 x4 x5 x6 x7 : Value} {t : TypeId} (h : BoxAt w E #[x0, x1, x2, x3, x4, x5, x6, x7] t) (y0 y1 y2 y3 y4 y5 y6 y7 : Value) :
    BoxAt (set8 w E y0 y1 y2 y3 y4 y5 y6 y7) E #[y0, y1, y2, y3, y4, y5, y6, y7] t := by
  unfold set8 set7
  unfold BoxAt at h ⊢
  simp [World.setCell, Array.getElem?_modify, h]
set_option maxRecDepth 100000 in
theorem res8 {fn : Func} {A M : Nat} {tmps : Array Value} {w : World} {b : Nat} {x0 x1 x2 x3 x4 x5 x6 x7 v : Value} {t : TypeId} (hres : fn.results = #[.cell A 276, .tmp M]) (ha : tmps.getD A undef = .pointer (some ⟨b, 0, none⟩)) (hm : tmps.getD M undef = v)
    (hb : BoxAt w b #[x0, x1, x2, x3, x4, x5, x6, x7] t) : (results fn tmps).run Tryz.prog w = .ok (.tuple #[.agg #[x0, x1, x2, x3, x4, x5, x6, x7], v]) w := by
  obtain ⟨q0, q1, q2, q3, q4, q5, q6, q7, _⟩ := cells8 hb
  have ha' : tmps[A]?.getD undef = .pointer (some ⟨b, 0, none⟩) := by rw [← ha]; simp
  have hm' : tmps[M]?.getD undef = v := by rw [← hm]; simp
  simp [results, hres, ha', hm', go_sem, q0, q1, q2, q3, q4, q5, q6, q7]
theorem end8w {fn : Func} {R : Ending → World → Prop} {a : Act} {w2 : World} {A M b : Nat} {x0 x1 x2 x3 x4 x5 x6 x7 v : Value} {t : TypeId} (hres : fn.results = #[.cell A 276, .tmp M]) (hbox : BoxAt w2 b #[x0, x1, x2, x3, x4, x5, x6, x7] t)
    (ha : a.tmps.getD A undef = .pointer (some ⟨b, 0, none⟩)) (hm : a.tmps.getD M undef = v) (hd : a.defers = []) (hR : R (.returned (.tuple #[.agg #[x0, x1, x2, x3, x4, x5, x6, x7], v])) w2) : bodyPost Tryz.prog fn R .ret a w2 :=
  bodyPost_ret (res8 hres ha hm hbox) hd hR
def arV (X : ByteArray) (k : Int) (t n a : ByteArray) (A1 : Option Addr) (n1 c1 : Nat) (p : Option Addr) (A2 : Option Addr) (n2 c2 : Nat) : Value := .agg #[.string X, .int .i64 k, .string t, .string n, .string a, .slice A1 n1 c1, .pointer p, .slice A2 n2 c2]
def GotA (rb : Nat) (s : ByteArray) (w : World) (r : Option (ByteArray × EX × Nat)) (e : Ending) (w' : World) : Prop :=
  Kp rb w w' ∧ ∃ (X : ByteArray) (k : Int) (t n a : ByteArray) (A1 : Option Addr) (n1 c1 : Nat) (p : Option Addr) (A2 : Option Addr) (n2 c2 : Nat) (j : Nat),
    e = .returned (.tuple #[arV X k t n a A1 n1 c1 p A2 n2 c2, .bool r.isSome]) ∧ Rd rb s j w' ∧ j ≤ s.size ∧ (r = none → k = 0) ∧
    ∀ x y m, r = some (x, y, m) → x = X ∧ m = j ∧ ExF w' (Since w.heap.size w') y ⟨.int .i64 k, .string t, .string n, .string a, .slice A1 n1 c1, .pointer p, .slice A2 n2 c2⟩
theorem named_first {rb : Nat} {s : ByteArray} (hs : s.size ≤ 1000000) (L i : Nat) (w : World) (hr : Rd rb s i w) (hi : i ≤ s.size)
    (hL : BoxAt w L #[.func (.func 276) #[pt rb] #[], .func (.func 280) #[pt rb] #[]] 351) (n3 : L ≠ rb) :
    Calls Tryz.prog 275 #[pt rb, .slice (some ⟨L, 0, none⟩) 2 2] w (Got0 rb s w ((quoS s i).or (nubS s i))) := by
  have h := first_any (by omega) [.func (.func 276) #[pt rb] #[], .func (.func 280) #[pt rb] #[]] [quoS s, nubS s] L 2 i w hr hi rfl (by simp) (fun j fv h => ?_) (BoxAt.lt hL) n3 (fun j fv f h1' h2' => ?_)
  · unfold orAll orAll orAll at h
    rw [Option.or_none] at h
    exact h
  · rw [BoxAt.cell hL j, List.getElem?_toArray]
    exact h
  · match j with
    | 0 => cases h1'; cases h2'; exact ⟨_, _, _, rfl, fun args w => by go_simp, fun W i _ hr hi => quoted_way hs i W hr hi⟩
    | 1 => cases h1'; cases h2'; exact ⟨_, _, _, rfl, fun args w => by go_simp, fun W i _ hr hi => number_way (by omega) i W hr hi⟩
    | j + 2 => cases h1'
theorem nam_val (s : ByteArray) (i j k m : Nat) (hj : nm s i = j) (hk : bl s j = k) (hm : bl s (k + 1) = m) (hne : j ≠ i) (hc : isAt s k 58 = true) (r : Res) (hr : (quoS s m).or (nubS s m) = r) :
    (namS s i).isSome = r.isSome ∧ ∀ x y q, namS s i = some (x, y, q) → x = s.extract i j ∧ r = some (y, q) := by
  unfold namS
  rw [hj, if_neg hne, hk, hc, if_pos rfl, hm, hr]
  cases r with
  | none => exact ⟨rfl, fun x y q h => by cases h⟩
  | some p => obtain ⟨e, q'⟩ := p; exact ⟨rfl, fun x y q h => by cases h; exact ⟨rfl, rfl⟩⟩
set_option maxHeartbeats 4000000 in
set_option maxRecDepth 100000 in
theorem named_any {rb : Nat} {s : ByteArray} (hs : s.size ≤ 1000000) (i : Nat) (w : World) (hr : Rd rb s i w) (hi : i ≤ s.size) : Calls Tryz.prog 282 #[pt rb] w (GotA rb s w (namS s i)) := by
  have hn := nm_ok s i hi
  have he := ext_empty s i (nm s i) hn.1 hn.2
  have hP := fun W (h : Rd rb s i W) => pass_any endName W h (by omega) hi
  obtain ⟨j, hj⟩ : ∃ j, nm s i = j := ⟨_, rfl⟩
  rw [hj] at hn he hP
  obtain ⟨X, hX⟩ : ∃ X, s.extract i j = X := ⟨_, rfl⟩
  rw [hX] at he hP
  have hB := bl_ok s j hn.2
  have hP2 := fun W (h : Rd rb s j W) => pass_any endBlank W h (by omega) hn.2
  obtain ⟨k, hk⟩ : ∃ k, bl s j = k := ⟨_, rfl⟩
  rw [hk] at hB hP2
  have hT := fun W (h : Rd rb s k W) => take_any 58 W h (by omega) hB.2
  obtain ⟨b, hb⟩ : ∃ b, isAt s k 58 = b := ⟨_, rfl⟩
  have hk1 : b = true → k + 1 ≤ s.size := fun h => isAt_lt (hb.trans h)
  rw [hb] at hT
  have HP := Lib.hid hP
  have HP2 := Lib.hid hP2
  have HT := Lib.hid hT
  have HR := Lib.hid hr
  have hlt := hr.lt
  have HE := Lib.hid he
  unfold pt at HP HP2 HT ⊢
  by_cases hbad : j = i ∨ b = false
  · have hnone : namS s i = none := by
      unfold namS
      rw [hj]
      rcases hbad with h | h
      · rw [if_pos h]
      · rw [hk, hb, h]; simp
    rw [hnone]
    have Hb := Lib.hid hbad
    clear hP hP2 hT hr he hj hX hk hb hnone hbad hk1
    cases hx : X.toList.isEmpty
    case true =>
      go_enter Tryz.func282, Tryz.ntmps282
      go_wp2_with fail
      go_at_call 218
      refine (HP.out _ (HR.out.alloc _)).mono ?_
      rintro e w1 ⟨rfl, g1, g2⟩
      have G1 := Lib.hid g1
      have G2 := Lib.hid (((Kp.refl rb w).alloc (Nat.le_of_lt hlt) _).trans g2)
      have hc := BoxAt.kp (BoxAt.new w zA 276) g2 (by omega)
      have hcl := hc.lt
      have HC := Lib.hid hc
      clear g1 g2 hc
      go_wp2_with fail
      go_at_call 218
      refine (HP2.out _ G1.out).mono ?_
      rintro e w2 ⟨rfl, g3, g4⟩
      have G3 := Lib.hid g3
      have HK := Lib.hid (G2.out.trans g4)
      have hc2 := BoxAt.kp HC.out g4 (by omega)
      have hcl2 := hc2.lt
      have HC2 := Lib.hid hc2
      obtain ⟨q0, q1, q2, q3, q4, q5, q6, q7, p0, p1, p2, p3, p4, p5, p6, p7⟩ := cells8 hc2
      clear g3 g4 hc2
      go_wp2
      exact end8w Tryz.results282 (box_set8 HC2.out _ _ _ _ _ _ _ _) rfl rfl rfl ⟨HK.out.set8 (Nat.le_refl _) hlt _ _ _ _ _ _ _ _, _, _, _, _, _, _, _, _, _, _, _, _, k, rfl, G3.out.set8 (by omega) _ _ _ _ _ _ _ _, hB.2, fun _ => rfl, fun x y m h => by cases h⟩
    have hb0 : b = false := by
      rcases Hb.out with h | h
      · have := HE.out; rw [hx, decide_eq_true h] at this; cases this
      · exact h
    subst hb0
    clear Hb
    go_enter Tryz.func282, Tryz.ntmps282
    go_wp2_with fail
    go_at_call 218
    refine (HP.out _ (HR.out.alloc _)).mono ?_
    rintro e w1 ⟨rfl, g1, g2⟩
    have G1 := Lib.hid g1
    have G2 := Lib.hid (((Kp.refl rb w).alloc (Nat.le_of_lt hlt) _).trans g2)
    have hc := BoxAt.kp (BoxAt.new w zA 276) g2 (by omega)
    have hcl := hc.lt
    have HC := Lib.hid hc
    clear g1 g2 hc
    go_wp2_with fail
    go_at_call 218
    refine (HP2.out _ G1.out).mono ?_
    rintro e w2 ⟨rfl, g3, g4⟩
    have G3 := Lib.hid g3
    have HK := Lib.hid (G2.out.trans g4)
    have hc2 := BoxAt.kp HC.out g4 (by omega)
    have hcl2 := hc2.lt
    have HC2 := Lib.hid hc2
    clear g3 g4 hc2
    go_wp2_with fail
    go_at_call 253
    refine (HT.out _ G3.out).mono ?_
    rintro e w3 ⟨rfl, g5, g6⟩
    have G5 := Lib.hid (show Rd rb s k w3 by simpa using g5)
    have HK3 := Lib.hid (HK.out.trans g6)
    have hc3 := BoxAt.kp HC2.out g6 (by omega)
    have hcl3 := hc3.lt
    have HC3 := Lib.hid hc3
    obtain ⟨q0, q1, q2, q3, q4, q5, q6, q7, p0, p1, p2, p3, p4, p5, p6, p7⟩ := cells8 hc3
    clear g5 g6 hc3
    go_wp2
    exact end8w Tryz.results282 (box_set8 HC3.out _ _ _ _ _ _ _ _) rfl rfl rfl ⟨HK3.out.set8 (Nat.le_refl _) hlt _ _ _ _ _ _ _ _, _, _, _, _, _, _, _, _, _, _, _, _, k, rfl, G5.out.set8 (by omega) _ _ _ _ _ _ _ _, hB.2, fun _ => rfl, fun x y m h => by cases h⟩
  · have hne : j ≠ i := fun h => hbad (.inl h)
    have hb1 : b = true := by cases b; exact absurd (.inr rfl) hbad; rfl
    subst hb1
    have hx : X.toList.isEmpty = false := by rw [HE.out, decide_eq_false hne]
    have hk2 := hk1 rfl
    have hB3 := bl_ok s (k + 1) hk2
    have hP3 := fun W (h : Rd rb s (k + 1) W) => pass_any endBlank W h (by omega) hk2
    obtain ⟨m, hm⟩ : ∃ m, bl s (k + 1) = m := ⟨_, rfl⟩
    rw [hm] at hB3 hP3
    have hF := fun L W h1 h2 h3 => named_first (rb := rb) hs L m W h1 hB3.2 h2 h3
    obtain ⟨r, hrr⟩ : ∃ r, (quoS s m).or (nubS s m) = r := ⟨_, rfl⟩
    obtain ⟨hv1, hv2⟩ := nam_val s i j k m hj hk hm hne hb r hrr
    rw [hX] at hv2
    rw [hrr] at hF
    obtain ⟨R, hRR⟩ : ∃ R, namS s i = R := ⟨_, rfl⟩
    rw [hRR] at hv1 hv2 ⊢
    have HV1 := Lib.hid hv1
    have HV2 := Lib.hid hv2
    have HP3 := Lib.hid hP3
    have HF := Lib.hid hF
    unfold pt at HP3 HF
    clear hP hP2 hT hr he hj hX hk hb hbad hk1 hP3 hm hF hrr hv1 hv2 hRR
    go_enter Tryz.func282, Tryz.ntmps282
    go_wp2_with fail
    go_at_call 218
    refine (HP.out _ (HR.out.alloc _)).mono ?_
    rintro e w1 ⟨rfl, g1, g2⟩
    have G1 := Lib.hid g1
    have G2 := Lib.hid (((Kp.refl rb w).alloc (Nat.le_of_lt hlt) _).trans g2)
    have hc := BoxAt.kp (BoxAt.new w zA 276) g2 (by omega)
    have hcl := hc.lt
    have HC := Lib.hid hc
    clear g1 g2 hc
    go_wp2_with fail
    go_at_call 218
    refine (HP2.out _ G1.out).mono ?_
    rintro e w2 ⟨rfl, g3, g4⟩
    have G3 := Lib.hid g3
    have HK := Lib.hid (G2.out.trans g4)
    have hc2 := BoxAt.kp HC.out g4 (by omega)
    have hcl2 := hc2.lt
    have HC2 := Lib.hid hc2
    clear g3 g4 hc2
    go_wp2_with fail
    go_at_call 253
    refine (HT.out _ G3.out).mono ?_
    rintro e w3 ⟨rfl, g5, g6⟩
    have G5 := Lib.hid (show Rd rb s (k + 1) w3 by simpa using g5)
    have HK3 := Lib.hid (HK.out.trans g6)
    have hc3 := BoxAt.kp HC2.out g6 (by omega)
    have hcl3 := hc3.lt
    have HC3 := Lib.hid hc3
    clear g5 g6 hc3
    go_wp2_with fail
    go_at_call 218
    refine (HP3.out _ G5.out).mono ?_
    rintro e w4 ⟨rfl, g7, g8⟩
    have HK4 := Lib.hid (HK3.out.trans g8)
    have hc4 := BoxAt.kp HC3.out g8 (by omega)
    have hcl4 := hc4.lt
    have HC4 := Lib.hid hc4
    have hl4 := g7.lt
    have HFF := Lib.hid (HF.out w4.heap.size (w4.alloc (.cells #[.func (.func 276) #[pt rb] #[], .func (.func 280) #[pt rb] #[]] 351)) (g7.alloc _) (BoxAt.new _ _ _) (by omega))
    unfold pt at HFF
    clear g7 g8 hc4
    go_wp2_with fail
    go_at_call 275
    refine HFF.out.mono ?_
    rintro e w5 ⟨⟨h1, k', t, n, a, A1, n1, c1', p, A2, n2, c2', j', rfl, h2, hj', h3⟩, hz⟩
    have HK5 := Lib.hid ((HK4.out.alloc (Nat.le_of_lt hl4) _).trans h1)
    have hc5 := BoxAt.kp (HC4.out.alloc (.cells #[.func (.func 276) #[pt rb] #[], .func (.func 280) #[pt rb] #[]] 351)) h1 (by omega)
    have hcl5 := hc5.lt
    have HC5 := Lib.hid hc5
    have H2 := Lib.hid h2
    have H3 := Lib.hid h3
    have HZ := Lib.hid hz
    have hs4 := h1.size
    rw [World.size_alloc] at hs4
    obtain ⟨q0, q1, q2, q3, q4, q5, q6, q7, p0, p1, p2, p3, p4, p5, p6, p7⟩ := cells8 hc5
    unfold exV
    clear h1 h2 h3 hz hc5
    go_wp2
    refine end8w Tryz.results282 ((box_set8 HC5.out _ _ _ _ _ _ _ _).alloc _) rfl rfl rfl ⟨(HK5.out.set8 (Nat.le_refl _) hlt _ _ _ _ _ _ _ _).alloc (by rw [set8_size]; omega) _, X, k', t, n, a, A1, n1, c1', p, A2, n2, c2', j', by rw [HV1.out]; rfl, (H2.out.set8 (by omega) _ _ _ _ _ _ _ _).alloc _, hj', fun h => ?_, fun x y q h => ?_⟩
    · have hr0 : r = none := by
        have := HV1.out
        rw [h] at this
        cases r with
        | none => rfl
        | some p => cases this
      have h1 := HZ.out hr0
      simp [exV] at h1
      exact h1.1.1
    · obtain ⟨rfl, hr0⟩ := HV2.out x y q h
      obtain ⟨h4, h5⟩ := H3.out y q hr0
      refine ⟨rfl, h4, ExF.carry (fun z hq => ?_) _ _ h5⟩
      obtain ⟨hq1, hq2⟩ := hq
      rw [World.size_alloc] at hq1
      have hq3 : z < (set8 w5 w.heap.size (.string x) (.int .i64 k') (.string t) (.string n) (.string a) (.slice A1 n1 c1') (.pointer p) (.slice A2 n2 c2')).heap.size := by rw [set8_size]; exact hq2
      exact ⟨⟨by omega, by rw [World.size_alloc]; exact Nat.lt_succ_of_lt hq3⟩, (Lib.alloc_old _ _ z hq3).trans (set8_heap _ _ _ _ _ _ _ _ _ _ z (by omega))⟩
theorem arg_val (P : Nat → Res) (s : ByteArray) (i : Nat) (h : namS s i = none) : (argS P s i).isSome = (headS P s i).isSome ∧ ∀ x y q, argS P s i = some (x, y, q) → x = E0 ∧ headS P s i = some (y, q) := by
  unfold argS
  rw [h]
  cases headS P s i with
  | none => exact ⟨rfl, fun x y q h => by cases h⟩
  | some p => obtain ⟨e, q'⟩ := p; exact ⟨rfl, fun x y q h => by cases h; exact ⟨rfl, rfl⟩⟩
theorem arg_nam (P : Nat → Res) (s : ByteArray) (i : Nat) (x : ByteArray × EX × Nat) (h : namS s i = some x) : argS P s i = some x := by
  unfold argS; rw [h]
set_option maxHeartbeats 4000000 in
set_option maxRecDepth 100000 in
theorem argument_any {rb : Nat} {s : ByteArray} {d : Nat} {P : Nat → Res} (hs : s.size ≤ 1000000) (hd : d ≤ 4000) (hP : WayTo rb s 241 #[pt rb, .int .i64 ((d + 1 : Nat) : Int)] P) (i : Nat) (w : World) (hr : Rd rb s i w) (hi : i ≤ s.size) :
    Calls Tryz.prog 265 #[pt rb, .int .i64 d] w (GotA rb s w (argS P s i)) := by
  have hN := fun W h => named_any (rb := rb) hs i W h hi
  have hH := fun W h => head_way (rb := rb) hs hd hP i W h hi
  have hv := arg_val P s i
  have hv2 := arg_nam P s i
  obtain ⟨R, hRR⟩ : ∃ R, argS P s i = R := ⟨_, rfl⟩
  obtain ⟨r, hrr⟩ : ∃ r, namS s i = r := ⟨_, rfl⟩
  obtain ⟨q, hq⟩ : ∃ q, headS P s i = q := ⟨_, rfl⟩
  rw [hrr] at hN hv hv2
  rw [hq] at hH hv
  rw [hRR] at hv hv2 ⊢
  have HN := Lib.hid hN
  have HH := Lib.hid hH
  have HR := Lib.hid hr
  have HV := Lib.hid hv
  have HV2 := Lib.hid hv2
  have hlt := hr.lt
  have c1 := hr.c1
  have f1 := hr.f 1
  have hi0 : (i : Int) ≤ 1000000 := by omega
  clear hP hN hH hv hv2 hRR hrr hq hr
  unfold pt at HN HH ⊢
  go_enter Tryz.func265, Tryz.ntmps265
  go_wp2_with fail
  go_at_call 282
  refine (HN.out _ (HR.out.alloc _)).mono ?_
  rintro e w1 ⟨h1, X, k, t, n, a, A1, n1, c1', p, A2, n2, c2', j, rfl, h2, hj, hz, h3⟩
  have HK := Lib.hid (((Kp.refl rb w).alloc (Nat.le_of_lt hlt) _).trans h1)
  have hc := BoxAt.kp (BoxAt.new w zA 276) h1 (by omega)
  have hl := hc.lt
  have HC := Lib.hid hc
  have H2 := Lib.hid h2
  have H3 := Lib.hid h3
  have hlr := h2.lt
  have d1 := h2.c1
  have e1 := h2.f 1
  unfold arV
  cases r with
  | some x =>
    have hR : R = some x := HV2.out x rfl
    subst hR
    obtain ⟨q0, q1, q2, q3, q4, q5, q6, q7, p0, p1, p2, p3, p4, p5, p6, p7⟩ := cells8 hc
    clear h1 h2 h3 hc hz
    go_wp2
    refine end8w Tryz.results265 ((box_set8 HC.out _ _ _ _ _ _ _ _).alloc _) rfl rfl rfl ⟨(HK.out.set8 (Nat.le_refl _) hlt _ _ _ _ _ _ _ _).alloc (by rw [set8_size]; omega) _, X, k, t, n, a, A1, n1, c1', p, A2, n2, c2', j, rfl, (H2.out.set8 (by omega) _ _ _ _ _ _ _ _).alloc _, hj, (fun h => by cases h), fun x y q h => ?_⟩
    obtain ⟨h4, h5, h6⟩ := H3.out x y q h
    refine ⟨h4, h5, ExF.carry (fun z hq => ?_) _ _ h6⟩
    obtain ⟨hq1, hq2⟩ := hq
    rw [World.size_alloc] at hq1
    have hq3 : z < (set8 w1 w.heap.size (.string X) (.int .i64 k) (.string t) (.string n) (.string a) (.slice A1 n1 c1') (.pointer p) (.slice A2 n2 c2')).heap.size := by rw [set8_size]; exact hq2
    exact ⟨⟨by omega, by rw [World.size_alloc]; exact Nat.lt_succ_of_lt hq3⟩, (Lib.alloc_old _ _ z hq3).trans (set8_heap _ _ _ _ _ _ _ _ _ _ z (by omega))⟩
  | none =>
    clear h1 h2 h3 hc hz
    have hv := (HV.out rfl).1
    have hv3 := (HV.out rfl).2
    have Hv := Lib.hid hv
    have Hv3 := Lib.hid hv3
    have hsz1 : (w1.setCell ⟨rb, 1, none⟩ (.int .i64 (i : Nat))).heap.size = w1.heap.size := by simp
    have HB := Lib.hid (HH.out ((w1.setCell ⟨rb, 1, none⟩ (.int .i64 (i : Nat))).alloc (.cells #[.string X, .int .i64 k, .string t, .string n, .string a, .slice A1 n1 c1', .pointer p, .slice A2 n2 c2'] 276)) ((H2.out.set i).alloc _))
    have HK2 := Lib.hid ((HK.out.setCell 1 (.int .i64 (i : Nat))).alloc (by rw [hsz1]; omega) (.cells #[.string X, .int .i64 k, .string t, .string n, .string a, .slice A1 n1 c1', .pointer p, .slice A2 n2 c2'] 276))
    have HC2 := Lib.hid ((BoxAt.setOther HC.out ⟨rb, 1, none⟩ (.int .i64 (i : Nat)) (by show w.heap.size ≠ rb; omega)).alloc (.cells #[.string X, .int .i64 k, .string t, .string n, .string a, .slice A1 n1 c1', .pointer p, .slice A2 n2 c2'] 276))
    clear hv hv3 HV HV2
    go_wp2_with fail
    go_at_call 262
    refine HB.out.mono ?_
    rintro e w2 ⟨⟨h1, k', t', n', a', B1, m1, b1, p', B2, m2, b2, j', rfl, h2, hj', h3⟩, hz⟩
    have HK3 := Lib.hid (HK2.out.trans h1)
    have hc3 := BoxAt.kp HC2.out h1 (by omega)
    have hl3 := hc3.lt
    have HC3 := Lib.hid hc3
    have H22 := Lib.hid h2
    have H33 := Lib.hid h3
    have HZ := Lib.hid hz
    have hs1 := h1.size
    rw [World.size_alloc, hsz1] at hs1
    obtain ⟨q0, q1, q2, q3, q4, q5, q6, q7, p0, p1, p2, p3, p4, p5, p6, p7⟩ := cells8 hc3
    unfold exV
    clear h1 h2 h3 hz hc3 HB
    go_wp2
    refine end8w Tryz.results265 ((box_set8 HC3.out _ _ _ _ _ _ _ _).alloc _) rfl rfl rfl ⟨(HK3.out.set8 (Nat.le_refl _) hlt _ _ _ _ _ _ _ _).alloc (by rw [set8_size]; omega) _, E0, k', t', n', a', B1, m1, b1, p', B2, m2, b2, j', by rw [Hv.out]; rfl, (H22.out.set8 (by omega) _ _ _ _ _ _ _ _).alloc _, hj', fun h => ?_, fun x y z h => ?_⟩
    · have hr0 : q = none := by
        have := Hv.out
        rw [h] at this
        cases q with
        | none => rfl
        | some p => cases this
      have h1 := HZ.out hr0
      simp [exV] at h1
      exact h1.1.1
    · obtain ⟨rfl, hr0⟩ := Hv3.out x y z h
      obtain ⟨h4, h5⟩ := H33.out y z hr0
      refine ⟨rfl, h4, ExF.carry (fun z hq => ?_) _ _ h5⟩
      obtain ⟨hq1, hq2⟩ := hq
      rw [World.size_alloc, hsz1] at hq1
      have hq3 : z < (set8 w2 w.heap.size (.string E0) (.int .i64 k') (.string t') (.string n') (.string a') (.slice B1 m1 b1) (.pointer p') (.slice B2 m2 b2)).heap.size := by rw [set8_size]; exact hq2
      exact ⟨⟨by omega, by rw [World.size_alloc]; exact Nat.lt_succ_of_lt hq3⟩, (Lib.alloc_old _ _ z hq3).trans (set8_heap _ _ _ _ _ _ _ _ _ _ z (by omega))⟩
end Go.Proofs.YtpgiboblonlddaaGreatDoor

namespace Go.Proofs.YtpgiboblonlddaaGreatDoor
open Go.RowKit
set_option linter.unusedVariables false
set_option linter.unusedSimpArgs false
set_option maxHeartbeats 2000000 in
set_option maxRecDepth 100000 in
theorem termsAttr_any (k : Int) (t n a : ByteArray) (A1 : Option Addr) (n1 c1 : Nat) (p : Option Addr) (A2 : Option Addr) (n2 c2 : Nat) (w : World) :
    Calls Tryz.prog 255 #[exV k t n a A1 n1 c1 p A2 n2 c2] w fun e w' => e = .returned (.bool ((k == 4) && !emp a)) ∧ Below w.heap.size w w' := by
  unfold exV emp
  cases hz : (k == 4)
  case false =>
    go_enter Tryz.func255, Tryz.ntmps255
    go_wp2
    go_ret
    exact ⟨ret_bool (by rfl), (Below.refl _ _).alloc (Nat.le_refl _) _⟩
  cases hg : a.toList.isEmpty
  all_goals
    go_enter Tryz.func255, Tryz.ntmps255
    go_wp2
    go_ret
    exact ⟨ret_bool (by rfl), (Below.refl _ _).alloc (Nat.le_refl _) _⟩
set_option maxHeartbeats 2000000 in
set_option maxRecDepth 100000 in
theorem mayAsk_any (k : Int) (t n a : ByteArray) (A1 : Option Addr) (n1 c1 : Nat) (p : Option Addr) (A2 : Option Addr) (n2 c2 : Nat) (w : World) :
    Calls Tryz.prog 256 #[exV k t n a A1 n1 c1 p A2 n2 c2] w fun e w' => e = .returned (.bool (decide (k = 0 ∨ k = 1 ∨ k = 2 ∨ k = 5) || ((k == 4) && !emp a))) ∧ Below w.heap.size w w' := by
  have HT := Lib.hid (fun W => termsAttr_any k t n a A1 n1 c1 p A2 n2 c2 W)
  by_cases h : k = 0 ∨ k = 1 ∨ k = 2 ∨ k = 5
  · rw [decide_eq_true h, Bool.true_or]
    unfold exV
    clear HT
    rcases h with rfl | rfl | rfl | rfl
    all_goals
      go_enter Tryz.func256, Tryz.ntmps256
      go_wp2
      go_ret
      exact ⟨rfl, (Below.refl _ _).alloc (Nat.le_refl _) _⟩
  · rw [decide_eq_false h, Bool.false_or]
    obtain ⟨q, hq⟩ : ∃ q, ((k == 4) && !emp a) = q := ⟨_, rfl⟩
    rw [hq] at HT ⊢
    have z0 : (k == 0) = false := beq_eq_false_iff_ne.2 (by omega)
    have z1 : (k == 1) = false := beq_eq_false_iff_ne.2 (by omega)
    have z2 : (k == 2) = false := beq_eq_false_iff_ne.2 (by omega)
    have z5 : (k == 5) = false := beq_eq_false_iff_ne.2 (by omega)
    clear h hq
    unfold exV at HT ⊢
    go_enter Tryz.func256, Tryz.ntmps256
    go_wp2_with fail
    go_at_call 255
    refine (HT.out _).mono ?_
    rintro e w' ⟨rfl, hb⟩
    have HB := Lib.hid (((Below.refl w.heap.size w).alloc (Nat.le_refl _) _).trans (hb.mono (by simp)))
    clear hb
    go_wp2
    go_ret
    exact ⟨rfl, HB.out⟩
abbrev zL : Array Value := #[.int .i64 0, .int .i64 0, .slice none 0 0]
theorem cells3 {w : World} {k : Nat} {x0 x1 x2 : Value} {t : TypeId} (h : BoxAt w k #[x0, x1, x2] t) :
    w.cell? ⟨k, 0, none⟩ = some x0 ∧ w.cell? ⟨k, 1, none⟩ = some x1 ∧ w.cell? ⟨k, 2, none⟩ = some x2 ∧ w.frozen? ⟨k, 0, none⟩ = false ∧ w.frozen? ⟨k, 1, none⟩ = false ∧ w.frozen? ⟨k, 2, none⟩ = false :=
  ⟨h.cell 0, h.cell 1, h.cell 2, Lib.frozen_of_heap h 0, Lib.frozen_of_heap h 1, Lib.frozen_of_heap h 2⟩
def set3 (w : World) (b : Nat) (x0 x1 x2 : Value) : World := ((w.setCell ⟨b, 0, none⟩ x0).setCell ⟨b, 1, none⟩ x1).setCell ⟨b, 2, none⟩ x2
theorem set3_heap (w : World) (b : Nat) (x0 x1 x2 : Value) (k : Nat) (hk : k ≠ b) : (set3 w b x0 x1 x2).heap[k]? = w.heap[k]? := by
  unfold set3
  rw [Below.heap_setCell _ _ _ k hk, Below.heap_setCell _ _ _ k hk, Below.heap_setCell _ _ _ k hk]
theorem set3_size (w : World) (b : Nat) (x0 x1 x2 : Value) : (set3 w b x0 x1 x2).heap.size = w.heap.size := by
  unfold set3; simp
theorem Kp.set3 {rb : Nat} {a w : World} (h : Kp rb a w) {b : Nat} (hb : a.heap.size ≤ b) (hr : rb < a.heap.size) (x0 x1 x2 : Value) : Kp rb a (set3 w b x0 x1 x2) := ((h.setNew hb hr 0 x0).setNew hb hr 1 x1).setNew hb hr 2 x2
theorem Rd.set3 {rb : Nat} {s : ByteArray} {i : Nat} {w : World} (h : Rd rb s i w) {b : Nat} (hb : rb ≠ b) (x0 x1 x2 : Value) : Rd rb s i (set3 w b x0 x1 x2) := ((h.setOther hb 0 x0).setOther hb 1 x1).setOther hb 2 x2
theorem box_set3 {w : World} {E : Nat} {x0 x1 x2 : Value} {t : TypeId} (h : BoxAt w E #[x0, x1, x2] t) (y0 y1 y2 : Value) : BoxAt (set3 w E y0 y1 y2) E #[y0, y1, y2] t := by
  unfold set3
  unfold BoxAt at h ⊢
  simp [World.setCell, Array.getElem?_modify, h]
set_option maxRecDepth 100000 in
theorem res3 (T : TypeId) (hT : Tryz.prog.cellsOf T = 3) {fn : Func} {A M : Nat} {tmps : Array Value} {w : World} {b : Nat} {x0 x1 x2 v : Value} {t : TypeId} (hres : fn.results = #[.cell A 300, .tmp M]) (ha : tmps.getD A undef = .pointer (some ⟨b, 0, none⟩)) (hm : tmps.getD M undef = v)
    (hb : BoxAt w b #[x0, x1, x2] t) : (results fn tmps).run Tryz.prog w = .ok (.tuple #[.agg #[x0, x1, x2], v]) w := by
  obtain ⟨q0, q1, q2, _⟩ := cells3 hb
  have ha' : tmps[A]?.getD undef = .pointer (some ⟨b, 0, none⟩) := by rw [← ha]; simp
  have hm' : tmps[M]?.getD undef = v := by rw [← hm]; simp
  simp [results, hres, ha', hm', go_sem, q0, q1, q2]
theorem end3w {fn : Func} {R : Ending → World → Prop} {a : Act} {w2 : World} {A M b : Nat} {x0 x1 x2 v : Value} {t : TypeId} (hres : fn.results = #[.cell A 300, .tmp M]) (hbox : BoxAt w2 b #[x0, x1, x2] t)
    (ha : a.tmps.getD A undef = .pointer (some ⟨b, 0, none⟩)) (hm : a.tmps.getD M undef = v) (hd : a.defers = []) (hR : R (.returned (.tuple #[.agg #[x0, x1, x2], v])) w2) : bodyPost Tryz.prog fn R .ret a w2 :=
  bodyPost_ret (res3 300 (by kernel_rfl) hres ha hm hbox) hd hR
def GotL (rb : Nat) (s : ByteArray) (i : Nat) (w : World) (r : Option (Nat × Nat × Nat)) (e : Ending) (w' : World) : Prop :=
  Kp rb w w' ∧ ∃ f p j : Nat, e = .returned (.tuple #[.agg #[.int .i64 f, .int .i64 p, .slice none 0 0], .bool r.isSome]) ∧ Rd rb s j w' ∧ j ≤ s.size ∧ f ≤ s.size ∧ p ≤ s.size ∧ (r = none → j = i) ∧ ∀ f' p' m, r = some (f', p', m) → f' = f ∧ p' = p ∧ m = j
theorem sp_ok (s : ByteArray) (i : Nat) (hi : i ≤ s.size) : i ≤ sp s i ∧ sp s i ≤ s.size := ⟨behN_ge _ _ _, by have := behN_le spB s.data.toList i (by rw [size_data]; exact hi); rw [size_data] at this; exact this⟩
theorem nlS_step (s : ByteArray) (f fr i : Nat) (h : isAt s i 10 = true) : nlS s f fr i = nlS s (f + 1) (i + 1) (sp s (i + 1)) := by
  rw [nlS, dif_pos h]
theorem nlS_end (s : ByteArray) (f fr i : Nat) (h : isAt s i 10 = false) : nlS s f fr i = (f, fr, i) := by
  rw [nlS, dif_neg (by rw [h]; simp)]
end Go.Proofs.YtpgiboblonlddaaGreatDoor

namespace Go.Proofs.YtpgiboblonlddaaGreatDoor
open Go.RowKit
set_option linter.unusedVariables false
set_option linter.unusedSimpArgs false
theorem idxAny_tw (chars : List UInt8) : ∀ l : List UInt8, Lib.indexAny l chars = if (l.takeWhile (fun c => !chars.contains c)).length < l.length then ((l.takeWhile (fun c => !chars.contains c)).length : Int) else -1
  | [] => by simp [Lib.indexAny]
  | b :: l => by
    have ih := idxAny_tw chars l
    rw [Lib.indexAny, List.takeWhile_cons]
    generalize hT : l.takeWhile (fun c => !chars.contains c) = T at ih ⊢
    by_cases h : chars.contains b = true
    · have h2 : ¬ ((!chars.contains b) = true) := by rw [h]; decide
      rw [if_pos h, if_neg h2, if_pos (by simp)]
      rfl
    · have h2 : (!chars.contains b) = true := by rw [Bool.eq_false_iff.2 h]; rfl
      rw [if_neg h, if_pos h2, ih, List.length_cons, List.length_cons]
      by_cases hl : T.length < l.length
      · rw [if_pos hl]
        have h3 : ¬ (((T.length : Int) == -1) = true) := by rw [beq_iff_eq]; omega
        rw [if_neg h3, if_pos (show T.length + 1 < l.length + 1 by omega)]
        omega
      · rw [if_neg hl, if_neg (show ¬ T.length + 1 < l.length + 1 by omega)]
        rfl
theorem tx_idx (s : ByteArray) (i : Nat) (hi : i ≤ s.size) : (Lib.indexAny (s.extract i s.size).data.toList [10, 123, 125] = -1 ∧ tx s i = s.size) ∨ (∃ n : Nat, Lib.indexAny (s.extract i s.size).data.toList [10, 123, 125] = (n : Int) ∧ tx s i = i + n ∧ i + n < s.size) := by
  rw [extract_drop, idxAny_tw]
  have e : (fun c : UInt8 => !([10, 123, 125] : List UInt8).contains c) = txB := by
    funext c
    unfold txB
    rw [List.contains_cons, List.contains_cons, List.contains_cons, List.contains_nil, Bool.or_false, Bool.or_assoc]
  rw [e]
  unfold tx behN
  have hl : (s.data.toList.drop i).length = s.size - i := by rw [List.length_drop, size_data]
  have hle := takeWhile_le txB (s.data.toList.drop i)
  by_cases h : ((s.data.toList.drop i).takeWhile txB).length < (s.data.toList.drop i).length
  · rw [if_pos h]
    exact .inr ⟨_, rfl, rfl, by omega⟩
  · rw [if_neg h]
    exact .inl ⟨rfl, by omega⟩
set_option maxHeartbeats 2000000 in
set_option maxRecDepth 100000 in
theorem endText_of {s : ByteArray} (hIx : ∀ (x : ByteArray) (W : World), x.size ≤ 4000000 → Calls Tryz.prog 252 #[.string x, .string ⟨#[10, 123, 125]⟩] W fun e w' => e = .returned (.int .i64 (Lib.indexAny x.data.toList [10, 123, 125])) ∧ Below W.heap.size W w') : EndFn 240 tx s := by
  refine ⟨fun args w => by go_simp, fun i w hs hi => ?_⟩
  have hI := fun W => hIx (s.extract i s.size) W (by rw [ByteArray.size_extract]; omega)
  have hi0 : (i : Int) ≤ 4000000 := by omega
  have hjs : (i : Int) ≤ (s.size : Int) := by omega
  have hss : (s.size : Int) ≤ 4000000 := by omega
  rcases tx_idx s i hi with ⟨h1, h2⟩ | ⟨n, h1, h2, h3⟩
  · refine ⟨by omega, by omega, ?_⟩
    rw [h1] at hI
    have HI := Lib.hid hI
    rw [h2]
    clear hIx
    clear hI h1 h2
    go_enter Tryz.func240, Tryz.ntmps240
    go_wp2_with fail
    go_at_call 252
    refine (HI.out _).mono ?_
    rintro e w' ⟨rfl, hb⟩
    have HB := Lib.hid hb
    clear hb
    go_wp2
    go_ret
    exact ⟨rfl, HB.out⟩
  · refine ⟨by omega, by omega, ?_⟩
    rw [h1] at hI
    have HI := Lib.hid hI
    rw [h2]
    clear hIx
    have hn0 : (n : Int) ≤ 4000000 := by omega
    have hnd : decide ((0 : Int) ≤ (n : Int)) = true := decide_eq_true (by omega)
    clear hI h1 h2
    go_enter Tryz.func240, Tryz.ntmps240
    go_wp2_with fail
    go_at_call 252
    refine (HI.out _).mono ?_
    rintro e w' ⟨rfl, hb⟩
    have HB := Lib.hid hb
    clear hb
    go_wp2
    go_ret
    exact ⟨by congr 2, HB.out⟩
theorem stop_idx (c : UInt8) : decide ((0 : Int) ≤ Lib.indexByte [46, 42, 91, 125] c) = stopB c := by
  unfold stopB
  have e : ∀ x : UInt8, (x == c) = (c == x) := fun x => by rw [Bool.eq_iff_iff, beq_iff_eq, beq_iff_eq]; exact eq_comm
  unfold Lib.indexByte Lib.indexByte Lib.indexByte Lib.indexByte Lib.indexByte
  rw [e 46, e 42, e 91, e 125]
  cases c == 46 <;> cases c == 42 <;> cases c == 91 <;> cases c == 125 <;> decide
end Go.Proofs.YtpgiboblonlddaaGreatDoor

namespace Go.Proofs.YtpgiboblonlddaaGreatDoor
open Go.RowKit
set_option linter.unusedVariables false
set_option linter.unusedSimpArgs false
set_option maxHeartbeats 4000000 in
set_option maxRecDepth 100000 in
theorem nextLine_any {rb : Nat} {s : ByteArray} (hs : s.size ≤ 1000000) (i : Nat) (w : World) (hr : Rd rb s i w) (hi : i ≤ s.size) : Calls Tryz.prog 219 #[pt rb] w (GotL rb s i w (nextS s i)) := by
  have HR := Lib.hid hr
  have hlt := hr.lt
  have c0 := (hr.alloc (.cells zL 300)).c0
  have c1 := (hr.alloc (.cells zL 300)).c1
  obtain ⟨R, hRR⟩ : ∃ R, nextS s i = R := ⟨_, rfl⟩
  rw [hRR]
  have HRR := Lib.hid hRR
  have hi0 : (i : Int) ≤ 1000000 := by omega
  have hss : (s.size : Int) ≤ 1000000 := by omega
  clear hr hRR
  unfold pt
  go_enter Tryz.func219, Tryz.ntmps219
  go_wp2
  go_region
  go_wp2
  go_loopw [4, 5, 6] (fun t4 t5 t6 wr => ∃ f fr q : Nat, t4 = .int .i64 f ∧ t5 = .int .i64 fr ∧ t6 = .int .i64 q ∧ q ≤ s.size ∧ fr ≤ q ∧ f ≤ q ∧ Hid (nlS s f fr q = nlS s 0 i i) ∧ Hid (Rd rb s i wr) ∧ Hid (Kp rb w wr) ∧ Hid (BoxAt wr w.heap.size zL 300)) (fun _ _ t6 _ => s.size - (intOf t6).toNat)
  case atStart => exact ⟨0, i, i, rfl, rfl, rfl, hi, Nat.le_refl _, Nat.zero_le _, rfl, (HR.out.alloc _).drew, ((Kp.refl _ _).alloc (Nat.le_of_lt hlt) _).drew, (BoxAt.new _ _ _).drew⟩
  case round =>
    obtain ⟨f, fr, q, rfl, rfl, rfl, hq, hfr, hf, Hn, HRd, HK, HC⟩ := hrel
    have hp := fun W => Tryz.strings_HasPrefix (s.extract q s.size) ⟨#[10]⟩ W
    rw [isAt_prefix s q 10 hq] at hp
    obtain ⟨b, hb⟩ : ∃ b, isAt s q 10 = b := ⟨_, rfl⟩
    rw [hb] at hp
    have HP := Lib.hid hp
    have Hb := Lib.hid hb
    have d0 := HRd.out.c0
    have d1 := HRd.out.c1
    have e1 := HRd.out.f 1
    have hrl := HRd.out.lt
    have hcl := HC.out.lt
    have hq0 : (q : Int) ≤ 1000000 := by omega
    have hqs : (q : Int) ≤ (s.size : Int) := by omega
    have hfr0 : (fr : Int) ≤ (q : Int) := by omega
    have hf0 : (f : Int) ≤ 1000000 := by omega
    clear hp hb c0 c1
    cases b
    case true =>
      have hq1 : q + 1 ≤ s.size := isAt_lt Hb.out
      have hS := fun W => spaces_any s ((q : Int) + 1) W (by omega)
      have he : behI spB s.data.toList ((q : Int) + 1) = (sp s (q + 1) : Int) := by
        unfold behI sp
        rw [if_neg (by omega), show ((q : Int) + 1).toNat = q + 1 by omega]
      rw [he] at hS
      have hso := sp_ok s (q + 1) hq1
      have hn := Hn.out
      rw [nlS_step s f fr q Hb.out] at hn
      obtain ⟨m, hm⟩ : ∃ m, sp s (q + 1) = m := ⟨_, rfl⟩
      rw [hm] at hS hso hn
      have HS := Lib.hid hS
      have Hn2 := Lib.hid hn
      clear hS he hm hn
      go_wp2_with fail
      go_at_call 127
      refine (HP.out _).mono ?_
      rintro e w' ⟨rfl, rfl⟩
      go_wp2_with fail
      go_at_call 98
      refine (HS.out _).mono ?_
      rintro e w' ⟨rfl, rfl⟩
      go_wp2
      go_roundw
      case rel => exact ⟨f + 1, q + 1, m, by go_num, by go_num, rfl, hso.2, hso.1, by omega, Hn2.out, HRd.out, HK.out, HC.out⟩
      case measure => simp [intOf]; omega
    case false =>
      have hn := Hn.out
      rw [nlS_end s f fr q Hb.out] at hn
      have hR := HRR.out
      unfold nextS at hR
      rw [← hn] at hR
      dsimp only at hR
      have HR2 := Lib.hid hR
      obtain ⟨q0, q1, q2, p0, p1, p2⟩ := cells3 HC.out
      clear hn hR Hn
      by_cases hqf : q = fr
      · have z1 : ((q : Int) == (fr : Int)) = true := beq_iff_eq.2 (by omega)
        have HR3 := Lib.hid (show R = none by rw [← HR2.out, if_pos (.inl hqf)])
        clear hqf
        go_wp2_with fail
        go_at_call 127
        refine (HP.out _).mono ?_
        rintro e w' ⟨rfl, rfl⟩
        go_wp2
        obtain rfl := HR3.out
        exact end3w Tryz.results219 (box_set3 HC.out _ _ _) rfl rfl rfl ⟨HK.out.set3 (Nat.le_refl _) hlt _ _ _, 0, 0, i, rfl, HRd.out.set3 (by omega) _ _ _, hi, Nat.zero_le _, Nat.zero_le _, fun _ => rfl, fun _ _ _ h => by cases h⟩
      have z1 : ((q : Int) == (fr : Int)) = false := beq_eq_false_iff_ne.2 (by omega)
      by_cases hqz : q = s.size
      · have z2 : ((q : Int) == (s.size : Int)) = true := beq_iff_eq.2 (by omega)
        have HR3 := Lib.hid (show R = none by rw [← HR2.out, if_pos (.inr (.inl hqz))])
        clear hqz
        go_wp2_with fail
        go_at_call 127
        refine (HP.out _).mono ?_
        rintro e w' ⟨rfl, rfl⟩
        go_wp2
        obtain rfl := HR3.out
        exact end3w Tryz.results219 (box_set3 HC.out _ _ _) rfl rfl rfl ⟨HK.out.set3 (Nat.le_refl _) hlt _ _ _, 0, 0, i, rfl, HRd.out.set3 (by omega) _ _ _, hi, Nat.zero_le _, Nat.zero_le _, fun _ => rfl, fun _ _ _ h => by cases h⟩
      have z2 : ((q : Int) == (s.size : Int)) = false := beq_eq_false_iff_ne.2 (by omega)
      have hql : q < s.size := by omega
      have hql2 : (q : Int) < (s.size : Int) := by omega
      have hI := fun W => Tryz.strings_IndexByte ⟨#[46, 42, 91, 125]⟩ (s[q].toNat : Int) W
      have hst := stop_idx s[q]
      rw [show (⟨#[46, 42, 91, 125]⟩ : ByteArray).data.toList = [46, 42, 91, 125] from rfl, show ((s[q].toNat : Int).toNat.toUInt8) = s[q] by simp] at hI
      obtain ⟨x, hx⟩ : ∃ x, Lib.indexByte [46, 42, 91, 125] s[q] = x := ⟨_, rfl⟩
      rw [hx] at hI hst
      have hat : at0 s.data.toList q = s[q] := by rw [at0_get _ _ (by rw [size_data]; exact hql)]; rfl
      have hR := HR2.out
      rw [hat, ← hst] at hR
      have HI := Lib.hid hI
      cases hx0 : decide ((0 : Int) ≤ x)
      case true =>
        have HR3 := Lib.hid (show R = none by rw [← hR, hx0, if_pos (.inr (.inr rfl))])
        clear hI hst hx hat hR HR2
        go_wp2_with fail
        go_at_call 127
        refine (HP.out _).mono ?_
        rintro e w' ⟨rfl, rfl⟩
        go_wp2_with fail
        go_at_call 165
        refine (HI.out _).mono ?_
        rintro e w' ⟨rfl, rfl⟩
        go_wp2
        obtain rfl := HR3.out
        exact end3w Tryz.results219 (box_set3 HC.out _ _ _) rfl rfl rfl ⟨HK.out.set3 (Nat.le_refl _) hlt _ _ _, 0, 0, i, rfl, HRd.out.set3 (by omega) _ _ _, hi, Nat.zero_le _, Nat.zero_le _, fun _ => rfl, fun _ _ _ h => by cases h⟩
      case false =>
        have HR3 := Lib.hid (show R = some (f, q - fr, q) by rw [← hR, hx0, if_neg (by simp [hqf, hqz])])
        have hsub : (q : Int) - (fr : Int) = ((q - fr : Nat) : Int) := by omega
        have Hsub := Lib.hid hsub
        have hsub0 : (0 : Int) ≤ (q : Int) - (fr : Int) := by omega
        have hsub1 : (q : Int) - (fr : Int) ≤ 1000000 := by omega
        have HRq := Lib.hid (HRd.out.set q)
        have HKq := Lib.hid (HK.out.setCell 1 (.int .i64 (q : Nat)))
        have HCq := Lib.hid (BoxAt.setOther HC.out ⟨rb, 1, none⟩ (.int .i64 (q : Nat)) (by show w.heap.size ≠ rb; omega))
        clear hI hst hx hat hR HR2 hsub
        go_wp2_with fail
        go_at_call 127
        refine (HP.out _).mono ?_
        rintro e w' ⟨rfl, rfl⟩
        go_wp2_with fail
        go_at_call 165
        refine (HI.out _).mono ?_
        rintro e w' ⟨rfl, rfl⟩
        go_wp2
        obtain rfl := HR3.out
        exact end3w Tryz.results219 (box_set3 HCq.out _ _ _) rfl rfl rfl ⟨HKq.out.set3 (Nat.le_refl _) hlt _ _ _, f, q - fr, q, by rw [Hsub.out]; rfl, HRq.out.set3 (by omega) _ _ _, hq, by omega, by omega, (fun h => by cases h), fun _ _ _ h => by cases h; exact ⟨rfl, rfl, rfl⟩⟩
end Go.Proofs.YtpgiboblonlddaaGreatDoor

namespace Go.Proofs.YtpgiboblonlddaaGreatDoor
open Go.RowKit
set_option linter.unusedVariables false
set_option linter.unusedSimpArgs false
theorem len0 {α : Type} (l : List α) : decide (l.length = 0) = l.isEmpty := by cases l <;> simp
def GotP (rb : Nat) (s : ByteArray) (w : World) (r : Option (List EL × Nat)) (e : Ending) (w' : World) : Prop :=
  Kp rb w w' ∧ ∃ (A : Option Addr) (n c j : Nat), e = .returned (.tuple #[.slice A n c, .bool r.isSome]) ∧ Rd rb s j w' ∧ j ≤ s.size ∧ n ≤ 4000000 ∧ ∀ l m, r = some (l, m) → m = j ∧ l.length = n ∧ PatF w' (Since w.heap.size w') l (.slice A n c)
def PatTo (rb : Nat) (s : ByteArray) (d : Nat) (Q : Nat → Option (List EL × Nat)) : Prop := ∀ (i : Nat) (w : World), Rd rb s i w → i ≤ s.size → Calls Tryz.prog 195 #[pt rb, .int .i64 d] w (GotP rb s w (Q i))
def GotV (rb : Nat) (s : ByteArray) (w : World) (r : Option (VA × Nat)) (e : Ending) (w' : World) : Prop :=
  Kp rb w w' ∧ ∃ (X : ByteArray) (df : Bool) (A : Option Addr) (n c j : Nat), e = .returned (.tuple #[.agg #[.string X, .bool df, .slice A n c], .bool r.isSome]) ∧ Rd rb s j w' ∧ j ≤ s.size ∧ n ≤ 4000000 ∧
    ∀ x m, r = some (x, m) → m = j ∧ ∃ l, x = .mk X df l ∧ l.length = n ∧ PatF w' (Since w.heap.size w') l (.slice A n c)
abbrev zV : Array Value := #[.string ⟨#[]⟩, .bool false, .slice none 0 0]
set_option maxRecDepth 100000 in
theorem res3v {fn : Func} {A M : Nat} {tmps : Array Value} {w : World} {b : Nat} {x0 x1 x2 v : Value} {t : TypeId} (hres : fn.results = #[.cell A 281, .tmp M]) (ha : tmps.getD A undef = .pointer (some ⟨b, 0, none⟩)) (hm : tmps.getD M undef = v)
    (hb : BoxAt w b #[x0, x1, x2] t) : (results fn tmps).run Tryz.prog w = .ok (.tuple #[.agg #[x0, x1, x2], v]) w := by
  obtain ⟨q0, q1, q2, _⟩ := cells3 hb
  have ha' : tmps[A]?.getD undef = .pointer (some ⟨b, 0, none⟩) := by rw [← ha]; simp
  have hm' : tmps[M]?.getD undef = v := by rw [← hm]; simp
  simp [results, hres, ha', hm', go_sem, q0, q1, q2]
theorem end3v {fn : Func} {R : Ending → World → Prop} {a : Act} {w2 : World} {A M b : Nat} {x0 x1 x2 v : Value} {t : TypeId} (hres : fn.results = #[.cell A 281, .tmp M]) (hbox : BoxAt w2 b #[x0, x1, x2] t)
    (ha : a.tmps.getD A undef = .pointer (some ⟨b, 0, none⟩)) (hm : a.tmps.getD M undef = v) (hd : a.defers = []) (hR : R (.returned (.tuple #[.agg #[x0, x1, x2], v])) w2) : bodyPost Tryz.prog fn R .ret a w2 :=
  bodyPost_ret (res3v hres ha hm hbox) hd hR
theorem gotV_none {rb : Nat} {s : ByteArray} {w w2 : World} {j : Nat} (hK : Kp rb w w2) (hR : Rd rb s j w2) (hj : j ≤ s.size) : GotV rb s w none (.returned (.tuple #[.agg zV, .bool false])) w2 :=
  ⟨hK, ⟨#[]⟩, false, none, 0, 0, j, rfl, hR, hj, Nat.zero_le _, fun x m h => by cases h⟩
set_option maxHeartbeats 8000000 in
set_option maxRecDepth 100000 in
theorem variant_any {rb : Nat} {s : ByteArray} {d : Nat} {P : Nat → Res} (hs : s.size ≤ 1000000) (hd : d ≤ 4000) (hPat : PatTo rb s d (patS P s)) (i : Nat) (w : World) (hr : Rd rb s i w) (hi : i ≤ s.size) :
    Calls Tryz.prog 266 #[pt rb, .int .i64 d] w (GotV rb s w (variS P s i)) := by
  have HR := Lib.hid hr
  have hlt := hr.lt
  obtain ⟨R, hRR⟩ : ∃ R, variS P s i = R := ⟨_, rfl⟩
  rw [hRR]
  unfold variS at hRR
  have hT1 := fun W (h : Rd rb s i W) => take_any 42 W h (by omega) hi
  obtain ⟨b1, hb1⟩ : ∃ b, isAt s i 42 = b := ⟨_, rfl⟩
  have hi1 : (if b1 = true then i + 1 else i) ≤ s.size := by
    cases b1
    · exact hi
    · exact isAt_lt hb1
  rw [hb1] at hT1 hRR
  obtain ⟨i1, hi1e⟩ : ∃ i1, (if b1 = true then i + 1 else i) = i1 := ⟨_, rfl⟩
  rw [hi1e] at hT1 hi1 hRR
  have hT2 := fun W (h : Rd rb s i1 W) => take_any 91 W h (by omega) hi1
  obtain ⟨b2, hb2⟩ : ∃ b, isAt s i1 91 = b := ⟨_, rfl⟩
  have hi2 : b2 = true → i1 + 1 ≤ s.size := fun h => isAt_lt (hb2.trans h)
  rw [hb2] at hT2 hRR
  have HT1 := Lib.hid hT1
  have HT2 := Lib.hid hT2
  have Hpat := Lib.hid hPat
  have hd0 : (d : Int) ≤ 4000 := by omega
  clear hr hT1 hb1 hi1e hT2 hb2 hPat
  unfold pt at HT1 HT2 ⊢
  cases b2
  case false =>
    rw [if_neg (by simp)] at hRR
    subst hRR
    go_enter Tryz.func266, Tryz.ntmps266
    go_wp2_with fail
    go_at_call 253
    refine (HT1.out _ (HR.out.alloc _)).mono ?_
    rintro e w1 ⟨rfl, g1, g2⟩
    have G1 := Lib.hid g1
    have HK := Lib.hid (((Kp.refl rb w).alloc (Nat.le_of_lt hlt) _).trans g2)
    have hc := BoxAt.kp (BoxAt.new w zV 281) g2 (by omega)
    have hcl := hc.lt
    have HC := Lib.hid hc
    clear g1 g2 hc
    go_wp2_with fail
    go_at_call 253
    refine (HT2.out _ G1.out).mono ?_
    rintro e w2 ⟨rfl, g3, g4⟩
    have G3 := Lib.hid (show Rd rb s i1 w2 by simpa using g3)
    have HK2 := Lib.hid (HK.out.trans g4)
    have hc2 := BoxAt.kp HC.out g4 (by omega)
    have hcl2 := hc2.lt
    have HC2 := Lib.hid hc2
    obtain ⟨q0, q1, q2, p0, p1, p2⟩ := cells3 hc2
    clear g3 g4 hc2
    go_wp2
    exact end3v Tryz.results266 (box_set3 HC2.out _ _ _) rfl rfl rfl (gotV_none (HK2.out.set3 (Nat.le_refl _) hlt _ _ _) (G3.out.set3 (by omega) _ _ _) hi1)
  have hi3 := hi2 rfl
  rw [if_pos rfl] at hRR
  have hB := bl_ok s (i1 + 1) hi3
  have hP1 := fun W (h : Rd rb s (i1 + 1) W) => pass_any endBlank W h (by omega) hi3
  obtain ⟨a, ha⟩ : ∃ a, bl s (i1 + 1) = a := ⟨_, rfl⟩
  rw [ha] at hB hP1 hRR
  have hP2 := fun W (h : Rd rb s a W) => pass_any endName W h (by omega) hB.2
  have hP3 := fun W (h : Rd rb s a W) => pass_any endNumber W h (by omega) hB.2
  have hn := nm_ok s a hB.2
  have hu := nu_ok s a hB.2
  have he1 := ext_empty s a (nm s a) hn.1 hn.2
  have hk : keyE s a = if nm s a = a then nu s a else nm s a := rfl
  obtain ⟨n1, hn1⟩ : ∃ n1, nm s a = n1 := ⟨_, rfl⟩
  obtain ⟨u1, hu1⟩ : ∃ u1, nu s a = u1 := ⟨_, rfl⟩
  rw [hn1] at hn he1 hk hP2
  rw [hu1] at hu hk hP3
  obtain ⟨k, hke⟩ : ∃ k, keyE s a = k := ⟨_, rfl⟩
  rw [hke] at hk hRR
  have hk2 : a ≤ k ∧ k ≤ s.size := by rw [hk]; split <;> omega
  have he2 := ext_empty s a k hk2.1 hk2.2
  have hP4 := fun W (h : Rd rb s k W) => pass_any endBlank W h (by omega) hk2.2
  have hB2 := bl_ok s k hk2.2
  obtain ⟨m, hm⟩ : ∃ m, bl s k = m := ⟨_, rfl⟩
  rw [hm] at hB2 hP4 hRR
  have hT3 := fun W (h : Rd rb s m W) => take_any 93 W h (by omega) hB2.2
  obtain ⟨b3, hb3⟩ : ∃ b, isAt s m 93 = b := ⟨_, rfl⟩
  have hm1 : b3 = true → m + 1 ≤ s.size := fun h => isAt_lt (hb3.trans h)
  rw [hb3] at hT3 hRR
  obtain ⟨X1, hX1⟩ : ∃ X, s.extract a n1 = X := ⟨_, rfl⟩
  obtain ⟨X, hX⟩ : ∃ X, s.extract a k = X := ⟨_, rfl⟩
  have hX2 : n1 ≠ a → X1 = X := fun h => by rw [← hX1, ← hX, hk, if_neg h]
  have hX3 : n1 = a → s.extract a u1 = X ∧ u1 = k := fun h => by rw [← hX, hk, if_pos h]; exact ⟨rfl, rfl⟩
  have hk5 : n1 ≠ a → n1 = k := fun h => by rw [hk, if_neg h]
  rw [hX1] at he1 hP2
  rw [hX] at he2 hRR
  have HP1 := Lib.hid hP1
  have HP2 := Lib.hid hP2
  have HP3 := Lib.hid hP3
  have HP4 := Lib.hid hP4
  have HT3 := Lib.hid hT3
  have HRR := Lib.hid hRR
  have HE1 := Lib.hid he1
  have HE2 := Lib.hid he2
  have HX2 := Lib.hid hX2
  have HX3 := Lib.hid hX3
  have Hk5 := Lib.hid hk5
  have Hm1 := Lib.hid hm1
  clear hP1 ha hP2 hP3 hk hn1 hu1 hke hP4 hm hT3 hb3 hX1 hX hX2 hX3 hk5 he1 he2 hRR hi2 hm1
  unfold pt at HP1 HP2 HP3 HP4 HT3
  go_enter Tryz.func266, Tryz.ntmps266
  go_wp2_with fail
  go_at_call 253
  refine (HT1.out _ (HR.out.alloc _)).mono ?_
  rintro e w1 ⟨rfl, g1, g2⟩
  have G1 := Lib.hid g1
  have HK := Lib.hid (show Kp rb (w.alloc (.cells zV 281)) w1 from g2)
  clear g1 g2
  go_wp2_with fail
  go_at_call 253
  refine (HT2.out _ G1.out).mono ?_
  rintro e w2 ⟨rfl, g1, g2⟩
  have G1 := Lib.hid (show Rd rb s (i1 + 1) w2 by simpa using g1)
  have HK2 := Lib.hid (HK.out.trans g2)
  clear g1 g2
  go_wp2_with fail
  go_at_call 218
  refine (HP1.out _ G1.out).mono ?_
  rintro e w3 ⟨rfl, g1, g2⟩
  have G3 := Lib.hid g1
  have HK3 := Lib.hid (HK2.out.trans g2)
  clear g1 g2
  go_wp2_with fail
  go_at_call 218
  refine (HP2.out _ G3.out).mono ?_
  rintro e w4 ⟨rfl, g1, g2⟩
  have G4 := Lib.hid g1
  have HK4 := Lib.hid (HK3.out.trans g2)
  clear g1 g2
  obtain ⟨x1, hx1⟩ : ∃ x, X1.toList.isEmpty = x := ⟨_, rfl⟩
  go_upto_if 22 with fail
  go_cut [7] (fun v wx => v = .string X ∧ Hid (Rd rb s k wx) ∧ Hid (Kp rb (w.alloc (.cells zV 281)) wx))
  case first =>
    cases x1
    case false =>
      have hne : n1 ≠ a := fun h => by have := HE1.out; rw [hx1, decide_eq_true h] at this; cases this
      have HX := Lib.hid (HX2.out hne)
      have Hk := Lib.hid (Hk5.out hne)
      clear hne
      go_wp2_with fail
      go_meet
      exact ⟨by rw [HX.out], by rw [← Hk.out]; exact G4.out, HK4.out⟩
    case true =>
      have hne : n1 = a := by have := HE1.out; rw [hx1] at this; exact of_decide_eq_true this.symm
      obtain ⟨hX, hk⟩ := HX3.out hne
      have G4a := Lib.hid (show Rd rb s a w4 by rw [← hne]; exact G4.out)
      have HX := Lib.hid hX
      have Hk := Lib.hid hk
      clear hne hX hk
      go_wp2_with fail
      go_at_call 218
      refine (HP3.out _ G4a.out).mono ?_
      rintro e w5 ⟨rfl, g1, g2⟩
      have G5 := Lib.hid g1
      have HK5 := Lib.hid (HK4.out.trans g2)
      clear g1 g2
      go_wp2_with fail
      go_meet
      exact ⟨by rw [HX.out], by rw [← Hk.out]; exact G5.out, HK5.out⟩
  obtain ⟨rfl, HRk, HKk⟩ := hcut
  clear HP2 HP3 HE1 HX2 HX3 Hk5 G1 G3 G4 HK HK2 HK3 HK4 hx1
  go_wp2_with fail
  go_at_call 218
  refine (HP4.out _ HRk.out).mono ?_
  rintro e w5 ⟨rfl, g1, g2⟩
  have G5 := Lib.hid g1
  have HK5 := Lib.hid (HKk.out.trans g2)
  have hc5 := BoxAt.kp (BoxAt.new w zV 281) HK5.out (by omega)
  have hcl5 := hc5.lt
  have HC5 := Lib.hid hc5
  clear g1 g2
  have HA := Lib.hid ((Kp.refl rb w).alloc (Nat.le_of_lt hlt) (.cells zV 281))
  cases hx2 : X.toList.isEmpty
  case true =>
    have hka : k = a := by have := HE2.out; rw [hx2] at this; exact of_decide_eq_true this.symm
    have hR := HRR.out
    rw [if_pos hka] at hR
    subst hR
    obtain ⟨q0, q1, q2, p0, p1, p2⟩ := cells3 hc5
    clear hka hc5
    go_wp2
    exact end3v Tryz.results266 (box_set3 HC5.out _ _ _) rfl rfl rfl (gotV_none ((HA.out.trans HK5.out).set3 (Nat.le_refl _) hlt _ _ _) (G5.out.set3 (by omega) _ _ _) hB2.2)
  have hka : k ≠ a := fun h => by have := HE2.out; rw [hx2, decide_eq_true h] at this; cases this
  have hR := HRR.out
  rw [if_neg hka] at hR
  have HR2 := Lib.hid hR
  clear hka hR hc5
  cases b3
  case false =>
    have hR := HR2.out
    rw [if_neg (by simp)] at hR
    subst hR
    go_wp2_with fail
    go_at_call 253
    refine (HT3.out _ G5.out).mono ?_
    rintro e w6 ⟨rfl, g1, g2⟩
    have G6 := Lib.hid (show Rd rb s m w6 by simpa using g1)
    have HK6 := Lib.hid (HK5.out.trans g2)
    have hc6 := BoxAt.kp HC5.out g2 (by omega)
    have hcl6 := hc6.lt
    have HC6 := Lib.hid hc6
    obtain ⟨q0, q1, q2, p0, p1, p2⟩ := cells3 hc6
    clear g1 g2 hc6
    go_wp2
    exact end3v Tryz.results266 (box_set3 HC6.out _ _ _) rfl rfl rfl (gotV_none ((HA.out.trans HK6.out).set3 (Nat.le_refl _) hlt _ _ _) (G6.out.set3 (by omega) _ _ _) hB2.2)
  have hR := HR2.out
  rw [if_pos rfl] at hR
  obtain ⟨r, hr⟩ : ∃ r, patS P s (m + 1) = r := ⟨_, rfl⟩
  have hm1 := Hm1.out rfl
  have hPt := fun W h => Hpat.out (m + 1) W h hm1
  rw [hr] at hPt hR
  have HPt := Lib.hid hPt
  have HR3 := Lib.hid hR
  unfold pt at HPt
  clear hR hr hPt
  go_wp2_with fail
  go_at_call 253
  refine (HT3.out _ G5.out).mono ?_
  rintro e w6 ⟨rfl, g1, g2⟩
  have G6 := Lib.hid (show Rd rb s (m + 1) w6 by simpa using g1)
  have HK6 := Lib.hid (HK5.out.trans g2)
  have hs6 := HK6.out.size
  rw [World.size_alloc] at hs6
  clear g1 g2
  go_wp2_with fail
  go_at_call 195
  refine (HPt.out _ G6.out).mono ?_
  rintro e w7 ⟨h1, A, n, c, j, rfl, h2, hj, hn4, h3⟩
  have HK7 := Lib.hid (HK6.out.trans h1)
  have hc7 := BoxAt.kp (BoxAt.new w zV 281) HK7.out (by omega)
  have hcl7 := hc7.lt
  have HC7 := Lib.hid hc7
  have H2 := Lib.hid h2
  have H3 := Lib.hid h3
  have d0 := h2.c0
  have d1 := h2.c1
  have hl7 := h2.lt
  have hj0 : (j : Int) ≤ 1000000 := by omega
  have hss : (s.size : Int) ≤ 1000000 := by omega
  have hn0 : (n : Int) ≤ 4000000 := by omega
  obtain ⟨il, hil⟩ : ∃ b, isAt s j 10 = b := ⟨_, rfl⟩
  have Hil := Lib.hid hil
  clear h1 h2 h3 hc7 HPt hil
  go_upto_region 12 with fail
  go_cut [10] (fun v wx => v = .bool il ∧ wx = w7.drew)
  case first =>
    have hil := Hil.out
    unfold isAt at hil
    by_cases hjl : j < s.size
    · have z1 : decide ((j : Int) < (s.size : Int)) = true := decide_eq_true (by omega)
      have z2 : (j : Int) < (s.size : Int) := by omega
      have z3 : ((s[j].toNat : Int) == 10) = il := by
        rw [decide_eq_true hjl, Bool.true_and, at0_get _ _ (by rw [size_data]; exact hjl)] at hil
        rw [← hil]
        show ((s[j].toNat : Int) == 10) = (s[j] == 10)
        rw [Bool.eq_iff_iff, beq_iff_eq, beq_iff_eq, ← UInt8.toNat_inj]
        simp
        omega
      clear hil
      go_region
      go_wp2_with fail
      go_meet
      exact ⟨rfl, rfl⟩
    · have z1 : decide ((j : Int) < (s.size : Int)) = false := decide_eq_false (by omega)
      rw [decide_eq_false hjl, Bool.false_and] at hil
      subst hil
      go_region
      go_wp2_with fail
      go_meet
      exact ⟨rfl, rfl⟩
  obtain ⟨rfl, rfl⟩ := hcut
  obtain ⟨q0, q1, q2, p0, p1, p2⟩ := cells3 HC7.out
  have hA := HA.out.trans HK7.out
  have HKf := Lib.hid hA.drew
  clear hA d0 d1
  cases r with
  | none =>
    have hR := HR3.out
    dsimp only at hR
    subst hR
    go_wp2
    exact end3v Tryz.results266 (box_set3 HC7.out.drew _ _ _) rfl rfl rfl ⟨HKf.out.set3 (Nat.le_refl _) hlt _ _ _, X, b1, A, n, c, j, rfl, H2.out.drew.set3 (by omega) _ _ _, hj, hn4, fun x q h => by cases h⟩
  | some lm =>
    obtain ⟨l, q⟩ := lm
    obtain ⟨rfl, hln, hpt⟩ := H3.out l q rfl
    have hR := HR3.out
    dsimp only at hR
    rw [Hil.out, ← len0, hln] at hR
    have HR4 := Lib.hid hR
    have HPF := Lib.hid hpt
    have Hln := Lib.hid hln
    clear hR hpt hln
    cases il
    case false =>
      have hR := HR4.out
      rw [Bool.false_and, if_neg (by simp)] at hR
      subst hR
      go_wp2
      exact end3v Tryz.results266 (box_set3 HC7.out.drew _ _ _) rfl rfl rfl ⟨HKf.out.set3 (Nat.le_refl _) hlt _ _ _, X, b1, A, n, c, q, rfl, H2.out.drew.set3 (by omega) _ _ _, hj, hn4, fun x q h => by cases h⟩
    by_cases h0 : 0 < n
    · have z : decide ((0 : Int) < (n : Int)) = true := decide_eq_true (by omega)
      have hR := HR4.out
      rw [decide_eq_false (show ¬ n = 0 by omega), if_pos (by decide)] at hR
      subst hR
      go_wp2
      refine end3v Tryz.results266 (box_set3 HC7.out.drew _ _ _) rfl rfl rfl ⟨HKf.out.set3 (Nat.le_refl _) hlt _ _ _, X, b1, A, n, c, q, rfl, H2.out.drew.set3 (by omega) _ _ _, hj, hn4, fun x q' h => ?_⟩
      cases h
      refine ⟨rfl, l, rfl, Hln.out, PatF.carry (fun z hz => ?_) HPF.out⟩
      obtain ⟨hz1, hz2⟩ := hz
      refine ⟨⟨by omega, ?_⟩, set3_heap w7 w.heap.size (.string X) (.bool b1) (.slice A n c) z (by omega)⟩
      show z < (set3 w7 w.heap.size (.string X) (.bool b1) (.slice A n c)).heap.size
      rw [set3_size]
      exact hz2
    · have z : decide ((0 : Int) < (n : Int)) = false := decide_eq_false (by omega)
      have hR := HR4.out
      rw [decide_eq_true (show n = 0 by omega), if_neg (by decide)] at hR
      subst hR
      go_wp2
      exact end3v Tryz.results266 (box_set3 HC7.out.drew _ _ _) rfl rfl rfl ⟨HKf.out.set3 (Nat.le_refl _) hlt _ _ _, X, b1, A, n, c, q, rfl, H2.out.drew.set3 (by omega) _ _ _, hj, hn4, fun x q h => by cases h⟩
end Go.Proofs.YtpgiboblonlddaaGreatDoor

namespace Go.Proofs.YtpgiboblonlddaaGreatDoor
open Go.RowKit
set_option linter.unusedVariables false
set_option linter.unusedSimpArgs false
def VZip (W : World) (F : Nat → Prop) : List VA → List Value → Prop
  | [], xs => xs = []
  | .mk k d l :: r, xs => ∃ A n c ys, xs = .string k :: .bool d :: .slice A n c :: ys ∧ l.length = n ∧ PatF W F l (.slice A n c) ∧ VZip W F r ys
theorem VZip.snoc {W : World} {F : Nat → Prop} {k : ByteArray} {d : Bool} {l : List EL} {A : Option Addr} {n c : Nat} (hl : l.length = n) (hp : PatF W F l (.slice A n c)) : ∀ (acc : List VA) (xs : List Value), VZip W F acc xs → VZip W F (acc ++ [.mk k d l]) (xs ++ [.string k, .bool d, .slice A n c])
  | [], xs, h => by
    rw [VZip] at h
    subst h
    exact ⟨A, n, c, [], rfl, hl, hp, rfl⟩
  | .mk k' d' l' :: r, xs, h => by
    rw [VZip] at h
    obtain ⟨A', n', c', ys, rfl, h1, h2, h3⟩ := h
    exact ⟨A', n', c', _, rfl, h1, h2, VZip.snoc hl hp r ys h3⟩
theorem VZip.carry {W W' : World} {F F' : Nat → Prop} (g : ∀ b, F b → F' b ∧ W'.heap[b]? = W.heap[b]?) : ∀ (acc : List VA) (xs : List Value), VZip W F acc xs → VZip W' F' acc xs
  | [], xs, h => by rw [VZip] at h ⊢; exact h
  | .mk k' d' l' :: r, xs, h => by
    rw [VZip] at h
    obtain ⟨A', n', c', ys, rfl, h1, h2, h3⟩ := h
    exact ⟨A', n', c', ys, rfl, h1, h2.carry g, VZip.carry g r ys h3⟩
theorem VZip.vs {W : World} {F : Nat → Prop} {g : Nat} (hg : F g) : ∀ (acc : List VA) (xs : List Value) (o : Nat), (∀ j x, xs[j]? = some x → W.cell? ⟨g, o + j, none⟩ = some x) → VZip W F acc xs → VsF W F acc g o
  | [], xs, o, hc, h => by rw [VsF]; trivial
  | .mk k' d' l' :: r, xs, o, hc, h => by
    rw [VZip] at h
    obtain ⟨A', n', c', ys, rfl, h1, h2, h3⟩ := h
    rw [VsF]
    refine ⟨hg, hc 0 _ rfl, hc 1 _ rfl, ⟨_, hc 2 _ rfl, h2⟩, VZip.vs hg r ys (o + 3) (fun j x hx => ?_) h3⟩
    have := hc (j + 3) x (by simpa using hx)
    rw [show o + 3 + j = o + (j + 3) by omega]
    exact this
def OwnSet (B : Nat) (W : World) (v : Value) (b : Nat) : Prop := Since B W b ∧ some b ≠ v.ownBlock
theorem Kp.grownBy {rb : Nat} {W W' : World} (h : Kp rb W W') : W.grownBy W' (some rb) := ⟨h.below.os, h.below.tape, h.below.output, h.below.size, fun k hk hn => h.others k hk (fun e => hn (by rw [e]))⟩
theorem Kp.grown {rb : Nat} {a W W' : World} {row : Option Nat} (h : Kp rb a W) (hg : W.grownBy W' row) (hrow : ∀ k, row = some k → a.heap.size ≤ k) (hr : rb < a.heap.size) : Kp rb a W' :=
  ⟨h.below.grown hg (by have := h.size; omega) (fun k e => by have := hrow k e; omega), fun k hk hn => (hg.block k (Nat.lt_of_lt_of_le hk h.size) (fun e => by have := hrow k e.symm; omega)).trans (h.others k hk hn)⟩
theorem Rd.grown {rb : Nat} {s : ByteArray} {i : Nat} {W W' : World} {row : Option Nat} (h : Rd rb s i W) (hg : W.grownBy W' row) (hrow : ∀ k, row = some k → rb < k) : Rd rb s i W' :=
  (hg.block rb h.lt (fun e => by have := hrow rb e.symm; omega)).trans h
def OwnV (B : Nat) (W : World) (v : Value) (acc : List VA) : Prop := ∃ xs, W.ownsRow B 281 3 v acc.length xs ∧ VZip W (OwnSet B W v) acc xs
theorem OwnV.nil (B : Nat) (W : World) : OwnV B W (.slice none 0 0) [] := ⟨[], World.ownsRow_nil _ _ _ _, rfl⟩
theorem OwnV.kp {rb B : Nat} {W W' : World} {v : Value} {acc : List VA} (h : OwnV B W v acc) (g : Kp rb W W') (hrb : rb < B) : OwnV B W' v acc := by
  obtain ⟨xs, h1, h2⟩ := h
  refine ⟨xs, h1.kept g.grownBy (.inr (fun e => by have := (h1.lt rb e).1; omega)), VZip.carry (fun b hb => ?_) _ _ h2⟩
  obtain ⟨⟨hb1, hb2⟩, hb3⟩ := hb
  exact ⟨⟨⟨hb1, Nat.lt_of_lt_of_le hb2 g.size⟩, hb3⟩, g.others b hb2 (by omega)⟩
theorem OwnV.more {B : Nat} {W W' : World} {v v' : Value} {acc : List VA} {xs : List Value} {k : ByteArray} {d : Bool} {l : List EL} {A : Option Addr} {n c : Nat} (h2 : VZip W (OwnSet B W v) acc xs)
    (ho : W'.ownsRow B 281 3 v' (acc.length + 1) (xs ++ [.string k, .bool d, .slice A n c])) (hg : W.grownBy W' v.ownBlock) (hw : v'.ownBlock = v.ownBlock ∨ v'.ownBlock = some W.heap.size) (hl : l.length = n) (hp : PatF W (OwnSet B W v) l (.slice A n c)) :
    OwnV B W' v' (acc ++ [.mk k d l]) := by
  refine ⟨_, by rw [List.length_append]; exact ho, ?_⟩
  have g : ∀ b, OwnSet B W v b → OwnSet B W' v' b ∧ W'.heap[b]? = W.heap[b]? := fun b hb => by
    obtain ⟨⟨hb1, hb2⟩, hb3⟩ := hb
    refine ⟨⟨⟨hb1, Nat.lt_of_lt_of_le hb2 hg.size⟩, ?_⟩, hg.block b hb2 hb3⟩
    rcases hw with e | e
    · rw [e]; exact hb3
    · rw [e]; intro e2; have := Option.some.inj e2; omega
  exact VZip.carry g _ _ (VZip.snoc hl hp acc xs h2)
theorem OwnV.lie {B : Nat} {W : World} {v : Value} {acc : List VA} (h : OwnV B W v acc) : ∃ A c, v = .slice A acc.length c ∧ LieAt (VsF W (Since B W) acc) v acc.length := by
  obtain ⟨xs, h1, h2⟩ := h
  rcases h1.2 with ⟨rfl, h0⟩ | ⟨g, cap, cur, rfl, hb, hg, hc1, hc2, hcs, htk⟩
  · have : acc = [] := List.eq_nil_of_length_eq_zero h0
    subst this
    exact ⟨none, 0, rfl, none, 0, rfl, Nat.le_refl _, Nat.zero_le _, fun h => absurd h (by simp)⟩
  · refine ⟨_, _, rfl, _, _, rfl, hc1, hc2, fun _ => ⟨g, 0, rfl, VZip.vs ⟨hb, (Array.getElem?_eq_some_iff.1 hg).1⟩ acc xs 0 (fun j x hx => ?_) (VZip.carry (fun b hb => ⟨hb.1, rfl⟩) _ _ h2)⟩⟩
    have := h1.cells (g := g) rfl j x hx
    rw [Addr.add_mid] at this
    exact this
def posOf (rb : Nat) (w : World) : Nat := match w.cell? ⟨rb, 1, none⟩ with
  | some (.int _ i) => i.toNat
  | _ => 0
theorem Rd.pos {rb : Nat} {s : ByteArray} {i : Nat} {w : World} (h : Rd rb s i w) : posOf rb w = i := by
  unfold posOf
  rw [h.c1]
  simp
def GotVs (rb : Nat) (s : ByteArray) (w : World) (r : Option (List VA × Nat)) (e : Ending) (w' : World) : Prop :=
  Kp rb w w' ∧ ∃ (A : Option Addr) (n c j : Nat), e = .returned (.tuple #[.slice A n c, .bool r.isSome]) ∧ Rd rb s j w' ∧ j ≤ s.size ∧
    ∀ l m, r = some (l, m) → m = j ∧ l.length = n ∧ LieAt (VsF w' (Since w.heap.size w') l) (.slice A n c) n
theorem parts_pos {s : ByteArray} {P : Nat → Res} : ∀ (m : Nat) (acc : List EL) (i : Nat), s.size - i ≤ m → i ≤ s.size → ∀ ps j, partsS P s acc i = some (ps, j) → i ≤ j ∧ j ≤ s.size := by
  intro m
  induction m with
  | zero =>
    intro acc i hm hi ps j h
    have ht : i ≤ tx s i := behN_ge _ _ _
    have ht2 : tx s i ≤ s.size := by have := behN_le txB s.data.toList i (by rw [size_data]; exact hi); rw [size_data] at this; exact this
    rw [partsS] at h
    split at h
    · next hc => have := isAt_lt hc; omega
    · cases h; omega
  | succ m ih =>
    intro acc i hm hi ps j h
    have ht : i ≤ tx s i := behN_ge _ _ _
    have ht2 : tx s i ≤ s.size := by have := behN_le txB s.data.toList i (by rw [size_data]; exact hi); rw [size_data] at this; exact this
    rw [partsS] at h
    split at h
    · split at h
      · cases h
      · split at h
        · next hg => have := ih _ _ (by omega) hg.2 ps j h; omega
        · cases h
    · cases h; omega
theorem lines_pos {s : ByteArray} {P : Nat → Res} : ∀ (m : Nat) (acc : List LN) (f p i : Nat), s.size - i ≤ m → i ≤ s.size → ∀ ls j, linesS P s acc f p i = some (ls, j) → i ≤ j ∧ j ≤ s.size := by
  intro m
  induction m with
  | zero =>
    intro acc f p i hm hi ls j h
    rw [linesS] at h
    split at h
    · cases h
    · next hp =>
      have h1 := parts_pos _ _ _ (Nat.le_refl _) hi _ _ hp
      split at h
      · cases h; exact h1
      · split at h
        · next hg => omega
        · cases h
  | succ m ih =>
    intro acc f p i hm hi ls j h
    rw [linesS] at h
    split at h
    · cases h
    · next hp =>
      have h1 := parts_pos _ _ _ (Nat.le_refl _) hi _ _ hp
      split at h
      · cases h; exact h1
      · split at h
        · next hg => have := ih _ _ _ _ (by omega) hg.2 ls j h; omega
        · cases h
theorem pat_pos {s : ByteArray} {P : Nat → Res} (i : Nat) (hi : i ≤ s.size) (l : List EL) (j : Nat) (h : patS P s i = some (l, j)) : i ≤ j ∧ j ≤ s.size := by
  unfold patS at h
  split at h
  · cases h
  · next hl =>
    cases h
    have h2 := sp_ok s i hi
    have := lines_pos _ _ _ _ _ (Nat.le_refl _) h2.2 _ _ hl
    omega
theorem vari_pos {s : ByteArray} {P : Nat → Res} (i : Nat) (hi : i ≤ s.size) (v : VA) (j : Nat) (h : variS P s i = some (v, j)) : i < j ∧ j ≤ s.size := by
  unfold variS at h
  have hii : i ≤ (if isAt s i 42 then i + 1 else i) := by split <;> omega
  generalize (if isAt s i 42 then i + 1 else i) = i1 at h hii
  split at h
  · next h1 =>
    have h2 := isAt_lt h1
    have h3 := bl_ok s (i1 + 1) h2
    generalize bl s (i1 + 1) = a at h h3
    split at h
    · cases h
    · have h4 : a ≤ keyE s a ∧ keyE s a ≤ s.size := by
        have := nm_ok s a h3.2
        have := nu_ok s a h3.2
        unfold keyE; split <;> omega
      generalize keyE s a = k at h h4
      have h5 := bl_ok s k h4.2
      generalize bl s k = m at h h5
      split at h
      · next h6 =>
        have h7 := isAt_lt h6
        split at h
        · cases h
        · next hp =>
          have h8 := pat_pos _ h7 _ _ hp
          split at h
          · cases h; omega
          · cases h
      · cases h
  · cases h
end Go.Proofs.YtpgiboblonlddaaGreatDoor

namespace Go.Proofs.YtpgiboblonlddaaGreatDoor
open Go.RowKit
set_option linter.unusedVariables false
set_option linter.unusedSimpArgs false
theorem infoV : (Tryz.prog.info? 281).map (fun i => (i.zero, i.size, i.bytes)) = some (some (.agg #[.string ⟨#[]⟩, .bool false, .slice none 0 0]), 3, 48) := by kernel_rfl
theorem own_slice {w : World} {B : Nat} {e : TypeId} {size : Nat} {v : Value} {n : Nat} {xs : List Value} (h : w.ownsRow B e size v n xs) (hn : 0 < n) : ∃ A c, v = .slice A n c := by
  rcases h.2 with ⟨_, h0⟩ | ⟨g, cap, cur, rfl, _⟩
  · omega
  · exact ⟨_, _, rfl⟩
theorem ownV_push {rb B : Nat} {w5 w6 : World} {v : Value} {acc : List VA} {xs : List Value} {X : ByteArray} {df : Bool} {l : List EL} {A : Option Addr} {n c : Nat} {o1 o2 : Obj} {W3 : World} {v' : Value} (hrb : rb < B) (hB : B ≤ w5.heap.size)
    (hs : w5.heap.size ≤ w6.heap.size) (hv : ∀ k, v.ownBlock = some k → B ≤ k ∧ k < w5.heap.size) (hz : VZip w6 (OwnSet B w6 v) acc xs) (hp : PatF w6 (Since w5.heap.size w6) l (.slice A n c)) (hl : l.length = n)
    (ho : W3.ownsRow B 281 3 v' (acc.length + 1) (xs ++ [.string X, .bool df, .slice A n c])) (hg : ((w6.alloc o1).alloc o2).grownBy W3 v.ownBlock)
    (hw : v'.ownBlock = v.ownBlock ∨ v'.ownBlock = some ((w6.alloc o1).alloc o2).heap.size) : OwnV B W3 v' (acc ++ [.mk X df l]) := by
  have K : Kp rb w6 ((w6.alloc o1).alloc o2) := ((Kp.refl rb w6).alloc (by omega) _).alloc (by simp; omega) _
  refine OwnV.more (VZip.carry (fun b hb => ?_) _ _ hz) ho hg hw hl (PatF.carry (fun b hb => ?_) hp)
  · obtain ⟨⟨hb1, hb2⟩, hb3⟩ := hb
    exact ⟨⟨⟨hb1, Nat.lt_of_lt_of_le hb2 K.size⟩, hb3⟩, K.others b hb2 (by omega)⟩
  · obtain ⟨hb1, hb2⟩ := hb
    exact ⟨⟨⟨by omega, Nat.lt_of_lt_of_le hb2 K.size⟩, fun e => by have := hv b e.symm; omega⟩, K.others b hb2 (by omega)⟩
set_option maxHeartbeats 8000000 in
set_option maxRecDepth 100000 in
theorem variants_any {rb : Nat} {s : ByteArray} {d : Nat} {P : Nat → Res} (hs : s.size ≤ 1000000) (hd : d ≤ 4000) (hPat : PatTo rb s d (patS P s)) (i : Nat) (w : World) (hr : Rd rb s i w) (hi : i ≤ s.size) :
    Calls Tryz.prog 257 #[pt rb, .int .i64 d] w (GotVs rb s w (selS P s i)) := by
  obtain ⟨i0, hi0, hz0, hz1, hz2⟩ := info_parts infoV
  have HR := Lib.hid hr
  have hlt := hr.lt
  obtain ⟨R, hRR⟩ : ∃ R, selS P s i = R := ⟨_, rfl⟩
  rw [hRR]
  unfold selS at hRR
  have hS := sp_ok s i hi
  have hP1 := fun W (h : Rd rb s i W) => pass_any endSpaces W h (by omega) hi
  obtain ⟨p, hp⟩ : ∃ p, sp s i = p := ⟨_, rfl⟩
  rw [hp] at hS hP1 hRR
  have hT1 := fun W (h : Rd rb s p W) => take_any 10 W h (by omega) hS.2
  obtain ⟨b1, hb1⟩ : ∃ b, isAt s p 10 = b := ⟨_, rfl⟩
  have hp1 : b1 = true → p + 1 ≤ s.size := fun h => isAt_lt (hb1.trans h)
  rw [hb1] at hT1 hRR
  have HP1 := Lib.hid hP1
  have HT1 := Lib.hid hT1
  have HV := Lib.hid (fun j W h1 h2 => variant_any (rb := rb) hs hd hPat j W h1 h2)
  clear hr hP1 hp hT1 hb1 hPat
  unfold pt at HP1 HT1 HV ⊢
  cases b1
  case false =>
    rw [if_neg (by simp)] at hRR
    subst hRR
    go_enter Tryz.func257, Tryz.ntmps257
    go_wp2_with fail
    go_at_call 218
    refine (HP1.out _ HR.out).mono ?_
    rintro e w1 ⟨rfl, g1, g2⟩
    have G1 := Lib.hid g1
    have HK := Lib.hid g2
    clear g1 g2
    go_wp2_with fail
    go_at_call 253
    refine (HT1.out _ G1.out).mono ?_
    rintro e w2 ⟨rfl, g3, g4⟩
    have G3 := Lib.hid (show Rd rb s p w2 by simpa using g3)
    have HK2 := Lib.hid (HK.out.trans g4)
    clear g3 g4
    go_wp2
    go_ret2
    exact ⟨HK2.out, none, 0, 0, p, rfl, G3.out, hS.2, fun l m h => by cases h⟩
  have hp2 := hp1 rfl
  rw [if_pos rfl] at hRR
  have hB := bl_ok s (p + 1) hp2
  have hP2 := fun W (h : Rd rb s (p + 1) W) => pass_any endBlank W h (by omega) hp2
  obtain ⟨q, hq⟩ : ∃ q, bl s (p + 1) = q := ⟨_, rfl⟩
  rw [hq] at hB hP2 hRR
  have HP2 := Lib.hid hP2
  have HRR := Lib.hid hRR
  have hd0 : (d : Int) ≤ 4000 := by omega
  unfold pt at HP2
  clear hP2 hq hRR hp1
  go_enter Tryz.func257, Tryz.ntmps257
  go_wp2_with fail
  go_at_call 218
  refine (HP1.out _ HR.out).mono ?_
  rintro e w1 ⟨rfl, g1, g2⟩
  have G1 := Lib.hid g1
  have HK := Lib.hid g2
  clear g1 g2
  go_wp2_with fail
  go_at_call 253
  refine (HT1.out _ G1.out).mono ?_
  rintro e w2 ⟨rfl, g3, g4⟩
  have G3 := Lib.hid (show Rd rb s (p + 1) w2 by simpa using g3)
  have HK2 := Lib.hid (HK.out.trans g4)
  clear g3 g4
  go_wp2_with fail
  go_at_call 218
  refine (HP2.out _ G3.out).mono ?_
  rintro e w3 ⟨rfl, g3, g4⟩
  have G4 := Lib.hid g3
  have HK3 := Lib.hid (HK2.out.trans g4)
  clear g3 g4
  go_wp2
  go_loopw [6, 7] (fun t6 t7 wr => ∃ (acc : List VA) (j : Nat) (A : Option Addr) (c : Nat), t6 = .slice A acc.length c ∧ t7 = .int .i64 (acc.countP vaDflt : Nat) ∧ j ≤ s.size ∧ acc.length ≤ j ∧ Hid (varsS P s acc j = R) ∧ Hid (Rd rb s j wr) ∧ Hid (Kp rb w wr) ∧ Hid (OwnV w.heap.size wr (.slice A acc.length c) acc)) (fun _ _ wr => s.size - posOf rb wr)
  case atStart => exact ⟨[], q, none, 0, rfl, rfl, hB.2, Nat.zero_le _, HRR.out, G4.out, HK3.out, OwnV.nil _ _⟩
  case round =>
    obtain ⟨acc, j, A, c, rfl, rfl, hj, hal, Hans, HRd, HK, HO⟩ := hrel
    have hT := fun W (h : Rd rb s j W) => take_any 125 W h (by omega) hj
    obtain ⟨b, hb⟩ : ∃ b, isAt s j 125 = b := ⟨_, rfl⟩
    have hj1 : b = true → j + 1 ≤ s.size := fun h => isAt_lt (hb.trans h)
    have hans := Hans.out
    rw [varsS] at hans
    rw [hb] at hT hans
    have HT := Lib.hid hT
    have hcnt : acc.countP vaDflt ≤ acc.length := List.countP_le_length
    obtain ⟨cn, hcn⟩ : ∃ cn, acc.countP vaDflt = cn := ⟨_, rfl⟩
    rw [hcn] at hcnt hans ⊢
    have Hcn := Lib.hid hcn
    have hcn0 : (cn : Int) ≤ 1000000 := by omega
    have Hpos := Lib.hid HRd.out.pos
    unfold pt at HT
    clear hT hb hcn
    cases b
    case true =>
      rw [if_pos rfl] at hans
      have HRn := Lib.hid hans
      have Hj1 := Lib.hid (hj1 rfl)
      clear hans hj1
      go_wp2_with fail
      go_at_call 253
      refine (HT.out _ HRd.out).mono ?_
      rintro e w5 ⟨rfl, g1, g2⟩
      have G5 := Lib.hid (show Rd rb s (j + 1) w5 by simpa using g1)
      have HK5 := Lib.hid (HK.out.trans g2)
      have HO5 := Lib.hid (HO.out.kp g2 hlt)
      clear g1 g2
      by_cases h1 : cn = 1
      · have h11 : ((cn : Int) == 1) = true := beq_iff_eq.2 (by omega)
        have hR := HRn.out
        rw [if_pos h1] at hR
        subst hR
        clear h1
        go_wp2
        go_ret2
        obtain ⟨A', c', e1, hl⟩ := HO5.out.lie
        exact ⟨HK5.out, A, acc.length, c, j + 1, rfl, G5.out, Hj1.out, fun l m h => by cases h; exact ⟨rfl, rfl, hl⟩⟩
      · have h11 : ((cn : Int) == 1) = false := beq_eq_false_iff_ne.2 (by omega)
        have hR := HRn.out
        rw [if_neg h1] at hR
        subst hR
        clear h1
        go_wp2
        go_ret2
        exact ⟨HK5.out, A, acc.length, c, j + 1, rfl, G5.out, Hj1.out, fun l m h => by cases h⟩
    rw [if_neg (by simp)] at hans
    have hv := vari_pos (P := P) j hj
    obtain ⟨r, hr⟩ : ∃ r, variS P s j = r := ⟨_, rfl⟩
    rw [hr] at hans hv
    have hVj := fun W h => HV.out j W h hj
    rw [hr] at hVj
    have HVj := Lib.hid hVj
    have Hv := Lib.hid hv
    have HRn := Lib.hid hans
    clear hans hv hr hVj hj1
    go_wp2_with fail
    go_at_call 253
    refine (HT.out _ HRd.out).mono ?_
    rintro e w5 ⟨rfl, g1, g2⟩
    have G5 := Lib.hid (show Rd rb s j w5 by simpa using g1)
    have HK5 := Lib.hid (HK.out.trans g2)
    have HO5 := Lib.hid (HO.out.kp g2 hlt)
    clear g1 g2
    go_wp2_with fail
    go_at_call 266
    refine (HVj.out _ G5.out).mono ?_
    rintro e w6 ⟨h1, X, df, A', n, c', m, rfl, h2, hm, hn, h3⟩
    have HK6 := Lib.hid (HK5.out.trans h1)
    have HO6 := Lib.hid (HO5.out.kp h1 hlt)
    have H2 := Lib.hid h2
    have H3 := Lib.hid h3
    have hl6 := h2.lt
    have hs5 := h1.size
    clear h1 h2 h3
    cases r with
    | none =>
      have hR := HRn.out
      dsimp only at hR
      subst hR
      go_wp2
      go_ret2
      exact ⟨HK6.out.alloc (Nat.le_of_lt hl6) _, none, 0, 0, m, rfl, H2.out.alloc _, hm, fun l m h => by cases h⟩
    | some vm =>
      obtain ⟨v, m'⟩ := vm
      obtain ⟨rfl, l, rfl, hln, hpt⟩ := H3.out v m' rfl
      have hv2 := Hv.out _ _ rfl
      have HL := Lib.hid hln
      have HPF := Lib.hid hpt
      have hB7 := bl_ok s m' hm
      have hP7 := fun W (h : Rd rb s m' W) => pass_any endBlank W h (by omega) hm
      have hR := HRn.out
      dsimp only at hR
      obtain ⟨q7, hq7⟩ : ∃ q, bl s m' = q := ⟨_, rfl⟩
      rw [hq7] at hB7 hP7 hR
      rw [dif_pos (show j < q7 ∧ q7 ≤ s.size from ⟨by omega, hB7.2⟩)] at hR
      have HR7 := Lib.hid hR
      have HP7 := Lib.hid hP7
      unfold pt at HP7
      clear hR hln hpt hP7 hq7
      have hn0 : (n : Int) ≤ 4000000 := by omega
      have hacc : (acc.length : Int) ≤ 1000000 := by omega
      obtain ⟨xs6, ho6, hz6⟩ := HO6.out
      have hown1 := (ho6.alloc (.cells #[.string X, .bool df, .slice A' n c'] 281)).alloc (.cells #[.string X, .bool df, .slice A' n c'] 281)
      obtain ⟨xs5, ho5, hz5⟩ := HO5.out
      have Hv5 := Lib.hid (fun k e => ho5.lt k e)
      have hs0 := HK5.out.size
      clear ho6 ho5 hz5
      cases df
      case false =>
        go_wp2_with (at_builtin; refine wpList_append_where _ rfl _ _ 255 rfl w.heap.size 281 i0 (.agg zV) 3 48 Tryz.underlying255 hi0 hz0 hz1 hz2 rfl (by decide) _ _ _ rfl hown1 ⟨w6.heap.size + 1, 0, none⟩ 1 1 [.string X, .bool false, .slice A' n c'] rfl rfl ?c1 ?c2 ?c3 ?c4 ?c5 ?c6 ?_)
        case c1 =>
          intro j u hj
          match j, hj with
          | 0, hj => simp at hj; subst hj; simp [Addr.add]
          | 1, hj => simp at hj; subst hj; simp [Addr.add]
          | 2, hj => simp at hj; subst hj; simp [Addr.add]
        case c2 => intro u hu; simp at hu; rcases hu with rfl | rfl | rfl <;> rfl
        case c3 => unfold maxLen; omega
        case c4 => omega
        case c5 => simp; omega
        case c6 => decide
        intro v' w8 hown' hgrow hwh
        have HO8 := Lib.hid (ownV_push hlt (by omega) hs5 Hv5.out hz6 HPF.out HL.out hown' hgrow (by simpa using hwh))
        have G8 := Lib.hid (((H2.out.alloc _).alloc _).grown hgrow (fun k e => by have := Hv5.out k e; omega))
        have HK8 := Lib.hid (Kp.grown ((HK6.out.alloc (Nat.le_of_lt hl6) _).alloc (by simp; omega) _) hgrow (fun k e => (Hv5.out k e).1) hlt)
        obtain ⟨A2, c2, rfl⟩ := own_slice hown' (by omega)
        clear hown' hgrow hwh
        go_wp2_with fail
        go_at_call 218
        refine (HP7.out _ G8.out).mono ?_
        rintro e w9 ⟨rfl, g1, g2⟩
        have G9 := Lib.hid g1
        have HK9 := Lib.hid (HK8.out.trans g2)
        have HO9 := Lib.hid (HO8.out.kp g2 hlt)
        clear g1 g2
        go_wp2
        go_roundw
        case rel =>
          refine ⟨acc ++ [.mk X false l], q7, A2, c2, ?_, ?_, hB7.2, ?_, HR7, G9, HK9, ?_⟩
          · show Value.slice A2 _ c2 = _
            simp
          · show Value.int .i64 _ = _
            rw [List.countP_append, Hcn.out]
            simp [vaDflt]
          · rw [List.length_append, List.length_singleton]; omega
          · show Hid (OwnV w.heap.size _ (.slice A2 (acc ++ [VA.mk X false l]).length c2) _)
            rw [List.length_append, List.length_singleton]
            exact HO9
        case measure =>
          show s.size - posOf rb _ < s.size - posOf rb wr
          rw [G9.out.pos, Hpos.out]
          omega
      case true =>
        go_wp2_with (at_builtin; refine wpList_append_where _ rfl _ _ 255 rfl w.heap.size 281 i0 (.agg zV) 3 48 Tryz.underlying255 hi0 hz0 hz1 hz2 rfl (by decide) _ _ _ rfl hown1 ⟨w6.heap.size + 1, 0, none⟩ 1 1 [.string X, .bool true, .slice A' n c'] rfl rfl ?c1 ?c2 ?c3 ?c4 ?c5 ?c6 ?_)
        case c1 =>
          intro j u hj
          match j, hj with
          | 0, hj => simp at hj; subst hj; simp [Addr.add]
          | 1, hj => simp at hj; subst hj; simp [Addr.add]
          | 2, hj => simp at hj; subst hj; simp [Addr.add]
        case c2 => intro u hu; simp at hu; rcases hu with rfl | rfl | rfl <;> rfl
        case c3 => unfold maxLen; omega
        case c4 => omega
        case c5 => simp; omega
        case c6 => decide
        intro v' w8 hown' hgrow hwh
        have HO8 := Lib.hid (ownV_push hlt (by omega) hs5 Hv5.out hz6 HPF.out HL.out hown' hgrow (by simpa using hwh))
        have G8 := Lib.hid (((H2.out.alloc _).alloc _).grown hgrow (fun k e => by have := Hv5.out k e; omega))
        have HK8 := Lib.hid (Kp.grown ((HK6.out.alloc (Nat.le_of_lt hl6) _).alloc (by simp; omega) _) hgrow (fun k e => (Hv5.out k e).1) hlt)
        obtain ⟨A2, c2, rfl⟩ := own_slice hown' (by omega)
        clear hown' hgrow hwh
        go_wp2_with fail
        go_at_call 218
        refine (HP7.out _ G8.out).mono ?_
        rintro e w9 ⟨rfl, g1, g2⟩
        have G9 := Lib.hid g1
        have HK9 := Lib.hid (HK8.out.trans g2)
        have HO9 := Lib.hid (HO8.out.kp g2 hlt)
        clear g1 g2
        go_wp2
        go_roundw
        case rel =>
          refine ⟨acc ++ [.mk X true l], q7, A2, c2, ?_, ?_, hB7.2, ?_, HR7, G9, HK9, ?_⟩
          · show Value.slice A2 _ c2 = _
            simp
          · show Value.int .i64 _ = _
            rw [List.countP_append, Hcn.out]
            simp [vaDflt]
          · rw [List.length_append, List.length_singleton]; omega
          · show Hid (OwnV w.heap.size _ (.slice A2 (acc ++ [VA.mk X true l]).length c2) _)
            rw [List.length_append, List.length_singleton]
            exact HO9
        case measure =>
          show s.size - posOf rb _ < s.size - posOf rb wr
          rw [G9.out.pos, Hpos.out]
          omega
end Go.Proofs.YtpgiboblonlddaaGreatDoor
