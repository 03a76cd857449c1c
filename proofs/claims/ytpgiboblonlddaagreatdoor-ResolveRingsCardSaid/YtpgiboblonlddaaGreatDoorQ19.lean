/-
  Several texts put together (part 19): what the law and the program call, walked; their contracts.
-/
import Derived.Test.YtpgiboblonlddaaGreatDoorQ18
import Derived.Test.YtpgiboblonlddaaGreatDoorQ10
import Derived.Test.YtpgiboblonlddaaGreatDoorQ5
import Derived.Test.YtpgiboblonlddaaGreatDoorQ16
import Derived.Lib.Join
namespace Go.Proofs.YtpgiboblonlddaaGreatDoor
open Go.RowKit
set_option linter.unusedVariables false
set_option linter.unusedSimpArgs false
abbrev zA : Array Value := #[.string ⟨#[]⟩, .int .i64 0, .string ⟨#[]⟩, .string ⟨#[]⟩, .string ⟨#[]⟩, .slice none 0 0, .pointer none, .slice none 0 0]
theorem cells8 {w : World} {k : Nat} {x0 x1 x2 x3 x4 x5 x6 x7 : Value} {t : TypeId} (h : BoxAt w k #[x0, x1, x2, x3, x4, x5, x6, x7] t) :
    w.cell? ⟨k, 0, none⟩ = some x0 ∧ w.cell? ⟨k, 1, none⟩ = some x1 ∧ w.cell? ⟨k, 2, none⟩ = some x2 ∧ w.cell? ⟨k, 3, none⟩ = some x3 ∧ w.cell? ⟨k, 4, none⟩ = some x4 ∧ w.cell? ⟨k, 5, none⟩ = some x5 ∧ w.cell? ⟨k, 6, none⟩ = some x6 ∧ w.cell? ⟨k, 7, none⟩ = some x7 ∧
    w.frozen? ⟨k, 0, none⟩ = false ∧ w.frozen? ⟨k, 1, none⟩ = false ∧ w.frozen? ⟨k, 2, none⟩ = false ∧ w.frozen? ⟨k, 3, none⟩ = false ∧ w.frozen? ⟨k, 4, none⟩ = false ∧ w.frozen? ⟨k, 5, none⟩ = false ∧ w.frozen? ⟨k, 6, none⟩ = false ∧ w.frozen? ⟨k, 7, none⟩ = false :=
  ⟨h.cell 0, h.cell 1, h.cell 2, h.cell 3, h.cell 4, h.cell 5, h.cell 6, h.cell 7, Lib.frozen_of_heap h 0, Lib.frozen_of_heap h 1, Lib.frozen_of_heap h 2, Lib.frozen_of_heap h 3, Lib.frozen_of_heap h 4, Lib.frozen_of_heap h 5, Lib.frozen_of_heap h 6, Lib.frozen_of_heap h 7⟩
def set8 (w : World) (b : Nat) (x0 x1 x2 x3 x4 x5 x6 x7 : Value) : World := (set7 w b x0 x1 x2 x3 x4 x5 x6).setCell ⟨b, 7, none⟩ x7
theorem set8_heap (w : World) (b : Nat) (x0 x1 x2 x3 x4 x5 x6 x7 : Value) (k : Nat) (hk : k ≠ b) : (set8 w b x0 x1 x2 x3 x4 x5 x6 x7).heap[k]? = w.heap[k]? := by
  unfold set8
  rw [Below.heap_setCell _ _ _ k hk, set7_heap _ _ _ _ _ _ _ _ _ k hk]
theorem set8_size (w : World) (b : Nat) (x0 x1 x2 x3 x4 x5 x6 x7 : Value) : (set8 w b x0 x1 x2 x3 x4 x5 x6 x7).heap.size = w.heap.size := by
  unfold set8; simp [set7_size]
theorem Kp.set8 {rb : Nat} {a w : World} (h : Kp rb a w) {b : Nat} (hb : a.heap.size ≤ b) (hr : rb < a.heap.size) (x0 x1 x2 x3 x4 x5 x6 x7 : Value) : Kp rb a (set8 w b x0 x1 x2 x3 x4 x5 x6 x7) := (h.set7 hb hr x0 x1 x2 x3 x4 x5 x6).setNew hb hr 7 x7
theorem Rd.set8 {rb : Nat} {s : ByteArray} {i : Nat} {w : World} (h : Rd rb s i w) {b : Nat} (hb : rb ≠ b) (x0 x1 x2 x3 x4 x5 x6 x7 : Value) : Rd rb s i (set8 w b x0 x1 x2 x3 x4 x5 x6 x7) := (h.set7 hb x0 x1 x2 x3 x4 x5 x6).setOther hb 7 x7
theorem box_set8 {w : World} {E : Nat} {x0 x1 x2 x3 x4 x5 x6 x7 : Value} {t : TypeId} (h : BoxAt w E #[x0, x1, x2, x3, x4, x5, x6, x7] t) (y0 y1 y2 y3 y4 y5 y6 y7 : Value) :
    BoxAt (set8 w E y0 y1 y2 y3 y4 y5 y6 y7) E #[y0, y1, y2, y3, y4, y5, y6, y7] t := by
  unfold set8 set7
  unfold BoxAt at h ⊢
  simp [World.setCell, Array.getElem?_modify, h]
set_option maxRecDepth 100000 in
theorem res8 {fn : Func} {A M : Nat} {tmps : Array Value} {w : World} {b : Nat} {x0 x1 x2 x3 x4 x5 x6 x7 v : Value} {t : TypeId} (hres : fn.results = #[.cell A 276, .tmp M]) (ha : tmps.getD A undef = .pointer (some ⟨b, 0, none⟩)) (hm : tmps.getD M undef = v)
    (hb : BoxAt w b #[x0, x1, x2, x3, x4, x5, x6, x7] t) : (results fn tmps).run Tryz.prog w = .ok (.tuple #[.agg #[x0, x1, x2, x3, x4, x5, x6, x7], v]) w := by
  obtain ⟨q0, q1, q2, q3, q4, q5, q6, q7, _⟩ := cells8 hb
  have ha' : tmps[A]?.getD undef = .pointer (some ⟨b, 0, none⟩) := by rw [← ha]; simp
  have hm' : tmps[M]?.getD undef = v := by rw [← hm]; simp
  simp [results, hres, ha', hm', go_sem, q0, q1, q2, q3, q4, q5, q6, q7]
theorem end8w {fn : Func} {R : Ending → World → Prop} {a : Act} {w2 : World} {A M b : Nat} {x0 x1 x2 x3 x4 x5 x6 x7 v : Value} {t : TypeId} (hres : fn.results = #[.cell A 276, .tmp M]) (hbox : BoxAt w2 b #[x0, x1, x2, x3, x4, x5, x6, x7] t)
    (ha : a.tmps.getD A undef = .pointer (some ⟨b, 0, none⟩)) (hm : a.tmps.getD M undef = v) (hd : a.defers = []) (hR : R (.returned (.tuple #[.agg #[x0, x1, x2, x3, x4, x5, x6, x7], v])) w2) : bodyPost Tryz.prog fn R .ret a w2 :=
  bodyPost_ret (res8 hres ha hm hbox) hd hR
def arV (X : ByteArray) (k : Int) (t n a : ByteArray) (A1 : Option Addr) (n1 c1 : Nat) (p : Option Addr) (A2 : Option Addr) (n2 c2 : Nat) : Value := .agg #[.string X, .int .i64 k, .string t, .string n, .string a, .slice A1 n1 c1, .pointer p, .slice A2 n2 c2]
def GotA (rb : Nat) (s : ByteArray) (w : World) (r : Option (ByteArray × EX × Nat)) (e : Ending) (w' : World) : Prop :=
  Kp rb w w' ∧ ∃ (X : ByteArray) (k : Int) (t n a : ByteArray) (A1 : Option Addr) (n1 c1 : Nat) (p : Option Addr) (A2 : Option Addr) (n2 c2 : Nat) (j : Nat),
    e = .returned (.tuple #[arV X k t n a A1 n1 c1 p A2 n2 c2, .bool r.isSome]) ∧ Rd rb s j w' ∧ j ≤ s.size ∧ (r = none → k = 0) ∧
    ∀ x y m, r = some (x, y, m) → x = X ∧ m = j ∧ ExF w' (Since w.heap.size w') y ⟨.int .i64 k, .string t, .string n, .string a, .slice A1 n1 c1, .pointer p, .slice A2 n2 c2⟩
theorem named_first {rb : Nat} {s : ByteArray} (hs : s.size ≤ 1000000) (L i : Nat) (w : World) (hr : Rd rb s i w) (hi : i ≤ s.size)
    (hL : BoxAt w L #[.func (.func 276) #[pt rb] #[], .func (.func 280) #[pt rb] #[]] 351) (n3 : L ≠ rb) :
    Calls Tryz.prog 275 #[pt rb, .slice (some ⟨L, 0, none⟩) 2 2] w (Got0 rb s w ((quoS s i).or (nubS s i))) := by
  have h := first_any (by omega) [.func (.func 276) #[pt rb] #[], .func (.func 280) #[pt rb] #[]] [quoS s, nubS s] L 2 i w hr hi rfl (by simp) (fun j fv h => ?_) (BoxAt.lt hL) n3 (fun j fv f h1' h2' => ?_)
  · unfold orAll orAll orAll at h
    rw [Option.or_none] at h
    exact h
  · rw [BoxAt.cell hL j, List.getElem?_toArray]
    exact h
  · match j with
    | 0 => cases h1'; cases h2'; exact ⟨_, _, _, rfl, fun args w => by go_simp, fun W i _ hr hi => quoted_way hs i W hr hi⟩
    | 1 => cases h1'; cases h2'; exact ⟨_, _, _, rfl, fun args w => by go_simp, fun W i _ hr hi => number_way (by omega) i W hr hi⟩
    | j + 2 => cases h1'
theorem nam_val (s : ByteArray) (i j k m : Nat) (hj : nm s i = j) (hk : bl s j = k) (hm : bl s (k + 1) = m) (hne : j ≠ i) (hc : isAt s k 58 = true) (r : Res) (hr : (quoS s m).or (nubS s m) = r) :
    (namS s i).isSome = r.isSome ∧ ∀ x y q, namS s i = some (x, y, q) → x = s.extract i j ∧ r = some (y, q) := by
  unfold namS
  rw [hj, if_neg hne, hk, hc, if_pos rfl, hm, hr]
  cases r with
  | none => exact ⟨rfl, fun x y q h => by cases h⟩
  | some p => obtain ⟨e, q'⟩ := p; exact ⟨rfl, fun x y q h => by cases h; exact ⟨rfl, rfl⟩⟩
set_option maxHeartbeats 4000000 in
set_option maxRecDepth 100000 in
theorem named_any {rb : Nat} {s : ByteArray} (hs : s.size ≤ 1000000) (i : Nat) (w : World) (hr : Rd rb s i w) (hi : i ≤ s.size) : Calls Tryz.prog 282 #[pt rb] w (GotA rb s w (namS s i)) := by
  have hn := nm_ok s i hi
  have he := ext_empty s i (nm s i) hn.1 hn.2
  have hP := fun W (h : Rd rb s i W) => pass_any endName W h (by omega) hi
  obtain ⟨j, hj⟩ : ∃ j, nm s i = j := ⟨_, rfl⟩
  rw [hj] at hn he hP
  obtain ⟨X, hX⟩ : ∃ X, s.extract i j = X := ⟨_, rfl⟩
  rw [hX] at he hP
  have hB := bl_ok s j hn.2
  have hP2 := fun W (h : Rd rb s j W) => pass_any endBlank W h (by omega) hn.2
  obtain ⟨k, hk⟩ : ∃ k, bl s j = k := ⟨_, rfl⟩
  rw [hk] at hB hP2
  have hT := fun W (h : Rd rb s k W) => take_any 58 W h (by omega) hB.2
  obtain ⟨b, hb⟩ : ∃ b, isAt s k 58 = b := ⟨_, rfl⟩
  have hk1 : b = true → k + 1 ≤ s.size := fun h => isAt_lt (hb.trans h)
  rw [hb] at hT
  have HP := Lib.hid hP
  have HP2 := Lib.hid hP2
  have HT := Lib.hid hT
  have HR := Lib.hid hr
  have hlt := hr.lt
  have HE := Lib.hid he
  unfold pt at HP HP2 HT ⊢
  by_cases hbad : j = i ∨ b = false
  · have hnone : namS s i = none := by
      unfold namS
      rw [hj]
      rcases hbad with h | h
      · rw [if_pos h]
      · rw [hk, hb, h]; simp
    rw [hnone]
    have Hb := Lib.hid hbad
    clear hP hP2 hT hr he hj hX hk hb hnone hbad hk1
    cases hx : X.toList.isEmpty
    case true =>
      go_enter Tryz.func282, Tryz.ntmps282
      go_wp2_with fail
      go_at_call 218
      refine (HP.out _ (HR.out.alloc _)).mono ?_
      rintro e w1 ⟨rfl, g1, g2⟩
      have G1 := Lib.hid g1
      have G2 := Lib.hid (((Kp.refl rb w).alloc (Nat.le_of_lt hlt) _).trans g2)
      have hc := BoxAt.kp (BoxAt.new w zA 276) g2 (by omega)
      have hcl := hc.lt
      have HC := Lib.hid hc
      clear g1 g2 hc
      go_wp2_with fail
      go_at_call 218
      refine (HP2.out _ G1.out).mono ?_
      rintro e w2 ⟨rfl, g3, g4⟩
      have G3 := Lib.hid g3
      have HK := Lib.hid (G2.out.trans g4)
      have hc2 := BoxAt.kp HC.out g4 (by omega)
      have hcl2 := hc2.lt
      have HC2 := Lib.hid hc2
      obtain ⟨q0, q1, q2, q3, q4, q5, q6, q7, p0, p1, p2, p3, p4, p5, p6, p7⟩ := cells8 hc2
      clear g3 g4 hc2
      go_wp2
      exact end8w Tryz.results282 (box_set8 HC2.out _ _ _ _ _ _ _ _) rfl rfl rfl ⟨HK.out.set8 (Nat.le_refl _) hlt _ _ _ _ _ _ _ _, _, _, _, _, _, _, _, _, _, _, _, _, k, rfl, G3.out.set8 (by omega) _ _ _ _ _ _ _ _, hB.2, fun _ => rfl, fun x y m h => by cases h⟩
    have hb0 : b = false := by
      rcases Hb.out with h | h
      · have := HE.out; rw [hx, decide_eq_true h] at this; cases this
      · exact h
    subst hb0
    clear Hb
    go_enter Tryz.func282, Tryz.ntmps282
    go_wp2_with fail
    go_at_call 218
    refine (HP.out _ (HR.out.alloc _)).mono ?_
    rintro e w1 ⟨rfl, g1, g2⟩
    have G1 := Lib.hid g1
    have G2 := Lib.hid (((Kp.refl rb w).alloc (Nat.le_of_lt hlt) _).trans g2)
    have hc := BoxAt.kp (BoxAt.new w zA 276) g2 (by omega)
    have hcl := hc.lt
    have HC := Lib.hid hc
    clear g1 g2 hc
    go_wp2_with fail
    go_at_call 218
    refine (HP2.out _ G1.out).mono ?_
    rintro e w2 ⟨rfl, g3, g4⟩
    have G3 := Lib.hid g3
    have HK := Lib.hid (G2.out.trans g4)
    have hc2 := BoxAt.kp HC.out g4 (by omega)
    have hcl2 := hc2.lt
    have HC2 := Lib.hid hc2
    clear g3 g4 hc2
    go_wp2_with fail
    go_at_call 253
    refine (HT.out _ G3.out).mono ?_
    rintro e w3 ⟨rfl, g5, g6⟩
    have G5 := Lib.hid (show Rd rb s k w3 by simpa using g5)
    have HK3 := Lib.hid (HK.out.trans g6)
    have hc3 := BoxAt.kp HC2.out g6 (by omega)
    have hcl3 := hc3.lt
    have HC3 := Lib.hid hc3
    obtain ⟨q0, q1, q2, q3, q4, q5, q6, q7, p0, p1, p2, p3, p4, p5, p6, p7⟩ := cells8 hc3
    clear g5 g6 hc3
    go_wp2
    exact end8w Tryz.results282 (box_set8 HC3.out _ _ _ _ _ _ _ _) rfl rfl rfl ⟨HK3.out.set8 (Nat.le_refl _) hlt _ _ _ _ _ _ _ _, _, _, _, _, _, _, _, _, _, _, _, _, k, rfl, G5.out.set8 (by omega) _ _ _ _ _ _ _ _, hB.2, fun _ => rfl, fun x y m h => by cases h⟩
  · have hne : j ≠ i := fun h => hbad (.inl h)
    have hb1 : b = true := by cases b; exact absurd (.inr rfl) hbad; rfl
    subst hb1
    have hx : X.toList.isEmpty = false := by rw [HE.out, decide_eq_false hne]
    have hk2 := hk1 rfl
    have hB3 := bl_ok s (k + 1) hk2
    have hP3 := fun W (h : Rd rb s (k + 1) W) => pass_any endBlank W h (by omega) hk2
    obtain ⟨m, hm⟩ : ∃ m, bl s (k + 1) = m := ⟨_, rfl⟩
    rw [hm] at hB3 hP3
    have hF := fun L W h1 h2 h3 => named_first (rb := rb) hs L m W h1 hB3.2 h2 h3
    obtain ⟨r, hrr⟩ : ∃ r, (quoS s m).or (nubS s m) = r := ⟨_, rfl⟩
    obtain ⟨hv1, hv2⟩ := nam_val s i j k m hj hk hm hne hb r hrr
    rw [hX] at hv2
    rw [hrr] at hF
    obtain ⟨R, hRR⟩ : ∃ R, namS s i = R := ⟨_, rfl⟩
    rw [hRR] at hv1 hv2 ⊢
    have HV1 := Lib.hid hv1
    have HV2 := Lib.hid hv2
    have HP3 := Lib.hid hP3
    have HF := Lib.hid hF
    unfold pt at HP3 HF
    clear hP hP2 hT hr he hj hX hk hb hbad hk1 hP3 hm hF hrr hv1 hv2 hRR
    go_enter Tryz.func282, Tryz.ntmps282
    go_wp2_with fail
    go_at_call 218
    refine (HP.out _ (HR.out.alloc _)).mono ?_
    rintro e w1 ⟨rfl, g1, g2⟩
    have G1 := Lib.hid g1
    have G2 := Lib.hid (((Kp.refl rb w).alloc (Nat.le_of_lt hlt) _).trans g2)
    have hc := BoxAt.kp (BoxAt.new w zA 276) g2 (by omega)
    have hcl := hc.lt
    have HC := Lib.hid hc
    clear g1 g2 hc
    go_wp2_with fail
    go_at_call 218
    refine (HP2.out _ G1.out).mono ?_
    rintro e w2 ⟨rfl, g3, g4⟩
    have G3 := Lib.hid g3
    have HK := Lib.hid (G2.out.trans g4)
    have hc2 := BoxAt.kp HC.out g4 (by omega)
    have hcl2 := hc2.lt
    have HC2 := Lib.hid hc2
    clear g3 g4 hc2
    go_wp2_with fail
    go_at_call 253
    refine (HT.out _ G3.out).mono ?_
    rintro e w3 ⟨rfl, g5, g6⟩
    have G5 := Lib.hid (show Rd rb s (k + 1) w3 by simpa using g5)
    have HK3 := Lib.hid (HK.out.trans g6)
    have hc3 := BoxAt.kp HC2.out g6 (by omega)
    have hcl3 := hc3.lt
    have HC3 := Lib.hid hc3
    clear g5 g6 hc3
    go_wp2_with fail
    go_at_call 218
    refine (HP3.out _ G5.out).mono ?_
    rintro e w4 ⟨rfl, g7, g8⟩
    have HK4 := Lib.hid (HK3.out.trans g8)
    have hc4 := BoxAt.kp HC3.out g8 (by omega)
    have hcl4 := hc4.lt
    have HC4 := Lib.hid hc4
    have hl4 := g7.lt
    have HFF := Lib.hid (HF.out w4.heap.size (w4.alloc (.cells #[.func (.func 276) #[pt rb] #[], .func (.func 280) #[pt rb] #[]] 351)) (g7.alloc _) (BoxAt.new _ _ _) (by omega))
    unfold pt at HFF
    clear g7 g8 hc4
    go_wp2_with fail
    go_at_call 275
    refine HFF.out.mono ?_
    rintro e w5 ⟨⟨h1, k', t, n, a, A1, n1, c1', p, A2, n2, c2', j', rfl, h2, hj', h3⟩, hz⟩
    have HK5 := Lib.hid ((HK4.out.alloc (Nat.le_of_lt hl4) _).trans h1)
    have hc5 := BoxAt.kp (HC4.out.alloc (.cells #[.func (.func 276) #[pt rb] #[], .func (.func 280) #[pt rb] #[]] 351)) h1 (by omega)
    have hcl5 := hc5.lt
    have HC5 := Lib.hid hc5
    have H2 := Lib.hid h2
    have H3 := Lib.hid h3
    have HZ := Lib.hid hz
    have hs4 := h1.size
    rw [World.size_alloc] at hs4
    obtain ⟨q0, q1, q2, q3, q4, q5, q6, q7, p0, p1, p2, p3, p4, p5, p6, p7⟩ := cells8 hc5
    unfold exV
    clear h1 h2 h3 hz hc5
    go_wp2
    refine end8w Tryz.results282 ((box_set8 HC5.out _ _ _ _ _ _ _ _).alloc _) rfl rfl rfl ⟨(HK5.out.set8 (Nat.le_refl _) hlt _ _ _ _ _ _ _ _).alloc (by rw [set8_size]; omega) _, X, k', t, n, a, A1, n1, c1', p, A2, n2, c2', j', by rw [HV1.out]; rfl, (H2.out.set8 (by omega) _ _ _ _ _ _ _ _).alloc _, hj', fun h => ?_, fun x y q h => ?_⟩
    · have hr0 : r = none := by
        have := HV1.out
        rw [h] at this
        cases r with
        | none => rfl
        | some p => cases this
      have h1 := HZ.out hr0
      simp [exV] at h1
      exact h1.1.1
    · obtain ⟨rfl, hr0⟩ := HV2.out x y q h
      obtain ⟨h4, h5⟩ := H3.out y q hr0
      refine ⟨rfl, h4, ExF.carry (fun z hq => ?_) _ _ h5⟩
      obtain ⟨hq1, hq2⟩ := hq
      rw [World.size_alloc] at hq1
      have hq3 : z < (set8 w5 w.heap.size (.string x) (.int .i64 k') (.string t) (.string n) (.string a) (.slice A1 n1 c1') (.pointer p) (.slice A2 n2 c2')).heap.size := by rw [set8_size]; exact hq2
      exact ⟨⟨by omega, by rw [World.size_alloc]; exact Nat.lt_succ_of_lt hq3⟩, (Lib.alloc_old _ _ z hq3).trans (set8_heap _ _ _ _ _ _ _ _ _ _ z (by omega))⟩
theorem arg_val (P : Nat → Res) (s : ByteArray) (i : Nat) (h : namS s i = none) : (argS P s i).isSome = (headS P s i).isSome ∧ ∀ x y q, argS P s i = some (x, y, q) → x = E0 ∧ headS P s i = some (y, q) := by
  unfold argS
  rw [h]
  cases headS P s i with
  | none => exact ⟨rfl, fun x y q h => by cases h⟩
  | some p => obtain ⟨e, q'⟩ := p; exact ⟨rfl, fun x y q h => by cases h; exact ⟨rfl, rfl⟩⟩
theorem arg_nam (P : Nat → Res) (s : ByteArray) (i : Nat) (x : ByteArray × EX × Nat) (h : namS s i = some x) : argS P s i = some x := by
  unfold argS; rw [h]
set_option maxHeartbeats 4000000 in
set_option maxRecDepth 100000 in
theorem argument_any {rb : Nat} {s : ByteArray} {d : Nat} {P : Nat → Res} (hs : s.size ≤ 1000000) (hd : d ≤ 4000) (hP : WayTo rb s 241 #[pt rb, .int .i64 ((d + 1 : Nat) : Int)] P) (i : Nat) (w : World) (hr : Rd rb s i w) (hi : i ≤ s.size) :
    Calls Tryz.prog 265 #[pt rb, .int .i64 d] w (GotA rb s w (argS P s i)) := by
  have hN := fun W h => named_any (rb := rb) hs i W h hi
  have hH := fun W h => head_way (rb := rb) hs hd hP i W h hi
  have hv := arg_val P s i
  have hv2 := arg_nam P s i
  obtain ⟨R, hRR⟩ : ∃ R, argS P s i = R := ⟨_, rfl⟩
  obtain ⟨r, hrr⟩ : ∃ r, namS s i = r := ⟨_, rfl⟩
  obtain ⟨q, hq⟩ : ∃ q, headS P s i = q := ⟨_, rfl⟩
  rw [hrr] at hN hv hv2
  rw [hq] at hH hv
  rw [hRR] at hv hv2 ⊢
  have HN := Lib.hid hN
  have HH := Lib.hid hH
  have HR := Lib.hid hr
  have HV := Lib.hid hv
  have HV2 := Lib.hid hv2
  have hlt := hr.lt
  have c1 := hr.c1
  have f1 := hr.f 1
  have hi0 : (i : Int) ≤ 1000000 := by omega
  clear hP hN hH hv hv2 hRR hrr hq hr
  unfold pt at HN HH ⊢
  go_enter Tryz.func265, Tryz.ntmps265
  go_wp2_with fail
  go_at_call 282
  refine (HN.out _ (HR.out.alloc _)).mono ?_
  rintro e w1 ⟨h1, X, k, t, n, a, A1, n1, c1', p, A2, n2, c2', j, rfl, h2, hj, hz, h3⟩
  have HK := Lib.hid (((Kp.refl rb w).alloc (Nat.le_of_lt hlt) _).trans h1)
  have hc := BoxAt.kp (BoxAt.new w zA 276) h1 (by omega)
  have hl := hc.lt
  have HC := Lib.hid hc
  have H2 := Lib.hid h2
  have H3 := Lib.hid h3
  have hlr := h2.lt
  have d1 := h2.c1
  have e1 := h2.f 1
  unfold arV
  cases r with
  | some x =>
    have hR : R = some x := HV2.out x rfl
    subst hR
    obtain ⟨q0, q1, q2, q3, q4, q5, q6, q7, p0, p1, p2, p3, p4, p5, p6, p7⟩ := cells8 hc
    clear h1 h2 h3 hc hz
    go_wp2
    refine end8w Tryz.results265 ((box_set8 HC.out _ _ _ _ _ _ _ _).alloc _) rfl rfl rfl ⟨(HK.out.set8 (Nat.le_refl _) hlt _ _ _ _ _ _ _ _).alloc (by rw [set8_size]; omega) _, X, k, t, n, a, A1, n1, c1', p, A2, n2, c2', j, rfl, (H2.out.set8 (by omega) _ _ _ _ _ _ _ _).alloc _, hj, (fun h => by cases h), fun x y q h => ?_⟩
    obtain ⟨h4, h5, h6⟩ := H3.out x y q h
    refine ⟨h4, h5, ExF.carry (fun z hq => ?_) _ _ h6⟩
    obtain ⟨hq1, hq2⟩ := hq
    rw [World.size_alloc] at hq1
    have hq3 : z < (set8 w1 w.heap.size (.string X) (.int .i64 k) (.string t) (.string n) (.string a) (.slice A1 n1 c1') (.pointer p) (.slice A2 n2 c2')).heap.size := by rw [set8_size]; exact hq2
    exact ⟨⟨by omega, by rw [World.size_alloc]; exact Nat.lt_succ_of_lt hq3⟩, (Lib.alloc_old _ _ z hq3).trans (set8_heap _ _ _ _ _ _ _ _ _ _ z (by omega))⟩
  | none =>
    clear h1 h2 h3 hc hz
    have hv := (HV.out rfl).1
    have hv3 := (HV.out rfl).2
    have Hv := Lib.hid hv
    have Hv3 := Lib.hid hv3
    have hsz1 : (w1.setCell ⟨rb, 1, none⟩ (.int .i64 (i : Nat))).heap.size = w1.heap.size := by simp
    have HB := Lib.hid (HH.out ((w1.setCell ⟨rb, 1, none⟩ (.int .i64 (i : Nat))).alloc (.cells #[.string X, .int .i64 k, .string t, .string n, .string a, .slice A1 n1 c1', .pointer p, .slice A2 n2 c2'] 276)) ((H2.out.set i).alloc _))
    have HK2 := Lib.hid ((HK.out.setCell 1 (.int .i64 (i : Nat))).alloc (by rw [hsz1]; omega) (.cells #[.string X, .int .i64 k, .string t, .string n, .string a, .slice A1 n1 c1', .pointer p, .slice A2 n2 c2'] 276))
    have HC2 := Lib.hid ((BoxAt.setOther HC.out ⟨rb, 1, none⟩ (.int .i64 (i : Nat)) (by show w.heap.size ≠ rb; omega)).alloc (.cells #[.string X, .int .i64 k, .string t, .string n, .string a, .slice A1 n1 c1', .pointer p, .slice A2 n2 c2'] 276))
    clear hv hv3 HV HV2
    go_wp2_with fail
    go_at_call 262
    refine HB.out.mono ?_
    rintro e w2 ⟨⟨h1, k', t', n', a', B1, m1, b1, p', B2, m2, b2, j', rfl, h2, hj', h3⟩, hz⟩
    have HK3 := Lib.hid (HK2.out.trans h1)
    have hc3 := BoxAt.kp HC2.out h1 (by omega)
    have hl3 := hc3.lt
    have HC3 := Lib.hid hc3
    have H22 := Lib.hid h2
    have H33 := Lib.hid h3
    have HZ := Lib.hid hz
    have hs1 := h1.size
    rw [World.size_alloc, hsz1] at hs1
    obtain ⟨q0, q1, q2, q3, q4, q5, q6, q7, p0, p1, p2, p3, p4, p5, p6, p7⟩ := cells8 hc3
    unfold exV
    clear h1 h2 h3 hz hc3 HB
    go_wp2
    refine end8w Tryz.results265 ((box_set8 HC3.out _ _ _ _ _ _ _ _).alloc _) rfl rfl rfl ⟨(HK3.out.set8 (Nat.le_refl _) hlt _ _ _ _ _ _ _ _).alloc (by rw [set8_size]; omega) _, E0, k', t', n', a', B1, m1, b1, p', B2, m2, b2, j', by rw [Hv.out]; rfl, (H22.out.set8 (by omega) _ _ _ _ _ _ _ _).alloc _, hj', fun h => ?_, fun x y z h => ?_⟩
    · have hr0 : q = none := by
        have := Hv.out
        rw [h] at this
        cases q with
        | none => rfl
        | some p => cases this
      have h1 := HZ.out hr0
      simp [exV] at h1
      exact h1.1.1
    · obtain ⟨rfl, hr0⟩ := Hv3.out x y z h
      obtain ⟨h4, h5⟩ := H33.out y z hr0
      refine ⟨rfl, h4, ExF.carry (fun z hq => ?_) _ _ h5⟩
      obtain ⟨hq1, hq2⟩ := hq
      rw [World.size_alloc, hsz1] at hq1
      have hq3 : z < (set8 w2 w.heap.size (.string E0) (.int .i64 k') (.string t') (.string n') (.string a') (.slice B1 m1 b1) (.pointer p') (.slice B2 m2 b2)).heap.size := by rw [set8_size]; exact hq2
      exact ⟨⟨by omega, by rw [World.size_alloc]; exact Nat.lt_succ_of_lt hq3⟩, (Lib.alloc_old _ _ z hq3).trans (set8_heap _ _ _ _ _ _ _ _ _ _ z (by omega))⟩
end Go.Proofs.YtpgiboblonlddaaGreatDoor

namespace Go.Proofs.YtpgiboblonlddaaGreatDoor
open Go.RowKit
set_option linter.unusedVariables false
set_option linter.unusedSimpArgs false
def li (s : ByteArray) (i : Nat) : Nat := behN nlB s.data.toList i
def beh (s : ByteArray) (i : Nat) : Nat := if li s i < s.size then li s i + 1 else s.size
theorem li_ok (s : ByteArray) (i : Nat) (hi : i ≤ s.size) : i ≤ li s i ∧ li s i ≤ s.size := ⟨behN_ge _ _ _, by have := behN_le nlB s.data.toList i (by rw [size_data]; exact hi); rw [size_data] at this; exact this⟩
theorem beh_ok (s : ByteArray) (i : Nat) (hi : i ≤ s.size) : i ≤ beh s i ∧ beh s i ≤ s.size ∧ (i < s.size → i < beh s i) := by
  have := li_ok s i hi
  unfold beh
  split <;> omega
def passE (s : ByteArray) (i : Nat) : Nat :=
  if h : i < s.size then
    if sp s i < s.size ∧ isAt s (sp s i) 10 = false then i
    else if h2 : i < beh s (sp s i) then passE s (beh s (sp s i)) else i
  else i
termination_by s.size - i
decreasing_by omega
def mayB (s : ByteArray) (i : Nat) : Bool := isAt s i 35 || isAt s i 45 || decide (i < nm s i)
def junkTo (s : ByteArray) (i : Nat) : Nat :=
  if h : i < s.size ∧ mayB s i = false then
    if h2 : i < beh s i then junkTo s (beh s i) else i
  else i
termination_by s.size - i
decreasing_by omega
def namedS (s : ByteArray) (i : Nat) : Option (ByteArray × List EL × Nat) :=
  if nm s i = i then none
  else if isAt s (sp s (nm s i)) 61 then
    match patS (placeS s 20) s (sp s (nm s i) + 1) with
    | none => none
    | some (l, e) => if e = s.size ∨ isAt s e 10 = true then some (s.extract i (nm s i), l, e) else none
  else none
def attrS (s : ByteArray) (i : Nat) : Option (ByteArray × List EL × Nat) :=
  if isAt s (bl s i) 46 && (at0 s.data.toList (bl s i - 1) == 32) then
    match namedS s (bl s i + 1) with
    | none => none
    | some (x, l, e) => if l.isEmpty then none else some (x, l, e)
  else none
def atsS (s : ByteArray) (acc : List AT) (i : Nat) : List AT × Nat :=
  match attrS s i with
  | none => (acc, i)
  | some (x, l, e) => if h : i < e ∧ e ≤ s.size then atsS s (acc ++ [.mk x l]) e else (acc, i)
termination_by s.size - i
decreasing_by omega
structure EN where
  ty : Int
  lv : Int
  tx : ByteArray
  nm : ByteArray
  val : List EL
  ats : List AT
  fr : Nat
  tu : Nat
def msgS (s : ByteArray) (i : Nat) : Option EN :=
  match namedS s (if isAt s i 45 then i + 1 else i) with
  | none => none
  | some (x, l, e) =>
    if !l.isEmpty || (!isAt s i 45 && !(atsS s [] e).1.isEmpty) then some ⟨if isAt s i 45 then 2 else 1, 0, E0, x, l, (atsS s [] e).1, i, beh s (atsS s [] e).2⟩ else none
def junkS (s : ByteArray) (i : Nat) : EN := ⟨3, 0, s.extract i (junkTo s (beh s i)), E0, [], [], i, junkTo s (beh s i)⟩
end Go.Proofs.YtpgiboblonlddaaGreatDoor

namespace Go.Proofs.YtpgiboblonlddaaGreatDoor
open Go.RowKit Go.ChangeMaps
set_option linter.unusedVariables false
set_option linter.unusedSimpArgs false
structure VE where
  x : EN
  A : Option Addr
  c : Nat
  B : Option Addr
  d : Nat
def VE.v (e : VE) : Value := .agg #[.int .i64 e.x.ty, .int .i64 e.x.lv, .string e.x.tx, .string e.x.nm, .slice e.A e.x.val.length e.c, .slice e.B e.x.ats.length e.d, .int .i64 e.x.fr, .int .i64 e.x.tu]
def entM (p : VE × Nat) : MapEntry := { key := .string p.1.x.nm, val := p.1.v, born := p.2 }
def mapOf (L : List VE) : Array MapEntry := (L.zipIdx.map entM).toArray
def putL (over : Bool) (e : VE) : List VE → List VE × Bool
  | [] => ([e], false)
  | y :: r => if y.x.nm = e.x.nm then ((if over then e else y) :: r, true) else (y :: (putL over e r).1, (putL over e r).2)
theorem find_put (over : Bool) (e : VE) : ∀ (L : List VE) (j : Nat), ∃ r, Instr.findNow .string (.string e.x.nm) ((L.zipIdx j).map entM) j = some r ∧
    (r = none → putL over e L = (L ++ [e], false)) ∧ (∀ i v, r = some (i, v) → j ≤ i ∧ ∃ y, L[i - j]? = some y ∧ y.x.nm = e.x.nm ∧ v = y.v ∧ putL over e L = (if over then L.set (i - j) e else L, true))
  | [], j => ⟨none, rfl, fun _ => rfl, fun i v h => by cases h⟩
  | y :: L, j => by
    have e0 : Instr.findNow .string (.string e.x.nm) (((y :: L).zipIdx j).map entM) j = (match (some (e.x.nm == y.x.nm) : Option Bool) with | some true => some (some (j, y.v)) | some false => Instr.findNow .string (.string e.x.nm) ((L.zipIdx (j + 1)).map entM) (j + 1) | none => none) := by
      rw [List.zipIdx_cons, List.map_cons]
      rfl
    rw [e0]
    cases hb : (e.x.nm == y.x.nm) with
    | true =>
      have hn : y.x.nm = e.x.nm := (beqT.1 hb).symm
      refine ⟨some (j, y.v), rfl, (fun h => by cases h), fun i v h => ?_⟩
      cases h
      refine ⟨Nat.le_refl _, y, by simp, hn, rfl, ?_⟩
      rw [putL, if_pos hn, Nat.sub_self]
      cases over <;> rfl
    | false =>
      have hn : ¬ y.x.nm = e.x.nm := fun h => by rw [beqT.2 h.symm] at hb; cases hb
      obtain ⟨r, h1, h2, h3⟩ := find_put over e L (j + 1)
      refine ⟨r, h1, fun hr => ?_, fun i v hr => ?_⟩
      · rw [putL, if_neg hn, h2 hr]
        rfl
      · obtain ⟨h4, z, h5, h6, h7, h8⟩ := h3 i v hr
        refine ⟨by omega, z, ?_, h6, h7, ?_⟩
        · rw [show i - j = (i - (j + 1)) + 1 by omega, List.getElem?_cons_succ]
          exact h5
        · rw [putL, if_neg hn, h8, show i - j = (i - (j + 1)) + 1 by omega]
          cases over <;> rfl
theorem mapOf_push (L : List VE) (e : VE) : (mapOf L).push { key := .string e.x.nm, val := e.v, born := L.length } = mapOf (L ++ [e]) := by
  unfold mapOf
  rw [List.zipIdx_append, List.map_append]
  apply Array.toList_inj.1
  simp [entM]
theorem zip_set : ∀ (L : List VE) (i j : Nat) (e : VE), ((L.set i e).zipIdx j) = (L.zipIdx j).modify i (fun p => (e, p.2))
  | [], i, j, e => by cases i <;> rfl
  | y :: L, 0, j, e => by rw [List.set_cons_zero, List.zipIdx_cons, List.zipIdx_cons]; rfl
  | y :: L, i + 1, j, e => by
    rw [List.set_cons_succ, List.zipIdx_cons, List.zipIdx_cons, zip_set L i (j + 1) e]
    rfl
theorem mapOf_set (L : List VE) (i : Nat) (e : VE) : (mapOf L).modify i (fun y => { y with key := .string e.x.nm, val := e.v }) = mapOf (L.set i e) := by
  unfold mapOf
  apply Array.toList_inj.1
  rw [zip_set, Array.toList_modify]
  apply List.ext_getElem?
  intro k
  simp only [List.getElem?_modify, List.getElem?_map]
  by_cases h : i = k
  · subst h
    cases (L.zipIdx)[i]? <;> simp [entM]
  · simp [h]
theorem mapOf_get {L : List VE} {i : Nat} {y : VE} (h : L[i]? = some y) : (mapOf L)[i]? = some (entM (y, i)) := by
  unfold mapOf
  rw [List.getElem?_toArray, List.getElem?_map, List.getElem?_zipIdx, h]
  simp
theorem put_all (mb : Nat) (L : List VE) (e : VE) (over : Bool) (w : World) (hm : MapAt w mb (mapOf L) L.length) :
    Calls Tryz.prog 43 #[.map (some mb), e.v, .bool over] w fun e' w' => e' = .returned (.bool (putL over e L).2) ∧ MapAt w' mb (mapOf (putL over e L).1) (putL over e L).1.length ∧ Kp mb w w' := by
  obtain ⟨r, h1, h2, h3⟩ := find_put over e L 0
  have h1' : Instr.findNow .string (.string e.x.nm) (mapOf L).toList 0 = some r := h1
  have hl := hm.lt
  cases r with
  | none =>
    rw [h2 rfl]
    refine (put_new mb L.length (mapOf L) e.x.nm _ _ _ _ _ _ _ over w hm h1').mono ?_
    rintro e' w' ⟨rfl, g1, g2⟩
    refine ⟨rfl, ?_, g2⟩
    rw [List.length_append, ← mapOf_push]
    exact g1
  | some p =>
    obtain ⟨i, v⟩ := p
    obtain ⟨h4, y, h5, h6, rfl, h7⟩ := h3 i v rfl
    rw [Nat.sub_zero] at h5 h7
    rw [h7]
    cases over with
    | false =>
      refine (put_kept mb L.length i (mapOf L) e.x.nm _ _ _ _ _ _ _ _ _ _ _ _ _ _ _ _ _ _ _ w hm h1').mono ?_
      rintro e' w' ⟨rfl, g1, g2⟩
      exact ⟨rfl, g1, Kp.of_below g2 (Nat.le_of_lt hl)⟩
    | true =>
      refine (put_over mb L.length i (mapOf L) e.x.nm _ _ _ _ _ _ _ _ _ _ _ _ _ _ _ _ _ _ _ (entM (y, i)) w hm h1' (mapOf_get h5) (by unfold entM; rw [h6])).mono ?_
      rintro e' w' ⟨rfl, g1, g2⟩
      refine ⟨rfl, ?_, g2⟩
      simp only [if_true]
      rw [List.length_set, ← mapOf_set]
      exact g1
end Go.Proofs.YtpgiboblonlddaaGreatDoor

namespace Go.Proofs.YtpgiboblonlddaaGreatDoor
open Go.RowKit
set_option linter.unusedVariables false
set_option linter.unusedSimpArgs false
def hsB (c : UInt8) : Bool := c == 35
def hs (s : ByteArray) (i : Nat) : Nat := behN hsB s.data.toList i
def comL (s : ByteArray) (i : Nat) : Nat × ByteArray :=
  if 3 < hs s i - i ∨ (hs s i < li s i ∧ isAt s (hs s i) 32 = false) then (0, E0)
  else (hs s i - i, if hs s i < li s i then s.extract (hs s i + 1) (li s i) else E0)
def comGo (s : ByteArray) (lv : Nat) (acc : List ByteArray) (k : Nat) (w : ByteArray) : List ByteArray × Nat :=
  if h : (comL s (beh s k)).1 = lv ∧ k < beh s k ∧ beh s k ≤ s.size then comGo s lv (acc ++ [w]) (beh s k) (comL s (beh s k)).2
  else (acc ++ [w], beh s k)
termination_by s.size - k
decreasing_by omega
def comS (s : ByteArray) (i : Nat) : Option EN :=
  if (comL s i).1 = 0 then none
  else some ⟨0, (comL s i).1, mkB (Lib.join ((comGo s (comL s i).1 [] i (comL s i).2).1.map (·.data.toList)) [10]), E0, [], [], i, (comGo s (comL s i).1 [] i (comL s i).2).2⟩
def readS (s : ByteArray) (i : Nat) : EN := match comS s i with
  | some x => x
  | none => match msgS s i with
    | some x => x
    | none => junkS s i
def parseGo (s : ByteArray) (acc : List EN) (i : Nat) : List EN :=
  if h : i < s.size ∧ i < passE s (readS s i).tu then parseGo s (acc ++ [readS s i]) (passE s (readS s i).tu) else acc
termination_by s.size - i
decreasing_by omega
def parseS (s : ByteArray) : List EN := parseGo s [] (passE s 0)
end Go.Proofs.YtpgiboblonlddaaGreatDoor

namespace Go.Proofs.YtpgiboblonlddaaGreatDoor
open Go.RowKit
set_option linter.unusedVariables false
set_option linter.unusedSimpArgs false
theorem line_nat (s : ByteArray) (i : Nat) (hs : s.size ≤ 4000000) (hi : i ≤ s.size) (w : World) : Calls Tryz.prog 136 #[.string s, .int .i64 i] w fun e w' => e = .returned (.int .i64 (li s i : Nat)) ∧ w = w' := by
  have h := line_any s (i : Int) w (by omega)
  have e : lineI s.data.toList (i : Int) = (li s i : Nat) := by
    unfold lineI li
    by_cases hl : i < s.size
    · rw [if_pos ⟨by omega, by rw [size_data]; omega⟩, Int.toNat_natCast]
    · rw [if_neg (by rw [size_data]; omega)]
      have := behN_end nlB s.data.toList i (by rw [size_data]; omega)
      rw [this]
  rw [e] at h
  exact h
set_option maxHeartbeats 1000000 in
theorem behind_any (s : ByteArray) (i : Nat) (hs : s.size ≤ 4000000) (hi : i ≤ s.size) (w : World) : Calls Tryz.prog 99 #[.string s, .int .i64 i] w fun e w' => e = .returned (.int .i64 (beh s i : Nat)) ∧ w = w' := by
  have hL := fun W => line_nat s i hs hi W
  have hok := li_ok s i hi
  obtain ⟨l, hl⟩ : ∃ l, li s i = l := ⟨_, rfl⟩
  unfold beh
  rw [hl] at hL hok ⊢
  have HL := Lib.hid hL
  have hl0 : (l : Int) ≤ 4000000 := by omega
  clear hL hl
  by_cases h : l < s.size
  · rw [if_pos h]
    have h1 : ((l : Int) + 1) ≤ (s.size : Int) := by omega
    have h2 : min ((l : Int) + 1) (s.size : Int) = (l : Int) + 1 := by omega
    go_enter Tryz.func99, Tryz.ntmps99
    go_wp2_with fail
    go_at_call 136
    refine (HL.out _).mono ?_
    rintro e w' ⟨rfl, rfl⟩
    go_wp2
    go_ret
    exact ⟨by go_num, rfl⟩
  · rw [if_neg h]
    have h0 : l = s.size := by omega
    have h1 : ¬ ((l : Int) + 1) ≤ (s.size : Int) := by omega
    have h2 : min ((l : Int) + 1) (s.size : Int) = (s.size : Int) := by omega
    clear h0
    go_enter Tryz.func99, Tryz.ntmps99
    go_wp2_with fail
    go_at_call 136
    refine (HL.out _).mono ?_
    rintro e w' ⟨rfl, rfl⟩
    go_wp2
    go_ret
    exact ⟨rfl, rfl⟩
theorem isAt_get (s : ByteArray) (q : Nat) (hc : q < s.size) (c : UInt8) : isAt s q c = ((s[q]'hc).toNat == c.toNat) := by
  unfold isAt at0
  rw [decide_eq_true hc, Bool.true_and, List.getD_eq_getElem?_getD, List.getElem?_eq_getElem (by rw [size_data]; exact hc), Option.getD_some, Bool.eq_iff_iff, beq_iff_eq, beq_iff_eq]
  exact ⟨fun h => by rw [show (s.data.toList[q]'(by rw [size_data]; exact hc)) = s[q]'hc from rfl] at h; rw [h], fun h => UInt8.toNat_inj.1 h⟩
theorem passE_go (s : ByteArray) (i : Nat) (hi : i < s.size) (h : ¬ (sp s i < s.size ∧ isAt s (sp s i) 10 = false)) : passE s i = passE s (beh s (sp s i)) ∧ i < beh s (sp s i) ∧ beh s (sp s i) ≤ s.size := by
  have h1 : i ≤ sp s i := sp_ge s i
  have h2 : sp s i ≤ s.size := by have := behN_le spB s.data.toList i (by rw [size_data]; omega); rw [size_data] at this; exact this
  have h3 := beh_ok s (sp s i) h2
  have h4 : i < beh s (sp s i) := by
    by_cases hl : sp s i < s.size
    · have := h3.2.2 hl; omega
    · unfold beh
      have := li_ok s (sp s i) h2
      rw [if_neg (by omega)]
      exact hi
  refine ⟨?_, h4, h3.2.1⟩
  rw [passE, dif_pos hi, if_neg h, dif_pos h4]
set_option maxHeartbeats 2000000 in
set_option maxRecDepth 100000 in
theorem passEmpty_any (s : ByteArray) (i : Nat) (hs : s.size ≤ 4000000) (hi : i ≤ s.size) (w : World) : Calls Tryz.prog 66 #[.string s, .int .i64 i] w fun e w' => e = .returned (.int .i64 (passE s i : Nat)) ∧ Below w.heap.size w w' := by
  have HS := Lib.hid (fun j W (hj : j ≤ s.size) => ((endSpaces (s := s)).2 j W hs hj).2.2)
  have HB := Lib.hid (fun j W (hj : j ≤ s.size) => behind_any s j hs hj W)
  obtain ⟨R, hR⟩ : ∃ R, passE s i = R := ⟨_, rfl⟩
  rw [hR]
  have HR := Lib.hid hR
  clear hR
  go_enter Tryz.func66, Tryz.ntmps66
  go_wp2
  go_loopw [1] (fun t1 wr => ∃ j : Nat, t1 = .int .i64 j ∧ j ≤ s.size ∧ Hid (passE s j = R) ∧ Hid (Below w.heap.size w wr)) (fun t1 _ => s.size - (intOf t1).toNat)
  case atStart => exact ⟨i, rfl, hi, HR, Below.refl _ _⟩
  case round =>
    obtain ⟨j, rfl, hj, HP, HBel⟩ := hrel
    have hj0 : (j : Int) ≤ 4000000 := by omega
    by_cases hlt : j < s.size
    · have d1 : decide ((j : Int) < (s.size : Int)) = true := decide_eq_true (by omega)
      have d2 : (j : Int) < (s.size : Int) := by omega
      have hS := fun W => HS.out j W hj
      have h2 : sp s j ≤ s.size := by have := behN_le spB s.data.toList j (by rw [size_data]; omega); rw [size_data] at this; exact this
      have hgo := passE_go s j hlt
      have hst : (sp s j < s.size ∧ isAt s (sp s j) 10 = false) → passE s j = j := fun h => by rw [passE, dif_pos hlt, if_pos h]
      have hBb := fun W => HB.out (sp s j) W h2
      obtain ⟨q, hq⟩ : ∃ q, sp s j = q := ⟨_, rfl⟩
      obtain ⟨nx, hnx⟩ : ∃ nx, beh s (sp s j) = nx := ⟨_, rfl⟩
      rw [hnx] at hgo hBb
      rw [hq] at hS h2 hgo hst hBb
      have HSj := Lib.hid hS
      have HBj := Lib.hid hBb
      have Hgo := Lib.hid hgo
      have Hst := Lib.hid hst
      have hq0 : (q : Int) ≤ 4000000 := by omega
      have hq1 : (0 : Int) ≤ (q : Int) := by omega
      clear hS hgo hst hBb hq hnx
      go_wp2_with fail
      go_at_call 98
      refine (HSj.out _).mono ?_
      rintro e w1 ⟨rfl, hb⟩
      have HB1 := Lib.hid (HBel.out.trans (hb.mono HBel.out.size))
      clear hb
      by_cases hc : q < s.size
      · have d3 : decide ((q : Int) < (s.size : Int)) = true := decide_eq_true (by omega)
        have d4 : (q : Int) < (s.size : Int) := by omega
        have e1 : isAt s q 10 = ((s[q]'hc).toNat == 10) := isAt_get s q hc 10
        by_cases hb10 : (s[q]'hc).toNat = 10
        · have d5 : (((s[q]'hc).toNat : Int) != 10) = false := by rw [bne_eq_false_iff_eq]; omega
          obtain ⟨h3, h4, h5⟩ := Hgo.out (fun h => by have := h.2; rw [e1, hb10] at this; cases this)
          have H3 := Lib.hid h3
          clear h3 e1 hb10
          go_wp2_with fail
          go_at_call 99
          refine (HBj.out _).mono ?_
          rintro e w2 ⟨rfl, rfl⟩
          go_wp2
          go_roundw
          case rel => exact ⟨nx, rfl, h5, H3.out.symm.trans HP.out, HB1⟩
          case measure => simp [intOf]; omega
        · have d5 : (((s[q]'hc).toNat : Int) != 10) = true := by rw [bne_iff_ne]; omega
          have h3 := Hst.out ⟨hc, by rw [e1, beq_eq_false_iff_ne]; exact hb10⟩
          have H3 := Lib.hid h3
          clear h3 e1 hb10
          go_wp2
          go_ret
          exact ⟨by rw [← HP.out, H3.out]; rfl, HB1.out⟩
      · have d3 : decide ((q : Int) < (s.size : Int)) = false := decide_eq_false (by omega)
        have d4 : ¬ (q : Int) < (s.size : Int) := by omega
        obtain ⟨h3, h4, h5⟩ := Hgo.out (fun h => hc h.1)
        have H3 := Lib.hid h3
        clear h3
        go_wp2_with fail
        go_at_call 99
        refine (HBj.out _).mono ?_
        rintro e w2 ⟨rfl, rfl⟩
        go_wp2
        go_roundw
        case rel => exact ⟨nx, rfl, h5, H3.out.symm.trans HP.out, HB1⟩
        case measure => simp [intOf]; omega
    · have d1 : decide ((j : Int) < (s.size : Int)) = false := decide_eq_false (by omega)
      have d2 : ¬ (j : Int) < (s.size : Int) := by omega
      have h3 : passE s j = j := by rw [passE, dif_neg hlt]
      have H3 := Lib.hid h3
      clear h3
      go_wp2
      go_ret
      exact ⟨by rw [← HP.out, H3.out]; rfl, HBel.out⟩
set_option maxHeartbeats 2000000 in
set_option maxRecDepth 100000 in
theorem mayBegin_any (s : ByteArray) (i : Nat) (hs : s.size ≤ 4000000) (hi : i < s.size) (w : World) : Calls Tryz.prog 141 #[.string s, .int .i64 i] w fun e w' => e = .returned (.bool (mayB s i)) ∧ Below w.heap.size w w' := by
  have hN := fun W => ((endName (s := s)).2 i W hs (Nat.le_of_lt hi)).2.2
  obtain ⟨m, hm⟩ : ∃ m, nm s i = m := ⟨_, rfl⟩
  have e1 := isAt_get s i hi 35
  have e2 := isAt_get s i hi 45
  unfold mayB
  rw [hm] at hN
  rw [e1, e2, hm]
  have HN := Lib.hid hN
  obtain ⟨c, hc⟩ : ∃ c, (s[i]'hi).toNat = c := ⟨_, rfl⟩
  rw [hc, show (35 : UInt8).toNat = 35 from rfl, show (45 : UInt8).toNat = 45 from rfl]
  have hi0 : (i : Int) < (s.size : Int) := by omega
  have hi1 : (0 : Int) ≤ (i : Int) := by omega
  clear hN e1 e2 hm
  by_cases h1 : c = 35
  · have d1 : ((c : Int) == 35) = true := beq_iff_eq.2 (by omega)
    have E : (c == 35 || c == 45 || decide (i < m)) = true := by rw [h1]; rfl
    rw [E]
    clear h1 E
    go_enter Tryz.func141, Tryz.ntmps141
    go_wp2
    go_ret
    exact ⟨rfl, Below.refl _ _⟩
  have d1 : ((c : Int) == 35) = false := beq_eq_false_iff_ne.2 (by omega)
  by_cases h2 : c = 45
  · have d2 : ((c : Int) == 45) = true := beq_iff_eq.2 (by omega)
    have E : (c == 35 || c == 45 || decide (i < m)) = true := by rw [h2]; rfl
    rw [E]
    clear h1 h2 E
    go_enter Tryz.func141, Tryz.ntmps141
    go_wp2
    go_ret
    exact ⟨rfl, Below.refl _ _⟩
  have d2 : ((c : Int) == 45) = false := beq_eq_false_iff_ne.2 (by omega)
  have E : (c == 35 || c == 45 || decide (i < m)) = decide (i < m) := by rw [beq_eq_false_iff_ne.2 h1, beq_eq_false_iff_ne.2 h2]; rfl
  rw [E]
  clear h1 h2 E
  go_enter Tryz.func141, Tryz.ntmps141
  go_wp2_with fail
  go_at_call 166
  refine (HN.out _).mono ?_
  rintro e w1 ⟨rfl, hb⟩
  have HB := Lib.hid hb
  clear hb
  go_wp2
  go_ret
  refine ⟨?_, HB.out⟩
  by_cases h : i < m
  · simp [h]
  · simp [h]
abbrev zEn : Array Value := #[.int .i64 0, .int .i64 0, .string ⟨#[]⟩, .string ⟨#[]⟩, .slice none 0 0, .slice none 0 0, .int .i64 0, .int .i64 0]
theorem junk_go (s : ByteArray) (i : Nat) (hi : i < s.size) : (mayB s i = true → junkTo s i = i) ∧ (mayB s i = false → junkTo s i = junkTo s (beh s i) ∧ i < beh s i ∧ beh s i ≤ s.size) := by
  have h := beh_ok s i (Nat.le_of_lt hi)
  refine ⟨fun hm => by rw [junkTo, dif_neg (by rw [hm]; simp)], fun hm => ⟨by rw [junkTo, dif_pos ⟨hi, hm⟩, dif_pos (h.2.2 hi)], h.2.2 hi, h.2.1⟩⟩
theorem junk_end (s : ByteArray) (i : Nat) (hi : ¬ i < s.size) : junkTo s i = i := by rw [junkTo, dif_neg (fun h => hi h.1)]
theorem cellsE {w : World} {k : Nat} {x0 x1 x2 x3 x4 x5 x6 x7 : Value} {t : TypeId} (h : BoxAt w k #[x0, x1, x2, x3, x4, x5, x6, x7] t) :
    w.cell? ⟨k, 0, none⟩ = some x0 ∧ w.cell? ⟨k, 1, none⟩ = some x1 ∧ w.cell? ⟨k, 2, none⟩ = some x2 ∧ w.cell? ⟨k, 3, none⟩ = some x3 ∧ w.cell? ⟨k, 4, none⟩ = some x4 ∧ w.cell? ⟨k, 5, none⟩ = some x5 ∧ w.cell? ⟨k, 6, none⟩ = some x6 ∧ w.cell? ⟨k, 7, none⟩ = some x7 ∧
    w.frozen? ⟨k, 0, none⟩ = false ∧ w.frozen? ⟨k, 1, none⟩ = false ∧ w.frozen? ⟨k, 2, none⟩ = false ∧ w.frozen? ⟨k, 3, none⟩ = false ∧ w.frozen? ⟨k, 4, none⟩ = false ∧ w.frozen? ⟨k, 5, none⟩ = false ∧ w.frozen? ⟨k, 6, none⟩ = false ∧ w.frozen? ⟨k, 7, none⟩ = false :=
  ⟨h.cell 0, h.cell 1, h.cell 2, h.cell 3, h.cell 4, h.cell 5, h.cell 6, h.cell 7, Lib.frozen_of_heap h 0, Lib.frozen_of_heap h 1, Lib.frozen_of_heap h 2, Lib.frozen_of_heap h 3, Lib.frozen_of_heap h 4, Lib.frozen_of_heap h 5, Lib.frozen_of_heap h 6, Lib.frozen_of_heap h 7⟩
set_option maxRecDepth 100000 in
theorem resE {fn : Func} {A : Nat} {tmps : Array Value} {w : World} {b : Nat} {x0 x1 x2 x3 x4 x5 x6 x7 : Value} {t : TypeId} (hres : fn.results = #[.cell A 89]) (ha : tmps.getD A undef = .pointer (some ⟨b, 0, none⟩))
    (hb : BoxAt w b #[x0, x1, x2, x3, x4, x5, x6, x7] t) : (results fn tmps).run Tryz.prog w = .ok (.agg #[x0, x1, x2, x3, x4, x5, x6, x7]) w := by
  obtain ⟨q0, q1, q2, q3, q4, q5, q6, q7, _⟩ := cellsE hb
  have ha' : tmps[A]?.getD undef = .pointer (some ⟨b, 0, none⟩) := by rw [← ha]; simp
  simp [results, hres, ha', go_sem, q0, q1, q2, q3, q4, q5, q6, q7]
theorem endE {fn : Func} {R : Ending → World → Prop} {a : Act} {w2 : World} {A b : Nat} {x0 x1 x2 x3 x4 x5 x6 x7 : Value} {t : TypeId} (hres : fn.results = #[.cell A 89]) (hbox : BoxAt w2 b #[x0, x1, x2, x3, x4, x5, x6, x7] t)
    (ha : a.tmps.getD A undef = .pointer (some ⟨b, 0, none⟩)) (hd : a.defers = []) (hR : R (.returned (.agg #[x0, x1, x2, x3, x4, x5, x6, x7])) w2) : bodyPost Tryz.prog fn R .ret a w2 :=
  bodyPost_ret (resE hres ha hbox) hd hR
theorem below_set8 {B : Nat} {a w : World} (h : Below B a w) {b : Nat} (hb : B ≤ b) (x0 x1 x2 x3 x4 x5 x6 x7 : Value) : Below B a (set8 w b x0 x1 x2 x3 x4 x5 x6 x7) :=
  (((((((h.setCell (p := ⟨b, 0, none⟩) hb x0).setCell (p := ⟨b, 1, none⟩) hb x1).setCell (p := ⟨b, 2, none⟩) hb x2).setCell (p := ⟨b, 3, none⟩) hb x3).setCell (p := ⟨b, 4, none⟩) hb x4).setCell (p := ⟨b, 5, none⟩) hb x5).setCell (p := ⟨b, 6, none⟩) hb x6).setCell (p := ⟨b, 7, none⟩) hb x7
set_option maxHeartbeats 2000000 in
set_option maxRecDepth 100000 in
theorem junk_any (s : ByteArray) (i : Nat) (hs : s.size ≤ 4000000) (hi : i < s.size) (w : World) : Calls Tryz.prog 102 #[.string s, .int .i64 i] w fun e w' => e = .returned (entV 3 0 (s.extract i (junkTo s (beh s i))) ⟨#[]⟩ (.slice none 0 0) (.slice none 0 0) i (junkTo s (beh s i) : Nat)) ∧ Below w.heap.size w w' := by
  have hB0 := fun W => behind_any s i hs (Nat.le_of_lt hi) W
  have hok := beh_ok s i (Nat.le_of_lt hi)
  have hok2 := hok.2.2 hi
  obtain ⟨b, hb⟩ : ∃ b, beh s i = b := ⟨_, rfl⟩
  rw [hb] at hB0 hok hok2 ⊢
  have HB0 := Lib.hid hB0
  have HB := Lib.hid (fun j W (hj : j ≤ s.size) => behind_any s j hs hj W)
  have HM := Lib.hid (fun j W (hj : j < s.size) => mayBegin_any s j hs hj W)
  obtain ⟨R, hR⟩ : ∃ R, junkTo s b = R := ⟨_, rfl⟩
  rw [hR]
  have HR := Lib.hid hR
  have hc0 := BoxAt.new w zEn 89
  have HC0 := Lib.hid hc0
  clear hB0 hb hR hc0
  unfold entV
  go_enter Tryz.func102, Tryz.ntmps102
  go_wp2_with fail
  go_at_call 99
  refine (HB0.out _).mono ?_
  rintro e w1 ⟨rfl, rfl⟩
  go_wp2
  go_loopw [5] (fun t5 wr => ∃ j : Nat, t5 = .int .i64 j ∧ i ≤ j ∧ j ≤ s.size ∧ Hid (junkTo s j = R) ∧ Hid (BoxAt wr w.heap.size zEn 89) ∧ Hid (Below w.heap.size w wr)) (fun t5 _ => s.size - (intOf t5).toNat)
  case atStart => exact ⟨b, rfl, hok.1, hok.2.1, HR, HC0.out, (Below.refl _ _).alloc (Nat.le_refl _) _⟩
  case round =>
    obtain ⟨j, rfl, hij, hj, HJ, HC, HBel⟩ := hrel
    have hj0 : (j : Int) ≤ 4000000 := by omega
    obtain ⟨q0, q1, q2, q3, q4, q5, q6, q7, p0, p1, p2, p3, p4, p5, p6, p7⟩ := cellsE HC.out
    have hlt0 := HC.out.lt
    by_cases hlt : j < s.size
    · have d1 : decide ((j : Int) < (s.size : Int)) = true := decide_eq_true (by omega)
      have d2 : (j : Int) < (s.size : Int) := by omega
      have hM := fun W => HM.out j W hlt
      have hgo := junk_go s j hlt
      have hBb := fun W => HB.out j W hj
      obtain ⟨b2, hb2⟩ : ∃ b, mayB s j = b := ⟨_, rfl⟩
      obtain ⟨nx, hnx⟩ : ∃ nx, beh s j = nx := ⟨_, rfl⟩
      rw [hb2] at hM hgo
      rw [hnx] at hgo hBb
      have HMj := Lib.hid hM
      have Hgo := Lib.hid hgo
      have HBj := Lib.hid hBb
      clear hM hgo hBb hb2 hnx
      go_wp2_with fail
      go_at_call 141
      refine (HMj.out _).mono ?_
      rintro e w2 ⟨rfl, hb⟩
      have HB2 := Lib.hid (HBel.out.trans (hb.mono HBel.out.size))
      have hc2 := HC.out.later hb
      have HC2 := Lib.hid hc2
      clear hb
      cases b2
      case false =>
        obtain ⟨h3, h4, h5⟩ := Hgo.out.2 rfl
        have H3 := Lib.hid h3
        clear h3 hc2
        go_wp2_with fail
        go_at_call 99
        refine (HBj.out _).mono ?_
        rintro e w3 ⟨rfl, rfl⟩
        go_wp2
        go_roundw
        case rel => exact ⟨nx, rfl, by omega, h5, H3.out.symm.trans HJ.out, HC2, HB2⟩
        case measure => simp [intOf]; omega
      case true =>
        have h3 := Hgo.out.1 rfl
        have hRj : R = j := HJ.out.symm.trans h3
        obtain ⟨r0, r1, r2, r3, r4, r5, r6, r7, f0, f1, f2, f3, f4, f5, f6, f7⟩ := cellsE hc2
        have hlt2 := hc2.lt
        have HRj := Lib.hid hRj
        clear h3 hc2 hRj q0 q1 q2 q3 q4 q5 q6 q7 p0 p1 p2 p3 p4 p5 p6 p7
        go_wp2
        refine endE Tryz.results102 (box_set8 HC2.out _ _ _ _ _ _ _ _) rfl rfl ⟨by rw [HRj.out], below_set8 HB2.out (Nat.le_refl _) _ _ _ _ _ _ _ _⟩
    · have d1 : decide ((j : Int) < (s.size : Int)) = false := decide_eq_false (by omega)
      have d2 : ¬ (j : Int) < (s.size : Int) := by omega
      have hRj : R = j := HJ.out.symm.trans (junk_end s j hlt)
      have HRj := Lib.hid hRj
      clear hRj
      go_wp2
      refine endE Tryz.results102 (box_set8 HC.out _ _ _ _ _ _ _ _) rfl rfl ⟨by rw [HRj.out], below_set8 HBel.out (Nat.le_refl _) _ _ _ _ _ _ _ _⟩
end Go.Proofs.YtpgiboblonlddaaGreatDoor

namespace Go.Proofs.YtpgiboblonlddaaGreatDoor
open Go.RowKit
set_option linter.unusedVariables false
set_option linter.unusedSimpArgs false
theorem tw_in {p q : UInt8 → Bool} (h : ∀ c, p c = true → q c = true) : ∀ l : List UInt8, (l.takeWhile q).takeWhile p = l.takeWhile p
  | [] => rfl
  | a :: l => by
    by_cases hp : p a = true
    · rw [List.takeWhile_cons, h a hp, if_pos rfl, List.takeWhile_cons, List.takeWhile_cons, hp, if_pos rfl, if_pos rfl, tw_in h l]
    · by_cases hq : q a = true
      · rw [List.takeWhile_cons, hq, if_pos rfl, List.takeWhile_cons, List.takeWhile_cons, if_neg hp, if_neg hp]
      · rw [List.takeWhile_cons, if_neg hq, List.takeWhile_cons, if_neg hp]; rfl
theorem dw_drop (p : UInt8 → Bool) : ∀ l : List UInt8, l.dropWhile p = l.drop (l.takeWhile p).length
  | [] => rfl
  | a :: l => by
    by_cases h : p a = true
    · rw [List.dropWhile_cons, List.takeWhile_cons, if_pos h, if_pos h, List.length_cons, List.drop_succ_cons, dw_drop p l]
    · rw [List.dropWhile_cons, List.takeWhile_cons, if_neg h, if_neg h]; rfl
theorem tw_take (q : UInt8 → Bool) (l : List UInt8) : l.take (l.takeWhile q).length = l.takeWhile q := by
  induction l with
  | nil => rfl
  | cons a l ih =>
    by_cases h : q a = true
    · rw [List.takeWhile_cons, if_pos h, List.length_cons, List.take_succ_cons, ih]
    · rw [List.takeWhile_cons, if_neg h]; rfl
theorem tw_len (p : UInt8 → Bool) : ∀ l : List UInt8, (l.takeWhile p).length ≤ l.length
  | [] => Nat.le_refl _
  | a :: l => by
    by_cases h : p a = true
    · rw [List.takeWhile_cons, if_pos h, List.length_cons, List.length_cons]; have := tw_len p l; omega
    · rw [List.takeWhile_cons, if_neg h]; exact Nat.zero_le _
theorem hs_ok (s : ByteArray) (i : Nat) (hi : i ≤ s.size) : i ≤ hs s i ∧ hs s i ≤ li s i := by
  refine ⟨behN_ge _ _ _, ?_⟩
  unfold hs li behN
  have h : ∀ c, hsB c = true → nlB c = true := fun c hc => by
    unfold hsB at hc
    rw [beq_iff_eq] at hc
    rw [hc]; decide
  rw [← tw_in h]
  have := tw_len hsB ((s.data.toList.drop i).takeWhile nlB)
  omega
theorem extract_list (s : ByteArray) (i j : Nat) : (s.extract i j).data.toList = (s.data.toList.take j).drop i := by
  rw [List.drop_take]
  simp [ByteArray.extract, ByteArray.copySlice]
theorem trim_hash (s : ByteArray) (i : Nat) (hi : i ≤ s.size) : (⟨(Lib.trimLeftB (s.extract i (li s i)).data.toList 35).toArray⟩ : ByteArray) = s.extract (hs s i) (li s i) := by
  apply bytes_eq
  rw [extract_list, extract_list]
  have h : ∀ c, hsB c = true → nlB c = true := fun c hc => by
    unfold hsB at hc
    rw [beq_iff_eq] at hc
    rw [hc]; decide
  have e1 : (s.data.toList.take (li s i)).drop i = (s.data.toList.drop i).takeWhile nlB := by
    rw [List.drop_take]
    unfold li behN
    rw [Nat.add_sub_cancel_left, tw_take]
  have e2 : hs s i = i + (((s.data.toList.drop i).takeWhile nlB).takeWhile hsB).length := by
    unfold hs behN
    rw [tw_in h]
  rw [e2, ← List.drop_drop, e1]
  show Lib.trimLeftB _ 35 = _
  exact dw_drop hsB _
theorem trimP_space (B : ByteArray) : (Lib.hasPrefix B.data.toList [32] = true → 0 < B.size ∧ (⟨(Lib.trimPrefix B.data.toList [32]).toArray⟩ : ByteArray) = B.extract 1 B.size) ∧ (Lib.hasPrefix B.data.toList [32] = false → (⟨(Lib.trimPrefix B.data.toList [32]).toArray⟩ : ByteArray) = B) := by
  constructor
  · intro h
    refine ⟨?_, ?_⟩
    · rw [← size_data]
      cases e : B.data.toList with
      | nil => rw [e] at h; cases h
      | cons a l => simp
    · apply bytes_eq
      unfold Lib.trimPrefix
      rw [h, if_pos rfl, extract_drop]
      rfl
  · intro h
    apply bytes_eq
    unfold Lib.trimPrefix
    rw [h, if_neg (by simp)]
theorem ext_ext (s : ByteArray) (i j : Nat) (hj : j ≤ s.size) (hi : i < j) : (s.extract i j).extract 1 (s.extract i j).size = s.extract (i + 1) j := by
  apply bytes_eq
  rw [extract_drop, extract_list, extract_list, List.drop_drop]
theorem pre_space (s : ByteArray) (i j : Nat) (hj : j ≤ s.size) (hi : i ≤ j) : Lib.hasPrefix (s.extract i j).data.toList [32] = (decide (i < j) && isAt s i 32) := by
  by_cases h : i < j
  · rw [decide_eq_true h, Bool.true_and, ← isAt_prefix s i 32 (by omega), extract_list, extract_drop]
    unfold Lib.hasPrefix
    have hl : i < s.data.toList.length := by rw [size_data]; omega
    have hl2 : i < (s.data.toList.take j).length := by rw [List.length_take, size_data]; omega
    rw [List.drop_eq_getElem_cons hl, List.drop_eq_getElem_cons hl2, List.getElem_take]
    simp [List.isPrefixOf]
  · have e : i = j := by omega
    subst e
    rw [decide_eq_false h, Bool.false_and]
    have : (s.extract i i).data.toList = [] := by
      rw [extract_list, List.drop_eq_nil_of_le]
      rw [List.length_take]; omega
    rw [this]
    rfl
set_option maxHeartbeats 2000000 in
set_option maxRecDepth 100000 in
theorem commentLine_any (s : ByteArray) (i : Nat) (hsz : s.size ≤ 4000000) (hi : i ≤ s.size) (w : World) : Calls Tryz.prog 137 #[.string s, .int .i64 i] w fun e w' => e = .returned (.tuple #[.int .i64 ((comL s i).1 : Nat), .string (comL s i).2]) ∧ w = w' := by
  have hL := fun W => line_nat s i hsz hi W
  have hok := li_ok s i hi
  have hh := hs_ok s i hi
  have ht := trim_hash s i hi
  obtain ⟨R, hR⟩ : ∃ R, comL s i = R := ⟨_, rfl⟩
  rw [hR]
  unfold comL at hR
  obtain ⟨l, hl⟩ : ∃ l, li s i = l := ⟨_, rfl⟩
  obtain ⟨h, he⟩ : ∃ h, hs s i = h := ⟨_, rfl⟩
  rw [hl, he] at hh ht hR
  rw [hl] at hL hok
  have hT := fun W => Tryz.strings_TrimLeft_one (s.extract i l) 35 (by decide) W
  rw [ht] at hT
  have hC := fun W => Tryz.strings_CutPrefix (s.extract h l) ⟨#[32]⟩ W
  have hp := pre_space s h l hok.2 hh.2
  have hz1 : (s.extract i l).size = l - i := by rw [ByteArray.size_extract]; omega
  have hz2 : (s.extract h l).size = l - h := by rw [ByteArray.size_extract]; omega
  have hX := trimP_space (s.extract h l)
  have hE := fun hlt => ext_ext s h l hok.2 hlt
  have hem := ext_empty s h l hh.2 hok.2
  obtain ⟨B, hB⟩ : ∃ B, s.extract h l = B := ⟨_, rfl⟩
  obtain ⟨X, hXe⟩ : ∃ X : ByteArray, ⟨(Lib.trimPrefix B.data.toList [32]).toArray⟩ = X := ⟨_, rfl⟩
  obtain ⟨P, hP⟩ : ∃ P, Lib.hasPrefix B.data.toList [32] = P := ⟨_, rfl⟩
  rw [hB] at hT hC hp hz2 hX hE hem
  have Hem := Lib.hid hem
  rw [show (⟨#[32]⟩ : ByteArray).data.toList = [32] from rfl, hXe, hP] at hC
  rw [hXe, hP] at hX
  rw [hP] at hp
  have HL := Lib.hid hL
  have HT := Lib.hid hT
  have HC := Lib.hid hC
  have HR := Lib.hid hR
  have HX := Lib.hid hX
  have HE := Lib.hid hE
  have Hp := Lib.hid hp
  have hl0 : (l : Int) ≤ (s.size : Int) := by omega
  have hss : (s.size : Int) ≤ 4000000 := by omega
  have hi0 : (i : Int) ≤ (l : Int) := by omega
  obtain ⟨x, hx⟩ : ∃ x, h = i + x := ⟨h - i, by omega⟩
  obtain ⟨m, hm⟩ : ∃ m, l - i = m := ⟨_, rfl⟩
  obtain ⟨y, hy⟩ : ∃ y, l - h = y := ⟨_, rfl⟩
  have hd : (m : Int) - (y : Int) = (x : Int) := by omega
  have hx0 : (x : Int) ≤ 4000000 := by omega
  have hR2 : (if 3 < x ∨ 0 < y ∧ isAt s h 32 = false then (0, E0) else (x, if 0 < y then s.extract (h + 1) l else E0)) = R := by
    rw [← HR.out, show h - i = x by omega]
    by_cases hlt : h < l
    · have : 0 < y := by omega
      simp [hlt, this]
    · have : ¬ 0 < y := by omega
      simp [hlt, this]
  have HR2 := Lib.hid hR2
  rw [hm] at hz1
  rw [hy] at hz2
  have Hz2 := Lib.hid hz2
  have Hy := Lib.hid (show 0 < y ↔ h < l by omega)
  clear hem hL hT hC hR hX hE hp ht hl he hB hXe hP hR2 hm hy hx HR
  go_enter Tryz.func137, Tryz.ntmps137
  go_wp2_with fail
  go_at_call 136
  refine (HL.out _).mono ?_
  rintro e w1 ⟨rfl, rfl⟩
  go_wp2_with fail
  go_at_call 83
  refine (HT.out _).mono ?_
  rintro e w1 ⟨rfl, rfl⟩
  go_wp2_with fail
  go_at_call 27
  refine (HC.out _).mono ?_
  rintro e w1 ⟨rfl, rfl⟩
  by_cases h3 : 3 < x
  · have d1 : decide ((3 : Int) < (x : Int)) = true := decide_eq_true (by omega)
    have d2 : (3 : Int) < (x : Int) := by omega
    have hR := HR2.out
    rw [if_pos (Or.inl h3)] at hR
    subst hR
    go_wp2
    go_ret2
    exact ⟨rfl, rfl⟩
  have d1 : decide ((3 : Int) < (x : Int)) = false := decide_eq_false (by omega)
  have d2 : ¬ (3 : Int) < (x : Int) := by omega
  by_cases h0 : 0 < y
  case neg =>
    have hBe : B = ⟨#[]⟩ := bytes_eq (List.eq_nil_of_length_eq_zero (by rw [size_data, Hz2.out]; omega))
    have hPe : P = false := by rw [Hp.out, decide_eq_false (fun e => h0 (Hy.out.2 e))]; rfl
    have hXe := HX.out.2 hPe
    subst hPe
    rw [hBe] at hXe
    subst hBe
    subst hXe
    have hR := HR2.out
    rw [if_neg (by omega), if_neg h0] at hR
    subst hR
    go_wp2
    go_ret2
    exact ⟨rfl, rfl⟩
  have hlt := Hy.out.1 h0
  rw [hlt |> decide_eq_true, Bool.true_and] at Hp
  have hne : B.toList.isEmpty = false := by rw [Hem.out, decide_eq_false (by omega)]
  cases P
  case false =>
    have hR := HR2.out
    rw [if_pos (Or.inr ⟨h0, Hp.out.symm⟩)] at hR
    subst hR
    go_wp2
    go_ret2
    exact ⟨rfl, rfl⟩
  case true =>
    have hXe := (HX.out.1 rfl).2.trans (HE.out hlt)
    have hR := HR2.out
    rw [if_neg (by rw [← Hp.out]; simp; omega), if_pos h0, ← hXe] at hR
    subst hR
    go_wp2
    go_ret2
    exact ⟨rfl, rfl⟩
end Go.Proofs.YtpgiboblonlddaaGreatDoor
