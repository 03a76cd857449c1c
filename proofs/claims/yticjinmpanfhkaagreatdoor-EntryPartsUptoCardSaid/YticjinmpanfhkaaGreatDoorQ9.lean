/-
  Several texts put together (part 9): what the law and the program call, walked; their contracts.
-/
import Derived.Test.YticjinmpanfhkaaGreatDoorQ8
/-
  Package expr: head, given place one deeper.
-/
namespace Go.Proofs.YticjinmpanfhkaaGreatDoor
open Go.RowKit
set_option linter.unusedVariables false
set_option linter.unusedSimpArgs false

theorem cells_box {w : World} {E : Nat} {x0 x1 x2 x3 x4 x5 x6 : Value} {t : TypeId} (h : BoxAt w E #[x0, x1, x2, x3, x4, x5, x6] t) : CellsAt w E 0 ⟨x0, x1, x2, x3, x4, x5, x6⟩ := ⟨h.cell 0, h.cell 1, h.cell 2, h.cell 3, h.cell 4, h.cell 5, h.cell 6⟩
theorem exF_nest {W : World} {F : Nat → Prop} {x : EX} {b : Nat} {c : C7} (hb : F b) (hc : CellsAt W b 0 c) (hx : ExF W F x c) :
    ExF W F (.mk 6 E0 E0 E0 [] (some x) []) ⟨.int .i64 6, .string E0, .string E0, .string E0, .slice none 0 0, .pointer (some ⟨b, 0, none⟩), .slice none 0 0⟩ := by
  rw [ExF]
  refine ⟨rfl, rfl, rfl, rfl, LieN.nil _, ?_, ⟨none, 0, rfl, Nat.le_refl _, Nat.zero_le _, fun h => absurd h (by simp)⟩⟩
  simp only [OF]
  exact ⟨b, 0, c, rfl, hb, hc, hx⟩
theorem nest_val (P : Nat → Res) (i : Nat) : (nestS P i).isSome = (P i).isSome ∧ ∀ x m, nestS P i = some (x, m) → ∃ y, P i = some (y, m) ∧ x = .mk 6 E0 E0 E0 [] (some y) [] := by
  unfold nestS
  cases h : P i with
  | none => exact ⟨rfl, fun x m h => by cases h⟩
  | some p => obtain ⟨y, m⟩ := p; exact ⟨rfl, fun x m h => by cases h; exact ⟨y, rfl, rfl⟩⟩
set_option maxHeartbeats 2000000 in
set_option maxRecDepth 100000 in
theorem nest_way {rb : Nat} {s : ByteArray} {d : Nat} {P : Nat → Res} (hd : d ≤ 4000) (hP : WayTo rb s 25 #[pt rb, .int .i64 ((d + 1 : Nat) : Int)] P) (k1 k2 i : Nat) (w : World) (hr : Rd rb s i w) (hi : i ≤ s.size)
    (h1 : BoxAt w k1 #[pt rb] 88) (h2 : BoxAt w k2 #[.int .i64 d] 3) :
    Calls Tryz.prog 101 #[pt k1, pt k2] w (Got rb s w (nestS P i)) := by
  have hP2 := fun W h => hP i W h hi
  rw [show ((d + 1 : Nat) : Int) = (d : Int) + 1 by omega] at hP2
  obtain ⟨hR2, hR3⟩ := nest_val P i
  obtain ⟨R, hR1⟩ : ∃ R, nestS P i = R := ⟨_, rfl⟩
  obtain ⟨r, hrr⟩ : ∃ r, P i = r := ⟨_, rfl⟩
  rw [hrr] at hP2 hR2 hR3
  rw [hR1] at hR2 hR3 ⊢
  have HP := Lib.hid hP2
  have HR2 := Lib.hid hR2
  have HR3 := Lib.hid hR3
  have HR := Lib.hid hr
  have hlt := hr.lt
  have c1 := h1.cell 0
  have c2 := h2.cell 0
  have hl1 := h1.lt
  have hl2 := h2.lt
  simp at c1 c2
  have hd0 : (d : Int) ≤ 4000 := by omega
  clear hP hP2 hrr hR1 hR2 hR3 hr h1 h2
  unfold pt at *
  go_enter Tryz.func101, Tryz.ntmps101
  go_wp2_with fail
  go_at_call 25
  refine (HP.out _ (HR.out.alloc _)).mono ?_
  rintro e w1 ⟨h1, k, t, n, a, A1, n1, c1', p, A2, n2, c2', j, rfl, h2, hj, h3⟩
  have HK := Lib.hid (((Kp.refl rb w).alloc (Nat.le_of_lt hlt) _).trans h1)
  have hc := BoxAt.kp (BoxAt.new w zE 29) h1 (by omega)
  have hl := hc.lt
  have HC := Lib.hid hc
  have H2 := Lib.hid h2
  have H3 := Lib.hid h3
  have hlr := h2.lt
  obtain ⟨q0, q1, q2, q3, q4, q5, q6, p0, p1, p2, p3, p4, p5, p6⟩ := cells7 hc
  unfold exV
  clear h1 h2 h3 hc HP
  go_wp2
  refine end7w Tryz.results101 ((box_set7 HC.out _ _ _ _ _ _ _).alloc _) rfl rfl rfl (got_end ((HK.out.set7 (Nat.le_refl _) hlt _ _ _ _ _ _ _).alloc (by rw [set7_size]; omega) _) ((H2.out.set7 (by omega) _ _ _ _ _ _ _).alloc _) hj HR2.out.symm (fun x m h => ?_))
  obtain ⟨y, hy, rfl⟩ := HR3.out x m h
  obtain ⟨h4, h5⟩ := H3.out y m hy
  refine ⟨h4, exF_nest (b := w1.heap.size) ?_ (cells_box (t := 29) ?_) (ExF.carry (fun q hq => ?_) _ _ h5)⟩
  · exact ⟨Nat.le_of_lt hl, by simp⟩
  · have := BoxAt.new (set7 w1 w.heap.size (.int .i64 6) (.string ⟨#[]⟩) (.string ⟨#[]⟩) (.string ⟨#[]⟩) (.slice none 0 0) (.pointer (some ⟨w1.heap.size, 0, none⟩)) (.slice none 0 0)) #[.int .i64 k, .string t, .string n, .string a, .slice A1 n1 c1', .pointer p, .slice A2 n2 c2'] 29
    rw [set7_size] at this
    exact this
  · obtain ⟨hq1, hq2⟩ := hq
    rw [World.size_alloc] at hq1
    have hq3 : q < (set7 w1 w.heap.size (.int .i64 6) (.string ⟨#[]⟩) (.string ⟨#[]⟩) (.string ⟨#[]⟩) (.slice none 0 0) (.pointer (some ⟨w1.heap.size, 0, none⟩)) (.slice none 0 0)).heap.size := by rw [set7_size]; exact hq2
    exact ⟨⟨by omega, by rw [World.size_alloc]; exact Nat.lt_succ_of_lt hq3⟩, (Lib.alloc_old _ _ q hq3).trans (set7_heap _ _ _ _ _ _ _ _ _ q (by omega))⟩
theorem head_or (P : Nat → Res) (s : ByteArray) (i : Nat) : orAll [quoS s, varS s, nestS P, terS s, refS 3 s, nubS s] i = headS P s i := by
  unfold orAll orAll orAll orAll orAll orAll orAll headS
  rw [Option.or_none]
def headV (rb k1 k2 : Nat) : List Value := [.func (.func 103) #[pt rb] #[], .func (.func 104) #[pt rb] #[], .func (.func 101) #[] #[pt k1, pt k2],
  .func (.func 105) #[pt rb] #[], .func (.func 106) #[pt rb] #[], .func (.func 107) #[pt rb] #[]]
theorem head_first {rb : Nat} {s : ByteArray} {d : Nat} {P : Nat → Res} (hs : s.size ≤ 1000000) (hd : d ≤ 4000) (hP : WayTo rb s 25 #[pt rb, .int .i64 ((d + 1 : Nat) : Int)] P) (L k1 k2 i : Nat) (w : World) (hr : Rd rb s i w) (hi : i ≤ s.size)
    (h1 : BoxAt w k1 #[pt rb] 88) (h2 : BoxAt w k2 #[.int .i64 d] 3) (hL : BoxAt w L (headV rb k1 k2).toArray 149) (n1 : k1 ≠ rb) (n2 : k2 ≠ rb) (n3 : L ≠ rb) :
    Calls Tryz.prog 102 #[pt rb, .slice (some ⟨L, 0, none⟩) 6 6] w (Got0 rb s w (orAll [quoS s, varS s, nestS P, terS s, refS 3 s, nubS s] i)) := by
  refine first_any (by omega) (headV rb k1 k2) _ L 6 i w hr hi rfl (by unfold headV; simp) (fun j fv h => ?_) (BoxAt.lt hL) n3 (fun j fv f h1' h2' => ?_)
  · rw [BoxAt.cell hL j, List.getElem?_toArray]
    exact h
  · match j with
    | 0 => cases h1'; cases h2'; exact ⟨_, _, _, rfl, fun args w => by go_simp, fun W i _ hr hi => quoted_way hs i W hr hi⟩
    | 1 => cases h1'; cases h2'; exact ⟨_, _, _, rfl, fun args w => by go_simp, fun W i _ hr hi => variable_way (by omega) i W hr hi⟩
    | 2 => cases h1'; cases h2'; exact ⟨_, _, _, rfl, fun args w => by go_simp, fun W i hk hr hi => nest_way hd hP k1 k2 i W hr hi (h1.kp hk n1) (h2.kp hk n2)⟩
    | 3 => cases h1'; cases h2'; exact ⟨_, _, _, rfl, fun args w => by go_simp, fun W i _ hr hi => term_way (by omega) i W hr hi⟩
    | 4 => cases h1'; cases h2'; exact ⟨_, _, _, rfl, fun args w => by go_simp, fun W i _ hr hi => message_way (by omega) i W hr hi⟩
    | 5 => cases h1'; cases h2'; exact ⟨_, _, _, rfl, fun args w => by go_simp, fun W i _ hr hi => number_way (by omega) i W hr hi⟩
    | j + 6 => cases h1'
set_option maxHeartbeats 4000000 in
set_option maxRecDepth 100000 in
theorem head_way {rb : Nat} {s : ByteArray} {d : Nat} {P : Nat → Res} (hs : s.size ≤ 1000000) (hd : d ≤ 4000) (hP : WayTo rb s 25 #[pt rb, .int .i64 ((d + 1 : Nat) : Int)] P) : ∀ (i : Nat) (w : World), Rd rb s i w → i ≤ s.size → Calls Tryz.prog 75 #[pt rb, .int .i64 d] w (Got0 rb s w (headS P s i)) := by
  intro i w hr hi
  have hlt := hr.lt
  have hF := head_first hs hd hP (w.heap.size + 1 + 1 + 1) w.heap.size (w.heap.size + 1) i ((((w.alloc (.cells #[pt rb] 88)).alloc (.cells #[.int .i64 d] 3)).alloc (.cells zE 29)).alloc (.cells (headV rb w.heap.size (w.heap.size + 1)).toArray 149))
    ((((hr.alloc _).alloc _).alloc _).alloc _) hi ((((BoxAt.new w _ _).alloc _).alloc _).alloc _) ((((BoxAt.new' (w.alloc (.cells #[pt rb] 88)) (w.heap.size + 1) _ _ (by simp)).alloc _).alloc _)) (BoxAt.new' _ _ _ _ (by simp)) (by omega) (by omega) (by omega)
  have HR := Lib.hid hr
  rw [← head_or]
  obtain ⟨R, hR⟩ : ∃ R, orAll [quoS s, varS s, nestS P, terS s, refS 3 s, nubS s] i = R := ⟨_, rfl⟩
  rw [hR] at hF ⊢
  have hd0 : (d : Int) ≤ 4000 := by omega
  unfold headV pt at hF
  have HF := Lib.hid hF
  clear hP hr hR hF
  unfold pt
  go_enter Tryz.func75, Tryz.ntmps75
  go_wp2_with fail
  go_at_call 102
  refine HF.out.mono ?_
  rintro e w1 ⟨⟨h1, k, t, n, a, A1, n1, c1', p, A2, n2, c2', j, rfl, h2, hj, h3⟩, hz⟩
  have HZ := Lib.hid hz
  have hs0 : rb ≤ w.heap.size := Nat.le_of_lt hlt
  have HK := Lib.hid ((((((Kp.refl rb w).alloc hs0 _).alloc (by simp; omega) _).alloc (by simp; omega) _).alloc (by simp; omega) _).trans h1)
  have hc := BoxAt.kp ((BoxAt.new' ((w.alloc (.cells #[.pointer (some ⟨rb, 0, none⟩)] 88)).alloc (.cells #[.int .i64 d] 3)) (w.heap.size + 1 + 1) zE 29 (by simp)).alloc _) h1 (by omega)
  have hl := hc.lt
  have HC := Lib.hid hc
  have H2 := Lib.hid h2
  have H3 := Lib.hid h3
  obtain ⟨q0, q1, q2, q3, q4, q5, q6, p0, p1, p2, p3, p4, p5, p6⟩ := cells7 hc
  unfold exV
  clear h1 h2 h3 hc hz
  go_wp2
  exact end7 Tryz.results75 HC.out rfl rfl rfl rfl (And.intro (got_fin (b := w.heap.size + 1 + 1) HK.out (by omega) hlt H2.out hj rfl (fun x m h => ⟨(H3.out x m h).1, ExF.carry (fun q hq => by
    obtain ⟨hq1, hq2⟩ := hq
    simp only [World.size_alloc] at hq1
    exact ⟨⟨⟨by omega, hq2⟩, by omega⟩, rfl⟩) _ _ (H3.out x m h).2⟩)) HZ.out)
end Go.Proofs.YticjinmpanfhkaaGreatDoor

/-
  Package expr: opens.
-/
namespace Go.Proofs.YticjinmpanfhkaaGreatDoor
open Go.RowKit
set_option linter.unusedVariables false
set_option linter.unusedSimpArgs false

/-- What opens makes: the reader goes on, and a message's name is made a function's. -/
def Opened (rb : Nat) (s : ByteArray) (w : World) (eb eo : Nat) (isF o : Bool) (j : Nat) (e : Ending) (w' : World) : Prop :=
  e = .returned (.bool o) ∧ ∃ wm, Kp rb w wm ∧ Rd rb s j wm ∧ j ≤ s.size ∧ w' = (if isF && o then wm.setCell ⟨eb, eo, none⟩ (.int .i64 5) else wm)
theorem bl_ok (s : ByteArray) (i : Nat) (hi : i ≤ s.size) : i ≤ bl s i ∧ bl s i ≤ s.size := ⟨behN_ge _ _ _, by have := behN_le blB s.data.toList i (by rw [size_data]; exact hi); rw [size_data] at this; exact this⟩
set_option maxHeartbeats 4000000 in
set_option maxRecDepth 100000 in
theorem opens_any {rb : Nat} {s : ByteArray} (hs : s.size ≤ 1000000) (k : Int) (t n a : ByteArray) (al : List AR) (ie : Option EX) (vs : List VA) (eb eo i : Nat) (w : World) (hr : Rd rb s i w) (hi : i ≤ s.size) (hn : n.size ≤ 4000000)
    (hb : eb < w.heap.size) (hne : eb ≠ rb) (h0 : w.cell? ⟨eb, eo, none⟩ = some (.int .i64 k)) (h2 : w.cell? ⟨eb, eo + 2, none⟩ = some (.string n)) (h3 : w.cell? ⟨eb, eo + 3, none⟩ = some (.string a)) (hf : w.frozen? ⟨eb, eo, none⟩ = false) :
    Calls Tryz.prog 76 #[pt rb, .pointer (some ⟨eb, eo, none⟩)] w (Opened rb s w eb eo (isFuncS (.mk k t n a al ie vs)) (opnS s (.mk k t n a al ie vs) i).1 (opnS s (.mk k t n a al ie vs) i).2) := by
  have HR := Lib.hid hr
  have hlt := hr.lt
  have hB := bl_ok s i hi
  have hP := fun W (h : Rd rb s i W) => pass_any endBlank W h (by omega) hi
  have hT := fun W (h : Rd rb s (bl s i) W) => take_any 40 W h (by omega) hB.2
  have hBig := fun W => big_any n W (by omega)
  unfold opnS
  rw [show isTermS (.mk k t n a al ie vs) = (k == 4) from rfl, show isFuncS (.mk k t n a al ie vs) = ((k == 3) && emp a && bigV n) from rfl]
  obtain ⟨m, hm⟩ : ∃ m, bl s i = m := ⟨_, rfl⟩
  rw [hm] at hB hP hT ⊢
  obtain ⟨b, hbb⟩ : ∃ b, isAt s m 40 = b := ⟨_, rfl⟩
  have hm1 : b = true → m + 1 ≤ s.size := fun h => isAt_lt (hbb.trans h)
  rw [hbb] at hT ⊢
  obtain ⟨q, hq⟩ : ∃ q, bigV n = q := ⟨_, rfl⟩
  rw [hq] at hBig ⊢
  obtain ⟨g, hg⟩ : ∃ g, emp a = g := ⟨_, rfl⟩
  have hg2 : a.toList.isEmpty = g := hg
  rw [hg]
  obtain ⟨isF, hisF⟩ : ∃ x, ((k == 3) && g && q) = x := ⟨_, rfl⟩
  rw [hisF]
  obtain ⟨oj, hoj⟩ : ∃ oj : Bool × Nat, (if isF || (k == 4) then (if b then (true, m + 1) else (false, m)) else (false, i)) = oj := ⟨_, rfl⟩
  rw [hoj]
  have HJ := Lib.hid hoj
  have HF := Lib.hid hisF
  have HM1 := Lib.hid hm1
  have HP := Lib.hid hP
  have HT := Lib.hid hT
  have HBig := Lib.hid hBig
  clear hm hP hT hbb hq hBig hg hr hoj hisF hm1
  unfold pt at HP HT ⊢
  by_cases h34 : k = 3 ∨ k = 4
  case neg =>
    have z3 : (k == 3) = false := beq_eq_false_iff_ne.2 (fun h => h34 (.inl h))
    have z4 : (k == 4) = false := beq_eq_false_iff_ne.2 (fun h => h34 (.inr h))
    have y4 : (k != 4) = true := by rw [bne, z4]; rfl
    have HZ := Lib.hid (And.intro z3 z4)
    clear h34
    go_enter Tryz.func76, Tryz.ntmps76
    go_wp2
    go_ret
    obtain rfl := HF.out
    obtain rfl := HJ.out
    rw [HZ.out.1, HZ.out.2]
    exact ⟨rfl, w, Kp.refl _ _, HR.out, hi, rfl⟩
  rcases h34 with rfl | rfl
  · cases g
    case false =>
      go_enter Tryz.func76, Tryz.ntmps76
      go_wp2
      go_ret
      obtain rfl := HF.out
      obtain rfl := HJ.out
      exact ⟨rfl, w, Kp.refl _ _, HR.out, hi, rfl⟩
    cases q
    case false =>
      go_enter Tryz.func76, Tryz.ntmps76
      go_wp2_with fail
      go_at_call 108
      refine (HBig.out _).mono ?_
      rintro e w' ⟨rfl, rfl⟩
      go_wp2
      go_ret
      obtain rfl := HF.out
      obtain rfl := HJ.out
      exact ⟨rfl, w, Kp.refl _ _, HR.out, hi, rfl⟩
    go_enter Tryz.func76, Tryz.ntmps76
    go_wp2_with fail
    go_at_call 108
    refine (HBig.out _).mono ?_
    rintro e w' ⟨rfl, rfl⟩
    go_wp2_with fail
    go_at_call 49
    refine (HP.out _ HR.out).mono ?_
    rintro e w1 ⟨rfl, g1, g2⟩
    have G1 := Lib.hid g1
    have G2 := Lib.hid g2
    clear g1 g2
    go_wp2_with fail
    go_at_call 48
    refine (HT.out _ G1.out).mono ?_
    rintro e w2 ⟨rfl, g3, g4⟩
    have hk := G2.out.trans g4
    have k0 : w2.cell? ⟨eb, eo, none⟩ = some (.int .i64 3) := (cell_same (hk.others eb hb hne) eo).trans h0
    have f0 : w2.frozen? ⟨eb, eo, none⟩ = false := by
      have := hk.others eb hb hne
      unfold World.frozen? at hf ⊢
      rw [this]; exact hf
    have hb2 : eb < w2.heap.size := Nat.lt_of_lt_of_le hb hk.size
    have HK := Lib.hid hk
    have G3 := Lib.hid g3
    clear g3 g4 hk
    cases b
    case false =>
      go_wp2
      go_ret
      obtain rfl := HF.out
      obtain rfl := HJ.out
      exact ⟨rfl, w2, HK.out, by simpa using G3.out, hB.2, rfl⟩
    go_wp2
    go_ret
    obtain rfl := HF.out
    obtain rfl := HJ.out
    exact ⟨rfl, w2, HK.out, by simpa using G3.out, by simpa using HM1.out, rfl⟩
  · go_enter Tryz.func76, Tryz.ntmps76
    go_wp2_with fail
    go_at_call 49
    refine (HP.out _ HR.out).mono ?_
    rintro e w1 ⟨rfl, g1, g2⟩
    have G1 := Lib.hid g1
    have G2 := Lib.hid g2
    clear g1 g2
    go_wp2_with fail
    go_at_call 48
    refine (HT.out _ G1.out).mono ?_
    rintro e w2 ⟨rfl, g3, g4⟩
    have HK := Lib.hid (G2.out.trans g4)
    have G3 := Lib.hid g3
    clear g3 g4
    cases b
    case false =>
      go_wp2
      go_ret
      obtain rfl := HF.out
      obtain rfl := HJ.out
      exact ⟨rfl, w2, HK.out, by simpa using G3.out, hB.2, rfl⟩
    go_wp2
    go_ret
    obtain rfl := HF.out
    obtain rfl := HJ.out
    exact ⟨rfl, w2, HK.out, by simpa using G3.out, by simpa using HM1.out, rfl⟩
end Go.Proofs.YticjinmpanfhkaaGreatDoor
