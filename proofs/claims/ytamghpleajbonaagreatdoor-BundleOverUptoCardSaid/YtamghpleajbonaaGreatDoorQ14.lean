/-
  Several texts put together (part 14): what the law and the program call, walked; their contracts.
-/
import Derived.Test.YtamghpleajbonaaGreatDoorQ13
import Derived.Test.YtamghpleajbonaaGreatDoorQ10
import Derived.Test.YtamghpleajbonaaGreatDoorQ4
import Derived.Lib.Join
namespace Go.Proofs.YtamghpleajbonaaGreatDoor
open Go.RowKit
set_option linter.unusedVariables false
set_option linter.unusedSimpArgs false
theorem cells_box {w : World} {E : Nat} {x0 x1 x2 x3 x4 x5 x6 : Value} {t : TypeId} (h : BoxAt w E #[x0, x1, x2, x3, x4, x5, x6] t) : CellsAt w E 0 ⟨x0, x1, x2, x3, x4, x5, x6⟩ := ⟨h.cell 0, h.cell 1, h.cell 2, h.cell 3, h.cell 4, h.cell 5, h.cell 6⟩
theorem exF_nest {W : World} {F : Nat → Prop} {x : EX} {b : Nat} {c : C7} (hb : F b) (hc : CellsAt W b 0 c) (hx : ExF W F x c) :
    ExF W F (.mk 6 E0 E0 E0 [] (some x) []) ⟨.int .i64 6, .string E0, .string E0, .string E0, .slice none 0 0, .pointer (some ⟨b, 0, none⟩), .slice none 0 0⟩ := by
  rw [ExF]
  refine ⟨rfl, rfl, rfl, rfl, LieN.nil _, ?_, ⟨none, 0, rfl, Nat.le_refl _, Nat.zero_le _, fun h => absurd h (by simp)⟩⟩
  simp only [OF]
  exact ⟨b, 0, c, rfl, hb, hc, hx⟩
theorem nest_val (P : Nat → Res) (i : Nat) : (nestS P i).isSome = (P i).isSome ∧ ∀ x m, nestS P i = some (x, m) → ∃ y, P i = some (y, m) ∧ x = .mk 6 E0 E0 E0 [] (some y) [] := by
  unfold nestS
  cases h : P i with
  | none => exact ⟨rfl, fun x m h => by cases h⟩
  | some p => obtain ⟨y, m⟩ := p; exact ⟨rfl, fun x m h => by cases h; exact ⟨y, rfl, rfl⟩⟩
set_option maxHeartbeats 2000000 in
set_option maxRecDepth 100000 in
theorem nest_way {rb : Nat} {s : ByteArray} {d : Nat} {P : Nat → Res} (hd : d ≤ 4000) (hP : WayTo rb s 111 #[pt rb, .int .i64 ((d + 1 : Nat) : Int)] P) (k1 k2 i : Nat) (w : World) (hr : Rd rb s i w) (hi : i ≤ s.size)
    (h1 : BoxAt w k1 #[pt rb] 158) (h2 : BoxAt w k2 #[.int .i64 d] 3) :
    Calls Tryz.prog 140 #[pt k1, pt k2] w (Got rb s w (nestS P i)) := by
  have hP2 := fun W h => hP i W h hi
  rw [show ((d + 1 : Nat) : Int) = (d : Int) + 1 by omega] at hP2
  obtain ⟨hR2, hR3⟩ := nest_val P i
  obtain ⟨R, hR1⟩ : ∃ R, nestS P i = R := ⟨_, rfl⟩
  obtain ⟨r, hrr⟩ : ∃ r, P i = r := ⟨_, rfl⟩
  rw [hrr] at hP2 hR2 hR3
  rw [hR1] at hR2 hR3 ⊢
  have HP := Lib.hid hP2
  have HR2 := Lib.hid hR2
  have HR3 := Lib.hid hR3
  have HR := Lib.hid hr
  have hlt := hr.lt
  have c1 := h1.cell 0
  have c2 := h2.cell 0
  have hl1 := h1.lt
  have hl2 := h2.lt
  simp at c1 c2
  have hd0 : (d : Int) ≤ 4000 := by omega
  clear hP hP2 hrr hR1 hR2 hR3 hr h1 h2
  unfold pt at *
  go_enter Tryz.func140, Tryz.ntmps140
  go_wp2_with fail
  go_at_call 111
  refine (HP.out _ (HR.out.alloc _)).mono ?_
  rintro e w1 ⟨h1, k, t, n, a, A1, n1, c1', p, A2, n2, c2', j, rfl, h2, hj, h3⟩
  have HK := Lib.hid (((Kp.refl rb w).alloc (Nat.le_of_lt hlt) _).trans h1)
  have hc := BoxAt.kp (BoxAt.new w zE 88) h1 (by omega)
  have hl := hc.lt
  have HC := Lib.hid hc
  have H2 := Lib.hid h2
  have H3 := Lib.hid h3
  have hlr := h2.lt
  obtain ⟨q0, q1, q2, q3, q4, q5, q6, p0, p1, p2, p3, p4, p5, p6⟩ := cells7 hc
  unfold exV
  clear h1 h2 h3 hc HP
  go_wp2
  refine end7w Tryz.results140 ((box_set7 HC.out _ _ _ _ _ _ _).alloc _) rfl rfl rfl (got_end ((HK.out.set7 (Nat.le_refl _) hlt _ _ _ _ _ _ _).alloc (by rw [set7_size]; omega) _) ((H2.out.set7 (by omega) _ _ _ _ _ _ _).alloc _) hj HR2.out.symm (fun x m h => ?_))
  obtain ⟨y, hy, rfl⟩ := HR3.out x m h
  obtain ⟨h4, h5⟩ := H3.out y m hy
  refine ⟨h4, exF_nest (b := w1.heap.size) ?_ (cells_box (t := 88) ?_) (ExF.carry (fun q hq => ?_) _ _ h5)⟩
  · exact ⟨Nat.le_of_lt hl, by simp⟩
  · have := BoxAt.new (set7 w1 w.heap.size (.int .i64 6) (.string ⟨#[]⟩) (.string ⟨#[]⟩) (.string ⟨#[]⟩) (.slice none 0 0) (.pointer (some ⟨w1.heap.size, 0, none⟩)) (.slice none 0 0)) #[.int .i64 k, .string t, .string n, .string a, .slice A1 n1 c1', .pointer p, .slice A2 n2 c2'] 88
    rw [set7_size] at this
    exact this
  · obtain ⟨hq1, hq2⟩ := hq
    rw [World.size_alloc] at hq1
    have hq3 : q < (set7 w1 w.heap.size (.int .i64 6) (.string ⟨#[]⟩) (.string ⟨#[]⟩) (.string ⟨#[]⟩) (.slice none 0 0) (.pointer (some ⟨w1.heap.size, 0, none⟩)) (.slice none 0 0)).heap.size := by rw [set7_size]; exact hq2
    exact ⟨⟨by omega, by rw [World.size_alloc]; exact Nat.lt_succ_of_lt hq3⟩, (Lib.alloc_old _ _ q hq3).trans (set7_heap _ _ _ _ _ _ _ _ _ q (by omega))⟩
theorem head_or (P : Nat → Res) (s : ByteArray) (i : Nat) : orAll [quoS s, varS s, nestS P, terS s, refS 3 s, nubS s] i = headS P s i := by
  unfold orAll orAll orAll orAll orAll orAll orAll headS
  rw [Option.or_none]
def headV (rb k1 k2 : Nat) : List Value := [.func (.func 142) #[pt rb] #[], .func (.func 143) #[pt rb] #[], .func (.func 140) #[] #[pt k1, pt k2],
  .func (.func 144) #[pt rb] #[], .func (.func 145) #[pt rb] #[], .func (.func 146) #[pt rb] #[]]
theorem head_first {rb : Nat} {s : ByteArray} {d : Nat} {P : Nat → Res} (hs : s.size ≤ 1000000) (hd : d ≤ 4000) (hP : WayTo rb s 111 #[pt rb, .int .i64 ((d + 1 : Nat) : Int)] P) (L k1 k2 i : Nat) (w : World) (hr : Rd rb s i w) (hi : i ≤ s.size)
    (h1 : BoxAt w k1 #[pt rb] 158) (h2 : BoxAt w k2 #[.int .i64 d] 3) (hL : BoxAt w L (headV rb k1 k2).toArray 201) (n1 : k1 ≠ rb) (n2 : k2 ≠ rb) (n3 : L ≠ rb) :
    Calls Tryz.prog 141 #[pt rb, .slice (some ⟨L, 0, none⟩) 6 6] w (Got0 rb s w (orAll [quoS s, varS s, nestS P, terS s, refS 3 s, nubS s] i)) := by
  refine first_any (by omega) (headV rb k1 k2) _ L 6 i w hr hi rfl (by unfold headV; simp) (fun j fv h => ?_) (BoxAt.lt hL) n3 (fun j fv f h1' h2' => ?_)
  · rw [BoxAt.cell hL j, List.getElem?_toArray]
    exact h
  · match j with
    | 0 => cases h1'; cases h2'; exact ⟨_, _, _, rfl, fun args w => by go_simp, fun W i _ hr hi => quoted_way hs i W hr hi⟩
    | 1 => cases h1'; cases h2'; exact ⟨_, _, _, rfl, fun args w => by go_simp, fun W i _ hr hi => variable_way (by omega) i W hr hi⟩
    | 2 => cases h1'; cases h2'; exact ⟨_, _, _, rfl, fun args w => by go_simp, fun W i hk hr hi => nest_way hd hP k1 k2 i W hr hi (h1.kp hk n1) (h2.kp hk n2)⟩
    | 3 => cases h1'; cases h2'; exact ⟨_, _, _, rfl, fun args w => by go_simp, fun W i _ hr hi => term_way (by omega) i W hr hi⟩
    | 4 => cases h1'; cases h2'; exact ⟨_, _, _, rfl, fun args w => by go_simp, fun W i _ hr hi => message_way (by omega) i W hr hi⟩
    | 5 => cases h1'; cases h2'; exact ⟨_, _, _, rfl, fun args w => by go_simp, fun W i _ hr hi => number_way (by omega) i W hr hi⟩
    | j + 6 => cases h1'
set_option maxHeartbeats 4000000 in
set_option maxRecDepth 100000 in
theorem head_way {rb : Nat} {s : ByteArray} {d : Nat} {P : Nat → Res} (hs : s.size ≤ 1000000) (hd : d ≤ 4000) (hP : WayTo rb s 111 #[pt rb, .int .i64 ((d + 1 : Nat) : Int)] P) : ∀ (i : Nat) (w : World), Rd rb s i w → i ≤ s.size → Calls Tryz.prog 132 #[pt rb, .int .i64 d] w (Got0 rb s w (headS P s i)) := by
  intro i w hr hi
  have hlt := hr.lt
  have hF := head_first hs hd hP (w.heap.size + 1 + 1 + 1) w.heap.size (w.heap.size + 1) i ((((w.alloc (.cells #[pt rb] 158)).alloc (.cells #[.int .i64 d] 3)).alloc (.cells zE 88)).alloc (.cells (headV rb w.heap.size (w.heap.size + 1)).toArray 201))
    ((((hr.alloc _).alloc _).alloc _).alloc _) hi ((((BoxAt.new w _ _).alloc _).alloc _).alloc _) ((((BoxAt.new' (w.alloc (.cells #[pt rb] 158)) (w.heap.size + 1) _ _ (by simp)).alloc _).alloc _)) (BoxAt.new' _ _ _ _ (by simp)) (by omega) (by omega) (by omega)
  have HR := Lib.hid hr
  rw [← head_or]
  obtain ⟨R, hR⟩ : ∃ R, orAll [quoS s, varS s, nestS P, terS s, refS 3 s, nubS s] i = R := ⟨_, rfl⟩
  rw [hR] at hF ⊢
  have hd0 : (d : Int) ≤ 4000 := by omega
  unfold headV pt at hF
  have HF := Lib.hid hF
  clear hP hr hR hF
  unfold pt
  go_enter Tryz.func132, Tryz.ntmps132
  go_wp2_with fail
  go_at_call 141
  refine HF.out.mono ?_
  rintro e w1 ⟨⟨h1, k, t, n, a, A1, n1, c1', p, A2, n2, c2', j, rfl, h2, hj, h3⟩, hz⟩
  have HZ := Lib.hid hz
  have hs0 : rb ≤ w.heap.size := Nat.le_of_lt hlt
  have HK := Lib.hid ((((((Kp.refl rb w).alloc hs0 _).alloc (by simp; omega) _).alloc (by simp; omega) _).alloc (by simp; omega) _).trans h1)
  have hc := BoxAt.kp ((BoxAt.new' ((w.alloc (.cells #[.pointer (some ⟨rb, 0, none⟩)] 158)).alloc (.cells #[.int .i64 d] 3)) (w.heap.size + 1 + 1) zE 88 (by simp)).alloc _) h1 (by omega)
  have hl := hc.lt
  have HC := Lib.hid hc
  have H2 := Lib.hid h2
  have H3 := Lib.hid h3
  obtain ⟨q0, q1, q2, q3, q4, q5, q6, p0, p1, p2, p3, p4, p5, p6⟩ := cells7 hc
  unfold exV
  clear h1 h2 h3 hc hz
  go_wp2
  exact end7 Tryz.results132 HC.out rfl rfl rfl rfl (And.intro (got_fin (b := w.heap.size + 1 + 1) HK.out (by omega) hlt H2.out hj rfl (fun x m h => ⟨(H3.out x m h).1, ExF.carry (fun q hq => by
    obtain ⟨hq1, hq2⟩ := hq
    simp only [World.size_alloc] at hq1
    exact ⟨⟨⟨by omega, hq2⟩, by omega⟩, rfl⟩) _ _ (H3.out x m h).2⟩)) HZ.out)
end Go.Proofs.YtamghpleajbonaaGreatDoor

namespace Go.Proofs.YtamghpleajbonaaGreatDoor
open Go.RowKit
set_option linter.unusedVariables false
set_option linter.unusedSimpArgs false
def Opened (rb : Nat) (s : ByteArray) (w : World) (eb eo : Nat) (isF o : Bool) (j : Nat) (e : Ending) (w' : World) : Prop :=
  e = .returned (.bool o) ∧ ∃ wm, Kp rb w wm ∧ Rd rb s j wm ∧ j ≤ s.size ∧ w' = (if isF && o then wm.setCell ⟨eb, eo, none⟩ (.int .i64 5) else wm)
theorem bl_ok (s : ByteArray) (i : Nat) (hi : i ≤ s.size) : i ≤ bl s i ∧ bl s i ≤ s.size := ⟨behN_ge _ _ _, by have := behN_le blB s.data.toList i (by rw [size_data]; exact hi); rw [size_data] at this; exact this⟩
set_option maxHeartbeats 4000000 in
set_option maxRecDepth 100000 in
theorem opens_any {rb : Nat} {s : ByteArray} (hs : s.size ≤ 1000000) (k : Int) (t n a : ByteArray) (al : List AR) (ie : Option EX) (vs : List VA) (eb eo i : Nat) (w : World) (hr : Rd rb s i w) (hi : i ≤ s.size) (hn : n.size ≤ 4000000)
    (hb : eb < w.heap.size) (hne : eb ≠ rb) (h0 : w.cell? ⟨eb, eo, none⟩ = some (.int .i64 k)) (h2 : w.cell? ⟨eb, eo + 2, none⟩ = some (.string n)) (h3 : w.cell? ⟨eb, eo + 3, none⟩ = some (.string a)) (hf : w.frozen? ⟨eb, eo, none⟩ = false) :
    Calls Tryz.prog 133 #[pt rb, .pointer (some ⟨eb, eo, none⟩)] w (Opened rb s w eb eo (isFuncS (.mk k t n a al ie vs)) (opnS s (.mk k t n a al ie vs) i).1 (opnS s (.mk k t n a al ie vs) i).2) := by
  have HR := Lib.hid hr
  have hlt := hr.lt
  have hB := bl_ok s i hi
  have hP := fun W (h : Rd rb s i W) => pass_any endBlank W h (by omega) hi
  have hT := fun W (h : Rd rb s (bl s i) W) => take_any 40 W h (by omega) hB.2
  have hBig := fun W => big_any n W (by omega)
  unfold opnS
  rw [show isTermS (.mk k t n a al ie vs) = (k == 4) from rfl, show isFuncS (.mk k t n a al ie vs) = ((k == 3) && emp a && bigV n) from rfl]
  obtain ⟨m, hm⟩ : ∃ m, bl s i = m := ⟨_, rfl⟩
  rw [hm] at hB hP hT ⊢
  obtain ⟨b, hbb⟩ : ∃ b, isAt s m 40 = b := ⟨_, rfl⟩
  have hm1 : b = true → m + 1 ≤ s.size := fun h => isAt_lt (hbb.trans h)
  rw [hbb] at hT ⊢
  obtain ⟨q, hq⟩ : ∃ q, bigV n = q := ⟨_, rfl⟩
  rw [hq] at hBig ⊢
  obtain ⟨g, hg⟩ : ∃ g, emp a = g := ⟨_, rfl⟩
  have hg2 : a.toList.isEmpty = g := hg
  rw [hg]
  obtain ⟨isF, hisF⟩ : ∃ x, ((k == 3) && g && q) = x := ⟨_, rfl⟩
  rw [hisF]
  obtain ⟨oj, hoj⟩ : ∃ oj : Bool × Nat, (if isF || (k == 4) then (if b then (true, m + 1) else (false, m)) else (false, i)) = oj := ⟨_, rfl⟩
  rw [hoj]
  have HJ := Lib.hid hoj
  have HF := Lib.hid hisF
  have HM1 := Lib.hid hm1
  have HP := Lib.hid hP
  have HT := Lib.hid hT
  have HBig := Lib.hid hBig
  clear hm hP hT hbb hq hBig hg hr hoj hisF hm1
  unfold pt at HP HT ⊢
  by_cases h34 : k = 3 ∨ k = 4
  case neg =>
    have z3 : (k == 3) = false := beq_eq_false_iff_ne.2 (fun h => h34 (.inl h))
    have z4 : (k == 4) = false := beq_eq_false_iff_ne.2 (fun h => h34 (.inr h))
    have y4 : (k != 4) = true := by rw [bne, z4]; rfl
    have HZ := Lib.hid (And.intro z3 z4)
    clear h34
    go_enter Tryz.func133, Tryz.ntmps133
    go_wp2
    go_ret
    obtain rfl := HF.out
    obtain rfl := HJ.out
    rw [HZ.out.1, HZ.out.2]
    exact ⟨rfl, w, Kp.refl _ _, HR.out, hi, rfl⟩
  rcases h34 with rfl | rfl
  · cases g
    case false =>
      go_enter Tryz.func133, Tryz.ntmps133
      go_wp2
      go_ret
      obtain rfl := HF.out
      obtain rfl := HJ.out
      exact ⟨rfl, w, Kp.refl _ _, HR.out, hi, rfl⟩
    cases q
    case false =>
      go_enter Tryz.func133, Tryz.ntmps133
      go_wp2_with fail
      go_at_call 147
      refine (HBig.out _).mono ?_
      rintro e w' ⟨rfl, rfl⟩
      go_wp2
      go_ret
      obtain rfl := HF.out
      obtain rfl := HJ.out
      exact ⟨rfl, w, Kp.refl _ _, HR.out, hi, rfl⟩
    go_enter Tryz.func133, Tryz.ntmps133
    go_wp2_with fail
    go_at_call 147
    refine (HBig.out _).mono ?_
    rintro e w' ⟨rfl, rfl⟩
    go_wp2_with fail
    go_at_call 103
    refine (HP.out _ HR.out).mono ?_
    rintro e w1 ⟨rfl, g1, g2⟩
    have G1 := Lib.hid g1
    have G2 := Lib.hid g2
    clear g1 g2
    go_wp2_with fail
    go_at_call 122
    refine (HT.out _ G1.out).mono ?_
    rintro e w2 ⟨rfl, g3, g4⟩
    have hk := G2.out.trans g4
    have k0 : w2.cell? ⟨eb, eo, none⟩ = some (.int .i64 3) := (cell_same (hk.others eb hb hne) eo).trans h0
    have f0 : w2.frozen? ⟨eb, eo, none⟩ = false := by
      have := hk.others eb hb hne
      unfold World.frozen? at hf ⊢
      rw [this]; exact hf
    have hb2 : eb < w2.heap.size := Nat.lt_of_lt_of_le hb hk.size
    have HK := Lib.hid hk
    have G3 := Lib.hid g3
    clear g3 g4 hk
    cases b
    case false =>
      go_wp2
      go_ret
      obtain rfl := HF.out
      obtain rfl := HJ.out
      exact ⟨rfl, w2, HK.out, by simpa using G3.out, hB.2, rfl⟩
    go_wp2
    go_ret
    obtain rfl := HF.out
    obtain rfl := HJ.out
    exact ⟨rfl, w2, HK.out, by simpa using G3.out, by simpa using HM1.out, rfl⟩
  · go_enter Tryz.func133, Tryz.ntmps133
    go_wp2_with fail
    go_at_call 103
    refine (HP.out _ HR.out).mono ?_
    rintro e w1 ⟨rfl, g1, g2⟩
    have G1 := Lib.hid g1
    have G2 := Lib.hid g2
    clear g1 g2
    go_wp2_with fail
    go_at_call 122
    refine (HT.out _ G1.out).mono ?_
    rintro e w2 ⟨rfl, g3, g4⟩
    have HK := Lib.hid (G2.out.trans g4)
    have G3 := Lib.hid g3
    clear g3 g4
    cases b
    case false =>
      go_wp2
      go_ret
      obtain rfl := HF.out
      obtain rfl := HJ.out
      exact ⟨rfl, w2, HK.out, by simpa using G3.out, hB.2, rfl⟩
    go_wp2
    go_ret
    obtain rfl := HF.out
    obtain rfl := HJ.out
    exact ⟨rfl, w2, HK.out, by simpa using G3.out, by simpa using HM1.out, rfl⟩
end Go.Proofs.YtamghpleajbonaaGreatDoor

namespace Go.Proofs.YtamghpleajbonaaGreatDoor
open Go.RowKit
set_option linter.unusedVariables false
set_option linter.unusedSimpArgs false
abbrev zA : Array Value := #[.string ⟨#[]⟩, .int .i64 0, .string ⟨#[]⟩, .string ⟨#[]⟩, .string ⟨#[]⟩, .slice none 0 0, .pointer none, .slice none 0 0]
theorem cells8 {w : World} {k : Nat} {x0 x1 x2 x3 x4 x5 x6 x7 : Value} {t : TypeId} (h : BoxAt w k #[x0, x1, x2, x3, x4, x5, x6, x7] t) :
    w.cell? ⟨k, 0, none⟩ = some x0 ∧ w.cell? ⟨k, 1, none⟩ = some x1 ∧ w.cell? ⟨k, 2, none⟩ = some x2 ∧ w.cell? ⟨k, 3, none⟩ = some x3 ∧ w.cell? ⟨k, 4, none⟩ = some x4 ∧ w.cell? ⟨k, 5, none⟩ = some x5 ∧ w.cell? ⟨k, 6, none⟩ = some x6 ∧ w.cell? ⟨k, 7, none⟩ = some x7 ∧
    w.frozen? ⟨k, 0, none⟩ = false ∧ w.frozen? ⟨k, 1, none⟩ = false ∧ w.frozen? ⟨k, 2, none⟩ = false ∧ w.frozen? ⟨k, 3, none⟩ = false ∧ w.frozen? ⟨k, 4, none⟩ = false ∧ w.frozen? ⟨k, 5, none⟩ = false ∧ w.frozen? ⟨k, 6, none⟩ = false ∧ w.frozen? ⟨k, 7, none⟩ = false :=
  ⟨h.cell 0, h.cell 1, h.cell 2, h.cell 3, h.cell 4, h.cell 5, h.cell 6, h.cell 7, Lib.frozen_of_heap h 0, Lib.frozen_of_heap h 1, Lib.frozen_of_heap h 2, Lib.frozen_of_heap h 3, Lib.frozen_of_heap h 4, Lib.frozen_of_heap h 5, Lib.frozen_of_heap h 6, Lib.frozen_of_heap h 7⟩
def set8 (w : World) (b : Nat) (x0 x1 x2 x3 x4 x5 x6 x7 : Value) : World := (set7 w b x0 x1 x2 x3 x4 x5 x6).setCell ⟨b, 7, none⟩ x7
theorem set8_heap (w : World) (b : Nat) (x0 x1 x2 x3 x4 x5 x6 x7 : Value) (k : Nat) (hk : k ≠ b) : (set8 w b x0 x1 x2 x3 x4 x5 x6 x7).heap[k]? = w.heap[k]? := by
  unfold set8
  rw [Below.heap_setCell _ _ _ k hk, set7_heap _ _ _ _ _ _ _ _ _ k hk]
theorem set8_size (w : World) (b : Nat) (x0 x1 x2 x3 x4 x5 x6 x7 : Value) : (set8 w b x0 x1 x2 x3 x4 x5 x6 x7).heap.size = w.heap.size := by
  unfold set8; simp [set7_size]
theorem Kp.set8 {rb : Nat} {a w : World} (h : Kp rb a w) {b : Nat} (hb : a.heap.size ≤ b) (hr : rb < a.heap.size) (x0 x1 x2 x3 x4 x5 x6 x7 : Value) : Kp rb a (set8 w b x0 x1 x2 x3 x4 x5 x6 x7) := (h.set7 hb hr x0 x1 x2 x3 x4 x5 x6).setNew hb hr 7 x7
theorem Rd.set8 {rb : Nat} {s : ByteArray} {i : Nat} {w : World} (h : Rd rb s i w) {b : Nat} (hb : rb ≠ b) (x0 x1 x2 x3 x4 x5 x6 x7 : Value) : Rd rb s i (set8 w b x0 x1 x2 x3 x4 x5 x6 x7) := (h.set7 hb x0 x1 x2 x3 x4 x5 x6).setOther hb 7 x7
theorem box_set8 {w : World} {E : Nat} {x0 x1 x2 x3 x4 x5 x6 x7 : Value} {t : TypeId} (h : BoxAt w E #[x0, x1, x2, x3, x4, x5, x6, x7] t) (y0 y1 y2 y3 y4 y5 y6 y7 : Value) :
    BoxAt (set8 w E y0 y1 y2 y3 y4 y5 y6 y7) E #[y0, y1, y2, y3, y4, y5, y6, y7] t := by
  unfold set8 set7
  unfold BoxAt at h ⊢
  simp [World.setCell, Array.getElem?_modify, h]
set_option maxRecDepth 100000 in
theorem res8 {fn : Func} {A M : Nat} {tmps : Array Value} {w : World} {b : Nat} {x0 x1 x2 x3 x4 x5 x6 x7 v : Value} {t : TypeId} (hres : fn.results = #[.cell A 99, .tmp M]) (ha : tmps.getD A undef = .pointer (some ⟨b, 0, none⟩)) (hm : tmps.getD M undef = v)
    (hb : BoxAt w b #[x0, x1, x2, x3, x4, x5, x6, x7] t) : (results fn tmps).run Tryz.prog w = .ok (.tuple #[.agg #[x0, x1, x2, x3, x4, x5, x6, x7], v]) w := by
  obtain ⟨q0, q1, q2, q3, q4, q5, q6, q7, _⟩ := cells8 hb
  have ha' : tmps[A]?.getD undef = .pointer (some ⟨b, 0, none⟩) := by rw [← ha]; simp
  have hm' : tmps[M]?.getD undef = v := by rw [← hm]; simp
  simp [results, hres, ha', hm', go_sem, q0, q1, q2, q3, q4, q5, q6, q7]
theorem end8w {fn : Func} {R : Ending → World → Prop} {a : Act} {w2 : World} {A M b : Nat} {x0 x1 x2 x3 x4 x5 x6 x7 v : Value} {t : TypeId} (hres : fn.results = #[.cell A 99, .tmp M]) (hbox : BoxAt w2 b #[x0, x1, x2, x3, x4, x5, x6, x7] t)
    (ha : a.tmps.getD A undef = .pointer (some ⟨b, 0, none⟩)) (hm : a.tmps.getD M undef = v) (hd : a.defers = []) (hR : R (.returned (.tuple #[.agg #[x0, x1, x2, x3, x4, x5, x6, x7], v])) w2) : bodyPost Tryz.prog fn R .ret a w2 :=
  bodyPost_ret (res8 hres ha hm hbox) hd hR
def arV (X : ByteArray) (k : Int) (t n a : ByteArray) (A1 : Option Addr) (n1 c1 : Nat) (p : Option Addr) (A2 : Option Addr) (n2 c2 : Nat) : Value := .agg #[.string X, .int .i64 k, .string t, .string n, .string a, .slice A1 n1 c1, .pointer p, .slice A2 n2 c2]
def GotA (rb : Nat) (s : ByteArray) (w : World) (r : Option (ByteArray × EX × Nat)) (e : Ending) (w' : World) : Prop :=
  Kp rb w w' ∧ ∃ (X : ByteArray) (k : Int) (t n a : ByteArray) (A1 : Option Addr) (n1 c1 : Nat) (p : Option Addr) (A2 : Option Addr) (n2 c2 : Nat) (j : Nat),
    e = .returned (.tuple #[arV X k t n a A1 n1 c1 p A2 n2 c2, .bool r.isSome]) ∧ Rd rb s j w' ∧ j ≤ s.size ∧ (r = none → k = 0) ∧
    ∀ x y m, r = some (x, y, m) → x = X ∧ m = j ∧ ExF w' (Since w.heap.size w') y ⟨.int .i64 k, .string t, .string n, .string a, .slice A1 n1 c1, .pointer p, .slice A2 n2 c2⟩
theorem named_first {rb : Nat} {s : ByteArray} (hs : s.size ≤ 1000000) (L i : Nat) (w : World) (hr : Rd rb s i w) (hi : i ≤ s.size)
    (hL : BoxAt w L #[.func (.func 142) #[pt rb] #[], .func (.func 146) #[pt rb] #[]] 201) (n3 : L ≠ rb) :
    Calls Tryz.prog 141 #[pt rb, .slice (some ⟨L, 0, none⟩) 2 2] w (Got0 rb s w ((quoS s i).or (nubS s i))) := by
  have h := first_any (by omega) [.func (.func 142) #[pt rb] #[], .func (.func 146) #[pt rb] #[]] [quoS s, nubS s] L 2 i w hr hi rfl (by simp) (fun j fv h => ?_) (BoxAt.lt hL) n3 (fun j fv f h1' h2' => ?_)
  · unfold orAll orAll orAll at h
    rw [Option.or_none] at h
    exact h
  · rw [BoxAt.cell hL j, List.getElem?_toArray]
    exact h
  · match j with
    | 0 => cases h1'; cases h2'; exact ⟨_, _, _, rfl, fun args w => by go_simp, fun W i _ hr hi => quoted_way hs i W hr hi⟩
    | 1 => cases h1'; cases h2'; exact ⟨_, _, _, rfl, fun args w => by go_simp, fun W i _ hr hi => number_way (by omega) i W hr hi⟩
    | j + 2 => cases h1'
theorem nam_val (s : ByteArray) (i j k m : Nat) (hj : nm s i = j) (hk : bl s j = k) (hm : bl s (k + 1) = m) (hne : j ≠ i) (hc : isAt s k 58 = true) (r : Res) (hr : (quoS s m).or (nubS s m) = r) :
    (namS s i).isSome = r.isSome ∧ ∀ x y q, namS s i = some (x, y, q) → x = s.extract i j ∧ r = some (y, q) := by
  unfold namS
  rw [hj, if_neg hne, hk, hc, if_pos rfl, hm, hr]
  cases r with
  | none => exact ⟨rfl, fun x y q h => by cases h⟩
  | some p => obtain ⟨e, q'⟩ := p; exact ⟨rfl, fun x y q h => by cases h; exact ⟨rfl, rfl⟩⟩
set_option maxHeartbeats 4000000 in
set_option maxRecDepth 100000 in
theorem named_any {rb : Nat} {s : ByteArray} (hs : s.size ≤ 1000000) (i : Nat) (w : World) (hr : Rd rb s i w) (hi : i ≤ s.size) : Calls Tryz.prog 148 #[pt rb] w (GotA rb s w (namS s i)) := by
  have hn := nm_ok s i hi
  have he := ext_empty s i (nm s i) hn.1 hn.2
  have hP := fun W (h : Rd rb s i W) => pass_any endName W h (by omega) hi
  obtain ⟨j, hj⟩ : ∃ j, nm s i = j := ⟨_, rfl⟩
  rw [hj] at hn he hP
  obtain ⟨X, hX⟩ : ∃ X, s.extract i j = X := ⟨_, rfl⟩
  rw [hX] at he hP
  have hB := bl_ok s j hn.2
  have hP2 := fun W (h : Rd rb s j W) => pass_any endBlank W h (by omega) hn.2
  obtain ⟨k, hk⟩ : ∃ k, bl s j = k := ⟨_, rfl⟩
  rw [hk] at hB hP2
  have hT := fun W (h : Rd rb s k W) => take_any 58 W h (by omega) hB.2
  obtain ⟨b, hb⟩ : ∃ b, isAt s k 58 = b := ⟨_, rfl⟩
  have hk1 : b = true → k + 1 ≤ s.size := fun h => isAt_lt (hb.trans h)
  rw [hb] at hT
  have HP := Lib.hid hP
  have HP2 := Lib.hid hP2
  have HT := Lib.hid hT
  have HR := Lib.hid hr
  have hlt := hr.lt
  have HE := Lib.hid he
  unfold pt at HP HP2 HT ⊢
  by_cases hbad : j = i ∨ b = false
  · have hnone : namS s i = none := by
      unfold namS
      rw [hj]
      rcases hbad with h | h
      · rw [if_pos h]
      · rw [hk, hb, h]; simp
    rw [hnone]
    have Hb := Lib.hid hbad
    clear hP hP2 hT hr he hj hX hk hb hnone hbad hk1
    cases hx : X.toList.isEmpty
    case true =>
      go_enter Tryz.func148, Tryz.ntmps148
      go_wp2_with fail
      go_at_call 103
      refine (HP.out _ (HR.out.alloc _)).mono ?_
      rintro e w1 ⟨rfl, g1, g2⟩
      have G1 := Lib.hid g1
      have G2 := Lib.hid (((Kp.refl rb w).alloc (Nat.le_of_lt hlt) _).trans g2)
      have hc := BoxAt.kp (BoxAt.new w zA 99) g2 (by omega)
      have hcl := hc.lt
      have HC := Lib.hid hc
      clear g1 g2 hc
      go_wp2_with fail
      go_at_call 103
      refine (HP2.out _ G1.out).mono ?_
      rintro e w2 ⟨rfl, g3, g4⟩
      have G3 := Lib.hid g3
      have HK := Lib.hid (G2.out.trans g4)
      have hc2 := BoxAt.kp HC.out g4 (by omega)
      have hcl2 := hc2.lt
      have HC2 := Lib.hid hc2
      obtain ⟨q0, q1, q2, q3, q4, q5, q6, q7, p0, p1, p2, p3, p4, p5, p6, p7⟩ := cells8 hc2
      clear g3 g4 hc2
      go_wp2
      exact end8w Tryz.results148 (box_set8 HC2.out _ _ _ _ _ _ _ _) rfl rfl rfl ⟨HK.out.set8 (Nat.le_refl _) hlt _ _ _ _ _ _ _ _, _, _, _, _, _, _, _, _, _, _, _, _, k, rfl, G3.out.set8 (by omega) _ _ _ _ _ _ _ _, hB.2, fun _ => rfl, fun x y m h => by cases h⟩
    have hb0 : b = false := by
      rcases Hb.out with h | h
      · have := HE.out; rw [hx, decide_eq_true h] at this; cases this
      · exact h
    subst hb0
    clear Hb
    go_enter Tryz.func148, Tryz.ntmps148
    go_wp2_with fail
    go_at_call 103
    refine (HP.out _ (HR.out.alloc _)).mono ?_
    rintro e w1 ⟨rfl, g1, g2⟩
    have G1 := Lib.hid g1
    have G2 := Lib.hid (((Kp.refl rb w).alloc (Nat.le_of_lt hlt) _).trans g2)
    have hc := BoxAt.kp (BoxAt.new w zA 99) g2 (by omega)
    have hcl := hc.lt
    have HC := Lib.hid hc
    clear g1 g2 hc
    go_wp2_with fail
    go_at_call 103
    refine (HP2.out _ G1.out).mono ?_
    rintro e w2 ⟨rfl, g3, g4⟩
    have G3 := Lib.hid g3
    have HK := Lib.hid (G2.out.trans g4)
    have hc2 := BoxAt.kp HC.out g4 (by omega)
    have hcl2 := hc2.lt
    have HC2 := Lib.hid hc2
    clear g3 g4 hc2
    go_wp2_with fail
    go_at_call 122
    refine (HT.out _ G3.out).mono ?_
    rintro e w3 ⟨rfl, g5, g6⟩
    have G5 := Lib.hid (show Rd rb s k w3 by simpa using g5)
    have HK3 := Lib.hid (HK.out.trans g6)
    have hc3 := BoxAt.kp HC2.out g6 (by omega)
    have hcl3 := hc3.lt
    have HC3 := Lib.hid hc3
    obtain ⟨q0, q1, q2, q3, q4, q5, q6, q7, p0, p1, p2, p3, p4, p5, p6, p7⟩ := cells8 hc3
    clear g5 g6 hc3
    go_wp2
    exact end8w Tryz.results148 (box_set8 HC3.out _ _ _ _ _ _ _ _) rfl rfl rfl ⟨HK3.out.set8 (Nat.le_refl _) hlt _ _ _ _ _ _ _ _, _, _, _, _, _, _, _, _, _, _, _, _, k, rfl, G5.out.set8 (by omega) _ _ _ _ _ _ _ _, hB.2, fun _ => rfl, fun x y m h => by cases h⟩
  · have hne : j ≠ i := fun h => hbad (.inl h)
    have hb1 : b = true := by cases b; exact absurd (.inr rfl) hbad; rfl
    subst hb1
    have hx : X.toList.isEmpty = false := by rw [HE.out, decide_eq_false hne]
    have hk2 := hk1 rfl
    have hB3 := bl_ok s (k + 1) hk2
    have hP3 := fun W (h : Rd rb s (k + 1) W) => pass_any endBlank W h (by omega) hk2
    obtain ⟨m, hm⟩ : ∃ m, bl s (k + 1) = m := ⟨_, rfl⟩
    rw [hm] at hB3 hP3
    have hF := fun L W h1 h2 h3 => named_first (rb := rb) hs L m W h1 hB3.2 h2 h3
    obtain ⟨r, hrr⟩ : ∃ r, (quoS s m).or (nubS s m) = r := ⟨_, rfl⟩
    obtain ⟨hv1, hv2⟩ := nam_val s i j k m hj hk hm hne hb r hrr
    rw [hX] at hv2
    rw [hrr] at hF
    obtain ⟨R, hRR⟩ : ∃ R, namS s i = R := ⟨_, rfl⟩
    rw [hRR] at hv1 hv2 ⊢
    have HV1 := Lib.hid hv1
    have HV2 := Lib.hid hv2
    have HP3 := Lib.hid hP3
    have HF := Lib.hid hF
    unfold pt at HP3 HF
    clear hP hP2 hT hr he hj hX hk hb hbad hk1 hP3 hm hF hrr hv1 hv2 hRR
    go_enter Tryz.func148, Tryz.ntmps148
    go_wp2_with fail
    go_at_call 103
    refine (HP.out _ (HR.out.alloc _)).mono ?_
    rintro e w1 ⟨rfl, g1, g2⟩
    have G1 := Lib.hid g1
    have G2 := Lib.hid (((Kp.refl rb w).alloc (Nat.le_of_lt hlt) _).trans g2)
    have hc := BoxAt.kp (BoxAt.new w zA 99) g2 (by omega)
    have hcl := hc.lt
    have HC := Lib.hid hc
    clear g1 g2 hc
    go_wp2_with fail
    go_at_call 103
    refine (HP2.out _ G1.out).mono ?_
    rintro e w2 ⟨rfl, g3, g4⟩
    have G3 := Lib.hid g3
    have HK := Lib.hid (G2.out.trans g4)
    have hc2 := BoxAt.kp HC.out g4 (by omega)
    have hcl2 := hc2.lt
    have HC2 := Lib.hid hc2
    clear g3 g4 hc2
    go_wp2_with fail
    go_at_call 122
    refine (HT.out _ G3.out).mono ?_
    rintro e w3 ⟨rfl, g5, g6⟩
    have G5 := Lib.hid (show Rd rb s (k + 1) w3 by simpa using g5)
    have HK3 := Lib.hid (HK.out.trans g6)
    have hc3 := BoxAt.kp HC2.out g6 (by omega)
    have hcl3 := hc3.lt
    have HC3 := Lib.hid hc3
    clear g5 g6 hc3
    go_wp2_with fail
    go_at_call 103
    refine (HP3.out _ G5.out).mono ?_
    rintro e w4 ⟨rfl, g7, g8⟩
    have HK4 := Lib.hid (HK3.out.trans g8)
    have hc4 := BoxAt.kp HC3.out g8 (by omega)
    have hcl4 := hc4.lt
    have HC4 := Lib.hid hc4
    have hl4 := g7.lt
    have HFF := Lib.hid (HF.out w4.heap.size (w4.alloc (.cells #[.func (.func 142) #[pt rb] #[], .func (.func 146) #[pt rb] #[]] 201)) (g7.alloc _) (BoxAt.new _ _ _) (by omega))
    unfold pt at HFF
    clear g7 g8 hc4
    go_wp2_with fail
    go_at_call 141
    refine HFF.out.mono ?_
    rintro e w5 ⟨⟨h1, k', t, n, a, A1, n1, c1', p, A2, n2, c2', j', rfl, h2, hj', h3⟩, hz⟩
    have HK5 := Lib.hid ((HK4.out.alloc (Nat.le_of_lt hl4) _).trans h1)
    have hc5 := BoxAt.kp (HC4.out.alloc (.cells #[.func (.func 142) #[pt rb] #[], .func (.func 146) #[pt rb] #[]] 201)) h1 (by omega)
    have hcl5 := hc5.lt
    have HC5 := Lib.hid hc5
    have H2 := Lib.hid h2
    have H3 := Lib.hid h3
    have HZ := Lib.hid hz
    have hs4 := h1.size
    rw [World.size_alloc] at hs4
    obtain ⟨q0, q1, q2, q3, q4, q5, q6, q7, p0, p1, p2, p3, p4, p5, p6, p7⟩ := cells8 hc5
    unfold exV
    clear h1 h2 h3 hz hc5
    go_wp2
    refine end8w Tryz.results148 ((box_set8 HC5.out _ _ _ _ _ _ _ _).alloc _) rfl rfl rfl ⟨(HK5.out.set8 (Nat.le_refl _) hlt _ _ _ _ _ _ _ _).alloc (by rw [set8_size]; omega) _, X, k', t, n, a, A1, n1, c1', p, A2, n2, c2', j', by rw [HV1.out]; rfl, (H2.out.set8 (by omega) _ _ _ _ _ _ _ _).alloc _, hj', fun h => ?_, fun x y q h => ?_⟩
    · have hr0 : r = none := by
        have := HV1.out
        rw [h] at this
        cases r with
        | none => rfl
        | some p => cases this
      have h1 := HZ.out hr0
      simp [exV] at h1
      exact h1.1.1
    · obtain ⟨rfl, hr0⟩ := HV2.out x y q h
      obtain ⟨h4, h5⟩ := H3.out y q hr0
      refine ⟨rfl, h4, ExF.carry (fun z hq => ?_) _ _ h5⟩
      obtain ⟨hq1, hq2⟩ := hq
      rw [World.size_alloc] at hq1
      have hq3 : z < (set8 w5 w.heap.size (.string x) (.int .i64 k') (.string t) (.string n) (.string a) (.slice A1 n1 c1') (.pointer p) (.slice A2 n2 c2')).heap.size := by rw [set8_size]; exact hq2
      exact ⟨⟨by omega, by rw [World.size_alloc]; exact Nat.lt_succ_of_lt hq3⟩, (Lib.alloc_old _ _ z hq3).trans (set8_heap _ _ _ _ _ _ _ _ _ _ z (by omega))⟩
theorem arg_val (P : Nat → Res) (s : ByteArray) (i : Nat) (h : namS s i = none) : (argS P s i).isSome = (headS P s i).isSome ∧ ∀ x y q, argS P s i = some (x, y, q) → x = E0 ∧ headS P s i = some (y, q) := by
  unfold argS
  rw [h]
  cases headS P s i with
  | none => exact ⟨rfl, fun x y q h => by cases h⟩
  | some p => obtain ⟨e, q'⟩ := p; exact ⟨rfl, fun x y q h => by cases h; exact ⟨rfl, rfl⟩⟩
theorem arg_nam (P : Nat → Res) (s : ByteArray) (i : Nat) (x : ByteArray × EX × Nat) (h : namS s i = some x) : argS P s i = some x := by
  unfold argS; rw [h]
set_option maxHeartbeats 4000000 in
set_option maxRecDepth 100000 in
theorem argument_any {rb : Nat} {s : ByteArray} {d : Nat} {P : Nat → Res} (hs : s.size ≤ 1000000) (hd : d ≤ 4000) (hP : WayTo rb s 111 #[pt rb, .int .i64 ((d + 1 : Nat) : Int)] P) (i : Nat) (w : World) (hr : Rd rb s i w) (hi : i ≤ s.size) :
    Calls Tryz.prog 135 #[pt rb, .int .i64 d] w (GotA rb s w (argS P s i)) := by
  have hN := fun W h => named_any (rb := rb) hs i W h hi
  have hH := fun W h => head_way (rb := rb) hs hd hP i W h hi
  have hv := arg_val P s i
  have hv2 := arg_nam P s i
  obtain ⟨R, hRR⟩ : ∃ R, argS P s i = R := ⟨_, rfl⟩
  obtain ⟨r, hrr⟩ : ∃ r, namS s i = r := ⟨_, rfl⟩
  obtain ⟨q, hq⟩ : ∃ q, headS P s i = q := ⟨_, rfl⟩
  rw [hrr] at hN hv hv2
  rw [hq] at hH hv
  rw [hRR] at hv hv2 ⊢
  have HN := Lib.hid hN
  have HH := Lib.hid hH
  have HR := Lib.hid hr
  have HV := Lib.hid hv
  have HV2 := Lib.hid hv2
  have hlt := hr.lt
  have c1 := hr.c1
  have f1 := hr.f 1
  have hi0 : (i : Int) ≤ 1000000 := by omega
  clear hP hN hH hv hv2 hRR hrr hq hr
  unfold pt at HN HH ⊢
  go_enter Tryz.func135, Tryz.ntmps135
  go_wp2_with fail
  go_at_call 148
  refine (HN.out _ (HR.out.alloc _)).mono ?_
  rintro e w1 ⟨h1, X, k, t, n, a, A1, n1, c1', p, A2, n2, c2', j, rfl, h2, hj, hz, h3⟩
  have HK := Lib.hid (((Kp.refl rb w).alloc (Nat.le_of_lt hlt) _).trans h1)
  have hc := BoxAt.kp (BoxAt.new w zA 99) h1 (by omega)
  have hl := hc.lt
  have HC := Lib.hid hc
  have H2 := Lib.hid h2
  have H3 := Lib.hid h3
  have hlr := h2.lt
  have d1 := h2.c1
  have e1 := h2.f 1
  unfold arV
  cases r with
  | some x =>
    have hR : R = some x := HV2.out x rfl
    subst hR
    obtain ⟨q0, q1, q2, q3, q4, q5, q6, q7, p0, p1, p2, p3, p4, p5, p6, p7⟩ := cells8 hc
    clear h1 h2 h3 hc hz
    go_wp2
    refine end8w Tryz.results135 ((box_set8 HC.out _ _ _ _ _ _ _ _).alloc _) rfl rfl rfl ⟨(HK.out.set8 (Nat.le_refl _) hlt _ _ _ _ _ _ _ _).alloc (by rw [set8_size]; omega) _, X, k, t, n, a, A1, n1, c1', p, A2, n2, c2', j, rfl, (H2.out.set8 (by omega) _ _ _ _ _ _ _ _).alloc _, hj, (fun h => by cases h), fun x y q h => ?_⟩
    obtain ⟨h4, h5, h6⟩ := H3.out x y q h
    refine ⟨h4, h5, ExF.carry (fun z hq => ?_) _ _ h6⟩
    obtain ⟨hq1, hq2⟩ := hq
    rw [World.size_alloc] at hq1
    have hq3 : z < (set8 w1 w.heap.size (.string X) (.int .i64 k) (.string t) (.string n) (.string a) (.slice A1 n1 c1') (.pointer p) (.slice A2 n2 c2')).heap.size := by rw [set8_size]; exact hq2
    exact ⟨⟨by omega, by rw [World.size_alloc]; exact Nat.lt_succ_of_lt hq3⟩, (Lib.alloc_old _ _ z hq3).trans (set8_heap _ _ _ _ _ _ _ _ _ _ z (by omega))⟩
  | none =>
    clear h1 h2 h3 hc hz
    have hv := (HV.out rfl).1
    have hv3 := (HV.out rfl).2
    have Hv := Lib.hid hv
    have Hv3 := Lib.hid hv3
    have hsz1 : (w1.setCell ⟨rb, 1, none⟩ (.int .i64 (i : Nat))).heap.size = w1.heap.size := by simp
    have HB := Lib.hid (HH.out ((w1.setCell ⟨rb, 1, none⟩ (.int .i64 (i : Nat))).alloc (.cells #[.string X, .int .i64 k, .string t, .string n, .string a, .slice A1 n1 c1', .pointer p, .slice A2 n2 c2'] 99)) ((H2.out.set i).alloc _))
    have HK2 := Lib.hid ((HK.out.setCell 1 (.int .i64 (i : Nat))).alloc (by rw [hsz1]; omega) (.cells #[.string X, .int .i64 k, .string t, .string n, .string a, .slice A1 n1 c1', .pointer p, .slice A2 n2 c2'] 99))
    have HC2 := Lib.hid ((BoxAt.setOther HC.out ⟨rb, 1, none⟩ (.int .i64 (i : Nat)) (by show w.heap.size ≠ rb; omega)).alloc (.cells #[.string X, .int .i64 k, .string t, .string n, .string a, .slice A1 n1 c1', .pointer p, .slice A2 n2 c2'] 99))
    clear hv hv3 HV HV2
    go_wp2_with fail
    go_at_call 132
    refine HB.out.mono ?_
    rintro e w2 ⟨⟨h1, k', t', n', a', B1, m1, b1, p', B2, m2, b2, j', rfl, h2, hj', h3⟩, hz⟩
    have HK3 := Lib.hid (HK2.out.trans h1)
    have hc3 := BoxAt.kp HC2.out h1 (by omega)
    have hl3 := hc3.lt
    have HC3 := Lib.hid hc3
    have H22 := Lib.hid h2
    have H33 := Lib.hid h3
    have HZ := Lib.hid hz
    have hs1 := h1.size
    rw [World.size_alloc, hsz1] at hs1
    obtain ⟨q0, q1, q2, q3, q4, q5, q6, q7, p0, p1, p2, p3, p4, p5, p6, p7⟩ := cells8 hc3
    unfold exV
    clear h1 h2 h3 hz hc3 HB
    go_wp2
    refine end8w Tryz.results135 ((box_set8 HC3.out _ _ _ _ _ _ _ _).alloc _) rfl rfl rfl ⟨(HK3.out.set8 (Nat.le_refl _) hlt _ _ _ _ _ _ _ _).alloc (by rw [set8_size]; omega) _, E0, k', t', n', a', B1, m1, b1, p', B2, m2, b2, j', by rw [Hv.out]; rfl, (H22.out.set8 (by omega) _ _ _ _ _ _ _ _).alloc _, hj', fun h => ?_, fun x y z h => ?_⟩
    · have hr0 : q = none := by
        have := Hv.out
        rw [h] at this
        cases q with
        | none => rfl
        | some p => cases this
      have h1 := HZ.out hr0
      simp [exV] at h1
      exact h1.1.1
    · obtain ⟨rfl, hr0⟩ := Hv3.out x y z h
      obtain ⟨h4, h5⟩ := H33.out y z hr0
      refine ⟨rfl, h4, ExF.carry (fun z hq => ?_) _ _ h5⟩
      obtain ⟨hq1, hq2⟩ := hq
      rw [World.size_alloc, hsz1] at hq1
      have hq3 : z < (set8 w2 w.heap.size (.string E0) (.int .i64 k') (.string t') (.string n') (.string a') (.slice B1 m1 b1) (.pointer p') (.slice B2 m2 b2)).heap.size := by rw [set8_size]; exact hq2
      exact ⟨⟨by omega, by rw [World.size_alloc]; exact Nat.lt_succ_of_lt hq3⟩, (Lib.alloc_old _ _ z hq3).trans (set8_heap _ _ _ _ _ _ _ _ _ _ z (by omega))⟩
end Go.Proofs.YtamghpleajbonaaGreatDoor

namespace Go.Proofs.YtamghpleajbonaaGreatDoor
open Go.RowKit
set_option linter.unusedVariables false
set_option linter.unusedSimpArgs false
def li (s : ByteArray) (i : Nat) : Nat := behN nlB s.data.toList i
def beh (s : ByteArray) (i : Nat) : Nat := if li s i < s.size then li s i + 1 else s.size
theorem li_ok (s : ByteArray) (i : Nat) (hi : i ≤ s.size) : i ≤ li s i ∧ li s i ≤ s.size := ⟨behN_ge _ _ _, by have := behN_le nlB s.data.toList i (by rw [size_data]; exact hi); rw [size_data] at this; exact this⟩
theorem beh_ok (s : ByteArray) (i : Nat) (hi : i ≤ s.size) : i ≤ beh s i ∧ beh s i ≤ s.size ∧ (i < s.size → i < beh s i) := by
  have := li_ok s i hi
  unfold beh
  split <;> omega
def passE (s : ByteArray) (i : Nat) : Nat :=
  if h : i < s.size then
    if sp s i < s.size ∧ isAt s (sp s i) 10 = false then i
    else if h2 : i < beh s (sp s i) then passE s (beh s (sp s i)) else i
  else i
termination_by s.size - i
decreasing_by omega
def mayB (s : ByteArray) (i : Nat) : Bool := isAt s i 35 || isAt s i 45 || decide (i < nm s i)
def junkTo (s : ByteArray) (i : Nat) : Nat :=
  if h : i < s.size ∧ mayB s i = false then
    if h2 : i < beh s i then junkTo s (beh s i) else i
  else i
termination_by s.size - i
decreasing_by omega
def namedS (s : ByteArray) (i : Nat) : Option (ByteArray × List EL × Nat) :=
  if nm s i = i then none
  else if isAt s (sp s (nm s i)) 61 then
    match patS (placeS s 20) s (sp s (nm s i) + 1) with
    | none => none
    | some (l, e) => if e = s.size ∨ isAt s e 10 = true then some (s.extract i (nm s i), l, e) else none
  else none
def attrS (s : ByteArray) (i : Nat) : Option (ByteArray × List EL × Nat) :=
  if isAt s (bl s i) 46 && (at0 s.data.toList (bl s i - 1) == 32) then
    match namedS s (bl s i + 1) with
    | none => none
    | some (x, l, e) => if l.isEmpty then none else some (x, l, e)
  else none
def atsS (s : ByteArray) (acc : List AT) (i : Nat) : List AT × Nat :=
  match attrS s i with
  | none => (acc, i)
  | some (x, l, e) => if h : i < e ∧ e ≤ s.size then atsS s (acc ++ [.mk x l]) e else (acc, i)
termination_by s.size - i
decreasing_by omega
structure EN where
  ty : Int
  lv : Int
  tx : ByteArray
  nm : ByteArray
  val : List EL
  ats : List AT
  fr : Nat
  tu : Nat
def msgS (s : ByteArray) (i : Nat) : Option EN :=
  match namedS s (if isAt s i 45 then i + 1 else i) with
  | none => none
  | some (x, l, e) =>
    if !l.isEmpty || (!isAt s i 45 && !(atsS s [] e).1.isEmpty) then some ⟨if isAt s i 45 then 2 else 1, 0, E0, x, l, (atsS s [] e).1, i, beh s (atsS s [] e).2⟩ else none
def junkS (s : ByteArray) (i : Nat) : EN := ⟨3, 0, s.extract i (junkTo s (beh s i)), E0, [], [], i, junkTo s (beh s i)⟩
end Go.Proofs.YtamghpleajbonaaGreatDoor

namespace Go.Proofs.YtamghpleajbonaaGreatDoor
open Go.RowKit
set_option linter.unusedVariables false
set_option linter.unusedSimpArgs false
def hsB (c : UInt8) : Bool := c == 35
def hs (s : ByteArray) (i : Nat) : Nat := behN hsB s.data.toList i
def comL (s : ByteArray) (i : Nat) : Nat × ByteArray :=
  if 3 < hs s i - i ∨ (hs s i < li s i ∧ isAt s (hs s i) 32 = false) then (0, E0)
  else (hs s i - i, if hs s i < li s i then s.extract (hs s i + 1) (li s i) else E0)
def comGo (s : ByteArray) (lv : Nat) (acc : List ByteArray) (k : Nat) (w : ByteArray) : List ByteArray × Nat :=
  if h : (comL s (beh s k)).1 = lv ∧ k < beh s k ∧ beh s k ≤ s.size then comGo s lv (acc ++ [w]) (beh s k) (comL s (beh s k)).2
  else (acc ++ [w], beh s k)
termination_by s.size - k
decreasing_by omega
def comS (s : ByteArray) (i : Nat) : Option EN :=
  if (comL s i).1 = 0 then none
  else some ⟨0, (comL s i).1, mkB (Lib.join ((comGo s (comL s i).1 [] i (comL s i).2).1.map (·.data.toList)) [10]), E0, [], [], i, (comGo s (comL s i).1 [] i (comL s i).2).2⟩
def readS (s : ByteArray) (i : Nat) : EN := match comS s i with
  | some x => x
  | none => match msgS s i with
    | some x => x
    | none => junkS s i
def parseGo (s : ByteArray) (acc : List EN) (i : Nat) : List EN :=
  if h : i < s.size ∧ i < passE s (readS s i).tu then parseGo s (acc ++ [readS s i]) (passE s (readS s i).tu) else acc
termination_by s.size - i
decreasing_by omega
def parseS (s : ByteArray) : List EN := parseGo s [] (passE s 0)
end Go.Proofs.YtamghpleajbonaaGreatDoor
