/-
  Package script: the reader: signs, counts, arguments.
-/
import Derived.Test.YtgdkpamlkpncgabGreatDoorSwd
namespace Go.Proofs.YtgdkpamlkpncgabGreatDoor
open Go.RowKit
set_option linter.unusedVariables false
set_option linter.unusedSimpArgs false

def RdTo (B rb : Nat) (f : FuncId) (args : Array Value) (st : RSt) (v : Value) (st' : RSt) : Prop := ∀ w, Rs rb st w → EnvB B w → Calls Tryz.prog f args w (GotT B rb w v st')
def ConT (signs x : ByteArray) (b : Bool) : Prop := ∀ w : World, Calls Tryz.prog 29 #[.string signs, .string x] w fun e w' => e = .returned (.bool b) ∧ w' = w
def IxT (signs x : ByteArray) (k : Int) : Prop := ∀ w : World, Calls Tryz.prog 30 #[.string signs, .string x] w fun e w' => e = .returned (.int .i64 k) ∧ w' = w
set_option maxHeartbeats 2000000 in
set_option maxRecDepth 100000 in
theorem one_long {B rb : Nat} (hB : B ≤ rb) {signs x r1 : ByteArray} {f1 : Bool} {st : RSt} (ht : TextTo B rb st x (r1, f1)) (hx : x.size ≠ 1) (hx2 : x.size ≤ 4000000) :
    RdTo B rb 19 #[pt rb, .string signs] st (.int .i64 0) (r1, true) := fun w hr hE => by
  have HT := Lib.hid ht
  have HR := Lib.hid hr
  have HE := Lib.hid hE
  have hlt := hr.lt
  have d1 : ((x.size : Int) != 1) = true := by rw [bne_iff_ne]; omega
  have d2 : ¬ (x.size : Int) = 1 := by omega
  clear ht hr hE hx
  unfold pt
  go_enter Tryz.func19, Tryz.ntmps19
  go_wp2_with fail
  go_at_call 20
  refine (HT.out _ HR.out HE.out).mono ?_
  rintro e w1 ⟨rfl, hr1, hk1, hE1⟩
  have HR1 := Lib.hid hr1
  have HK1 := Lib.hid hk1
  have HE1 := Lib.hid hE1
  have g1 := hr1.c1
  have k1 := hr1.f 1
  dsimp only at g1
  clear hr1 hk1 hE1
  go_wp2
  go_ret
  exact .mk rfl HR1.out.set1 (HK1.out.setCell 1 _) HE.out hB
set_option maxHeartbeats 2000000 in
set_option maxRecDepth 100000 in
theorem one_no {B rb : Nat} (hB : B ≤ rb) {signs x r1 : ByteArray} {f1 : Bool} {st : RSt} (ht : TextTo B rb st x (r1, f1)) (hx : x.size = 1) (hc : ConT signs x false) :
    RdTo B rb 19 #[pt rb, .string signs] st (.int .i64 0) (r1, true) := fun w hr hE => by
  have HT := Lib.hid ht
  have HR := Lib.hid hr
  have HE := Lib.hid hE
  have HC := Lib.hid hc
  have hlt := hr.lt
  have d1 : ((x.size : Int) != 1) = false := by rw [hx]; rfl
  have d2 : (x.size : Int) = 1 := by omega
  have HX := Lib.hid hx
  clear ht hr hE hx hc
  unfold pt
  go_enter Tryz.func19, Tryz.ntmps19
  go_wp2_with fail
  go_at_call 20
  refine (HT.out _ HR.out HE.out).mono ?_
  rintro e w1 ⟨rfl, hr1, hk1, hE1⟩
  have HR1 := Lib.hid hr1
  have HK1 := Lib.hid hk1
  have HE1 := Lib.hid hE1
  have g1 := hr1.c1
  have k1 := hr1.f 1
  dsimp only at g1
  clear hr1 hk1 hE1
  go_wp2_with fail
  go_at_call 29
  refine (HC.out _).mono ?_
  rintro e w2 ⟨rfl, rfl⟩
  go_wp2
  go_ret
  exact .mk rfl HR1.out.set1 (HK1.out.setCell 1 _) HE.out hB
set_option maxHeartbeats 2000000 in
set_option maxRecDepth 100000 in
theorem one_yes {B rb : Nat} (hB : B ≤ rb) {signs x r1 : ByteArray} {f1 : Bool} {st : RSt} {k : Int} (ht : TextTo B rb st x (r1, f1)) (hx : x.size = 1) (hc : ConT signs x true) (hi : IxT signs x k) :
    RdTo B rb 19 #[pt rb, .string signs] st (.int .i64 k) (r1, f1) := fun w hr hE => by
  have HT := Lib.hid ht
  have HR := Lib.hid hr
  have HE := Lib.hid hE
  have HC := Lib.hid hc
  have HI := Lib.hid hi
  have d1 : ((x.size : Int) != 1) = false := by rw [hx]; rfl
  have d2 : (x.size : Int) = 1 := by omega
  have HX := Lib.hid hx
  clear ht hr hE hx hc hi
  unfold pt
  go_enter Tryz.func19, Tryz.ntmps19
  go_wp2_with fail
  go_at_call 20
  refine (HT.out _ HR.out HE.out).mono ?_
  rintro e w1 ⟨rfl, hr1, hk1, hE1⟩
  have HR1 := Lib.hid hr1
  have HK1 := Lib.hid hk1
  clear hr1 hk1 hE1
  go_wp2_with fail
  go_at_call 29
  refine (HC.out _).mono ?_
  rintro e w2 ⟨rfl, rfl⟩
  go_wp2_with fail
  go_at_call 30
  refine (HI.out _).mono ?_
  rintro e w3 ⟨rfl, rfl⟩
  go_wp2
  go_ret
  exact .mk rfl HR1.out HK1.out HE.out hB
theorem textG_size (st : RSt) : (textG st).1.size ≤ 262144 ∧ (textG st).2.1.size ≤ st.1.size := by
  obtain ⟨r, b⟩ := st
  unfold textG
  split
  · exact ⟨show eS.size ≤ 262144 by decide, Nat.le_refl _⟩
  · dsimp only
    split
    · exact ⟨show eS.size ≤ 262144 by decide, Nat.le_refl _⟩
    · next t r' h =>
      have := textR_le h
      exact ⟨this.2.1, Nat.le_of_lt this.1⟩
theorem oneG_size (l : List UInt8) (st : RSt) : (oneG l st).2.1.size ≤ st.1.size := by
  unfold oneG
  split
  · exact (textG_size st).2
  · exact (textG_size st).2
theorem one_any {B rb : Nat} (hB : B ≤ rb) (l : List UInt8) (st : RSt) (hs : st.1.size ≤ 4000000) : RdTo B rb 19 #[pt rb, .string ⟨l.toArray⟩] st (.int .i64 (oneG l st).1) (oneG l st).2 := by
  have ht := text_any hB st hs
  have hsz := (textG_size st).1
  unfold oneG
  obtain ⟨⟨r1, f1⟩, hq⟩ : ∃ q, (textG st).2 = q := ⟨_, rfl⟩
  rw [hq] at ht ⊢
  generalize (textG st).1 = x at *
  by_cases h1 : x.size = 1
  · have hx := one_list h1
    have hxe : x = ⟨#[x.data.toList.headD 0]⟩ := bytes_eq hx
    have hc : ConT ⟨l.toArray⟩ x (decide (0 ≤ Lib.indexByte l (x.data.toList.headD 0))) := fun w => by
      have := Tryz.strings_Contains_one ⟨l.toArray⟩ (x.data.toList.headD 0) w
      rw [← hxe] at this
      exact this
    have hi : IxT ⟨l.toArray⟩ x (Lib.indexByte l (x.data.toList.headD 0)) := fun w => by
      have := Tryz.strings_Index_one ⟨l.toArray⟩ (x.data.toList.headD 0) w
      rw [← hxe] at this
      exact this
    by_cases h2 : 0 ≤ Lib.indexByte l (x.data.toList.headD 0)
    · rw [decide_eq_true h2] at hc
      rw [if_pos (by unfold oneOk; rw [decide_eq_true h1, decide_eq_true h2]; rfl)]
      exact one_yes hB ht h1 hc hi
    · rw [decide_eq_false h2] at hc
      rw [if_neg (by unfold oneOk; rw [decide_eq_false h2]; simp)]
      exact one_no hB ht h1 hc
  · rw [if_neg (by unfold oneOk; rw [decide_eq_false h1]; simp)]
    exact one_long hB ht h1 (by omega)
set_option maxHeartbeats 2000000 in
set_option maxRecDepth 100000 in
theorem count_core {B rb : Nat} (hB : B ≤ rb) {x r1 : ByteArray} {f1 : Bool} {st : RSt} {v : Int} (ht : TextTo B rb st x (r1, f1)) (b : Bool) (hn : CountT x v b) :
    RdTo B rb 21 #[pt rb] st (.int .i64 v) (r1, if b then f1 else true) := fun w hr hE => by
  have HT := Lib.hid ht
  have HR := Lib.hid hr
  have HE := Lib.hid hE
  have HN := Lib.hid hn
  have hlt := hr.lt
  clear ht hr hE hn
  unfold pt
  cases b
  · go_enter Tryz.func21, Tryz.ntmps21
    go_wp2_with fail
    go_at_call 20
    refine (HT.out _ HR.out HE.out).mono ?_
    rintro e w1 ⟨rfl, hr1, hk1, hE1⟩
    have HR1 := Lib.hid hr1
    have HK1 := Lib.hid hk1
    have HE1 := Lib.hid hE1
    clear hr1 hk1 hE1
    go_wp2_with fail
    go_at_call 32
    refine (HN.out _ HE1.out.env).mono ?_
    rintro e w2 ⟨rfl, hb2⟩
    have HR2 := Lib.hid (HR1.out.later hb2)
    have HK2 := Lib.hid (HK1.out.trans (Kp.of_below hb2 (by have := HK1.out.size; omega)))
    have g1 := HR2.out.c1
    have k1 := HR2.out.f 1
    dsimp only at g1
    clear hb2
    go_wp2
    go_ret
    exact .mk rfl HR2.out.set1 (HK2.out.setCell 1 _) HE.out hB
  · go_enter Tryz.func21, Tryz.ntmps21
    go_wp2_with fail
    go_at_call 20
    refine (HT.out _ HR.out HE.out).mono ?_
    rintro e w1 ⟨rfl, hr1, hk1, hE1⟩
    have HR1 := Lib.hid hr1
    have HK1 := Lib.hid hk1
    have HE1 := Lib.hid hE1
    clear hr1 hk1 hE1
    go_wp2_with fail
    go_at_call 32
    refine (HN.out _ HE1.out.env).mono ?_
    rintro e w2 ⟨rfl, hb2⟩
    have HR2 := Lib.hid (HR1.out.later hb2)
    have HK2 := Lib.hid (HK1.out.trans (Kp.of_below hb2 (by have := HK1.out.size; omega)))
    clear hb2
    go_wp2
    go_ret
    exact .mk rfl HR2.out HK2.out HE.out hB
theorem countG_size (st : RSt) : (countG st).1 ≤ 262144 ∧ (countG st).2.1.size ≤ st.1.size := by
  unfold countG
  split
  · next n h =>
    have := (wholeS_iff (by decide) (by decide)).1 h
    exact ⟨by dsimp only; omega, (textG_size st).2⟩
  · exact ⟨Nat.zero_le _, (textG_size st).2⟩
theorem count_any {B rb : Nat} (hB : B ≤ rb) (st : RSt) (hs : st.1.size ≤ 4000000) : RdTo B rb 21 #[pt rb] st (.int .i64 ((countG st).1 : Nat)) (countG st).2 := by
  have ht := text_any hB st hs
  have hsz := (textG_size st).1
  unfold countG
  obtain ⟨⟨r1, f1⟩, hq⟩ : ∃ q, (textG st).2 = q := ⟨_, rfl⟩
  rw [hq] at ht ⊢
  generalize (textG st).1 = x at *
  have hcn : CountT x ((wholeS x.data.toList 0 262144).getD 0) (wholeS x.data.toList 0 262144).isSome := fun w hE => count_of x (by omega) w hE
  cases h : wholeS x.data.toList 0 262144 with
  | none =>
    rw [h] at hcn
    exact count_core hB ht false hcn
  | some v =>
    rw [h] at hcn
    have hv := (wholeS_iff (by decide) (by decide)).1 h
    have := count_core hB ht true hcn
    dsimp only
    rw [Int.toNat_of_nonneg hv.1]
    exact this

theorem Kp.setN {rb : Nat} {a w : World} (h : Kp rb a w) {b : Nat} (hb : a.heap.size ≤ b) (hr : rb < a.heap.size) (o : Nat) (v : Value) : Kp rb a (w.setCell ⟨b, o, none⟩ v) :=
  ⟨h.below.setCell (p := ⟨b, o, none⟩) (by show rb ≤ b; omega) v, fun k hk hn => (Below.heap_setCell w ⟨b, o, none⟩ v k (by show k ≠ b; omega)).trans (h.others k hk hn)⟩
theorem Rs.other {rb : Nat} {st : RSt} {w : World} (h : Rs rb st w) {b : Nat} (hb : rb ≠ b) (o : Nat) (v : Value) : Rs rb st (w.setCell ⟨b, o, none⟩ v) := BoxAt.setOther h ⟨b, o, none⟩ v hb
theorem BoxAt.put {w : World} {k : Nat} {cs : Array Value} {t : TypeId} (h : BoxAt w k cs t) (o : Nat) (v : Value) : BoxAt (w.setCell ⟨k, o, none⟩ v) k (cs.setIfInBounds o v) t := by
  unfold BoxAt at h ⊢
  simp [World.setCell, Array.getElem?_modify, h]
theorem BoxAt.fz {w : World} {k : Nat} {cs : Array Value} {t : TypeId} (h : BoxAt w k cs t) (o : Nat) : w.frozen? ⟨k, o, none⟩ = false := Lib.frozen_of_heap h o
/-- A call that returns what stands in a block of three cells. -/
theorem resA {fn : Func} {A : Nat} {tmps : Array Value} {w : World} {b : Nat} {x0 x1 x2 : Value} {t : TypeId} (hres : fn.results = #[.cell A 65]) (ha : tmps.getD A undef = .pointer (some ⟨b, 0, none⟩))
    (hb : BoxAt w b #[x0, x1, x2] t) : (results fn tmps).run Tryz.prog w = .ok (.agg #[x0, x1, x2]) w := by
  have q0 : w.cell? ⟨b, 0, none⟩ = some x0 := hb.cell 0
  have q1 : w.cell? ⟨b, 1, none⟩ = some x1 := hb.cell 1
  have q2 : w.cell? ⟨b, 2, none⟩ = some x2 := hb.cell 2
  have ha' : tmps[A]?.getD undef = .pointer (some ⟨b, 0, none⟩) := by rw [← ha]; simp
  simp [results, hres, ha', go_sem, q0, q1, q2]
theorem endA {fn : Func} {R : Ending → World → Prop} {a : Act} {w2 : World} {A b : Nat} {x0 x1 x2 : Value} {t : TypeId} (hres : fn.results = #[.cell A 65]) (hbox : BoxAt w2 b #[x0, x1, x2] t)
    (ha : a.tmps.getD A undef = .pointer (some ⟨b, 0, none⟩)) (hd : a.defers = []) (hR : R (.returned (.agg #[x0, x1, x2])) w2) : bodyPost Tryz.prog fn R .ret a w2 :=
  bodyPost_ret (resA hres ha hbox) hd hR
abbrev zA : Array Value := #[.string ⟨#[]⟩, .int .i64 0, .string ⟨#[]⟩]
def arV (a : SA) : Value := .agg #[.string a.name, .int .i64 a.kind, .string a.text]
set_option maxHeartbeats 4000000 in
set_option maxRecDepth 100000 in
theorem arg_core {B rb : Nat} (hB : B ≤ rb) {x y : ByteArray} {k : Int} {st s1 s2 s3 : RSt} (h1 : TextTo B rb st x s1) (h2 : RdTo B rb 19 #[pt rb, .string ⟨#[116, 110, 109]⟩] s1 (.int .i64 k) s2) (h3 : TextTo B rb s2 y s3) :
    RdTo B rb 22 #[pt rb] st (.agg #[.string x, .int .i64 k, .string y]) s3 := fun w hr hE => by
  have H1 := Lib.hid h1
  have H2 := Lib.hid h2
  have H3 := Lib.hid h3
  have hlt := hr.lt
  have HE := Lib.hid hE
  have HR0 := Lib.hid ((hr.alloc (.cells zA 65)).alloc (.cells zA 65))
  have HE0 := Lib.hid ((hE.alloc (.cells zA 65)).alloc (.cells zA 65))
  have HK0 := Lib.hid (((Kp.refl rb w).alloc (by omega) (.cells zA 65)).alloc (by simp; omega) (.cells zA 65))
  have B0 := Lib.hid ((BoxAt.new w zA 65).alloc (.cells zA 65))
  have C0 := Lib.hid (BoxAt.new' (w.alloc (.cells zA 65)) (w.heap.size + 1) zA 65 (by simp))
  clear h1 h2 h3 hr hE
  unfold pt at H2 ⊢
  go_enter Tryz.func22, Tryz.ntmps22
  go_wp2_with fail
  go_at_call 20
  refine (H1.out _ HR0.out HE0.out).mono ?_
  rintro e w1 ⟨rfl, hr1, hk1, hE1⟩
  have HK1 := Lib.hid (HK0.out.trans hk1)
  have B1 := Lib.hid (B0.out.kp hk1 (by omega))
  have C1 := Lib.hid (C0.out.kp hk1 (by omega))
  have HR1 := Lib.hid hr1
  have HE1 := Lib.hid hE1
  have c10 := C1.out.cell 0
  have c20 := C1.out.fz 0
  clear hr1 hk1 hE1
  go_wp2_with fail
  go_at_call 19
  have hb1 : Below B w1 (w1.setCell ⟨w.heap.size + 1, 0, none⟩ (.string x)) := (Below.refl _ _).setCell (p := ⟨w.heap.size + 1, 0, none⟩) (by show B ≤ w.heap.size + 1; omega) _
  refine (H2.out _ (HR1.out.other (by omega) 0 _) (HE1.out.step hb1)).mono ?_
  rintro e w2 ⟨rfl, hr2, hk2, hE2⟩
  have HK2 := Lib.hid ((HK1.out.setN (b := w.heap.size + 1) (by omega) hlt 0 (.string x)).trans hk2)
  have B2 := Lib.hid ((B1.out.setOther ⟨w.heap.size + 1, 0, none⟩ (.string x) (by show w.heap.size ≠ w.heap.size + 1; omega)).kp hk2 (by omega))
  have C2 := Lib.hid ((C1.out.put 0 (.string x)).kp hk2 (by omega))
  have HR2 := Lib.hid hr2
  have HE2 := Lib.hid hE2
  have c11 := C2.out.cell 1
  have c21 := C2.out.fz 1
  clear hr2 hk2 hE2 hb1 c10 c20
  go_wp2_with fail
  go_at_call 20
  have hb2 : Below B w2 (w2.setCell ⟨w.heap.size + 1, 1, none⟩ (.int .i64 k)) := (Below.refl _ _).setCell (p := ⟨w.heap.size + 1, 1, none⟩) (by show B ≤ w.heap.size + 1; omega) _
  refine (H3.out _ (HR2.out.other (by omega) 1 _) (HE2.out.step hb2)).mono ?_
  rintro e w3 ⟨rfl, hr3, hk3, hE3⟩
  have HK3 := Lib.hid ((HK2.out.setN (b := w.heap.size + 1) (by omega) hlt 1 (.int .i64 k)).trans hk3)
  have B3 := Lib.hid ((B2.out.setOther ⟨w.heap.size + 1, 1, none⟩ (.int .i64 k) (by show w.heap.size ≠ w.heap.size + 1; omega)).kp hk3 (by omega))
  have C3 := Lib.hid ((C2.out.put 1 (.int .i64 k)).kp hk3 (by omega))
  have HR3 := Lib.hid hr3
  have HE3 := Lib.hid hE3
  have a0 : w3.cell? ⟨w.heap.size + 1, 0, none⟩ = some (.string x) := C3.out.cell 0
  have a1 : w3.cell? ⟨w.heap.size + 1, 1, none⟩ = some (.int .i64 k) := C3.out.cell 1
  have a2 : w3.cell? ⟨w.heap.size + 1, 2, none⟩ = some (.string ⟨#[]⟩) := C3.out.cell 2
  have z2 := C3.out.fz 2
  have b0 := B3.out.cell 0
  have b1 := B3.out.cell 1
  have b2 := B3.out.cell 2
  have y0 := B3.out.fz 0
  have y1 := B3.out.fz 1
  have y2 := B3.out.fz 2
  clear hr3 hk3 hE3 hb2 c11 c21
  go_wp2
  refine endA (b := w.heap.size) (t := 65) (x0 := .string x) (x1 := .int .i64 k) (x2 := .string y) rfl ?_ rfl rfl ?_
  · exact ((((B3.out.setOther ⟨w.heap.size + 1, 2, none⟩ (.string y) (by show w.heap.size ≠ w.heap.size + 1; omega)).put 0 (.string x)).put 1 (.int .i64 k)).put 2 (.string y))
  · exact .mk rfl ((((HR3.out.other (b := w.heap.size + 1) (by omega) 2 _).other (b := w.heap.size) (by omega) 0 _).other (b := w.heap.size) (by omega) 1 _).other (b := w.heap.size) (by omega) 2 _)
      ((((HK3.out.setN (b := w.heap.size + 1) (by omega) hlt 2 _).setN (b := w.heap.size) (by omega) hlt 0 _).setN (b := w.heap.size) (by omega) hlt 1 _).setN (b := w.heap.size) (by omega) hlt 2 _) HE.out hB
theorem argG_size (st : RSt) : (argG st).2.1.size ≤ st.1.size := by
  unfold argG
  exact Nat.le_trans (textG_size _).2 (Nat.le_trans (oneG_size _ _) (textG_size _).2)
theorem arg_any {B rb : Nat} (hB : B ≤ rb) (st : RSt) (hs : st.1.size ≤ 4000000) : RdTo B rb 22 #[pt rb] st (arV (argG st).1) (argG st).2 := by
  have q1 := (textG_size st).2
  have q2 := oneG_size [116, 110, 109] (textG st).2
  exact arg_core hB (text_any hB st hs) (one_any hB [116, 110, 109] (textG st).2 (by omega)) (text_any hB _ (by omega))
end Go.Proofs.YtgdkpamlkpncgabGreatDoor
