/-
  Several texts put together (part 7): what the law and the program call, walked; their contracts.
-/
import Derived.Test.YticjinmpanfhkaaGreatDoorQ6
import Derived.Deep.RegionHeld3
/-
  Package expr: take; what a way of reading gives; number, variable, reference, term, message, quoted.
-/
namespace Go.Proofs.YticjinmpanfhkaaGreatDoor
open Go.RowKit
set_option linter.unusedVariables false
set_option linter.unusedSimpArgs false

/-- What a way of reading gives: an expression, or none; then whatever expression. -/
def Got (rb : Nat) (s : ByteArray) (w : World) (r : Res) (e : Ending) (w' : World) : Prop :=
  Kp rb w w' ∧ ∃ (k : Int) (t n a : ByteArray) (A1 : Option Addr) (n1 c1 : Nat) (p : Option Addr) (A2 : Option Addr) (n2 c2 : Nat) (j : Nat),
    e = .returned (.tuple #[exV k t n a A1 n1 c1 p A2 n2 c2, .bool r.isSome]) ∧ Rd rb s j w' ∧ j ≤ s.size ∧
    ∀ x m, r = some (x, m) → m = j ∧ ExF w' (Since w.heap.size w') x ⟨.int .i64 k, .string t, .string n, .string a, .slice A1 n1 c1, .pointer p, .slice A2 n2 c2⟩
/-- An expression with nothing within. -/
theorem exF_flat (W : World) (F : Nat → Prop) (k : Int) (t n a : ByteArray) : ExF W F (.mk k t n a [] none []) ⟨.int .i64 k, .string t, .string n, .string a, .slice none 0 0, .pointer none, .slice none 0 0⟩ := by
  rw [ExF]
  exact ⟨rfl, rfl, rfl, rfl, LieN.nil _, by simp only [OF], ⟨none, 0, rfl, Nat.le_refl _, Nat.zero_le _, fun h => absurd h (by simp)⟩⟩
theorem isAt_prefix (s : ByteArray) (i : Nat) (c : UInt8) (hi : i ≤ s.size) : Lib.hasPrefix (s.extract i s.size).data.toList [c] = isAt s i c := by
  rw [extract_drop]
  unfold isAt
  by_cases h : i < s.size
  · have hl : i < s.data.toList.length := by rw [size_data]; exact h
    rw [List.drop_eq_getElem_cons hl, decide_eq_true h, Bool.true_and, at0_get _ _ hl]
    unfold Lib.hasPrefix
    rw [List.isPrefixOf, List.isPrefixOf, Bool.and_true, Bool.eq_iff_iff, beq_iff_eq, beq_iff_eq]
    exact eq_comm
  · rw [List.drop_eq_nil_of_le (by rw [size_data]; omega), decide_eq_false h]
    rfl
theorem rds_of {rb : Nat} {s : ByteArray} {i : Nat} {w W : World} (hr : Rd rb s i W) (hk : Kp rb w W) : W.cell? ⟨rb, 0, none⟩ = some (.string s) ∧ W.cell? ⟨rb, 1, none⟩ = some (.int .i64 (i : Nat)) ∧ rb + 1 ≤ W.heap.size ∧ Rd rb s i W ∧ Kp rb w W := ⟨hr.c0, hr.c1, hr.lt, hr, hk⟩
theorem Rd.drew {rb : Nat} {s : ByteArray} {i : Nat} {w : World} (h : Rd rb s i w) : Rd rb s i w.drew := h
theorem rds_later {rb : Nat} {s : ByteArray} {i : Nat} {w W W' : World} (h : W.cell? ⟨rb, 0, none⟩ = some (.string s) ∧ W.cell? ⟨rb, 1, none⟩ = some (.int .i64 (i : Nat)) ∧ rb + 1 ≤ W.heap.size ∧ Rd rb s i W ∧ Kp rb w W) (hb : Below W.heap.size W W') :
    W'.cell? ⟨rb, 0, none⟩ = some (.string s) ∧ W'.cell? ⟨rb, 1, none⟩ = some (.int .i64 (i : Nat)) ∧ rb + 1 ≤ W'.heap.size ∧ Rd rb s i W' ∧ Kp rb w W' :=
  rds_of (h.2.2.2.1.later hb) (h.2.2.2.2.trans (Kp.of_below hb (by have := h.2.2.1; omega)))
set_option maxHeartbeats 2000000 in
set_option maxRecDepth 100000 in
theorem take_any {rb : Nat} {s : ByteArray} {i : Nat} (c : UInt8) (w : World) (hr : Rd rb s i w) (hs : s.size ≤ 4000000) (hi : i ≤ s.size) :
    Calls Tryz.prog 48 #[pt rb, .string ⟨#[c]⟩] w fun e w' => e = .returned (.bool (isAt s i c)) ∧ Rd rb s (if isAt s i c then i + 1 else i) w' ∧ Kp rb w w' := by
  have hx := isAt_prefix s i c hi
  have hp := fun W => Tryz.strings_HasPrefix (s.extract i s.size) ⟨#[c]⟩ W
  rw [hx] at hp
  obtain ⟨b, hb⟩ : ∃ b, isAt s i c = b := ⟨_, rfl⟩
  have Hb := Lib.hid hb
  rw [hb] at hp ⊢
  have HP := Lib.hid hp
  have c0 := hr.c0
  have c1 := hr.c1
  have f0 := hr.f 0
  have f1 := hr.f 1
  have hlt := hr.lt
  have HR := Lib.hid hr
  have hi0 : (i : Int) ≤ 4000000 := by omega
  have hjs : (i : Int) ≤ (s.size : Int) := by omega
  have hss : (s.size : Int) ≤ 4000000 := by omega
  have hi1 : (0 : Int) ≤ (i : Int) := by omega
  clear hx hp hb hr
  unfold pt
  go_enter Tryz.func48, Tryz.ntmps48
  go_wp2_with fail
  go_region_held3 (fun w' => w'.cell? ⟨rb, 0, none⟩ = some (.string s) ∧ w'.cell? ⟨rb, 1, none⟩ = some (.int .i64 (i : Nat)) ∧ rb + 1 ≤ w'.heap.size ∧ Rd rb s i w' ∧ Kp rb w w')
    (first | (exact rds_later (by assumption) (by assumption)) | (exact rds_of HR.out.drew (Kp.refl _ _).drew) | go_keep)
    (first | (go_at_call 72; refine (HP.out _).mono ?_; rintro e w' ⟨rfl, rfl⟩))
  have d1 : w.drew.cell? ⟨rb, 1, none⟩ = some (.int .i64 (i : Nat)) := c1
  have g1 : w.drew.frozen? ⟨rb, 1, none⟩ = false := f1
  cases b
  · go_wp2
    go_ret
    exact ⟨rfl, HR.out.drew, (Kp.refl _ _).drew⟩
  · go_wp2
    go_ret
    exact ⟨rfl, HR.out.drew.set' (by omega), (Kp.refl _ _).drew.setCell 1 _⟩
/-- A function of the reader's, whatever it reads from: what it gives. -/
def WayTo (rb : Nat) (s : ByteArray) (N : FuncId) (args : Array Value) (f : Nat → Res) : Prop :=
  ∀ (i : Nat) (w : World), Rd rb s i w → i ≤ s.size → Calls Tryz.prog N args w (Got rb s w (f i))
theorem ext_empty (s : ByteArray) (i j : Nat) (hij : i ≤ j) (hj : j ≤ s.size) : (s.extract i j).toList.isEmpty = decide (j = i) := by
  rw [Lib.toList_data, Bool.eq_iff_iff, List.isEmpty_iff, decide_eq_true_iff, ← List.length_eq_zero_iff, size_data, ByteArray.size_extract]
  omega
theorem ext_nil (s : ByteArray) (i : Nat) : s.extract i i = E0 := by
  apply ByteArray.ext
  simp [E0]
theorem nm_ok (s : ByteArray) (i : Nat) (hi : i ≤ s.size) : i ≤ nm s i ∧ nm s i ≤ s.size := by
  unfold nm
  split
  · exact ⟨behN_ge _ _ _, by have := behN_le naB s.data.toList i (by rw [size_data]; exact hi); rw [size_data] at this; exact this⟩
  · exact ⟨Nat.le_refl _, hi⟩
theorem nameI_nm (s : ByteArray) (i : Nat) : nameI s.data.toList (i : Int) = (nm s i : Int) := by
  unfold nameI nm behI at0
  rw [Int.toNat_natCast, size_data]
  by_cases h : i < s.size ∧ leB (s.data.toList.getD i 0) = true
  · rw [if_pos h, if_pos ⟨by omega, by omega, h.2⟩, if_neg (by omega)]
  · rw [if_neg h, if_neg (fun x => h ⟨by omega, x.2.2⟩)]
theorem numN_ok (l : List UInt8) (i : Nat) (hi : i ≤ l.length) : i ≤ numN l i ∧ numN l i ≤ l.length := by
  have h := long_num l i hi
  rw [← h]
  have : ∀ k, k ≤ l.length → i ≤ longN lnumB l i k ∧ longN lnumB l i k ≤ l.length := by
    intro k
    induction k with
    | zero => intro _; exact ⟨Nat.le_refl _, hi⟩
    | succ k ih =>
      intro hk
      unfold longN
      split
      · next h => exact ⟨Nat.le_of_lt h.1, hk⟩
      · exact ih (by omega)
  exact this _ (Nat.le_refl _)
theorem nu_ok (s : ByteArray) (i : Nat) (hi : i ≤ s.size) : i ≤ nu s i ∧ nu s i ≤ s.size := by
  have := numN_ok s.data.toList i (by rw [size_data]; exact hi)
  rw [size_data] at this
  exact this
theorem endName {s : ByteArray} : EndFn 110 nm s := ⟨fun args w => by go_simp, fun i w hs hi => ⟨(nm_ok s i hi).1, (nm_ok s i hi).2, by
  rw [← nameI_nm]
  exact (name_any s i w (by omega)).mono (by rintro e w' ⟨rfl, rfl⟩; exact ⟨rfl, Below.refl _ _⟩)⟩⟩
theorem endNumber {s : ByteArray} : EndFn 111 nu s := ⟨fun args w => by go_simp, fun i w hs hi => ⟨(nu_ok s i hi).1, (nu_ok s i hi).2, by
  have := number_any s i w (by omega)
  rw [numI_nat] at this
  exact this⟩⟩
theorem endBlank {s : ByteArray} : EndFn 50 bl s := ⟨fun args w => by go_simp, fun i w hs hi => ⟨behN_ge _ _ _, by have := behN_le blB s.data.toList i (by rw [size_data]; exact hi); rw [size_data] at this; exact this, by
  have := blank_any s i w (by omega)
  unfold behI at this
  rw [if_neg (by omega), Int.toNat_natCast] at this
  exact this.mono (by rintro e w' ⟨rfl, rfl⟩; exact ⟨rfl, Below.refl _ _⟩)⟩⟩
theorem endSpaces {s : ByteArray} : EndFn 62 sp s := ⟨fun args w => by go_simp, fun i w hs hi => ⟨behN_ge _ _ _, by have := behN_le spB s.data.toList i (by rw [size_data]; exact hi); rw [size_data] at this; exact this, by
  have := spaces_any s i w (by omega)
  unfold behI at this
  rw [if_neg (by omega), Int.toNat_natCast] at this
  exact this.mono (by rintro e w' ⟨rfl, rfl⟩; exact ⟨rfl, Below.refl _ _⟩)⟩⟩
end Go.Proofs.YticjinmpanfhkaaGreatDoor

/-
  Package expr: number, variable, reference, term, message, quoted.
-/
namespace Go.Proofs.YticjinmpanfhkaaGreatDoor
open Go.RowKit
set_option linter.unusedVariables false
set_option linter.unusedSimpArgs false

theorem cells7 {w : World} {k : Nat} {x0 x1 x2 x3 x4 x5 x6 : Value} {t : TypeId} (h : BoxAt w k #[x0, x1, x2, x3, x4, x5, x6] t) :
    w.cell? ⟨k, 0, none⟩ = some x0 ∧ w.cell? ⟨k, 1, none⟩ = some x1 ∧ w.cell? ⟨k, 2, none⟩ = some x2 ∧ w.cell? ⟨k, 3, none⟩ = some x3 ∧ w.cell? ⟨k, 4, none⟩ = some x4 ∧ w.cell? ⟨k, 5, none⟩ = some x5 ∧ w.cell? ⟨k, 6, none⟩ = some x6 ∧
    w.frozen? ⟨k, 0, none⟩ = false ∧ w.frozen? ⟨k, 1, none⟩ = false ∧ w.frozen? ⟨k, 2, none⟩ = false ∧ w.frozen? ⟨k, 3, none⟩ = false ∧ w.frozen? ⟨k, 4, none⟩ = false ∧ w.frozen? ⟨k, 5, none⟩ = false ∧ w.frozen? ⟨k, 6, none⟩ = false :=
  ⟨h.cell 0, h.cell 1, h.cell 2, h.cell 3, h.cell 4, h.cell 5, h.cell 6, Lib.frozen_of_heap h 0, Lib.frozen_of_heap h 1, Lib.frozen_of_heap h 2, Lib.frozen_of_heap h 3, Lib.frozen_of_heap h 4, Lib.frozen_of_heap h 5, Lib.frozen_of_heap h 6⟩
theorem Kp.setNew {rb : Nat} {a w : World} (h : Kp rb a w) {b : Nat} (hb : a.heap.size ≤ b) (hr : rb < a.heap.size) (o : Nat) (v : Value) : Kp rb a (w.setCell ⟨b, o, none⟩ v) :=
  ⟨h.below.setCell (p := ⟨b, o, none⟩) (by show rb ≤ b; omega) v, fun k hk hn => (Below.heap_setCell w ⟨b, o, none⟩ v k (by show k ≠ b; omega)).trans (h.others k hk hn)⟩
theorem Rd.setOther {rb : Nat} {s : ByteArray} {i : Nat} {w : World} (h : Rd rb s i w) {b : Nat} (hb : rb ≠ b) (o : Nat) (v : Value) : Rd rb s i (w.setCell ⟨b, o, none⟩ v) := BoxAt.setOther h ⟨b, o, none⟩ v hb
/-- The result's cell is written. -/
def set7 (w : World) (b : Nat) (x0 x1 x2 x3 x4 x5 x6 : Value) : World := ((((((w.setCell ⟨b, 0, none⟩ x0).setCell ⟨b, 1, none⟩ x1).setCell ⟨b, 2, none⟩ x2).setCell ⟨b, 3, none⟩ x3).setCell ⟨b, 4, none⟩ x4).setCell ⟨b, 5, none⟩ x5).setCell ⟨b, 6, none⟩ x6
theorem set7_heap (w : World) (b : Nat) (x0 x1 x2 x3 x4 x5 x6 : Value) (k : Nat) (hk : k ≠ b) : (set7 w b x0 x1 x2 x3 x4 x5 x6).heap[k]? = w.heap[k]? := by
  unfold set7
  rw [Below.heap_setCell _ _ _ k hk, Below.heap_setCell _ _ _ k hk, Below.heap_setCell _ _ _ k hk, Below.heap_setCell _ _ _ k hk, Below.heap_setCell _ _ _ k hk, Below.heap_setCell _ _ _ k hk, Below.heap_setCell _ _ _ k hk]
theorem set7_size (w : World) (b : Nat) (x0 x1 x2 x3 x4 x5 x6 : Value) : (set7 w b x0 x1 x2 x3 x4 x5 x6).heap.size = w.heap.size := by
  unfold set7; simp
theorem Kp.set7 {rb : Nat} {a w : World} (h : Kp rb a w) {b : Nat} (hb : a.heap.size ≤ b) (hr : rb < a.heap.size) (x0 x1 x2 x3 x4 x5 x6 : Value) : Kp rb a (set7 w b x0 x1 x2 x3 x4 x5 x6) :=
  ((((((h.setNew hb hr 0 x0).setNew hb hr 1 x1).setNew hb hr 2 x2).setNew hb hr 3 x3).setNew hb hr 4 x4).setNew hb hr 5 x5).setNew hb hr 6 x6
theorem Rd.set7 {rb : Nat} {s : ByteArray} {i : Nat} {w : World} (h : Rd rb s i w) {b : Nat} (hb : rb ≠ b) (x0 x1 x2 x3 x4 x5 x6 : Value) : Rd rb s i (set7 w b x0 x1 x2 x3 x4 x5 x6) :=
  ((((((h.setOther hb 0 x0).setOther hb 1 x1).setOther hb 2 x2).setOther hb 3 x3).setOther hb 4 x4).setOther hb 5 x5).setOther hb 6 x6
/-- How a way of reading ends: the result's cell, at block b, is written. -/
theorem got_fin {rb : Nat} {s : ByteArray} {w w1 : World} {r : Res} {b : Nat} {k : Int} {t n a : ByteArray} {A1 : Option Addr} {n1 c1 : Nat} {p : Option Addr} {A2 : Option Addr} {n2 c2 : Nat} {j : Nat} {ok : Bool} {x0 x1 x2 x3 x4 x5 x6 : Value}
    (hK : Kp rb w w1) (hb : w.heap.size ≤ b) (hlt : rb < w.heap.size) (hR : Rd rb s j w1) (hj : j ≤ s.size) (hok : ok = r.isSome)
    (hx : ∀ x m, r = some (x, m) → m = j ∧ ExF w1 (fun q => Since w.heap.size w1 q ∧ q ≠ b) x ⟨.int .i64 k, .string t, .string n, .string a, .slice A1 n1 c1, .pointer p, .slice A2 n2 c2⟩) :
    Got rb s w r (.returned (.tuple #[exV k t n a A1 n1 c1 p A2 n2 c2, .bool ok])) (set7 w1 b x0 x1 x2 x3 x4 x5 x6) := by
  refine ⟨hK.set7 hb hlt _ _ _ _ _ _ _, k, t, n, a, A1, n1, c1, p, A2, n2, c2, j, by rw [hok], hR.set7 (by omega) _ _ _ _ _ _ _, hj, fun x m h => ?_⟩
  obtain ⟨h1, h2⟩ := hx x m h
  refine ⟨h1, ExF.carry (fun q hq => ⟨?_, set7_heap _ _ _ _ _ _ _ _ _ q hq.2⟩) _ _ h2⟩
  obtain ⟨⟨ha, hb⟩, _⟩ := hq
  exact ⟨ha, by rw [set7_size]; exact hb⟩
theorem box_set7 {w : World} {E : Nat} {x0 x1 x2 x3 x4 x5 x6 : Value} {t : TypeId} (h : BoxAt w E #[x0, x1, x2, x3, x4, x5, x6] t) (y0 y1 y2 y3 y4 y5 y6 : Value) :
    BoxAt (set7 w E y0 y1 y2 y3 y4 y5 y6) E #[y0, y1, y2, y3, y4, y5, y6] t := by
  unfold set7
  unfold BoxAt at h ⊢
  simp [World.setCell, Array.getElem?_modify, h]
set_option maxRecDepth 100000 in
theorem res7 {fn : Func} {A M : Nat} {tmps : Array Value} {w : World} {b : Nat} {x0 x1 x2 x3 x4 x5 x6 v : Value} {t : TypeId} (hres : fn.results = #[.cell A 29, .tmp M]) (ha : tmps.getD A undef = .pointer (some ⟨b, 0, none⟩)) (hm : tmps.getD M undef = v)
    (hb : BoxAt w b #[x0, x1, x2, x3, x4, x5, x6] t) : (results fn tmps).run Tryz.prog w = .ok (.tuple #[.agg #[x0, x1, x2, x3, x4, x5, x6], v]) w := by
  obtain ⟨q0, q1, q2, q3, q4, q5, q6, _⟩ := cells7 hb
  have ha' : tmps[A]?.getD undef = .pointer (some ⟨b, 0, none⟩) := by rw [← ha]; simp
  have hm' : tmps[M]?.getD undef = v := by rw [← hm]; simp
  simp [results, hres, ha', hm', go_sem, q0, q1, q2, q3, q4, q5, q6]
/-- A call ends whose result's cell, at block b, was written. -/
theorem end7 {fn : Func} {R : Ending → World → Prop} {a : Act} {w1 w2 : World} {A M b : Nat} {x0 x1 x2 x3 x4 x5 x6 y0 y1 y2 y3 y4 y5 y6 v : Value} {t : TypeId} (hres : fn.results = #[.cell A 29, .tmp M]) (hbox : BoxAt w1 b #[y0, y1, y2, y3, y4, y5, y6] t)
    (hw : w2 = set7 w1 b x0 x1 x2 x3 x4 x5 x6) (ha : a.tmps.getD A undef = .pointer (some ⟨b, 0, none⟩)) (hm : a.tmps.getD M undef = v) (hd : a.defers = []) (hR : R (.returned (.tuple #[.agg #[x0, x1, x2, x3, x4, x5, x6], v])) (set7 w1 b x0 x1 x2 x3 x4 x5 x6)) : bodyPost Tryz.prog fn R .ret a w2 := by
  subst hw
  exact bodyPost_ret (res7 hres ha hm (box_set7 hbox x0 x1 x2 x3 x4 x5 x6)) hd hR
theorem end7w {fn : Func} {R : Ending → World → Prop} {a : Act} {w2 : World} {A M b : Nat} {x0 x1 x2 x3 x4 x5 x6 v : Value} {t : TypeId} (hres : fn.results = #[.cell A 29, .tmp M]) (hbox : BoxAt w2 b #[x0, x1, x2, x3, x4, x5, x6] t)
    (ha : a.tmps.getD A undef = .pointer (some ⟨b, 0, none⟩)) (hm : a.tmps.getD M undef = v) (hd : a.defers = []) (hR : R (.returned (.tuple #[.agg #[x0, x1, x2, x3, x4, x5, x6], v])) w2) : bodyPost Tryz.prog fn R .ret a w2 :=
  bodyPost_ret (res7 hres ha hm hbox) hd hR
theorem got_end {rb : Nat} {s : ByteArray} {w w2 : World} {r : Res} {k : Int} {t n a : ByteArray} {A1 : Option Addr} {n1 c1 : Nat} {p : Option Addr} {A2 : Option Addr} {n2 c2 : Nat} {j : Nat} {ok : Bool}
    (hK : Kp rb w w2) (hR : Rd rb s j w2) (hj : j ≤ s.size) (hok : ok = r.isSome)
    (hx : ∀ x m, r = some (x, m) → m = j ∧ ExF w2 (Since w.heap.size w2) x ⟨.int .i64 k, .string t, .string n, .string a, .slice A1 n1 c1, .pointer p, .slice A2 n2 c2⟩) :
    Got rb s w r (.returned (.tuple #[exV k t n a A1 n1 c1 p A2 n2 c2, .bool ok])) w2 :=
  ⟨hK, k, t, n, a, A1, n1, c1, p, A2, n2, c2, j, by rw [hok], hR, hj, hx⟩
theorem BoxAt.drew {w : World} {k : Nat} {cs : Array Value} {t : TypeId} (h : BoxAt w k cs t) : BoxAt w.drew k cs t := h
set_option maxHeartbeats 2000000 in
set_option maxRecDepth 100000 in
theorem number_way {rb : Nat} {s : ByteArray} (hs : s.size ≤ 4000000) : WayTo rb s 107 #[pt rb] (nubS s) := by
  intro i w hr hi
  have hn := nu_ok s i hi
  have he := ext_empty s i (nu s i) hn.1 hn.2
  have hP := fun W (h : Rd rb s i W) => pass_any endNumber W h hs hi
  unfold nubS
  obtain ⟨j, hj⟩ : ∃ j, nu s i = j := ⟨_, rfl⟩
  rw [hj] at hn he hP ⊢
  have HP := Lib.hid hP
  have HR := Lib.hid hr
  have hlt := hr.lt
  obtain ⟨X, hX⟩ : ∃ X, s.extract i j = X := ⟨_, rfl⟩
  rw [hX] at he HP ⊢
  have HE := Lib.hid he
  have HX := Lib.hid hX
  clear hj hP hr he hX
  unfold pt at HP ⊢
  by_cases hji : j = i
  · have hx : X.toList.isEmpty = true := by rw [HE.out, decide_eq_true hji]
    rw [if_pos hji]
    go_enter Tryz.func107, Tryz.ntmps107
    go_wp2_with fail
    go_at_call 49
    refine (HP.out _ (HR.out.alloc _)).mono ?_
    rintro e w1 ⟨rfl, h1, h2⟩
    have H1 := Lib.hid h1
    have HK := Lib.hid (((Kp.refl rb w).alloc (Nat.le_of_lt hlt) _).trans h2)
    have hc := BoxAt.kp (BoxAt.new w #[.int .i64 0, .string ⟨#[]⟩, .string ⟨#[]⟩, .string ⟨#[]⟩, .slice none 0 0, .pointer none, .slice none 0 0] 29) h2 (by omega)
    have hl := hc.lt
    have HC := Lib.hid hc
    have q := cells7 hc
    obtain ⟨q0, q1, q2, q3, q4, q5, q6, p0, p1, p2, p3, p4, p5, p6⟩ := q
    clear h1 h2 hc
    go_wp2
    exact end7 Tryz.results107 HC.out rfl rfl rfl rfl (got_fin (b := w.heap.size) HK.out (Nat.le_refl _) hlt H1.out hn.2 rfl (fun x m h => by cases h))
  · have hx : X.toList.isEmpty = false := by rw [HE.out, decide_eq_false hji]
    rw [if_neg hji]
    go_enter Tryz.func107, Tryz.ntmps107
    go_wp2_with fail
    go_at_call 49
    refine (HP.out _ (HR.out.alloc _)).mono ?_
    rintro e w1 ⟨rfl, h1, h2⟩
    have H1 := Lib.hid h1
    have HK := Lib.hid (((Kp.refl rb w).alloc (Nat.le_of_lt hlt) _).trans h2)
    have hc := BoxAt.kp (BoxAt.new w #[.int .i64 0, .string ⟨#[]⟩, .string ⟨#[]⟩, .string ⟨#[]⟩, .slice none 0 0, .pointer none, .slice none 0 0] 29) h2 (by omega)
    have hl := hc.lt
    have HC := Lib.hid hc
    have q := cells7 hc
    obtain ⟨q0, q1, q2, q3, q4, q5, q6, p0, p1, p2, p3, p4, p5, p6⟩ := q
    clear h1 h2 hc
    go_wp2
    exact end7 Tryz.results107 HC.out rfl rfl rfl rfl (got_fin (b := w.heap.size) HK.out (Nat.le_refl _) hlt H1.out hn.2 rfl (fun x m h => by cases h; exact ⟨rfl, exF_flat _ _ _ _ _ _⟩))
end Go.Proofs.YticjinmpanfhkaaGreatDoor
