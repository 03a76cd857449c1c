/-
  Package script: an argument's value; the law's own.
-/
import Derived.Test.YtgdkpamlkpncgabGreatDoorSwg
import Derived.Test.YtgdkpamlkpncgabGreatDoorVab
import Derived.Test.YtgdkpamlkpncgabGreatDoorPbv
namespace Go.Proofs.YtgdkpamlkpncgabGreatDoor
open Go.RowKit
set_option linter.unusedVariables false
set_option linter.unusedSimpArgs false

abbrev zV : Array Value := #[.int .i64 0, .string ⟨#[]⟩, .bool false, .string ⟨#[]⟩, .int .i64 0, .int .i64 0, .int .i64 0, .int .i64 0, .bool false, .bool false, .int .i64 0, .int .i64 0]
def strC (x : ByteArray) : Array Value := #[.int .i64 0, .string x, .bool false, .string ⟨#[]⟩, .int .i64 0, .int .i64 0, .int .i64 0, .int .i64 0, .bool false, .bool false, .int .i64 0, .int .i64 0]
def atC (s : Int) : Array Value := #[.int .i64 2, .string ⟨#[]⟩, .bool false, .string ⟨#[]⟩, .int .i64 0, .int .i64 0, .int .i64 0, .int .i64 0, .bool false, .bool false, .int .i64 s, .int .i64 0]
def numC (n : Bool) (s : ByteArray) (k : Int) : Array Value := #[.int .i64 1, .string ⟨#[]⟩, .bool n, .string s, .int .i64 k, .int .i64 1, .int .i64 0, .int .i64 3, .bool false, .bool false, .int .i64 0, .int .i64 0]
theorem cellsV {w : World} {k : Nat} {x0 x1 x2 x3 x4 x5 x6 x7 x8 x9 x10 x11 : Value} {t : TypeId} (h : BoxAt w k #[x0, x1, x2, x3, x4, x5, x6, x7, x8, x9, x10, x11] t) :
    w.cell? ⟨k, 0, none⟩ = some x0 ∧ w.cell? ⟨k, 1, none⟩ = some x1 ∧ w.cell? ⟨k, 2, none⟩ = some x2 ∧ w.cell? ⟨k, 3, none⟩ = some x3 ∧ w.cell? ⟨k, 4, none⟩ = some x4 ∧ w.cell? ⟨k, 5, none⟩ = some x5 ∧ w.cell? ⟨k, 6, none⟩ = some x6 ∧ w.cell? ⟨k, 7, none⟩ = some x7 ∧ w.cell? ⟨k, 8, none⟩ = some x8 ∧ w.cell? ⟨k, 9, none⟩ = some x9 ∧ w.cell? ⟨k, 10, none⟩ = some x10 ∧ w.cell? ⟨k, 11, none⟩ = some x11 ∧
    w.frozen? ⟨k, 0, none⟩ = false ∧ w.frozen? ⟨k, 1, none⟩ = false ∧ w.frozen? ⟨k, 2, none⟩ = false ∧ w.frozen? ⟨k, 3, none⟩ = false ∧ w.frozen? ⟨k, 4, none⟩ = false ∧ w.frozen? ⟨k, 5, none⟩ = false ∧ w.frozen? ⟨k, 6, none⟩ = false ∧ w.frozen? ⟨k, 7, none⟩ = false ∧ w.frozen? ⟨k, 8, none⟩ = false ∧ w.frozen? ⟨k, 9, none⟩ = false ∧ w.frozen? ⟨k, 10, none⟩ = false ∧ w.frozen? ⟨k, 11, none⟩ = false :=
  ⟨h.cell 0, h.cell 1, h.cell 2, h.cell 3, h.cell 4, h.cell 5, h.cell 6, h.cell 7, h.cell 8, h.cell 9, h.cell 10, h.cell 11, h.fz 0, h.fz 1, h.fz 2, h.fz 3, h.fz 4, h.fz 5, h.fz 6, h.fz 7, h.fz 8, h.fz 9, h.fz 10, h.fz 11⟩
def setV (w : World) (b : Nat) (x0 x1 x2 x3 x4 x5 x6 x7 x8 x9 x10 x11 : Value) : World :=
  ((((((((((((w.setCell ⟨b, 0, none⟩ x0).setCell ⟨b, 1, none⟩ x1).setCell ⟨b, 2, none⟩ x2).setCell ⟨b, 3, none⟩ x3).setCell ⟨b, 4, none⟩ x4).setCell ⟨b, 5, none⟩ x5).setCell ⟨b, 6, none⟩ x6).setCell ⟨b, 7, none⟩ x7).setCell ⟨b, 8, none⟩ x8).setCell ⟨b, 9, none⟩ x9).setCell ⟨b, 10, none⟩ x10).setCell ⟨b, 11, none⟩ x11)
theorem box_setV {w : World} {E : Nat} {x0 x1 x2 x3 x4 x5 x6 x7 x8 x9 x10 x11 : Value} {t : TypeId} (h : BoxAt w E #[x0, x1, x2, x3, x4, x5, x6, x7, x8, x9, x10, x11] t) (y0 y1 y2 y3 y4 y5 y6 y7 y8 y9 y10 y11 : Value) :
    BoxAt (setV w E y0 y1 y2 y3 y4 y5 y6 y7 y8 y9 y10 y11) E #[y0, y1, y2, y3, y4, y5, y6, y7, y8, y9, y10, y11] t := by
  unfold setV
  unfold BoxAt at h ⊢
  simp [World.setCell, Array.getElem?_modify, h]
theorem resV {fn : Func} {A M : Nat} {tmps : Array Value} {w : World} {b : Nat} {x0 x1 x2 x3 x4 x5 x6 x7 x8 x9 x10 x11 v : Value} {t : TypeId} (hres : fn.results = #[.cell A 120, .tmp M]) (ha : tmps.getD A undef = .pointer (some ⟨b, 0, none⟩)) (hm : tmps.getD M undef = v)
    (hb : BoxAt w b #[x0, x1, x2, x3, x4, x5, x6, x7, x8, x9, x10, x11] t) : (results fn tmps).run Tryz.prog w = .ok (.tuple #[.agg #[x0, x1, x2, x3, x4, x5, x6, x7, x8, x9, x10, x11], v]) w := by
  obtain ⟨q0, q1, q2, q3, q4, q5, q6, q7, q8, q9, q10, q11, _⟩ := cellsV hb
  have ha' : tmps[A]?.getD undef = .pointer (some ⟨b, 0, none⟩) := by rw [← ha]; simp
  have hm' : tmps[M]?.getD undef = v := by rw [← hm]; simp
  simp [results, hres, ha', hm', go_sem, q0, q1, q2, q3, q4, q5, q6, q7, q8, q9, q10, q11]
theorem endV {fn : Func} {R : Ending → World → Prop} {a : Act} {w2 : World} {A M b : Nat} {x0 x1 x2 x3 x4 x5 x6 x7 x8 x9 x10 x11 v : Value} {t : TypeId} (hres : fn.results = #[.cell A 120, .tmp M]) (hbox : BoxAt w2 b #[x0, x1, x2, x3, x4, x5, x6, x7, x8, x9, x10, x11] t)
    (ha : a.tmps.getD A undef = .pointer (some ⟨b, 0, none⟩)) (hm : a.tmps.getD M undef = v) (hd : a.defers = []) (hR : R (.returned (.tuple #[.agg #[x0, x1, x2, x3, x4, x5, x6, x7, x8, x9, x10, x11], v])) w2) : bodyPost Tryz.prog fn R .ret a w2 :=
  bodyPost_ret (resV hres ha hm hbox) hd hR
/-- An argument's value. -/
def valC (a : SA) : Array Value :=
  if a.kind = 0 then strC a.text
  else if a.kind = 1 then (match parseL a.text.data.toList with | some (n, d, k) => numC n ⟨d.toArray⟩ k | none => zV)
  else if a.kind = 2 then (match wholeS a.text.data.toList (-9007199254740992) 9007199254740992 with | some v => atC v | none => zV)
  else zV
def ValTo (N : FuncId) (a : SA) (cs : Array Value) (b : Bool) : Prop := ∀ w, Env w → Calls Tryz.prog N #[.agg #[.string a.name, .int .i64 a.kind, .string a.text]] w fun e w' => e = .returned (.tuple #[.agg cs, .bool b]) ∧ Below w.heap.size w w'
def DecTo (N : FuncId) (x : ByteArray) (n : Bool) (s : ByteArray) (k : Int) (b : Bool) : Prop := ∀ w, Env w → Calls Tryz.prog N #[.string x] w fun e w' => e = .returned (.tuple #[.agg #[.bool n, .string s, .int .i64 k], .bool b]) ∧ Below w.heap.size w w'
def MomTo (N : FuncId) (args : ByteArray → Array Value) (x : ByteArray) (v : Int) (b : Bool) : Prop := ∀ w, Env w → Calls Tryz.prog N (args x) w fun e w' => e = .returned (.tuple #[.int .i64 v, .bool b]) ∧ Below w.heap.size w w'
theorem StrTo (x : ByteArray) (w : World) : Calls Tryz.prog 45 #[.string x] w fun e w' => e = .returned (.agg (strC x)) ∧ Below w.heap.size w w' := str_any x w
--GEN

set_option maxHeartbeats 4000000 in
set_option maxRecDepth 100000 in
theorem vstr {a : SA} (hk : a.kind = 0) : ValTo 33 a (strC a.text) true := fun w hE => by
  obtain ⟨nm, kd, tx⟩ := a
  dsimp only at *
  have HE := Lib.hid ((hE.below ((Below.refl _ _).alloc (Nat.le_refl _) (.cells #[.string nm, .int .i64 kd, .string tx] 65))).below ((Below.refl _ _).alloc (Nat.le_refl _) (.cells zV 120)))
  have C0 := Lib.hid ((BoxAt.new w #[.string nm, .int .i64 kd, .string tx] 65).alloc (.cells zV 120))
  have B0 := Lib.hid (BoxAt.new' (w.alloc (.cells #[.string nm, .int .i64 kd, .string tx] 65)) (w.heap.size + 1) zV 120 (by simp))
  have K0 := Lib.hid (((Below.refl w.heap.size w).alloc (Nat.le_refl _) (.cells #[.string nm, .int .i64 kd, .string tx] 65)).alloc (by simp) (.cells zV 120))
  clear hE
  subst hk
  go_enter Tryz.func33, Tryz.ntmps33
  go_wp2_with fail
  go_at_call 45
  refine (StrTo _ _).mono ?_
  unfold strC
  rintro e w1 ⟨rfl, hb⟩
  have B := Lib.hid (B0.out.later hb)
  have K := Lib.hid (K0.out.trans (hb.mono (by simp; omega)))
  clear hb
  obtain ⟨c0, c1, c2, c3, c4, c5, c6, c7, c8, c9, c10, c11, f0, f1, f2, f3, f4, f5, f6, f7, f8, f9, f10, f11⟩ := cellsV B.out
  have hl := B.out.lt
  go_wp2
  refine endV (b := w.heap.size + 1) (t := 120) rfl (box_setV B.out _ _ _ _ _ _ _ _ _ _ _ _) rfl rfl rfl ⟨rfl, ?_⟩
  exact below12 K.out (by omega) _ _ _ _ _ _ _ _ _ _ _ _

set_option maxHeartbeats 4000000 in
set_option maxRecDepth 100000 in
theorem vnum {a : SA} {n : Bool} {s : ByteArray} {k : Int} (hk : a.kind = 1) (hp : DecTo 46 a.text n s k true) : ValTo 33 a (numC n s k) true := fun w hE => by
  obtain ⟨nm, kd, tx⟩ := a
  dsimp only at *
  have HE := Lib.hid ((hE.below ((Below.refl _ _).alloc (Nat.le_refl _) (.cells #[.string nm, .int .i64 kd, .string tx] 65))).below ((Below.refl _ _).alloc (Nat.le_refl _) (.cells zV 120)))
  have C0 := Lib.hid ((BoxAt.new w #[.string nm, .int .i64 kd, .string tx] 65).alloc (.cells zV 120))
  have B0 := Lib.hid (BoxAt.new' (w.alloc (.cells #[.string nm, .int .i64 kd, .string tx] 65)) (w.heap.size + 1) zV 120 (by simp))
  have K0 := Lib.hid (((Below.refl w.heap.size w).alloc (Nat.le_refl _) (.cells #[.string nm, .int .i64 kd, .string tx] 65)).alloc (by simp) (.cells zV 120))
  clear hE
  subst hk
  have HP := Lib.hid hp
  clear hp
  go_enter Tryz.func33, Tryz.ntmps33
  go_wp2_with fail
  go_at_call 46
  refine (HP.out _ HE.out).mono ?_
  rintro e w1 ⟨rfl, hb⟩
  have B1 := Lib.hid (B0.out.later hb)
  have K1 := Lib.hid (K0.out.trans (hb.mono (by simp; omega)))
  clear hb
  go_wp2_with fail
  go_at_call 47
  refine (num_any n s k _).mono ?_
  rintro e w2 ⟨rfl, hb⟩
  have B := Lib.hid ((B1.out.alloc (.cells #[.bool n, .string s, .int .i64 k] 115)).later hb)
  have K := Lib.hid ((K1.out.alloc K1.out.size (.cells #[.bool n, .string s, .int .i64 k] 115)).trans (hb.mono (by have := K1.out.size; simp; omega)))
  clear hb
  obtain ⟨c0, c1, c2, c3, c4, c5, c6, c7, c8, c9, c10, c11, f0, f1, f2, f3, f4, f5, f6, f7, f8, f9, f10, f11⟩ := cellsV B.out
  have hl := B.out.lt
  go_wp2
  refine endV (b := w.heap.size + 1) (t := 120) rfl (box_setV B.out _ _ _ _ _ _ _ _ _ _ _ _) rfl rfl rfl ⟨rfl, ?_⟩
  exact below12 K.out (by omega) _ _ _ _ _ _ _ _ _ _ _ _

set_option maxHeartbeats 4000000 in
set_option maxRecDepth 100000 in
theorem vnonum {a : SA} {n : Bool} {s : ByteArray} {k : Int} (hk : a.kind = 1) (hp : DecTo 46 a.text n s k false) : ValTo 33 a zV false := fun w hE => by
  obtain ⟨nm, kd, tx⟩ := a
  dsimp only at *
  have HE := Lib.hid ((hE.below ((Below.refl _ _).alloc (Nat.le_refl _) (.cells #[.string nm, .int .i64 kd, .string tx] 65))).below ((Below.refl _ _).alloc (Nat.le_refl _) (.cells zV 120)))
  have C0 := Lib.hid ((BoxAt.new w #[.string nm, .int .i64 kd, .string tx] 65).alloc (.cells zV 120))
  have B0 := Lib.hid (BoxAt.new' (w.alloc (.cells #[.string nm, .int .i64 kd, .string tx] 65)) (w.heap.size + 1) zV 120 (by simp))
  have K0 := Lib.hid (((Below.refl w.heap.size w).alloc (Nat.le_refl _) (.cells #[.string nm, .int .i64 kd, .string tx] 65)).alloc (by simp) (.cells zV 120))
  clear hE
  subst hk
  have HP := Lib.hid hp
  clear hp
  go_enter Tryz.func33, Tryz.ntmps33
  go_wp2_with fail
  go_at_call 46
  refine (HP.out _ HE.out).mono ?_
  rintro e w1 ⟨rfl, hb⟩
  have B1 := Lib.hid (B0.out.later hb)
  have K1 := Lib.hid (K0.out.trans (hb.mono (by simp; omega)))
  clear hb
  have B := Lib.hid (B1.out.alloc (.cells #[.bool n, .string s, .int .i64 k] 115))
  have K := Lib.hid (K1.out.alloc K1.out.size (.cells #[.bool n, .string s, .int .i64 k] 115))
  obtain ⟨c0, c1, c2, c3, c4, c5, c6, c7, c8, c9, c10, c11, f0, f1, f2, f3, f4, f5, f6, f7, f8, f9, f10, f11⟩ := cellsV B.out
  have hl := B.out.lt
  go_wp2
  refine endV (b := w.heap.size + 1) (t := 120) rfl (box_setV B.out _ _ _ _ _ _ _ _ _ _ _ _) rfl rfl rfl ⟨rfl, ?_⟩
  exact below12 K.out (by omega) _ _ _ _ _ _ _ _ _ _ _ _

set_option maxHeartbeats 4000000 in
set_option maxRecDepth 100000 in
theorem vmom {a : SA} {v : Int} (hk : a.kind = 2) (hp : MomTo 44 (fun x => #[.string x, .int .i64 (-9007199254740992), .int .i64 9007199254740992]) a.text v true) : ValTo 33 a (atC v) true := fun w hE => by
  obtain ⟨nm, kd, tx⟩ := a
  dsimp only at *
  have HE := Lib.hid ((hE.below ((Below.refl _ _).alloc (Nat.le_refl _) (.cells #[.string nm, .int .i64 kd, .string tx] 65))).below ((Below.refl _ _).alloc (Nat.le_refl _) (.cells zV 120)))
  have C0 := Lib.hid ((BoxAt.new w #[.string nm, .int .i64 kd, .string tx] 65).alloc (.cells zV 120))
  have B0 := Lib.hid (BoxAt.new' (w.alloc (.cells #[.string nm, .int .i64 kd, .string tx] 65)) (w.heap.size + 1) zV 120 (by simp))
  have K0 := Lib.hid (((Below.refl w.heap.size w).alloc (Nat.le_refl _) (.cells #[.string nm, .int .i64 kd, .string tx] 65)).alloc (by simp) (.cells zV 120))
  clear hE
  subst hk
  have HP := Lib.hid hp
  clear hp
  go_enter Tryz.func33, Tryz.ntmps33
  go_wp2_with fail
  go_at_call 44
  refine (HP.out _ HE.out).mono ?_
  rintro e w1 ⟨rfl, hb⟩
  have B1 := Lib.hid (B0.out.later hb)
  have K1 := Lib.hid (K0.out.trans (hb.mono (by simp; omega)))
  clear hb
  go_wp2_with fail
  go_at_call 48
  refine (at_any v _).mono ?_
  rintro e w2 ⟨rfl, hb⟩
  have B := Lib.hid (B1.out.later hb)
  have K := Lib.hid (K1.out.trans (hb.mono K1.out.size))
  clear hb
  obtain ⟨c0, c1, c2, c3, c4, c5, c6, c7, c8, c9, c10, c11, f0, f1, f2, f3, f4, f5, f6, f7, f8, f9, f10, f11⟩ := cellsV B.out
  have hl := B.out.lt
  go_wp2
  refine endV (b := w.heap.size + 1) (t := 120) rfl (box_setV B.out _ _ _ _ _ _ _ _ _ _ _ _) rfl rfl rfl ⟨rfl, ?_⟩
  exact below12 K.out (by omega) _ _ _ _ _ _ _ _ _ _ _ _

set_option maxHeartbeats 4000000 in
set_option maxRecDepth 100000 in
theorem vnomom {a : SA} {v : Int} (hk : a.kind = 2) (hp : MomTo 44 (fun x => #[.string x, .int .i64 (-9007199254740992), .int .i64 9007199254740992]) a.text v false) : ValTo 33 a zV false := fun w hE => by
  obtain ⟨nm, kd, tx⟩ := a
  dsimp only at *
  have HE := Lib.hid ((hE.below ((Below.refl _ _).alloc (Nat.le_refl _) (.cells #[.string nm, .int .i64 kd, .string tx] 65))).below ((Below.refl _ _).alloc (Nat.le_refl _) (.cells zV 120)))
  have C0 := Lib.hid ((BoxAt.new w #[.string nm, .int .i64 kd, .string tx] 65).alloc (.cells zV 120))
  have B0 := Lib.hid (BoxAt.new' (w.alloc (.cells #[.string nm, .int .i64 kd, .string tx] 65)) (w.heap.size + 1) zV 120 (by simp))
  have K0 := Lib.hid (((Below.refl w.heap.size w).alloc (Nat.le_refl _) (.cells #[.string nm, .int .i64 kd, .string tx] 65)).alloc (by simp) (.cells zV 120))
  clear hE
  subst hk
  have HP := Lib.hid hp
  clear hp
  go_enter Tryz.func33, Tryz.ntmps33
  go_wp2_with fail
  go_at_call 44
  refine (HP.out _ HE.out).mono ?_
  rintro e w1 ⟨rfl, hb⟩
  have B := Lib.hid (B0.out.later hb)
  have K := Lib.hid (K0.out.trans (hb.mono (by simp; omega)))
  clear hb
  obtain ⟨c0, c1, c2, c3, c4, c5, c6, c7, c8, c9, c10, c11, f0, f1, f2, f3, f4, f5, f6, f7, f8, f9, f10, f11⟩ := cellsV B.out
  have hl := B.out.lt
  go_wp2
  refine endV (b := w.heap.size + 1) (t := 120) rfl (box_setV B.out _ _ _ _ _ _ _ _ _ _ _ _) rfl rfl rfl ⟨rfl, ?_⟩
  exact below12 K.out (by omega) _ _ _ _ _ _ _ _ _ _ _ _

set_option maxHeartbeats 4000000 in
set_option maxRecDepth 100000 in
theorem vother {a : SA} (h0 : a.kind ≠ 0) (h1 : a.kind ≠ 1) (h2 : a.kind ≠ 2) : ValTo 33 a zV false := fun w hE => by
  obtain ⟨nm, kd, tx⟩ := a
  dsimp only at *
  have HE := Lib.hid ((hE.below ((Below.refl _ _).alloc (Nat.le_refl _) (.cells #[.string nm, .int .i64 kd, .string tx] 65))).below ((Below.refl _ _).alloc (Nat.le_refl _) (.cells zV 120)))
  have C0 := Lib.hid ((BoxAt.new w #[.string nm, .int .i64 kd, .string tx] 65).alloc (.cells zV 120))
  have B0 := Lib.hid (BoxAt.new' (w.alloc (.cells #[.string nm, .int .i64 kd, .string tx] 65)) (w.heap.size + 1) zV 120 (by simp))
  have K0 := Lib.hid (((Below.refl w.heap.size w).alloc (Nat.le_refl _) (.cells #[.string nm, .int .i64 kd, .string tx] 65)).alloc (by simp) (.cells zV 120))
  clear hE
  have e0 : (kd == 0) = false := by rw [beq_eq_false_iff_ne]; exact h0
  have e1 : (kd == 1) = false := by rw [beq_eq_false_iff_ne]; exact h1
  have e2 : (kd == 2) = false := by rw [beq_eq_false_iff_ne]; exact h2
  go_enter Tryz.func33, Tryz.ntmps33
  go_wp2
  exact endV (b := w.heap.size + 1) (t := 120) rfl B0.out rfl rfl rfl ⟨rfl, K0.out⟩
theorem vvalue {a : SA} {m : Nat} (hs : a.text.size ≤ m) (hP : ∀ x : ByteArray, x.size ≤ m → ∀ w, Env w → Calls Tryz.prog 46 #[.string x] w fun e w' => e = .returned (parseVal (parseL x.data.toList)) ∧ Below w.heap.size w w')
    (hM : ∀ x : ByteArray, x.size ≤ m → ∃ v, (∀ u, wholeS x.data.toList (-9007199254740992) 9007199254740992 = some u → v = u) ∧ MomTo 44 (fun x => #[.string x, .int .i64 (-9007199254740992), .int .i64 9007199254740992]) x v (wholeS x.data.toList (-9007199254740992) 9007199254740992).isSome) : ValTo 33 a (valC a) (okA a) := by
  unfold valC okA
  by_cases h0 : a.kind = 0
  · rw [if_pos h0, if_pos h0]; exact vstr h0
  · rw [if_neg h0, if_neg h0]
    by_cases h1 : a.kind = 1
    · rw [if_pos h1, if_pos h1]
      have hp := hP a.text hs
      cases hq : parseL a.text.data.toList with
      | none => rw [hq] at hp; exact vnonum h1 hp
      | some x =>
        obtain ⟨n, d, k⟩ := x
        rw [hq] at hp
        exact vnum h1 hp
    · rw [if_neg h1, if_neg h1]
      by_cases h2 : a.kind = 2
      · rw [if_pos h2, if_pos h2]
        obtain ⟨mv, hmv, hm⟩ := hM a.text hs
        cases hq : wholeS a.text.data.toList (-9007199254740992) 9007199254740992 with
        | none => rw [hq] at hm; exact vnomom h2 hm
        | some v => rw [hq] at hm; obtain rfl := hmv v hq; exact vmom h2 hm
      · rw [if_neg h2, if_neg h2]
        exact vother h0 h1 h2

theorem value_any {a : SA} (hs : a.text.size ≤ 4000000) : ValTo 33 a (valC a) (okA a) :=
  vvalue hs (fun x hx w hE => parse_val x w hE.sh (by omega)) (fun x hx => ⟨_, fun u hu => by rw [hu]; rfl, whole_any x _ _ (by omega)⟩)
end Go.Proofs.YtgdkpamlkpncgabGreatDoor
