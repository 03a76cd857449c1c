/-
  Several texts put together (part 2): what the law and the program call, walked; their contracts.
-/
import Derived.WalkKit
import Derived.BigCall
import Derived.Laws.BitsLemmas
import Derived.OwnWalk
import Derived.Deep.QuietTactic
import Derived.BigQuiet
import Derived.Deep.RegionHeld3
import Derived.Test.YtnogdojdjehakaaGreatDoorM1
/-
  Package expr: trees that lie in certain blocks of memory.
-/
namespace Go.Proofs.YtnogdojdjehakaaGreatDoor
open Go.RowKit
set_option linter.unusedVariables false

/-- As LieAt; none at all is a nil slice. -/
def LieN (P : Nat → Nat → Prop) (v : Value) (n : Nat) : Prop := LieAt P v n ∧ (n = 0 → v = .slice none 0 0)
theorem LieN.imp {P Q : Nat → Nat → Prop} {v : Value} {n : Nat} (h : LieN P v n) (hi : ∀ b o, P b o → Q b o) : LieN Q v n := ⟨LieAt.imp h.1 hi, h.2⟩
theorem LieN.nil (P : Nat → Nat → Prop) : LieN P (.slice none 0 0) 0 := ⟨⟨none, 0, rfl, Nat.le_refl _, Nat.zero_le _, fun h => absurd h (by simp)⟩, fun _ => rfl⟩
mutual
/-- These cells are that expression, all of whose blocks are such. -/
def ExF (W : World) (F : Nat → Prop) : EX → C7 → Prop
  | .mk k t n a al i vs, c => c.k = .int .i64 k ∧ c.t = .string t ∧ c.n = .string n ∧ c.a = .string a ∧
      LieN (AsF W F al) c.al al.length ∧ OF W F i c.i ∧ LieAt (VsF W F vs) c.vs vs.length
def OF (W : World) (F : Nat → Prop) : Option EX → Value → Prop
  | none, v => v = .pointer none
  | some e, v => ∃ b o c, v = .pointer (some ⟨b, o, none⟩) ∧ F b ∧ CellsAt W b o c ∧ ExF W F e c
def AsF (W : World) (F : Nat → Prop) : List AR → Nat → Nat → Prop
  | [], _, _ => True
  | .mk n e :: r, b, o => F b ∧ W.cell? ⟨b, o, none⟩ = some (.string n) ∧ (∃ c, CellsAt W b (o + 1) c ∧ ExF W F e c) ∧ AsF W F r b (o + 8)
def VsF (W : World) (F : Nat → Prop) : List VA → Nat → Nat → Prop
  | [], _, _ => True
  | .mk n d v :: r, b, o => F b ∧ W.cell? ⟨b, o, none⟩ = some (.string n) ∧ W.cell? ⟨b, o + 1, none⟩ = some (.bool d) ∧
      (∃ u, W.cell? ⟨b, o + 2, none⟩ = some u ∧ LieAt (EsF W F v) u v.length) ∧ VsF W F r b (o + 3)
def EsF (W : World) (F : Nat → Prop) : List EL → Nat → Nat → Prop
  | [], _, _ => True
  | .mk t p :: r, b, o => F b ∧ W.cell? ⟨b, o, none⟩ = some (.string t) ∧ (∃ u, W.cell? ⟨b, o + 1, none⟩ = some u ∧ OF W F p u) ∧ EsF W F r b (o + 2)
end
def PatF (W : World) (F : Nat → Prop) (l : List EL) (v : Value) : Prop := LieAt (EsF W F l) v l.length

theorem cell_same {W W' : World} {b : Nat} (h : W'.heap[b]? = W.heap[b]?) (o : Nat) : W'.cell? ⟨b, o, none⟩ = W.cell? ⟨b, o, none⟩ := by
  unfold World.cell?; simp only [h]
theorem CellsAt.same {W W' : World} {b o : Nat} {c : C7} (h : CellsAt W b o c) (g : W'.heap[b]? = W.heap[b]?) : CellsAt W' b o c := by
  obtain ⟨k0, k1, k2, k3, k4, k5, k6⟩ := h
  exact ⟨(cell_same g _).trans k0, (cell_same g _).trans k1, (cell_same g _).trans k2, (cell_same g _).trans k3, (cell_same g _).trans k4, (cell_same g _).trans k5, (cell_same g _).trans k6⟩
mutual
theorem ExF.carry {W W' : World} {F F' : Nat → Prop} (g : ∀ b, F b → F' b ∧ W'.heap[b]? = W.heap[b]?) : ∀ (e : EX) (c : C7), ExF W F e c → ExF W' F' e c
  | .mk k t n a al i vs, c, h => by
    rw [ExF] at h ⊢
    obtain ⟨h1, h2, h3, h4, h5, h6, h7⟩ := h
    exact ⟨h1, h2, h3, h4, h5.imp (fun b o => AsF.carry g al b o), OF.carry g i _ h6, h7.imp (fun b o => VsF.carry g vs b o)⟩
theorem OF.carry {W W' : World} {F F' : Nat → Prop} (g : ∀ b, F b → F' b ∧ W'.heap[b]? = W.heap[b]?) : ∀ (i : Option EX) (v : Value), OF W F i v → OF W' F' i v
  | none, v, h => by simp only [OF] at h ⊢; exact h
  | some e, v, h => by
    simp only [OF] at h ⊢
    obtain ⟨b, o, c, e1, hb, hc, hx⟩ := h
    exact ⟨b, o, c, e1, (g b hb).1, hc.same (g b hb).2, ExF.carry g e c hx⟩
theorem AsF.carry {W W' : World} {F F' : Nat → Prop} (g : ∀ b, F b → F' b ∧ W'.heap[b]? = W.heap[b]?) : ∀ (l : List AR) (b o : Nat), AsF W F l b o → AsF W' F' l b o
  | [], b, o, _ => by rw [AsF]; trivial
  | .mk n e :: r, b, o, h => by
    rw [AsF] at h ⊢
    obtain ⟨hb, h1, ⟨c, h2, h3⟩, h4⟩ := h
    exact ⟨(g b hb).1, (cell_same (g b hb).2 _).trans h1, ⟨c, h2.same (g b hb).2, ExF.carry g e c h3⟩, AsF.carry g r b _ h4⟩
theorem VsF.carry {W W' : World} {F F' : Nat → Prop} (g : ∀ b, F b → F' b ∧ W'.heap[b]? = W.heap[b]?) : ∀ (l : List VA) (b o : Nat), VsF W F l b o → VsF W' F' l b o
  | [], b, o, _ => by rw [VsF]; trivial
  | .mk n d v :: r, b, o, h => by
    rw [VsF] at h ⊢
    obtain ⟨hb, h1, h2, ⟨u, h3, h5⟩, h4⟩ := h
    exact ⟨(g b hb).1, (cell_same (g b hb).2 _).trans h1, (cell_same (g b hb).2 _).trans h2, ⟨u, (cell_same (g b hb).2 _).trans h3, h5.imp (fun b o => EsF.carry g v b o)⟩, VsF.carry g r b _ h4⟩
theorem EsF.carry {W W' : World} {F F' : Nat → Prop} (g : ∀ b, F b → F' b ∧ W'.heap[b]? = W.heap[b]?) : ∀ (l : List EL) (b o : Nat), EsF W F l b o → EsF W' F' l b o
  | [], b, o, _ => by rw [EsF]; trivial
  | .mk t p :: r, b, o, h => by
    rw [EsF] at h ⊢
    obtain ⟨hb, h1, ⟨u, h3, h5⟩, h4⟩ := h
    exact ⟨(g b hb).1, (cell_same (g b hb).2 _).trans h1, ⟨u, (cell_same (g b hb).2 _).trans h3, OF.carry g p u h5⟩, EsF.carry g r b _ h4⟩
end
theorem PatF.carry {W W' : World} {F F' : Nat → Prop} (g : ∀ b, F b → F' b ∧ W'.heap[b]? = W.heap[b]?) {l : List EL} {v : Value} (h : PatF W F l v) : PatF W' F' l v := LieAt.imp h (fun b o => EsF.carry g l b o)
mutual
theorem ExF.at_ {W : World} {F : Nat → Prop} (g : ∀ b, F b → b < W.heap.size) : ∀ (e : EX) (c : C7), ExF W F e c → ExAt W e c
  | .mk k t n a al i vs, c, h => by
    rw [ExF] at h
    rw [ExAt]
    obtain ⟨h1, h2, h3, h4, h5, h6, h7⟩ := h
    exact ⟨h1, h2, h3, h4, h5.1.imp (fun b o => AsF.at_ g al b o), OF.at_ g i _ h6, h7.imp (fun b o => VsF.at_ g vs b o)⟩
theorem OF.at_ {W : World} {F : Nat → Prop} (g : ∀ b, F b → b < W.heap.size) : ∀ (i : Option EX) (v : Value), OF W F i v → OAt W i v
  | none, v, h => by simp only [OF] at h; simp only [OAt]; exact h
  | some e, v, h => by
    simp only [OF] at h
    simp only [OAt]
    obtain ⟨b, o, c, e1, hb, hc, hx⟩ := h
    exact ⟨b, o, c, e1, g b hb, hc, ExF.at_ g e c hx⟩
theorem AsF.at_ {W : World} {F : Nat → Prop} (g : ∀ b, F b → b < W.heap.size) : ∀ (l : List AR) (b o : Nat), AsF W F l b o → AsAt W l b o
  | [], b, o, _ => by rw [AsAt]; trivial
  | .mk n e :: r, b, o, h => by
    rw [AsF] at h
    rw [AsAt]
    obtain ⟨hb, h1, ⟨c, h2, h3⟩, h4⟩ := h
    exact ⟨g b hb, h1, ⟨c, h2, ExF.at_ g e c h3⟩, AsF.at_ g r b _ h4⟩
theorem VsF.at_ {W : World} {F : Nat → Prop} (g : ∀ b, F b → b < W.heap.size) : ∀ (l : List VA) (b o : Nat), VsF W F l b o → VsAt W l b o
  | [], b, o, _ => by rw [VsAt]; trivial
  | .mk n d v :: r, b, o, h => by
    rw [VsF] at h
    rw [VsAt]
    obtain ⟨hb, h1, h2, ⟨u, h3, h5⟩, h4⟩ := h
    exact ⟨g b hb, h1, h2, ⟨u, h3, h5.imp (fun b o => EsF.at_ g v b o)⟩, VsF.at_ g r b _ h4⟩
theorem EsF.at_ {W : World} {F : Nat → Prop} (g : ∀ b, F b → b < W.heap.size) : ∀ (l : List EL) (b o : Nat), EsF W F l b o → EsAt W l b o
  | [], b, o, _ => by rw [EsAt]; trivial
  | .mk t p :: r, b, o, h => by
    rw [EsF] at h
    rw [EsAt]
    obtain ⟨hb, h1, ⟨u, h3, h5⟩, h4⟩ := h
    exact ⟨g b hb, h1, ⟨u, h3, OF.at_ g p u h5⟩, EsF.at_ g r b _ h4⟩
end
/-- The blocks that are there now and weren't then. -/
def Since (B : Nat) (W : World) : Nat → Prop := fun b => B ≤ b ∧ b < W.heap.size

/-- What a call of the reader does to memory: its own box changes, and nothing else that was there. -/
structure Kp (rb : Nat) (w w' : World) : Prop where
  below : Below rb w w'
  others : ∀ k, k < w.heap.size → k ≠ rb → w'.heap[k]? = w.heap[k]?
theorem Kp.size {rb : Nat} {w w' : World} (h : Kp rb w w') : w.heap.size ≤ w'.heap.size := h.below.size
theorem Kp.refl (rb : Nat) (w : World) : Kp rb w w := ⟨Below.refl _ _, fun _ _ _ => rfl⟩
theorem Kp.trans {rb : Nat} {a b c : World} (h : Kp rb a b) (k : Kp rb b c) : Kp rb a c :=
  ⟨h.below.trans k.below, fun j hj hn => (k.others j (Nat.lt_of_lt_of_le hj h.size) hn).trans (h.others j hj hn)⟩
theorem Kp.of_below {rb : Nat} {w w' : World} (hb : Below w.heap.size w w') (hr : rb ≤ w.heap.size) : Kp rb w w' := ⟨hb.mono hr, fun k hk _ => hb.block k hk⟩
theorem Kp.alloc {rb : Nat} {a w : World} (h : Kp rb a w) (hr : rb ≤ w.heap.size) (o : Obj) : Kp rb a (w.alloc o) := h.trans (Kp.of_below ((Below.refl _ _).alloc (Nat.le_refl _) _) hr)
theorem Kp.drew {rb : Nat} {a w : World} (h : Kp rb a w) : Kp rb a w.drew := ⟨h.below.drew, fun k hk hn => h.others k hk hn⟩
theorem Kp.setCell {rb : Nat} {a w : World} (h : Kp rb a w) (o : Nat) (v : Value) : Kp rb a (w.setCell ⟨rb, o, none⟩ v) :=
  ⟨h.below.setCell (p := ⟨rb, o, none⟩) (Nat.le_refl _) v, fun k hk hn => by
    rw [← h.others k hk hn]
    simp only [World.setCell]
    rw [Array.getElem?_modify, if_neg (fun e => hn e.symm)]⟩
theorem BoxAt.kp {rb : Nat} {w w' : World} {k : Nat} {cs : Array Value} {t : TypeId} (h : BoxAt w k cs t) (g : Kp rb w w') (hk : k ≠ rb) : BoxAt w' k cs t := (g.others k h.lt hk).trans h
/-- The reader at block rb: its text, and how far it is read. -/
def Rd (rb : Nat) (s : ByteArray) (i : Nat) (w : World) : Prop := BoxAt w rb #[.string s, .int .i64 (i : Nat)] 62
theorem Rd.lt {rb : Nat} {s : ByteArray} {i : Nat} {w : World} (h : Rd rb s i w) : rb < w.heap.size := BoxAt.lt h
theorem Rd.alloc {rb : Nat} {s : ByteArray} {i : Nat} {w : World} (h : Rd rb s i w) (o : Obj) : Rd rb s i (w.alloc o) := BoxAt.alloc h o
theorem Rd.set {rb : Nat} {s : ByteArray} {i : Nat} {w : World} (h : Rd rb s i w) (j : Nat) : Rd rb s j (w.setCell ⟨rb, 1, none⟩ (.int .i64 (j : Nat))) := by
  unfold Rd BoxAt at h ⊢
  simp [World.setCell, Array.getElem?_modify, h]
theorem Rd.set' {rb : Nat} {s : ByteArray} {i j : Nat} {v : Int} {w : World} (h : Rd rb s i w) (hv : v = (j : Nat)) : Rd rb s j (w.setCell ⟨rb, 1, none⟩ (.int .i64 v)) := by rw [hv]; exact h.set j
theorem Rd.later {rb : Nat} {s : ByteArray} {i : Nat} {w w' : World} (h : Rd rb s i w) (g : Below w.heap.size w w') : Rd rb s i w' := (g.block rb h.lt).trans h
theorem Rd.c0 {rb : Nat} {s : ByteArray} {i : Nat} {w : World} (h : Rd rb s i w) : w.cell? ⟨rb, 0, none⟩ = some (.string s) := BoxAt.cell h 0
theorem Rd.c1 {rb : Nat} {s : ByteArray} {i : Nat} {w : World} (h : Rd rb s i w) : w.cell? ⟨rb, 1, none⟩ = some (.int .i64 (i : Nat)) := BoxAt.cell h 1
theorem Rd.f {rb : Nat} {s : ByteArray} {i : Nat} {w : World} (h : Rd rb s i w) (o : Nat) : w.frozen? ⟨rb, o, none⟩ = false := Lib.frozen_of_heap h o
end Go.Proofs.YtnogdojdjehakaaGreatDoor

/-
  Plain mathematics of package scan: the place behind all bytes that are such.
-/
namespace Go.Proofs.YtnogdojdjehakaaGreatDoor

/-- The place behind all bytes from k on that are such. -/
def behN (p : UInt8 → Bool) (l : List UInt8) (k : Nat) : Nat := k + ((l.drop k).takeWhile p).length
theorem behN_end (p : UInt8 → Bool) (l : List UInt8) (k : Nat) (h : l.length ≤ k) : behN p l k = k := by
  unfold behN; rw [List.drop_eq_nil_of_le h]; rfl
theorem behN_yes (p : UInt8 → Bool) (l : List UInt8) (k : Nat) (h : k < l.length) (hp : p l[k] = true) : behN p l (k + 1) = behN p l k := by
  unfold behN
  rw [List.drop_eq_getElem_cons h, List.takeWhile_cons, if_pos hp, List.length_cons]
  omega
theorem behN_no (p : UInt8 → Bool) (l : List UInt8) (k : Nat) (h : k < l.length) (hp : p l[k] = false) : behN p l k = k := by
  unfold behN
  rw [List.drop_eq_getElem_cons h, List.takeWhile_cons, if_neg (by simp [hp])]
  rfl
theorem behN_ge (p : UInt8 → Bool) (l : List UInt8) (k : Nat) : k ≤ behN p l k := by unfold behN; omega
theorem takeWhile_le (p : UInt8 → Bool) : ∀ l : List UInt8, (l.takeWhile p).length ≤ l.length
  | [] => Nat.le_refl _
  | c :: l => by
    rw [List.takeWhile_cons]
    split
    · have := takeWhile_le p l; simp only [List.length_cons]; omega
    · simp
theorem behN_le (p : UInt8 → Bool) (l : List UInt8) (k : Nat) (h : k ≤ l.length) : behN p l k ≤ l.length := by
  unfold behN
  have := takeWhile_le p (l.drop k)
  rw [List.length_drop] at this
  omega
/-- .. of any place: a place below 0 stays. -/
def behI (p : UInt8 → Bool) (l : List UInt8) (i : Int) : Int := if i < 0 then i else (behN p l i.toNat : Int)
def spB (c : UInt8) : Bool := decide ((c.toNat : Int) = 32)
def blB (c : UInt8) : Bool := decide ((c.toNat : Int) = 32 ∨ (c.toNat : Int) = 10)
def dgB (c : UInt8) : Bool := decide (48 ≤ (c.toNat : Int) ∧ (c.toNat : Int) ≤ 57)
def caB (c : UInt8) : Bool := decide (65 ≤ (c.toNat : Int) ∧ (c.toNat : Int) ≤ 90)
def leB (c : UInt8) : Bool := decide ((97 ≤ (c.toNat : Int) ∧ (c.toNat : Int) ≤ 122) ∨ (65 ≤ (c.toNat : Int) ∧ (c.toNat : Int) ≤ 90))
def joB (c : UInt8) : Bool := decide ((c.toNat : Int) = 95 ∨ (c.toNat : Int) = 45)
def naB (c : UInt8) : Bool := leB c || dgB c || joB c
def biB (c : UInt8) : Bool := caB c || dgB c || joB c
end Go.Proofs.YtnogdojdjehakaaGreatDoor

/-
  Contracts of package scan: what a byte is, isWithin, behind.
-/
namespace Go.Proofs.YtnogdojdjehakaaGreatDoor
open Go.RowKit

theorem within_yes (s : ByteArray) (i : Int) (w : World) (h0 : 0 ≤ i) (h1 : i < s.size) : Calls Tryz.prog 100 #[.string s, .int .i64 i] w fun e w' => e = .returned (.bool true) ∧ w = w' := by
  go_enter Tryz.func100, Tryz.ntmps100
  go_wp2
  go_ret
  exact ⟨rfl, rfl⟩
theorem within_no (s : ByteArray) (i : Int) (w : World) (h : i < 0 ∨ (s.size : Int) ≤ i) : Calls Tryz.prog 100 #[.string s, .int .i64 i] w fun e w' => e = .returned (.bool false) ∧ w = w' := by
  by_cases h0 : 0 ≤ i
  · have h1 : ¬ i < s.size := by omega
    go_enter Tryz.func100, Tryz.ntmps100
    go_wp2
    go_ret
    exact ⟨rfl, rfl⟩
  · go_enter Tryz.func100, Tryz.ntmps100
    go_wp2
    go_ret
    exact ⟨rfl, rfl⟩
theorem capital_any (c : UInt8) (w : World) : Calls Tryz.prog 128 #[.int .u8 (c.toNat : Int)] w fun e w' => e = .returned (.bool (caB c)) ∧ w = w' := by
  by_cases h : (65 : Int) ≤ (c.toNat : Int)
  all_goals
    go_enter Tryz.func128, Tryz.ntmps128
    go_wp2
    go_ret
    refine ⟨ret_bool ?_, rfl⟩
    rw [Bool.eq_iff_iff]
    simp [caB]
    omega
theorem digit_any (c : UInt8) (w : World) : Calls Tryz.prog 129 #[.int .u8 (c.toNat : Int)] w fun e w' => e = .returned (.bool (dgB c)) ∧ w = w' := by
  by_cases h : (48 : Int) ≤ (c.toNat : Int)
  all_goals
    go_enter Tryz.func129, Tryz.ntmps129
    go_wp2
    go_ret
    refine ⟨ret_bool ?_, rfl⟩
    rw [Bool.eq_iff_iff]
    simp [dgB]
    omega
theorem joint_any (c : UInt8) (w : World) : Calls Tryz.prog 130 #[.int .u8 (c.toNat : Int)] w fun e w' => e = .returned (.bool (joB c)) ∧ w = w' := by
  go_enter Tryz.func130, Tryz.ntmps130
  go_wp2
  all_goals
    go_ret
    refine ⟨ret_bool ?_, rfl⟩
    rw [Bool.eq_iff_iff]
    simp [joB, *]
theorem letter_any (c : UInt8) (w : World) : Calls Tryz.prog 131 #[.int .u8 (c.toNat : Int)] w fun e w' => e = .returned (.bool (leB c)) ∧ w = w' := by
  by_cases h1 : (97 : Int) ≤ (c.toNat : Int)
  · by_cases h2 : (c.toNat : Int) ≤ 122
    · go_enter Tryz.func131, Tryz.ntmps131
      go_wp2_with (go_at_call 128; refine (capital_any c _).mono ?_; rintro e w' ⟨rfl, rfl⟩)
      go_ret
      refine ⟨ret_bool ?_, rfl⟩
      simp [leB, h1, h2]
    · have hb : decide ((c.toNat : Int) ≤ 122) = false := by simp; omega
      go_enter Tryz.func131, Tryz.ntmps131
      go_wp2_with (go_at_call 128; refine (capital_any c _).mono ?_; rintro e w' ⟨rfl, rfl⟩)
      go_ret
      refine ⟨ret_bool ?_, rfl⟩
      simp only [leB, caB]
      rw [Bool.eq_iff_iff]
      simp
      omega
  · go_enter Tryz.func131, Tryz.ntmps131
    go_wp2_with (go_at_call 128; refine (capital_any c _).mono ?_; rintro e w' ⟨rfl, rfl⟩)
    go_ret
    refine ⟨ret_bool ?_, rfl⟩
    simp only [leB, caB]
    rw [Bool.eq_iff_iff]
    simp
    omega

/-- A function value that tells of a byte whether it is such. -/
def Tells (N : FuncId) (p : UInt8 → Bool) : Prop := ∀ (c : UInt8) (w : World), Calls Tryz.prog N #[.int .u8 (c.toNat : Int)] w fun e w' => e = .returned (.bool (p c)) ∧ w = w'
theorem tells_digit : Tells 129 dgB := digit_any
theorem tells_space : Tells 81 spB := fun c w => by
  go_enter Tryz.func81, Tryz.ntmps81
  go_wp2
  all_goals
    go_ret
    refine ⟨ret_bool ?_, rfl⟩
    rw [Bool.eq_iff_iff]
    simp [spB, *]
theorem tells_blank : Tells 74 blB := fun c w => by
  go_enter Tryz.func74, Tryz.ntmps74
  go_wp2
  all_goals
    go_ret
    refine ⟨ret_bool ?_, rfl⟩
    rw [Bool.eq_iff_iff]
    simp [blB, *]
theorem tells_name : Tells 132 naB := fun c w => by
  cases h1 : leB c
  · cases h2 : dgB c
    · go_enter Tryz.func132, Tryz.ntmps132
      go_wp2_with (first | (go_at_call 131; refine (letter_any c _).mono ?_; rw [h1]; rintro e w' ⟨rfl, rfl⟩) | (go_at_call 129; refine (digit_any c _).mono ?_; rw [h2]; rintro e w' ⟨rfl, rfl⟩) | (go_at_call 130; refine (joint_any c _).mono ?_; rintro e w' ⟨rfl, rfl⟩))
      go_ret
      exact ⟨ret_bool (by simp [naB, h1, h2]), rfl⟩
    · go_enter Tryz.func132, Tryz.ntmps132
      go_wp2_with (first | (go_at_call 131; refine (letter_any c _).mono ?_; rw [h1]; rintro e w' ⟨rfl, rfl⟩) | (go_at_call 129; refine (digit_any c _).mono ?_; rw [h2]; rintro e w' ⟨rfl, rfl⟩) | (go_at_call 130; refine (joint_any c _).mono ?_; rintro e w' ⟨rfl, rfl⟩))
      go_ret
      exact ⟨ret_bool (by simp [naB, h1, h2]), rfl⟩
  · go_enter Tryz.func132, Tryz.ntmps132
    go_wp2_with (first | (go_at_call 131; refine (letter_any c _).mono ?_; rw [h1]; rintro e w' ⟨rfl, rfl⟩) | (go_at_call 129; refine (digit_any c _).mono ?_; rintro e w' ⟨rfl, rfl⟩) | (go_at_call 130; refine (joint_any c _).mono ?_; rintro e w' ⟨rfl, rfl⟩))
    go_ret
    exact ⟨ret_bool (by simp [naB, h1]), rfl⟩
theorem tells_big : Tells 127 biB := fun c w => by
  cases h1 : caB c
  · cases h2 : dgB c
    · go_enter Tryz.func127, Tryz.ntmps127
      go_wp2_with (first | (go_at_call 128; refine (capital_any c _).mono ?_; rw [h1]; rintro e w' ⟨rfl, rfl⟩) | (go_at_call 129; refine (digit_any c _).mono ?_; rw [h2]; rintro e w' ⟨rfl, rfl⟩) | (go_at_call 130; refine (joint_any c _).mono ?_; rintro e w' ⟨rfl, rfl⟩))
      go_ret
      exact ⟨ret_bool (by simp [biB, h1, h2]), rfl⟩
    · go_enter Tryz.func127, Tryz.ntmps127
      go_wp2_with (first | (go_at_call 128; refine (capital_any c _).mono ?_; rw [h1]; rintro e w' ⟨rfl, rfl⟩) | (go_at_call 129; refine (digit_any c _).mono ?_; rw [h2]; rintro e w' ⟨rfl, rfl⟩) | (go_at_call 130; refine (joint_any c _).mono ?_; rintro e w' ⟨rfl, rfl⟩))
      go_ret
      exact ⟨ret_bool (by simp [biB, h1, h2]), rfl⟩
  · go_enter Tryz.func127, Tryz.ntmps127
    go_wp2_with (first | (go_at_call 128; refine (capital_any c _).mono ?_; rw [h1]; rintro e w' ⟨rfl, rfl⟩) | (go_at_call 129; refine (digit_any c _).mono ?_; rintro e w' ⟨rfl, rfl⟩) | (go_at_call 130; refine (joint_any c _).mono ?_; rintro e w' ⟨rfl, rfl⟩))
    go_ret
    exact ⟨ret_bool (by simp [biB, h1]), rfl⟩

end Go.Proofs.YtnogdojdjehakaaGreatDoor

/-
  Contracts of package scan: behind, for each of the functions that it is handed.
-/
namespace Go.Proofs.YtnogdojdjehakaaGreatDoor
open Go.RowKit

set_option maxHeartbeats 1000000 in
theorem behind_sp (s : ByteArray) (i : Int) (w : World) (hs : s.size ≤ 9223372036854775807) :
    Calls Tryz.prog 73 #[.string s, .int .i64 i, .func (.func 81) #[] #[]] w fun e w' => e = .returned (.int .i64 (behI spB s.data.toList i)) ∧ w = w' := by
  have HN := Lib.hid tells_space
  by_cases h0 : i < 0
  · have e : behI spB s.data.toList i = i := by unfold behI; rw [if_pos h0]
    have E := Lib.hid e
    clear e
    go_enter Tryz.func73, Tryz.ntmps73
    go_wp2_with fail
    go_loop [1] (fun t => t = .int .i64 i) (fun _ => 0)
    case atStart => rfl
    case round =>
      subst hrel
      go_wp2_with fail
      go_at_call 100
      refine (within_no _ _ _ (.inl h0)).mono ?_
      rintro e w' ⟨rfl, rfl⟩
      go_wp2_with fail
      go_ret
      exact ⟨ret_int E.out.symm, rfl⟩
  · obtain ⟨k, rfl⟩ : ∃ k : Nat, i = (k : Int) := ⟨i.toNat, by omega⟩
    obtain ⟨B, hB⟩ : ∃ B, behN spB s.data.toList k = B := ⟨_, rfl⟩
    have e : behI spB s.data.toList (k : Int) = (B : Int) := by unfold behI; rw [if_neg h0, Int.toNat_natCast, hB]
    have E := Lib.hid e
    have HB := Lib.hid hB
    clear e hB h0
    go_enter Tryz.func73, Tryz.ntmps73
    go_wp2_with fail
    go_loop [1] (fun t => ∃ j : Nat, t = .int .i64 j ∧ Hid (behN spB s.data.toList j = B)) (fun t => s.size - (intOf t).toNat)
    case atStart => exact ⟨k, rfl, HB⟩
    case round =>
      obtain ⟨j, rfl, hj⟩ := hrel
      by_cases hlt : j < s.size
      · have hlt' : j < s.data.toList.length := by rw [size_data]; exact hlt
        have hi0 : (0 : Int) ≤ (j : Int) := by omega
        have hi1 : (j : Int) < (s.size : Int) := by omega
        cases hp : spB s[j]
        · have hno := Lib.hid (behN_no spB s.data.toList j hlt' hp)
          have Hp := Lib.hid hp
          clear hp
          go_wp2_with fail
          go_at_call 100
          refine (within_yes _ _ _ hi0 hi1).mono ?_
          rintro e w' ⟨rfl, rfl⟩
          go_wp2_with fail
          go_at_call 81
          refine (HN.out s[j] _).mono ?_
          rw [Hp.out]
          rintro e w' ⟨rfl, rfl⟩
          go_wp2_with fail
          go_ret
          exact ⟨ret_int (by rw [E.out, ← hj.out, hno.out]), rfl⟩
        · have hyes := Lib.hid (behN_yes spB s.data.toList j hlt' hp)
          have Hp := Lib.hid hp
          clear hp
          go_wp2_with fail
          go_at_call 100
          refine (within_yes _ _ _ hi0 hi1).mono ?_
          rintro e w' ⟨rfl, rfl⟩
          go_wp2_with fail
          go_at_call 81
          refine (HN.out s[j] _).mono ?_
          rw [Hp.out]
          rintro e w' ⟨rfl, rfl⟩
          go_wp2_with fail
          go_round
          case rel => exact ⟨j + 1, by go_num, Lib.hid (by rw [hyes.out, hj.out])⟩
          case measure => simp [intOf]; omega
      · have hend := Lib.hid (behN_end spB s.data.toList j (by rw [size_data]; omega))
        go_wp2_with fail
        go_at_call 100
        refine (within_no _ _ _ (.inr (by omega))).mono ?_
        rintro e w' ⟨rfl, rfl⟩
        go_wp2_with fail
        go_ret
        exact ⟨ret_int (by rw [E.out, ← hj.out, hend.out]), rfl⟩
set_option maxHeartbeats 1000000 in
theorem behind_bl (s : ByteArray) (i : Int) (w : World) (hs : s.size ≤ 9223372036854775807) :
    Calls Tryz.prog 73 #[.string s, .int .i64 i, .func (.func 74) #[] #[]] w fun e w' => e = .returned (.int .i64 (behI blB s.data.toList i)) ∧ w = w' := by
  have HN := Lib.hid tells_blank
  by_cases h0 : i < 0
  · have e : behI blB s.data.toList i = i := by unfold behI; rw [if_pos h0]
    have E := Lib.hid e
    clear e
    go_enter Tryz.func73, Tryz.ntmps73
    go_wp2_with fail
    go_loop [1] (fun t => t = .int .i64 i) (fun _ => 0)
    case atStart => rfl
    case round =>
      subst hrel
      go_wp2_with fail
      go_at_call 100
      refine (within_no _ _ _ (.inl h0)).mono ?_
      rintro e w' ⟨rfl, rfl⟩
      go_wp2_with fail
      go_ret
      exact ⟨ret_int E.out.symm, rfl⟩
  · obtain ⟨k, rfl⟩ : ∃ k : Nat, i = (k : Int) := ⟨i.toNat, by omega⟩
    obtain ⟨B, hB⟩ : ∃ B, behN blB s.data.toList k = B := ⟨_, rfl⟩
    have e : behI blB s.data.toList (k : Int) = (B : Int) := by unfold behI; rw [if_neg h0, Int.toNat_natCast, hB]
    have E := Lib.hid e
    have HB := Lib.hid hB
    clear e hB h0
    go_enter Tryz.func73, Tryz.ntmps73
    go_wp2_with fail
    go_loop [1] (fun t => ∃ j : Nat, t = .int .i64 j ∧ Hid (behN blB s.data.toList j = B)) (fun t => s.size - (intOf t).toNat)
    case atStart => exact ⟨k, rfl, HB⟩
    case round =>
      obtain ⟨j, rfl, hj⟩ := hrel
      by_cases hlt : j < s.size
      · have hlt' : j < s.data.toList.length := by rw [size_data]; exact hlt
        have hi0 : (0 : Int) ≤ (j : Int) := by omega
        have hi1 : (j : Int) < (s.size : Int) := by omega
        cases hp : blB s[j]
        · have hno := Lib.hid (behN_no blB s.data.toList j hlt' hp)
          have Hp := Lib.hid hp
          clear hp
          go_wp2_with fail
          go_at_call 100
          refine (within_yes _ _ _ hi0 hi1).mono ?_
          rintro e w' ⟨rfl, rfl⟩
          go_wp2_with fail
          go_at_call 74
          refine (HN.out s[j] _).mono ?_
          rw [Hp.out]
          rintro e w' ⟨rfl, rfl⟩
          go_wp2_with fail
          go_ret
          exact ⟨ret_int (by rw [E.out, ← hj.out, hno.out]), rfl⟩
        · have hyes := Lib.hid (behN_yes blB s.data.toList j hlt' hp)
          have Hp := Lib.hid hp
          clear hp
          go_wp2_with fail
          go_at_call 100
          refine (within_yes _ _ _ hi0 hi1).mono ?_
          rintro e w' ⟨rfl, rfl⟩
          go_wp2_with fail
          go_at_call 74
          refine (HN.out s[j] _).mono ?_
          rw [Hp.out]
          rintro e w' ⟨rfl, rfl⟩
          go_wp2_with fail
          go_round
          case rel => exact ⟨j + 1, by go_num, Lib.hid (by rw [hyes.out, hj.out])⟩
          case measure => simp [intOf]; omega
      · have hend := Lib.hid (behN_end blB s.data.toList j (by rw [size_data]; omega))
        go_wp2_with fail
        go_at_call 100
        refine (within_no _ _ _ (.inr (by omega))).mono ?_
        rintro e w' ⟨rfl, rfl⟩
        go_wp2_with fail
        go_ret
        exact ⟨ret_int (by rw [E.out, ← hj.out, hend.out]), rfl⟩
set_option maxHeartbeats 1000000 in
theorem behind_na (s : ByteArray) (i : Int) (w : World) (hs : s.size ≤ 9223372036854775807) :
    Calls Tryz.prog 73 #[.string s, .int .i64 i, .func (.func 132) #[] #[]] w fun e w' => e = .returned (.int .i64 (behI naB s.data.toList i)) ∧ w = w' := by
  have HN := Lib.hid tells_name
  by_cases h0 : i < 0
  · have e : behI naB s.data.toList i = i := by unfold behI; rw [if_pos h0]
    have E := Lib.hid e
    clear e
    go_enter Tryz.func73, Tryz.ntmps73
    go_wp2_with fail
    go_loop [1] (fun t => t = .int .i64 i) (fun _ => 0)
    case atStart => rfl
    case round =>
      subst hrel
      go_wp2_with fail
      go_at_call 100
      refine (within_no _ _ _ (.inl h0)).mono ?_
      rintro e w' ⟨rfl, rfl⟩
      go_wp2_with fail
      go_ret
      exact ⟨ret_int E.out.symm, rfl⟩
  · obtain ⟨k, rfl⟩ : ∃ k : Nat, i = (k : Int) := ⟨i.toNat, by omega⟩
    obtain ⟨B, hB⟩ : ∃ B, behN naB s.data.toList k = B := ⟨_, rfl⟩
    have e : behI naB s.data.toList (k : Int) = (B : Int) := by unfold behI; rw [if_neg h0, Int.toNat_natCast, hB]
    have E := Lib.hid e
    have HB := Lib.hid hB
    clear e hB h0
    go_enter Tryz.func73, Tryz.ntmps73
    go_wp2_with fail
    go_loop [1] (fun t => ∃ j : Nat, t = .int .i64 j ∧ Hid (behN naB s.data.toList j = B)) (fun t => s.size - (intOf t).toNat)
    case atStart => exact ⟨k, rfl, HB⟩
    case round =>
      obtain ⟨j, rfl, hj⟩ := hrel
      by_cases hlt : j < s.size
      · have hlt' : j < s.data.toList.length := by rw [size_data]; exact hlt
        have hi0 : (0 : Int) ≤ (j : Int) := by omega
        have hi1 : (j : Int) < (s.size : Int) := by omega
        cases hp : naB s[j]
        · have hno := Lib.hid (behN_no naB s.data.toList j hlt' hp)
          have Hp := Lib.hid hp
          clear hp
          go_wp2_with fail
          go_at_call 100
          refine (within_yes _ _ _ hi0 hi1).mono ?_
          rintro e w' ⟨rfl, rfl⟩
          go_wp2_with fail
          go_at_call 132
          refine (HN.out s[j] _).mono ?_
          rw [Hp.out]
          rintro e w' ⟨rfl, rfl⟩
          go_wp2_with fail
          go_ret
          exact ⟨ret_int (by rw [E.out, ← hj.out, hno.out]), rfl⟩
        · have hyes := Lib.hid (behN_yes naB s.data.toList j hlt' hp)
          have Hp := Lib.hid hp
          clear hp
          go_wp2_with fail
          go_at_call 100
          refine (within_yes _ _ _ hi0 hi1).mono ?_
          rintro e w' ⟨rfl, rfl⟩
          go_wp2_with fail
          go_at_call 132
          refine (HN.out s[j] _).mono ?_
          rw [Hp.out]
          rintro e w' ⟨rfl, rfl⟩
          go_wp2_with fail
          go_round
          case rel => exact ⟨j + 1, by go_num, Lib.hid (by rw [hyes.out, hj.out])⟩
          case measure => simp [intOf]; omega
      · have hend := Lib.hid (behN_end naB s.data.toList j (by rw [size_data]; omega))
        go_wp2_with fail
        go_at_call 100
        refine (within_no _ _ _ (.inr (by omega))).mono ?_
        rintro e w' ⟨rfl, rfl⟩
        go_wp2_with fail
        go_ret
        exact ⟨ret_int (by rw [E.out, ← hj.out, hend.out]), rfl⟩
set_option maxHeartbeats 1000000 in
theorem behind_dg (s : ByteArray) (i : Int) (w : World) (hs : s.size ≤ 9223372036854775807) :
    Calls Tryz.prog 73 #[.string s, .int .i64 i, .func (.func 129) #[] #[]] w fun e w' => e = .returned (.int .i64 (behI dgB s.data.toList i)) ∧ w = w' := by
  have HN := Lib.hid tells_digit
  by_cases h0 : i < 0
  · have e : behI dgB s.data.toList i = i := by unfold behI; rw [if_pos h0]
    have E := Lib.hid e
    clear e
    go_enter Tryz.func73, Tryz.ntmps73
    go_wp2_with fail
    go_loop [1] (fun t => t = .int .i64 i) (fun _ => 0)
    case atStart => rfl
    case round =>
      subst hrel
      go_wp2_with fail
      go_at_call 100
      refine (within_no _ _ _ (.inl h0)).mono ?_
      rintro e w' ⟨rfl, rfl⟩
      go_wp2_with fail
      go_ret
      exact ⟨ret_int E.out.symm, rfl⟩
  · obtain ⟨k, rfl⟩ : ∃ k : Nat, i = (k : Int) := ⟨i.toNat, by omega⟩
    obtain ⟨B, hB⟩ : ∃ B, behN dgB s.data.toList k = B := ⟨_, rfl⟩
    have e : behI dgB s.data.toList (k : Int) = (B : Int) := by unfold behI; rw [if_neg h0, Int.toNat_natCast, hB]
    have E := Lib.hid e
    have HB := Lib.hid hB
    clear e hB h0
    go_enter Tryz.func73, Tryz.ntmps73
    go_wp2_with fail
    go_loop [1] (fun t => ∃ j : Nat, t = .int .i64 j ∧ Hid (behN dgB s.data.toList j = B)) (fun t => s.size - (intOf t).toNat)
    case atStart => exact ⟨k, rfl, HB⟩
    case round =>
      obtain ⟨j, rfl, hj⟩ := hrel
      by_cases hlt : j < s.size
      · have hlt' : j < s.data.toList.length := by rw [size_data]; exact hlt
        have hi0 : (0 : Int) ≤ (j : Int) := by omega
        have hi1 : (j : Int) < (s.size : Int) := by omega
        cases hp : dgB s[j]
        · have hno := Lib.hid (behN_no dgB s.data.toList j hlt' hp)
          have Hp := Lib.hid hp
          clear hp
          go_wp2_with fail
          go_at_call 100
          refine (within_yes _ _ _ hi0 hi1).mono ?_
          rintro e w' ⟨rfl, rfl⟩
          go_wp2_with fail
          go_at_call 129
          refine (HN.out s[j] _).mono ?_
          rw [Hp.out]
          rintro e w' ⟨rfl, rfl⟩
          go_wp2_with fail
          go_ret
          exact ⟨ret_int (by rw [E.out, ← hj.out, hno.out]), rfl⟩
        · have hyes := Lib.hid (behN_yes dgB s.data.toList j hlt' hp)
          have Hp := Lib.hid hp
          clear hp
          go_wp2_with fail
          go_at_call 100
          refine (within_yes _ _ _ hi0 hi1).mono ?_
          rintro e w' ⟨rfl, rfl⟩
          go_wp2_with fail
          go_at_call 129
          refine (HN.out s[j] _).mono ?_
          rw [Hp.out]
          rintro e w' ⟨rfl, rfl⟩
          go_wp2_with fail
          go_round
          case rel => exact ⟨j + 1, by go_num, Lib.hid (by rw [hyes.out, hj.out])⟩
          case measure => simp [intOf]; omega
      · have hend := Lib.hid (behN_end dgB s.data.toList j (by rw [size_data]; omega))
        go_wp2_with fail
        go_at_call 100
        refine (within_no _ _ _ (.inr (by omega))).mono ?_
        rintro e w' ⟨rfl, rfl⟩
        go_wp2_with fail
        go_ret
        exact ⟨ret_int (by rw [E.out, ← hj.out, hend.out]), rfl⟩
set_option maxHeartbeats 1000000 in
theorem behind_bi (s : ByteArray) (i : Int) (w : World) (hs : s.size ≤ 9223372036854775807) :
    Calls Tryz.prog 73 #[.string s, .int .i64 i, .func (.func 127) #[] #[]] w fun e w' => e = .returned (.int .i64 (behI biB s.data.toList i)) ∧ w = w' := by
  have HN := Lib.hid tells_big
  by_cases h0 : i < 0
  · have e : behI biB s.data.toList i = i := by unfold behI; rw [if_pos h0]
    have E := Lib.hid e
    clear e
    go_enter Tryz.func73, Tryz.ntmps73
    go_wp2_with fail
    go_loop [1] (fun t => t = .int .i64 i) (fun _ => 0)
    case atStart => rfl
    case round =>
      subst hrel
      go_wp2_with fail
      go_at_call 100
      refine (within_no _ _ _ (.inl h0)).mono ?_
      rintro e w' ⟨rfl, rfl⟩
      go_wp2_with fail
      go_ret
      exact ⟨ret_int E.out.symm, rfl⟩
  · obtain ⟨k, rfl⟩ : ∃ k : Nat, i = (k : Int) := ⟨i.toNat, by omega⟩
    obtain ⟨B, hB⟩ : ∃ B, behN biB s.data.toList k = B := ⟨_, rfl⟩
    have e : behI biB s.data.toList (k : Int) = (B : Int) := by unfold behI; rw [if_neg h0, Int.toNat_natCast, hB]
    have E := Lib.hid e
    have HB := Lib.hid hB
    clear e hB h0
    go_enter Tryz.func73, Tryz.ntmps73
    go_wp2_with fail
    go_loop [1] (fun t => ∃ j : Nat, t = .int .i64 j ∧ Hid (behN biB s.data.toList j = B)) (fun t => s.size - (intOf t).toNat)
    case atStart => exact ⟨k, rfl, HB⟩
    case round =>
      obtain ⟨j, rfl, hj⟩ := hrel
      by_cases hlt : j < s.size
      · have hlt' : j < s.data.toList.length := by rw [size_data]; exact hlt
        have hi0 : (0 : Int) ≤ (j : Int) := by omega
        have hi1 : (j : Int) < (s.size : Int) := by omega
        cases hp : biB s[j]
        · have hno := Lib.hid (behN_no biB s.data.toList j hlt' hp)
          have Hp := Lib.hid hp
          clear hp
          go_wp2_with fail
          go_at_call 100
          refine (within_yes _ _ _ hi0 hi1).mono ?_
          rintro e w' ⟨rfl, rfl⟩
          go_wp2_with fail
          go_at_call 127
          refine (HN.out s[j] _).mono ?_
          rw [Hp.out]
          rintro e w' ⟨rfl, rfl⟩
          go_wp2_with fail
          go_ret
          exact ⟨ret_int (by rw [E.out, ← hj.out, hno.out]), rfl⟩
        · have hyes := Lib.hid (behN_yes biB s.data.toList j hlt' hp)
          have Hp := Lib.hid hp
          clear hp
          go_wp2_with fail
          go_at_call 100
          refine (within_yes _ _ _ hi0 hi1).mono ?_
          rintro e w' ⟨rfl, rfl⟩
          go_wp2_with fail
          go_at_call 127
          refine (HN.out s[j] _).mono ?_
          rw [Hp.out]
          rintro e w' ⟨rfl, rfl⟩
          go_wp2_with fail
          go_round
          case rel => exact ⟨j + 1, by go_num, Lib.hid (by rw [hyes.out, hj.out])⟩
          case measure => simp [intOf]; omega
      · have hend := Lib.hid (behN_end biB s.data.toList j (by rw [size_data]; omega))
        go_wp2_with fail
        go_at_call 100
        refine (within_no _ _ _ (.inr (by omega))).mono ?_
        rintro e w' ⟨rfl, rfl⟩
        go_wp2_with fail
        go_ret
        exact ⟨ret_int (by rw [E.out, ← hj.out, hend.out]), rfl⟩
end Go.Proofs.YtnogdojdjehakaaGreatDoor

/-
  Contracts of package scan: Spaces, Blank, Name, Number, Big, IsName.
-/
namespace Go.Proofs.YtnogdojdjehakaaGreatDoor
open Go.RowKit

theorem spaces_any (s : ByteArray) (i : Int) (w : World) (hs : s.size ≤ 9223372036854775807) :
    Calls Tryz.prog 62 #[.string s, .int .i64 i] w fun e w' => e = .returned (.int .i64 (behI spB s.data.toList i)) ∧ w = w' := by
  go_enter Tryz.func62, Tryz.ntmps62
  go_wp2_with (go_at_call 73; refine (behind_sp _ _ _ hs).mono ?_; rintro e w' ⟨rfl, rfl⟩)
  go_ret
  exact ⟨rfl, rfl⟩
theorem blank_any (s : ByteArray) (i : Int) (w : World) (hs : s.size ≤ 9223372036854775807) :
    Calls Tryz.prog 50 #[.string s, .int .i64 i] w fun e w' => e = .returned (.int .i64 (behI blB s.data.toList i)) ∧ w = w' := by
  go_enter Tryz.func50, Tryz.ntmps50
  go_wp2_with (go_at_call 73; refine (behind_bl _ _ _ hs).mono ?_; rintro e w' ⟨rfl, rfl⟩)
  go_ret
  exact ⟨rfl, rfl⟩
/-- The place behind a name. -/
def nameI (l : List UInt8) (i : Int) : Int := if 0 ≤ i ∧ i < l.length ∧ leB (l.getD i.toNat 0) = true then behI naB l i else i
theorem getD_data (s : ByteArray) (j : Nat) (h : j < s.size) : s.data.toList.getD j 0 = s[j] := by
  rw [List.getD_eq_getElem?_getD, List.getElem?_eq_getElem (by rw [size_data]; exact h)]; rfl
set_option maxHeartbeats 1000000 in
theorem name_any (s : ByteArray) (i : Int) (w : World) (hs : s.size ≤ 9223372036854775807) :
    Calls Tryz.prog 110 #[.string s, .int .i64 i] w fun e w' => e = .returned (.int .i64 (nameI s.data.toList i)) ∧ w = w' := by
  by_cases hin : 0 ≤ i ∧ i < s.size
  · obtain ⟨h0, h1⟩ := hin
    obtain ⟨j, rfl⟩ : ∃ j : Nat, i = (j : Int) := ⟨i.toNat, by omega⟩
    have hj : j < s.size := by omega
    cases hl : leB s[j]
    · have e : nameI s.data.toList (j : Int) = j := by
        unfold nameI
        rw [if_neg]
        rintro ⟨_, _, h⟩
        rw [Int.toNat_natCast, getD_data s j hj, hl] at h
        cases h
      have E := Lib.hid e
      have Hl := Lib.hid hl
      clear e hl
      go_enter Tryz.func110, Tryz.ntmps110
      go_wp2_with (first | (go_at_call 100; refine (within_yes _ _ _ h0 h1).mono ?_; rintro e w' ⟨rfl, rfl⟩) | (go_at_call 131; refine (letter_any s[j] _).mono ?_; rw [Hl.out]; rintro e w' ⟨rfl, rfl⟩))
      go_ret
      exact ⟨ret_int E.out.symm, rfl⟩
    · have e : nameI s.data.toList (j : Int) = behI naB s.data.toList j := by
        unfold nameI
        rw [if_pos]
        exact ⟨h0, by rw [size_data]; exact h1, by rw [Int.toNat_natCast, getD_data s j hj, hl]⟩
      have E := Lib.hid e
      have Hl := Lib.hid hl
      clear e hl
      go_enter Tryz.func110, Tryz.ntmps110
      go_wp2_with (first | (go_at_call 100; refine (within_yes _ _ _ h0 h1).mono ?_; rintro e w' ⟨rfl, rfl⟩) | (go_at_call 131; refine (letter_any s[j] _).mono ?_; rw [Hl.out]; rintro e w' ⟨rfl, rfl⟩) | (go_at_call 73; refine (behind_na _ _ _ hs).mono ?_; rintro e w' ⟨rfl, rfl⟩))
      go_ret
      exact ⟨ret_int E.out.symm, rfl⟩
  · have e : nameI s.data.toList i = i := by
      unfold nameI
      rw [if_neg]
      rintro ⟨a, b, _⟩
      rw [size_data] at b
      exact hin ⟨a, b⟩
    have E := Lib.hid e
    clear e
    go_enter Tryz.func110, Tryz.ntmps110
    go_wp2_with (go_at_call 100; refine (within_no _ _ _ (by omega)).mono ?_; rintro e w' ⟨rfl, rfl⟩)
    go_ret
    exact ⟨ret_int E.out.symm, rfl⟩
/-- The place behind a sign that may stand there. -/
def sgnI (l : List UInt8) (c : UInt8) (i : Int) : Int := if 0 ≤ i ∧ i < l.length ∧ l.getD i.toNat 0 = c then i + 1 else i
def numI (l : List UInt8) (i : Int) : Int :=
  if sgnI l 45 i < behI dgB l (sgnI l 45 i) then
    if sgnI l 46 (behI dgB l (sgnI l 45 i)) < behI dgB l (sgnI l 46 (behI dgB l (sgnI l 45 i))) then behI dgB l (sgnI l 46 (behI dgB l (sgnI l 45 i)))
    else behI dgB l (sgnI l 45 i)
  else i
theorem num1_any (s : ByteArray) (c : UInt8) (i : Int) (b : Nat) (w : World) (hs : s.size ≤ 9223372036854775807) (hc : w.cell? ⟨b, 0, none⟩ = some (.string s)) :
    Calls Tryz.prog 133 #[.int .u8 (c.toNat : Int), .int .i64 i, .pointer (some ⟨b, 0, none⟩)] w fun e w' => e = .returned (.tuple #[.int .i64 (behI dgB s.data.toList (sgnI s.data.toList c i)), .bool (decide (sgnI s.data.toList c i < behI dgB s.data.toList (sgnI s.data.toList c i)))]) ∧ w = w' := by
  by_cases hin : 0 ≤ i ∧ i < s.size
  · obtain ⟨h0, h1⟩ := hin
    obtain ⟨j, rfl⟩ : ∃ j : Nat, i = (j : Int) := ⟨i.toNat, by omega⟩
    have hj : j < s.size := by omega
    by_cases hl : s[j] = c
    · have e : sgnI s.data.toList c (j : Int) = j + 1 := by
        unfold sgnI
        rw [if_pos]
        exact ⟨h0, by rw [size_data]; exact h1, by rw [Int.toNat_natCast, getD_data s j hj, hl]⟩
      rw [e]
      clear e
      have hq : ((s[j].toNat : Int) == (c.toNat : Int)) = true := by rw [hl]; simp
      clear hl
      go_enter Tryz.func133, Tryz.ntmps133
      go_wp2_with (first | (go_at_call 100; refine (within_yes _ _ _ h0 h1).mono ?_; rintro e w' ⟨rfl, rfl⟩) | (go_at_call 73; refine (behind_dg _ _ _ hs).mono ?_; rintro e w' ⟨rfl, rfl⟩))
      go_ret2
      exact ⟨rfl, rfl⟩
    · have e : sgnI s.data.toList c (j : Int) = j := by
        unfold sgnI
        rw [if_neg]
        rintro ⟨_, _, h⟩
        rw [Int.toNat_natCast, getD_data s j hj] at h
        exact hl h
      rw [e]
      clear e
      have hq : ((s[j].toNat : Int) == (c.toNat : Int)) = false := by
        apply beq_eq_false_iff_ne.2
        intro h
        exact hl (UInt8.toNat_inj.1 (by omega))
      clear hl
      go_enter Tryz.func133, Tryz.ntmps133
      go_wp2_with (first | (go_at_call 100; refine (within_yes _ _ _ h0 h1).mono ?_; rintro e w' ⟨rfl, rfl⟩) | (go_at_call 73; refine (behind_dg _ _ _ hs).mono ?_; rintro e w' ⟨rfl, rfl⟩))
      go_ret2
      exact ⟨rfl, rfl⟩
  · have e : sgnI s.data.toList c i = i := by
      unfold sgnI
      rw [if_neg]
      rintro ⟨a, b, _⟩
      rw [size_data] at b
      exact hin ⟨a, b⟩
    rw [e]
    clear e
    go_enter Tryz.func133, Tryz.ntmps133
    go_wp2_with (first | (go_at_call 100; refine (within_no _ _ _ (by omega)).mono ?_; rintro e w' ⟨rfl, rfl⟩) | (go_at_call 73; refine (behind_dg _ _ _ hs).mono ?_; rintro e w' ⟨rfl, rfl⟩))
    go_ret2
    exact ⟨rfl, rfl⟩
end Go.Proofs.YtnogdojdjehakaaGreatDoor

/-
  Plain mathematics of package scan: names, numbers, and the longest piece that is so.
-/
namespace Go.Proofs.YtnogdojdjehakaaGreatDoor

def at0 (l : List UInt8) (m : Nat) : UInt8 := l.getD m 0
/-- The piece of a text from i up to k. -/
def pc (l : List UInt8) (i k : Nat) : List UInt8 := (l.take k).drop i
theorem pc_length (l : List UInt8) (i k : Nat) (hk : k ≤ l.length) : (pc l i k).length = k - i := by
  unfold pc; rw [List.length_drop, List.length_take]; omega
theorem pc_at (l : List UInt8) (i k m : Nat) (h : i + m < k) : at0 (pc l i k) m = at0 l (i + m) := by
  unfold at0 pc
  rw [List.getD_eq_getElem?_getD, List.getD_eq_getElem?_getD, List.getElem?_drop, List.getElem?_take_of_lt h]
theorem at0_get (l : List UInt8) (m : Nat) (h : m < l.length) : at0 l m = l[m] := by
  unfold at0; rw [List.getD_eq_getElem?_getD, List.getElem?_eq_getElem h]; rfl
theorem all_at (p : UInt8 → Bool) (l : List UInt8) : l.all p = true ↔ ∀ m, m < l.length → p (at0 l m) = true := by
  rw [List.all_eq_true]
  constructor
  · intro h m hm
    rw [at0_get l m hm]
    exact h _ (List.getElem_mem hm)
  · intro h x hx
    obtain ⟨m, hm, rfl⟩ := List.getElem_of_mem hx
    rw [← at0_get l m hm]
    exact h m hm
theorem behN_in (p : UInt8 → Bool) (l : List UInt8) : ∀ (n k : Nat), l.length - k ≤ n → (∀ m, k ≤ m → m < behN p l k → p (at0 l m) = true) ∧ (behN p l k < l.length → p (at0 l (behN p l k)) = false)
  | 0, k, h => by
    have e := behN_end p l k (by omega)
    rw [e]
    exact ⟨fun m h1 h2 => by omega, fun h1 => by omega⟩
  | n + 1, k, h => by
    by_cases hk : k < l.length
    · cases hp : p l[k]
      · have e := behN_no p l k hk hp
        rw [e]
        exact ⟨fun m h1 h2 => by omega, fun _ => by rw [at0_get l k hk]; exact hp⟩
      · have e := behN_yes p l k hk hp
        obtain ⟨a, b⟩ := behN_in p l n (k + 1) (by omega)
        rw [e] at a b
        refine ⟨fun m h1 h2 => ?_, b⟩
        by_cases hm : m = k
        · subst hm; rw [at0_get l m hk]; exact hp
        · exact a m (by omega) h2
    · have e := behN_end p l k (by omega)
      rw [e]
      exact ⟨fun m h1 h2 => by omega, fun h1 => by omega⟩
theorem behN_so (p : UInt8 → Bool) (l : List UInt8) (k m : Nat) (h1 : k ≤ m) (h2 : m < behN p l k) : p (at0 l m) = true := (behN_in p l _ k (Nat.le_refl _)).1 m h1 h2
theorem behN_stop (p : UInt8 → Bool) (l : List UInt8) (k : Nat) (h : behN p l k < l.length) : p (at0 l (behN p l k)) = false := (behN_in p l _ k (Nat.le_refl _)).2 h

/-- The end of the longest piece from i on that is so, among those that end at n or ahead. -/
def longN (Q : List UInt8 → Bool) (l : List UInt8) (i : Nat) : Nat → Nat
  | 0 => i
  | k + 1 => if i < k + 1 ∧ Q (pc l i (k + 1)) = true then k + 1 else longN Q l i k
theorem longN_eq (Q : List UInt8 → Bool) (l : List UInt8) (i r : Nat) (hr : r = i ∨ (i < r ∧ Q (pc l i r) = true)) : ∀ n, (r ≤ n ∨ r = i) → (∀ k, r < k → k ≤ n → Q (pc l i k) = false) → longN Q l i n = r
  | 0, hn, h => by
    unfold longN
    omega
  | n + 1, hn, h => by
    unfold longN
    by_cases e : r = n + 1
    · subst e
      rcases hr with hr | ⟨h1, h2⟩
      · rw [if_neg (by omega)]
        exact longN_eq Q l i (n + 1) (.inl hr) n (.inr hr) (fun k a b => by omega)
      · rw [if_pos ⟨h1, h2⟩]
    · by_cases hlt : r < n + 1
      · rw [if_neg]
        · exact longN_eq Q l i r hr n (by omega) (fun k a b => h k a (by omega))
        · rintro ⟨_, hq⟩
          rw [h (n + 1) hlt (Nat.le_refl _)] at hq
          cases hq
      · have hi : r = i := by omega
        rw [if_neg (by omega)]
        exact longN_eq Q l i r hr n (.inr hi) (fun k a b => by omega)
/-- .. of any place. -/
def longI (Q : List UInt8 → Bool) (l : List UInt8) (i : Int) : Int := if i < 0 ∨ (l.length : Int) < i then i else (longN Q l i.toNat l.length : Int)

theorem long_all (p : UInt8 → Bool) (l : List UInt8) (i : Nat) (hi : i ≤ l.length) : longN (fun x => x.all p) l i l.length = behN p l i := by
  have h1 := behN_ge p l i
  have h2 := behN_le p l i hi
  apply longN_eq
  · by_cases e : behN p l i = i
    · exact .inl e
    · right
      refine ⟨by omega, (all_at _ _).2 fun m hm => ?_⟩
      rw [pc_length l i _ h2] at hm
      rw [pc_at l i _ m (by omega)]
      exact behN_so p l i _ (by omega) (by omega)
  · exact .inl h2
  · intro k hk hkn
    apply Bool.eq_false_iff.2
    intro hq
    have hq := (all_at _ _).1 hq (behN p l i - i) (by rw [pc_length l i k hkn]; omega)
    rw [pc_at l i k _ (by omega), show i + (behN p l i - i) = behN p l i by omega, behN_stop p l i (by omega)] at hq
    cases hq
theorem longI_all (p : UInt8 → Bool) (l : List UInt8) (i : Int) : longI (fun x => x.all p) l i = behI p l i := by
  unfold longI behI
  by_cases h0 : i < 0
  · rw [if_pos (.inl h0), if_pos h0]
  · rw [if_neg h0]
    by_cases h1 : (l.length : Int) < i
    · rw [if_pos (.inr h1), behN_end _ _ _ (by omega)]; omega
    · rw [if_neg (by omega), long_all p l _ (by omega)]

/-- A name, as the law reads it: sign by sign. -/
def goodAt (l : List UInt8) (k : Nat) : Bool := leB (at0 l k) || (decide (0 < k) && (dgB (at0 l k) || joB (at0 l k)))
def lnameB (l : List UInt8) : Bool := decide (0 < l.length ∧ ∀ k, k < l.length → goodAt l k = true)
theorem good_na {l : List UInt8} {k : Nat} (h : goodAt l k = true) : naB (at0 l k) = true := by
  unfold goodAt at h; unfold naB
  cases h1 : leB (at0 l k) <;> cases h2 : dgB (at0 l k) <;> cases h3 : joB (at0 l k) <;> simp_all
theorem na_good {l : List UInt8} {k : Nat} (hk : 0 < k) (h : naB (at0 l k) = true) : goodAt l k = true := by
  unfold naB at h; unfold goodAt
  cases h1 : leB (at0 l k) <;> cases h2 : dgB (at0 l k) <;> cases h3 : joB (at0 l k) <;> simp_all
theorem le_good {l : List UInt8} {k : Nat} (h : leB (at0 l k) = true) : goodAt l k = true := by
  unfold goodAt; rw [h]; rfl
theorem good_zero {l : List UInt8} (h : goodAt l 0 = true) : leB (at0 l 0) = true := by
  unfold goodAt at h; simpa using h
theorem le_na {c : UInt8} (h : leB c = true) : naB c = true := by unfold naB; rw [h]; rfl
theorem lname_iff (l : List UInt8) (i k : Nat) (hk : k ≤ l.length) : lnameB (pc l i k) = true ↔ (i < k ∧ leB (at0 l i) = true ∧ ∀ m, i ≤ m → m < k → naB (at0 l m) = true) := by
  unfold lnameB
  rw [decide_eq_true_iff, pc_length l i k hk]
  constructor
  · rintro ⟨h1, h2⟩
    refine ⟨by omega, ?_, ?_⟩
    · have := good_zero (h2 0 h1)
      rw [pc_at l i k 0 (by omega)] at this
      exact this
    · intro m hm hmk
      have := good_na (h2 (m - i) (by omega))
      rw [pc_at l i k _ (by omega), show i + (m - i) = m by omega] at this
      exact this
  · rintro ⟨h1, h2, h3⟩
    refine ⟨by omega, fun m hm => ?_⟩
    by_cases e : m = 0
    · subst e
      apply le_good
      rw [pc_at l i k 0 (by omega)]
      exact h2
    · apply na_good (by omega)
      rw [pc_at l i k m (by omega)]
      exact h3 _ (by omega) (by omega)
theorem long_name (l : List UInt8) (i : Nat) (hi : i ≤ l.length) : longN lnameB l i l.length = if i < l.length ∧ leB (at0 l i) = true then behN naB l i else i := by
  have h1 := behN_ge naB l i
  have h2 := behN_le naB l i hi
  by_cases hc : i < l.length ∧ leB (at0 l i) = true
  · rw [if_pos hc]
    have h3 : i < behN naB l i := by
      rw [← behN_yes naB l i hc.1 (by rw [← at0_get l i hc.1]; exact le_na hc.2)]
      exact behN_ge naB l (i + 1)
    apply longN_eq
    · exact .inr ⟨h3, (lname_iff l i _ h2).2 ⟨h3, hc.2, fun m a b => behN_so naB l i m a b⟩⟩
    · exact .inl h2
    · intro k hk hkn
      apply Bool.eq_false_iff.2
      intro hq
      have hq := ((lname_iff l i k hkn).1 hq).2.2 (behN naB l i) h1 hk
      rw [behN_stop naB l i (by omega)] at hq
      cases hq
  · rw [if_neg hc]
    apply longN_eq
    · exact .inl rfl
    · exact .inr rfl
    · intro k hk hkn
      apply Bool.eq_false_iff.2
      intro hq
      have hq := (lname_iff l i k hkn).1 hq
      exact hc ⟨by omega, hq.2.1⟩
end Go.Proofs.YtnogdojdjehakaaGreatDoor

/-
  Plain mathematics of package scan: numbers, as the law reads them, and the longest one.
-/
namespace Go.Proofs.YtnogdojdjehakaaGreatDoor
set_option linter.unusedVariables false

def ptAt (t : List UInt8) (m : Nat) : Bool := decide (at0 t m = 46 ∧ 0 < m ∧ m + 1 < t.length)
def okAt (t : List UInt8) (m : Nat) : Bool := ptAt t m || dgB (at0 t m)
def cntP (t : List UInt8) : Nat → Nat
  | 0 => 0
  | m + 1 => cntP t m + if ptAt t m = true then 1 else 0
def numB (t : List UInt8) : Bool := decide (0 < t.length ∧ (∀ m, m < t.length → okAt t m = true) ∧ cntP t t.length ≤ 1)
def strip (x : List UInt8) : List UInt8 := if at0 x 0 = 45 then x.drop 1 else x
def lnumB (x : List UInt8) : Bool := numB (strip x)
theorem cnt_mono (t : List UInt8) : ∀ (n m : Nat), m ≤ n → cntP t m ≤ cntP t n
  | 0, m, h => by rw [show m = 0 by omega]; exact Nat.le_refl _
  | n + 1, m, h => by
    by_cases e : m = n + 1
    · rw [e]; exact Nat.le_refl _
    · have := cnt_mono t n m (by omega)
      rw [cntP]; omega
theorem cnt_two (t : List UInt8) (p q n : Nat) (hpq : p < q) (hq : q < n) (h1 : ptAt t p = true) (h2 : ptAt t q = true) : 2 ≤ cntP t n := by
  have a := cnt_mono t n (q + 1) (by omega)
  have b := cnt_mono t q (p + 1) (by omega)
  rw [cntP, if_pos h2] at a
  rw [cntP, if_pos h1] at b
  omega
theorem cnt_none (t : List UInt8) : ∀ n, (∀ m, m < n → ptAt t m = false) → cntP t n = 0
  | 0, _ => rfl
  | n + 1, h => by
    rw [cntP, cnt_none t n (fun m hm => h m (by omega)), if_neg (by rw [h n (by omega)]; decide)]
theorem cnt_one (t : List UInt8) (p : Nat) : ∀ n, (∀ m, m < n → m ≠ p → ptAt t m = false) → cntP t n ≤ 1
  | 0, _ => by rw [cntP]; omega
  | n + 1, h => by
    rw [cntP]
    by_cases e : n = p
    · subst e
      rw [cnt_none t n (fun m hm => h m (by omega) (by omega))]
      split <;> omega
    · have := cnt_one t p n (fun m hm => h m (by omega))
      rw [if_neg (by rw [h n (by omega) e]; decide)]
      omega
theorem dg_46 : dgB 46 = false := by decide
theorem dg_45 : dgB 45 = false := by decide

/-- A piece behind its sign: the piece from a on. -/
theorem strip_pc (l : List UInt8) (i k : Nat) (hik : i < k) (hk : k ≤ l.length) : strip (pc l i k) = pc l (if at0 l i = 45 then i + 1 else i) k := by
  unfold strip
  rw [pc_at l i k 0 (by omega), Nat.add_zero]
  split
  · unfold pc; rw [List.drop_drop]
  · rfl
section
variable (l : List UInt8) (a k : Nat) (hk : k ≤ l.length)
include hk
theorem pt_pc (m : Nat) (h : a + m < k) : ptAt (pc l a k) m = decide (at0 l (a + m) = 46 ∧ 0 < m ∧ a + m + 1 < k) := by
  unfold ptAt
  rw [pc_at l a k m h, pc_length l a k hk]
  congr 1
  apply propext
  constructor
  · rintro ⟨x, y, z⟩; exact ⟨x, y, by omega⟩
  · rintro ⟨x, y, z⟩; exact ⟨x, y, by omega⟩
theorem ok_pc (m : Nat) (h : a + m < k) : okAt (pc l a k) m = (decide (at0 l (a + m) = 46 ∧ 0 < m ∧ a + m + 1 < k) || dgB (at0 l (a + m))) := by
  unfold okAt
  rw [pt_pc l a k hk m h, pc_at l a k m h]
/-- Digits alone. -/
theorem num_digits (h : a < k) (hd : ∀ m, a ≤ m → m < k → dgB (at0 l m) = true) : numB (pc l a k) = true := by
  unfold numB
  rw [decide_eq_true_iff, pc_length l a k hk]
  refine ⟨by omega, fun m hm => ?_, ?_⟩
  · rw [ok_pc l a k hk m (by omega), hd _ (by omega) (by omega)]; simp
  · rw [cnt_none]
    · omega
    · intro m hm
      rw [pt_pc l a k hk m (by omega)]
      apply decide_eq_false
      rintro ⟨x, _, _⟩
      have := hd (a + m) (by omega) (by omega)
      rw [x, dg_46] at this
      cases this
/-- Digits, a point, digits. -/
theorem num_point (e : Nat) (hae : a < e) (hek : e + 1 < k) (hp : at0 l e = 46) (hd1 : ∀ m, a ≤ m → m < e → dgB (at0 l m) = true) (hd2 : ∀ m, e + 1 ≤ m → m < k → dgB (at0 l m) = true) : numB (pc l a k) = true := by
  unfold numB
  rw [decide_eq_true_iff, pc_length l a k hk]
  have hdg : ∀ m, a ≤ m → m < k → m ≠ e → dgB (at0 l m) = true := fun m h1 h2 h3 => by
    by_cases h : m < e
    · exact hd1 m h1 h
    · exact hd2 m (by omega) h2
  refine ⟨by omega, fun m hm => ?_, ?_⟩
  · rw [ok_pc l a k hk m (by omega)]
    by_cases h : a + m = e
    · rw [decide_eq_true ⟨by rw [h]; exact hp, by omega, by omega⟩]; rfl
    · rw [hdg _ (by omega) (by omega) h]; simp
  · apply cnt_one _ (e - a)
    intro m hm hne
    rw [pt_pc l a k hk m (by omega)]
    apply decide_eq_false
    rintro ⟨x, _, _⟩
    have := hdg (a + m) (by omega) (by omega) (by omega)
    rw [x, dg_46] at this
    cases this
/-- What is none: a sign that is neither a digit nor a point where one may be. -/
theorem num_bad (p : Nat) (h1 : a ≤ p) (h2 : p < k) (hd : dgB (at0 l p) = false) (hn : ¬ (at0 l p = 46 ∧ a < p ∧ p + 1 < k)) : numB (pc l a k) = false := by
  unfold numB
  apply decide_eq_false
  rintro ⟨_, h, _⟩
  rw [pc_length l a k hk] at h
  have := h (p - a) (by omega)
  rw [ok_pc l a k hk _ (by omega), show a + (p - a) = p by omega, hd, Bool.or_false, decide_eq_true_iff] at this
  exact hn ⟨this.1, by omega, this.2.2⟩
/-- .. or two points. -/
theorem num_two (p q : Nat) (h1 : a < p) (hpq : p < q) (h2 : q < k) (hp : at0 l p = 46) (hd : dgB (at0 l q) = false) : numB (pc l a k) = false := by
  by_cases hq : at0 l q = 46 ∧ a < q ∧ q + 1 < k
  · unfold numB
    apply decide_eq_false
    rintro ⟨_, _, h⟩
    rw [pc_length l a k hk] at h
    have := cnt_two (pc l a k) (p - a) (q - a) (k - a) (by omega) (by omega) (by
      rw [pt_pc l a k hk _ (by omega), show a + (p - a) = p by omega]
      exact decide_eq_true ⟨hp, by omega, by omega⟩) (by
      rw [pt_pc l a k hk _ (by omega), show a + (q - a) = q by omega]
      exact decide_eq_true ⟨hq.1, by omega, by omega⟩)
    omega
  · exact num_bad l a k hk q (by omega) h2 hd hq
omit hk in
theorem num_empty (h : k ≤ a) : numB (pc l a k) = false := by
  unfold numB
  apply decide_eq_false
  rintro ⟨h0, _⟩
  have : (pc l a k).length = 0 := by unfold pc; rw [List.length_drop, List.length_take]; omega
  omega
end
/-- The place behind the longest number: as the program tells it, over places from 0 on. -/
def numN (l : List UInt8) (i : Nat) : Nat :=
  let a := if i < l.length ∧ at0 l i = 45 then i + 1 else i
  let e := behN dgB l a
  let b := if e < l.length ∧ at0 l e = 46 then e + 1 else e
  let e2 := behN dgB l b
  if a < e then (if b < e2 then e2 else e) else i
theorem long_num (l : List UInt8) (i : Nat) (hi : i ≤ l.length) : longN lnumB l i l.length = numN l i := by
  have hstrip : ∀ k, i < k → k ≤ l.length → lnumB (pc l i k) = numB (pc l (if i < l.length ∧ at0 l i = 45 then i + 1 else i) k) := by
    intro k h1 h2
    unfold lnumB
    rw [strip_pc l i k h1 h2]
    by_cases h : at0 l i = 45
    · rw [if_pos h, if_pos ⟨by omega, h⟩]
    · rw [if_neg h, if_neg (fun x => h x.2)]
  unfold numN
  dsimp only
  have hia : i ≤ (if i < l.length ∧ at0 l i = 45 then i + 1 else i) ∧ (if i < l.length ∧ at0 l i = 45 then i + 1 else i) ≤ l.length := by split <;> omega
  generalize (if i < l.length ∧ at0 l i = 45 then i + 1 else i) = a at *
  have he1 := behN_ge dgB l a
  have he2 := behN_le dgB l a hia.2
  have hso := behN_so dgB l a
  have hst := behN_stop dgB l a
  generalize behN dgB l a = e at *
  by_cases hae : a < e
  · rw [if_pos hae]
    by_cases hpt : e < l.length ∧ at0 l e = 46
    · rw [if_pos hpt]
      have hf1 := behN_ge dgB l (e + 1)
      have hf2 := behN_le dgB l (e + 1) (by omega)
      have hso2 := behN_so dgB l (e + 1)
      have hst2 := behN_stop dgB l (e + 1)
      generalize behN dgB l (e + 1) = e2 at *
      by_cases hb : e + 1 < e2
      · rw [if_pos hb]
        apply longN_eq
        · exact .inr ⟨by omega, by rw [hstrip _ (by omega) hf2]; exact num_point l a e2 hf2 e hae hb hpt.2 hso (fun m x y => hso2 m x y)⟩
        · exact .inl hf2
        · intro k h1 h2
          rw [hstrip k (by omega) h2]
          exact num_two l a k h2 e e2 hae (by omega) h1 hpt.2 (hst2 (by omega))
      · rw [if_neg hb]
        have e2e : e2 = e + 1 := by omega
        subst e2e
        apply longN_eq
        · exact .inr ⟨by omega, by rw [hstrip _ (by omega) he2]; exact num_digits l a e he2 hae hso⟩
        · exact .inl he2
        · intro k h1 h2
          rw [hstrip k (by omega) h2]
          by_cases hk1 : k = e + 1
          · exact num_bad l a k h2 e (by omega) h1 (hst (by omega)) (by omega)
          · exact num_two l a k h2 e (e + 1) hae (by omega) (by omega) hpt.2 (hst2 (by omega))
    · rw [if_neg hpt]
      have hb : behN dgB l e = e := by
        by_cases h : e < l.length
        · exact behN_no dgB l e h (by rw [← at0_get l e h]; exact hst h)
        · exact behN_end dgB l e (by omega)
      rw [hb, if_neg (by omega)]
      apply longN_eq
      · exact .inr ⟨by omega, by rw [hstrip _ (by omega) he2]; exact num_digits l a e he2 hae hso⟩
      · exact .inl he2
      · intro k h1 h2
        rw [hstrip k (by omega) h2]
        exact num_bad l a k h2 e (by omega) h1 (hst (by omega)) (fun h => hpt ⟨by omega, h.1⟩)
  · rw [if_neg hae]
    apply longN_eq
    · exact .inl rfl
    · exact .inr rfl
    · intro k h1 h2
      rw [hstrip k h1 h2]
      have : e = a := by omega
      subst this
      by_cases hka : k ≤ e
      · exact num_empty l e k hka
      · exact num_bad l e k h2 e (Nat.le_refl _) (by omega) (hst (by omega)) (by omega)

theorem longI_lo (Q : List UInt8 → Bool) (l : List UInt8) (i : Int) (h : i < 0) : longI Q l i = i := by unfold longI; rw [if_pos (.inl h)]
theorem longI_hi (Q : List UInt8 → Bool) (l : List UInt8) (i : Int) (h : (l.length : Int) < i) : longI Q l i = i := by unfold longI; rw [if_pos (.inr h)]
theorem longI_mid (Q : List UInt8 → Bool) (l : List UInt8) (k : Nat) (h : k ≤ l.length) : longI Q l (k : Int) = (longN Q l k l.length : Int) := by
  unfold longI; rw [if_neg (by omega), Int.toNat_natCast]
theorem sgn_nat (l : List UInt8) (c : UInt8) (k : Nat) : sgnI l c (k : Int) = ((if k < l.length ∧ at0 l k = c then k + 1 else k : Nat) : Int) := by
  unfold sgnI at0
  rw [Int.toNat_natCast]
  by_cases h : k < l.length ∧ l.getD k 0 = c
  · rw [if_pos h, if_pos ⟨by omega, by omega, h.2⟩]; rfl
  · rw [if_neg h, if_neg (fun x => h ⟨by omega, x.2.2⟩)]
theorem behI_nat (p : UInt8 → Bool) (l : List UInt8) (k : Nat) : behI p l (k : Int) = (behN p l k : Int) := by
  unfold behI
  rw [if_neg (by omega), Int.toNat_natCast]
theorem numI_nat (l : List UInt8) (k : Nat) : numI l (k : Int) = (numN l k : Int) := by
  unfold numI numN
  dsimp only
  rw [sgn_nat, behI_nat, sgn_nat, behI_nat]
  generalize (if k < l.length ∧ at0 l k = 45 then k + 1 else k) = a
  generalize behN dgB l a = e
  generalize (if e < l.length ∧ at0 l e = 46 then e + 1 else e) = b
  generalize behN dgB l b = e2
  by_cases h1 : a < e
  · by_cases h2 : b < e2
    · rw [if_pos (by omega), if_pos (by omega), if_pos h1, if_pos h2]
    · rw [if_pos (by omega), if_neg (by omega), if_pos h1, if_neg h2]
  · rw [if_neg (by omega), if_neg h1]
theorem numI_long (l : List UInt8) (i : Int) : numI l i = longI lnumB l i := by
  by_cases h0 : i < 0
  · rw [longI_lo _ _ _ h0]
    unfold numI
    have e1 : sgnI l 45 i = i := by unfold sgnI; rw [if_neg (by omega)]
    have e2 : behI dgB l i = i := by unfold behI; rw [if_pos h0]
    rw [e1, e2, if_neg (by omega)]
  · obtain ⟨k, rfl⟩ : ∃ k : Nat, i = (k : Int) := ⟨i.toNat, by omega⟩
    by_cases h1 : l.length < k
    · rw [longI_hi _ _ _ (by omega), numI_nat]
      unfold numN
      dsimp only
      have e1 : (if k < l.length ∧ at0 l k = 45 then k + 1 else k) = k := by rw [if_neg (by omega)]
      rw [e1, behN_end dgB l k (by omega), if_neg (by omega)]
    · rw [longI_mid _ _ _ (by omega), numI_nat, long_num l k (by omega)]
theorem nameI_long (l : List UInt8) (i : Int) : nameI l i = longI lnameB l i := by
  by_cases h0 : i < 0
  · rw [longI_lo _ _ _ h0]
    unfold nameI
    rw [if_neg (by omega)]
  · obtain ⟨k, rfl⟩ : ∃ k : Nat, i = (k : Int) := ⟨i.toNat, by omega⟩
    by_cases h1 : l.length < k
    · rw [longI_hi _ _ _ (by omega)]
      unfold nameI
      rw [if_neg (by omega)]
    · rw [longI_mid _ _ _ (by omega), long_name l k (by omega)]
      unfold nameI
      rw [Int.toNat_natCast, behI_nat]
      by_cases h : k < l.length ∧ leB (at0 l k) = true
      · have h' : (0 : Int) ≤ (k : Int) ∧ (k : Int) < l.length ∧ leB (l.getD k 0) = true := ⟨by omega, by omega, h.2⟩
        rw [if_pos h', if_pos h]
      · have h' : ¬ ((0 : Int) ≤ (k : Int) ∧ (k : Int) < l.length ∧ leB (l.getD k 0) = true) := fun x => h ⟨by omega, x.2.2⟩
        rw [if_neg h', if_neg h]
end Go.Proofs.YtnogdojdjehakaaGreatDoor

namespace Go.Proofs.YtnogdojdjehakaaGreatDoor
open Go.RowKit
set_option linter.unusedVariables false
set_option linter.unusedSimpArgs false

/-- A hexadecimal digit's value, and whether it is one. -/
def hexV (c : UInt8) : Int × Bool :=
  if 48 ≤ c.toNat ∧ c.toNat ≤ 57 then ((c.toNat : Int) - 48, true) else if 97 ≤ c.toNat ∧ c.toNat ≤ 102 then ((c.toNat : Int) - 97 + 10, true) else if 65 ≤ c.toNat ∧ c.toNat ≤ 70 then ((c.toNat : Int) - 65 + 10, true) else (0, false)
theorem hexV_range (c : UInt8) : 0 ≤ (hexV c).1 ∧ (hexV c).1 ≤ 15 := by
  unfold hexV
  (repeat' split) <;> (dsimp only) <;> omega
set_option maxHeartbeats 1000000 in
theorem hexValue_any (c : UInt8) (w : World) : Calls Tryz.prog 157 #[.int .u8 (c.toNat : Int)] w fun e w' => e = .returned (.tuple #[.int .i32 (hexV c).1, .bool (hexV c).2]) ∧ w = w' := by
  have h256 := c.toNat_lt
  have hx : ((c.toNat : Int) < 48 ∧ hexV c = (0, false)) ∨ (48 ≤ (c.toNat : Int) ∧ (c.toNat : Int) ≤ 57 ∧ hexV c = ((c.toNat : Int) - 48, true)) ∨ (58 ≤ (c.toNat : Int) ∧ (c.toNat : Int) ≤ 64 ∧ hexV c = (0, false)) ∨ (65 ≤ (c.toNat : Int) ∧ (c.toNat : Int) ≤ 70 ∧ hexV c = ((c.toNat : Int) - 65 + 10, true)) ∨ (71 ≤ (c.toNat : Int) ∧ (c.toNat : Int) ≤ 96 ∧ hexV c = (0, false)) ∨ (97 ≤ (c.toNat : Int) ∧ (c.toNat : Int) ≤ 102 ∧ hexV c = ((c.toNat : Int) - 97 + 10, true)) ∨ (103 ≤ (c.toNat : Int) ∧ hexV c = (0, false)) := by
    unfold hexV
    by_cases h1 : 48 ≤ c.toNat ∧ c.toNat ≤ 57
    · rw [if_pos h1]; right; left; exact ⟨by omega, by omega, rfl⟩
    · rw [if_neg h1]
      by_cases h2 : 97 ≤ c.toNat ∧ c.toNat ≤ 102
      · rw [if_pos h2]; right; right; right; right; right; left; exact ⟨by omega, by omega, rfl⟩
      · rw [if_neg h2]
        by_cases h3 : 65 ≤ c.toNat ∧ c.toNat ≤ 70
        · rw [if_pos h3]; right; right; right; left; exact ⟨by omega, by omega, rfl⟩
        · rw [if_neg h3]
          by_cases a1 : c.toNat < 48
          · left; exact ⟨by omega, rfl⟩
          · by_cases a2 : c.toNat ≤ 64
            · right; right; left; exact ⟨by omega, by omega, rfl⟩
            · by_cases a3 : c.toNat ≤ 96
              · right; right; right; right; left; exact ⟨by omega, by omega, rfl⟩
              · right; right; right; right; right; right; exact ⟨by omega, rfl⟩
  generalize hexV c = v at *
  rcases hx with ⟨h1, rfl⟩ | ⟨h1, h2, rfl⟩ | ⟨h1, h2, rfl⟩ | ⟨h1, h2, rfl⟩ | ⟨h1, h2, rfl⟩ | ⟨h1, h2, rfl⟩ | ⟨h1, rfl⟩
  all_goals
    go_enter Tryz.func157, Tryz.ntmps157
    go_wp2
    go_ret2
    exact ⟨rfl, rfl⟩

/-- The number that hexadecimal digits tell. -/
def hexN (l : List UInt8) : Int := l.foldl (fun n c => 16 * n + (hexV c).1) 0
theorem hexN_snoc (l : List UInt8) (c : UInt8) : hexN (l ++ [c]) = 16 * hexN l + (hexV c).1 := by
  unfold hexN
  rw [List.foldl_append]
  rfl
theorem hexN_range (l : List UInt8) : ∀ j, j ≤ l.length → 0 ≤ hexN (l.take j) ∧ hexN (l.take j) < ((16 ^ j : Nat) : Int)
  | 0, _ => ⟨by simp [hexN], by simp [hexN]⟩
  | j + 1, h => by
    have ih := hexN_range l j (by omega)
    have := hexV_range (l[j]'(by omega))
    rw [List.take_succ_eq_append_getElem (by omega), hexN_snoc, Nat.pow_succ, Int.natCast_mul]
    omega

theorem hexV_take_succ (l : List UInt8) (j : Nat) (hj : j < l.length) : hexN (l.take (j + 1)) = 16 * hexN (l.take j) + (hexV l[j]).1 := by
  rw [List.take_succ_eq_append_getElem hj, hexN_snoc]
theorem hexOk_take_succ (l : List UInt8) (j : Nat) (hj : j < l.length) : (l.take (j + 1)).all (fun c => (hexV c).2) = ((l.take j).all (fun c => (hexV c).2) && (hexV l[j]).2) := by
  rw [List.take_succ_eq_append_getElem hj, List.all_append]
  simp
theorem or_sixteen (n v : Int) (h0 : 0 ≤ n) (h1 : n < 16777216) (v0 : 0 ≤ v) (v1 : v < 16) : bits BinOp.or IntKind.i32 (n * 16) v = 16 * n + v := by
  rw [bits_join .i32 31 (by decide) wraps_i32 4 (n * 16) v (by omega) (by omega) (by omega) v0 (by omega) (by omega)]
  omega
/-- A sign's number, as it may be. -/
def runeOk (n : Int) : Int := if Lib.validRune n = true then n else 65533
/-- What hexadecimal digits behind two bytes tell, and how many bytes all have; 0: nothing. -/
def numV (l : List UInt8) (d : Nat) : Int × Nat := if 2 + d ≤ l.length ∧ ((l.drop 2).take d).all (fun c => (hexV c).2) = true then (runeOk (hexN ((l.drop 2).take d)), 2 + d) else (0, 0)

set_option maxHeartbeats 2000000 in
set_option maxRecDepth 100000 in
theorem numbered_any (s : ByteArray) (d : Nat) (hd : d ≤ 6) (w : World) (hs : s.size ≤ 1000000) : Calls Tryz.prog 155 #[.string s, .int .i64 d] w fun e w' => e = .returned (.tuple #[.int .i32 (numV s.data.toList d).1, .int .i64 (numV s.data.toList d).2]) ∧ w = w' := by
  by_cases hlen : (s.size : Int) < 2 + d
  · have hv : numV s.data.toList d = (0, 0) := by
      unfold numV
      rw [if_neg (by rw [size_data]; omega)]
    rw [hv]
    go_enter Tryz.func155, Tryz.ntmps155
    go_wp2
    go_ret2
    exact ⟨rfl, rfl⟩
  · have hql : ((s.data.toList.drop 2).take d).length = d := by rw [List.length_take, List.length_drop, size_data]; omega
    have hqa : ∀ j (_ : j < d) (hb : 2 + j < s.size), ((s.data.toList.drop 2).take d)[j]? = some (s[2 + j]'hb) := by
      intro j hj hb
      rw [List.getElem?_take_of_lt hj, List.getElem?_drop, List.getElem?_eq_getElem (by rw [size_data]; omega)]
      rfl
    have hnum : numV s.data.toList d = if ((s.data.toList.drop 2).take d).all (fun c => (hexV c).2) = true then (runeOk (hexN ((s.data.toList.drop 2).take d)), 2 + d) else (0, 0) := by
      unfold numV
      by_cases hall : ((s.data.toList.drop 2).take d).all (fun c => (hexV c).2) = true
      · rw [if_pos ⟨by rw [size_data]; omega, hall⟩, if_pos hall]
      · rw [if_neg (fun h => hall h.2), if_neg hall]
    generalize numV s.data.toList d = r at *
    generalize (s.data.toList.drop 2).take d = q at *
    have Hnum := Lib.hid hnum
    clear hnum
    have Hql := Lib.hid hql
    have Hqa := Lib.hid hqa
    clear hql hqa
    go_enter Tryz.func155, Tryz.ntmps155
    go_wp2
    go_loop [7, 18] (fun n i => ∃ (j : Nat) (z : Int), j ≤ d ∧ n = .int .i32 z ∧ i = .int .i64 j ∧ Hid (z = hexN (q.take j)) ∧ Hid ((q.take j).all (fun c => (hexV c).2) = true)) (fun _ i => d - (intOf i).toNat)
    case atStart => exact ⟨0, 0, Nat.zero_le _, rfl, rfl, rfl, rfl⟩
    case round =>
      obtain ⟨j, n, hj, rfl, rfl, hn, hok⟩ := hrel
      by_cases hlt : j < d
      · have hr := hexN_range q j (by rw [Hql.out]; omega)
        have hjl : j < q.length := by rw [Hql.out]; exact hlt
        have hq : q[j] = s[2 + j]'(by omega) := by
          have := Hqa.out j hlt (by omega)
          rw [List.getElem?_eq_getElem hjl] at this
          exact Option.some.inj this
        have h1 := hexV_take_succ q j hjl
        have h2 := hexOk_take_succ q j hjl
        rw [hq] at h1 h2
        rw [hok.out, Bool.true_and] at h2
        have hvr := hexV_range (s[2 + j]'(by omega))
        have hp : (16 ^ j : Nat) ≤ 16 ^ 5 := Nat.pow_le_pow_right (by decide) (by omega)
        have hr1 := hr.1
        have hr2 : hexN (q.take j) < 1048576 := by
          have : (16 ^ 5 : Nat) = 1048576 := by decide
          omega
        have hi0 : (0 : Int) ≤ 2 + (j : Int) := by omega
        have hi1 : 2 + (j : Int) < s.size := by omega
        have hi2 : (2 + (j : Int)).toNat = 2 + j := by omega
        have H1 := Lib.hid h1
        have H2 := Lib.hid h2
        have hv0 := hvr.1
        have hv1 := hvr.2
        clear hq hr hjl h1 h2 hvr hp
        have hcall := fun W => hexValue_any (s[2 + j]'(by omega)) W
        rw [← hn.out] at hr1 hr2
        generalize hx : hexV (s[2 + j]'(by omega)) = hv at *
        obtain ⟨v, ok⟩ := hv
        have Hx := Lib.hid hx
        clear hx
        dsimp only at hv0 hv1 hcall
        cases ok
        · go_wp2_with fail
          go_at_call 157
          refine (hcall _).mono ?_
          rintro e w2 ⟨rfl, rfl⟩
          go_wp2
          go_ret2
          have hall : ¬ q.all (fun c => (hexV c).2) = true := by
            intro h
            have h3 : (q.take (j + 1)).all (fun c => (hexV c).2) = true := List.all_eq_true.2 (fun c hc => List.all_eq_true.1 h c (List.mem_of_mem_take hc))
            rw [H2.out] at h3
            exact absurd h3 (by decide)
          have hr0 := Hnum.out
          rw [if_neg hall] at hr0
          rw [hr0]
          exact ⟨rfl, rfl⟩
        · go_wp2_with fail
          go_at_call 157
          refine (hcall _).mono ?_
          rintro e w2 ⟨rfl, rfl⟩
          have hor := or_sixteen n v hr1 (by omega) hv0 (by omega)
          go_wp2
          go_round
          case rel => exact ⟨j + 1, _, by omega, rfl, by go_num, by show _ = _; rw [H1.out, hn.out], H2.out⟩
          case measure => simp [intOf]; omega
      · obtain rfl : j = d := by omega
        have hqt : q.take j = q := List.take_of_length_le (by rw [Hql.out]; exact Nat.le_refl _)
        rw [hqt] at hok
        have hn' := hn.out
        rw [hqt] at hn'
        have hr := hexN_range q j (by rw [Hql.out]; exact Nat.le_refl _)
        rw [hqt, ← hn'] at hr
        have hr0 := Hnum.out
        rw [if_pos hok.out, ← hn'] at hr0
        unfold runeOk at hr0
        clear hqt hn' Hnum hok hn
        by_cases hv : Lib.validRune n = true
        · rw [if_pos hv] at hr0
          subst hr0
          go_wp2_with fail
          go_at_call 151
          refine (Tryz.utf8_ValidRune _ _).mono ?_
          rintro e w2 ⟨rfl, rfl⟩
          go_wp2
          go_ret2
          exact ⟨by simp, rfl⟩
        · rw [if_neg hv] at hr0
          subst hr0
          have hvf : Lib.validRune n = false := by simpa using hv
          go_wp2_with fail
          go_at_call 151
          refine (Tryz.utf8_ValidRune _ _).mono ?_
          rintro e w2 ⟨rfl, rfl⟩
          go_wp2
          go_ret2
          exact ⟨by simp, rfl⟩
end Go.Proofs.YtnogdojdjehakaaGreatDoor

namespace Go.Proofs.YtnogdojdjehakaaGreatDoor
open Go.RowKit
set_option linter.unusedVariables false
set_option linter.unusedSimpArgs false

/-- What a \ and what stands behind it tell, and how many bytes these have; 0: nothing. -/
def escV (l : List UInt8) : Int × Nat :=
  if l.length < 2 then (0, 0)
  else if l.getD 1 0 = 34 ∨ l.getD 1 0 = 92 then (((l.getD 1 0).toNat : Int), 2)
  else if l.getD 1 0 = 117 then numV l 4
  else if l.getD 1 0 = 85 then numV l 6
  else (0, 0)
theorem runeOk_range (n : Int) (h0 : 0 ≤ n) (h1 : n < 2147483648) : 0 ≤ runeOk n ∧ runeOk n < 2147483648 := by
  unfold runeOk
  split <;> omega
theorem numV_range (l : List UInt8) (d : Nat) (hd : d ≤ 6) : 0 ≤ (numV l d).1 ∧ (numV l d).1 < 2147483648 ∧ (numV l d).2 ≤ l.length := by
  unfold numV
  split
  · rename_i h
    have hl : ((l.drop 2).take d).length = d := by rw [List.length_take, List.length_drop]; omega
    have hr := hexN_range ((l.drop 2).take d) d (by omega)
    rw [List.take_of_length_le (by omega)] at hr
    have hp : (16 ^ d : Nat) ≤ 16 ^ 6 := Nat.pow_le_pow_right (by decide) hd
    have he : (16 ^ 6 : Nat) = 16777216 := by decide
    have := runeOk_range (hexN ((l.drop 2).take d)) hr.1 (by omega)
    exact ⟨this.1, this.2, h.1⟩
  · exact ⟨Int.le_refl _, by decide, Nat.zero_le _⟩
theorem escV_range (l : List UInt8) : 0 ≤ (escV l).1 ∧ (escV l).1 < 2147483648 ∧ (escV l).2 ≤ l.length := by
  unfold escV
  split
  · exact ⟨Int.le_refl _, by decide, Nat.zero_le _⟩
  · split
    · have := (l.getD 1 0).toNat_lt
      exact ⟨by dsimp only; omega, by dsimp only; omega, by dsimp only; omega⟩
    · split
      · exact numV_range l 4 (by decide)
      · split
        · exact numV_range l 6 (by decide)
        · exact ⟨Int.le_refl _, by decide, Nat.zero_le _⟩

set_option maxHeartbeats 1000000 in
theorem escaped_any (s : ByteArray) (w : World) (hs : s.size ≤ 1000000) : Calls Tryz.prog 148 #[.string s] w fun e w' => e = .returned (.tuple #[.int .i32 (escV s.data.toList).1, .int .i64 (escV s.data.toList).2]) ∧ w = w' := by
  by_cases h2 : s.size < 2
  · have hv : escV s.data.toList = (0, 0) := by unfold escV; rw [if_pos (by rw [size_data]; exact h2)]
    rw [hv]
    go_enter Tryz.func148, Tryz.ntmps148
    go_wp2
    go_ret2
    exact ⟨rfl, rfl⟩
  · have hlt : 1 < s.size := by omega
    have hg : s.data.toList.getD 1 0 = s[1] := by
      rw [List.getD_eq_getElem?_getD, List.getElem?_eq_getElem (by rw [size_data]; exact hlt), Option.getD_some]
      rfl
    have hv : escV s.data.toList = if s[1] = 34 ∨ s[1] = 92 then ((s[1].toNat : Int), 2) else if s[1] = 117 then numV s.data.toList 4 else if s[1] = 85 then numV s.data.toList 6 else (0, 0) := by
      unfold escV
      rw [if_neg (by rw [size_data]; exact h2), hg]
    rw [hv]
    clear hv hg
    have h256 := s[1].toNat_lt
    have inj : ∀ (b : UInt8), (s[1].toNat : Int) = (b.toNat : Int) → s[1] = b := fun b h => UInt8.toNat_inj.mp (by omega)
    by_cases a1 : s[1] = 34
    · have e1 : ((s[1].toNat : Int) == 34) = true := by rw [a1]; rfl
      rw [if_pos (Or.inl a1)]
      clear inj a1
      go_enter Tryz.func148, Tryz.ntmps148
      go_wp2
      go_ret2
      exact ⟨rfl, rfl⟩
    have e1 : ((s[1].toNat : Int) == 34) = false := by
      rw [beq_eq_false_iff_ne]; exact fun h => a1 (inj 34 h)
    by_cases a2 : s[1] = 92
    · have e2 : ((s[1].toNat : Int) == 92) = true := by rw [a2]; rfl
      rw [if_pos (Or.inr a2)]
      clear inj a1 a2
      go_enter Tryz.func148, Tryz.ntmps148
      go_wp2
      go_ret2
      exact ⟨rfl, rfl⟩
    have e2 : ((s[1].toNat : Int) == 92) = false := by
      rw [beq_eq_false_iff_ne]; exact fun h => a2 (inj 92 h)
    rw [if_neg (by rintro (h | h); exact a1 h; exact a2 h)]
    by_cases a3 : s[1] = 117
    · have e3 : ((s[1].toNat : Int) == 117) = true := by rw [a3]; rfl
      rw [if_pos a3]
      clear inj a1 a2 a3
      have hcall := fun W => numbered_any s 4 (by decide) W hs
      generalize numV s.data.toList 4 = r at *
      go_enter Tryz.func148, Tryz.ntmps148
      go_wp2_with fail
      go_at_call 155
      refine (hcall _).mono ?_
      rintro e w2 ⟨rfl, rfl⟩
      go_wp2
      go_ret2
      exact ⟨rfl, rfl⟩
    have e3 : ((s[1].toNat : Int) == 117) = false := by
      rw [beq_eq_false_iff_ne]; exact fun h => a3 (inj 117 h)
    rw [if_neg a3]
    by_cases a4 : s[1] = 85
    · have e4 : ((s[1].toNat : Int) == 85) = true := by rw [a4]; rfl
      rw [if_pos a4]
      clear inj a1 a2 a3 a4
      have hcall := fun W => numbered_any s 6 (by decide) W hs
      generalize numV s.data.toList 6 = r at *
      go_enter Tryz.func148, Tryz.ntmps148
      go_wp2_with fail
      go_at_call 155
      refine (hcall _).mono ?_
      rintro e w2 ⟨rfl, rfl⟩
      go_wp2
      go_ret2
      exact ⟨rfl, rfl⟩
    have e4 : ((s[1].toNat : Int) == 85) = false := by
      rw [beq_eq_false_iff_ne]; exact fun h => a4 (inj 85 h)
    rw [if_neg a4]
    clear inj a1 a2 a3 a4
    go_enter Tryz.func148, Tryz.ntmps148
    go_wp2
    go_ret2
    exact ⟨rfl, rfl⟩

/-- What Unquote reads from a place on. -/
def unqFrom (s : ByteArray) : Nat → Nat → Nat → List UInt8 → Option (List UInt8 × Nat)
  | 0, _, _, _ => none
  | f + 1, pos, next, acc =>
    if pos < s.size then
      if pos < next then unqFrom s f (pos + (Utf8.decode s pos).2) next acc
      else if (Utf8.decode s pos).1 = 34 then some (acc, pos + 1)
      else if (Utf8.decode s pos).1 = 10 then none
      else if (Utf8.decode s pos).1 = 92 then
        if (escV (s.data.toList.drop pos)).2 = 0 then none
        else unqFrom s f (pos + (Utf8.decode s pos).2) (pos + (escV (s.data.toList.drop pos)).2) (acc ++ Lib.encodeRune (escV (s.data.toList.drop pos)).1)
      else unqFrom s f (pos + (Utf8.decode s pos).2) next (acc ++ Lib.encodeRune (Utf8.decode s pos).1)
    else none
def unqAll (s : ByteArray) : Option (List UInt8 × Nat) := if Lib.hasPrefix s.data.toList [34] = true then unqFrom s s.size 0 1 [] else none
def unqVal : Option (List UInt8 × Nat) → Value
  | some (a, n) => .tuple #[.string ⟨a.toArray⟩, .int .i64 n, .bool true]
  | none => .tuple #[.string ⟨#[]⟩, .int .i64 0, .bool false]
end Go.Proofs.YtnogdojdjehakaaGreatDoor

namespace Go.Proofs.YtnogdojdjehakaaGreatDoor
open Go.RowKit
set_option linter.unusedVariables false
set_option linter.unusedSimpArgs false

theorem unqFrom_end (s : ByteArray) (f pos next : Nat) (acc : List UInt8) (h : ¬ pos < s.size) : unqFrom s f pos next acc = none := by
  cases f with
  | zero => rfl
  | succ f => rw [unqFrom, if_neg h]

set_option maxHeartbeats 8000000 in
set_option maxRecDepth 1000000 in
theorem unquote_any (s : ByteArray) (w : World) (hs : s.size ≤ 1000000) :
    Calls Tryz.prog 125 #[.string s] w fun e w' => e = .returned (unqVal (unqAll s)) ∧ Below w.heap.size w w' := by
  obtain ⟨r, hr⟩ : ∃ r, r = unqAll s := ⟨_, rfl⟩
  rw [← hr]
  unfold unqAll at hr
  have hpre := fun W => Tryz.strings_HasPrefix s ⟨#[34]⟩ W
  have e34 : (⟨#[34]⟩ : ByteArray).data.toList = [34] := rfl
  rw [e34] at hpre
  clear e34
  cases hp : Lib.hasPrefix s.data.toList [34]
  · rw [hp] at hpre hr
    rw [if_neg (by decide)] at hr
    subst hr
    go_enter Tryz.func125, Tryz.ntmps125
    go_wp2_with fail
    go_at_call 72
    refine (hpre _).mono ?_
    rintro e w2 ⟨rfl, hw⟩
    rw [hw]
    clear hw
    go_wp2
    go_ret3
    exact ⟨rfl, Below.refl _ _⟩
  rw [hp] at hpre hr
  rw [if_pos rfl] at hr
  have Hr := Lib.hid hr
  clear hr hp
  go_enter Tryz.func125, Tryz.ntmps125
  go_wp2_with fail
  go_at_call 72
  refine (hpre _).mono ?_
  rintro e w2 ⟨rfl, hw⟩
  rw [hw]
  clear hw hpre
  go_wp2
  go_loopw [6] (fun nx wr => ∃ (pos fuel next : Nat) (acc : List UInt8), nx = .int .i64 next ∧ Lib.IsBuilderF 135 5 w.heap.size w.heap.size (Lib.byteCells acc) wr ∧ wr.heap[w.heap.size + 1]? = some (.stringIter s pos) ∧ Below w.heap.size w wr ∧ Hid (unqFrom s fuel pos next acc = r) ∧ Hid (s.size ≤ pos + fuel) ∧ Hid (acc.length ≤ 4 * pos) ∧ Hid (next ≤ s.size + 1)) (fun _ wr => s.size - wr.iterPos (w.heap.size + 1))
  case atStart =>
    refine ⟨0, s.size, 1, [], rfl, (Lib.IsBuilderF.of (Lib.fresh_isBuilder 135 5 w)).alloc _, ?_, ((Below.refl _ w).alloc (Nat.le_refl _) _).alloc (by simp) _, Hr.out.symm, by show s.size ≤ 0 + s.size; omega, by show 0 ≤ _; omega, by show 1 ≤ _; omega⟩
    have := World.iter_heap (w.alloc (.cells #[.pointer none, .slice none 0 0] 135)) s 0
    simpa using this
  case round =>
    obtain ⟨pos, fuel, next, acc, rfl, hI, hit, hbw, Hacc, Hfu, Hal, Hnx⟩ := hrel
    have hsz : w.heap.size + 1 < wr.heap.size := (Array.getElem?_eq_some_iff.1 hit).1
    clear Hr
    by_cases hp : pos < s.size
    · have hnx : ∀ ty, (Instr.next (.pointer (some ⟨w.heap.size + 1, 0, none⟩)) true ty).run Tryz.prog wr = _ := fun ty => Lib.run_next_any_at wr (w.heap.size + 1) s pos ty hit hp
      have hwd := width_pos s pos hp
      have hd1 := decode_le s pos
      have hI2 := hI.iterAt hit (pos + (Utf8.decode s pos).2)
      have hit2 := Lib.iterAt_heap wr (w.heap.size + 1) s pos (pos + (Utf8.decode s pos).2) hit
      have hbw2 := Lib.below_iterAt hbw (k := w.heap.size + 1) (by omega) s (pos + (Utf8.decode s pos).2)
      have hsz2 : w.heap.size ≤ (wr.iterAt (w.heap.size + 1) s (pos + (Utf8.decode s pos).2)).heap.size := by rw [Lib.iterAt_size]; omega
      obtain ⟨f, rfl⟩ : ∃ f, fuel = f + 1 := ⟨fuel - 1, by have := Hfu.out; omega⟩
      have hstep := Hacc.out
      rw [unqFrom, if_pos hp] at hstep
      have Hit := Lib.hid hit
      have Hnn := Hnx.out
      clear Hacc hit hI
      by_cases hlt : pos < next
      · rw [if_pos hlt] at hstep
        have Hstep := Lib.hid hstep
        clear hstep
        have hlt' : (pos : Int) < next := by omega
        go_wp2
        go_roundw
        case rel => exact ⟨pos + (Utf8.decode s pos).2, f, next, acc, rfl, hI2, hit2, hbw2, Hstep.out, by have := Hfu.out; show s.size ≤ _; omega, by have := Hal.out; show _ ≤ _; omega, Hnx⟩
        case measure =>
          simp only [World.iterPos, hit2, Hit.out]
          omega
      rw [if_neg hlt] at hstep
      have hlt' : ¬ (pos : Int) < next := by omega
      by_cases h34 : (Utf8.decode s pos).1 = 34
      · rw [if_pos h34] at hstep
        subst hstep
        go_wp2_with fail
        go_at_call 97
        refine (Tryz.Builder_String_any_k w.heap.size w.heap.size acc _ hI2 hsz2).mono ?_
        rintro e W1 ⟨rfl, _, b1, _⟩
        go_wp2
        go_ret3
        exact ⟨rfl, hbw2.trans b1⟩
      rw [if_neg h34] at hstep
      by_cases h10 : (Utf8.decode s pos).1 = 10
      · rw [if_pos h10] at hstep
        subst hstep
        go_wp2
        go_ret3
        exact ⟨rfl, hbw2⟩
      rw [if_neg h10] at hstep
      by_cases h92 : (Utf8.decode s pos).1 = 92
      · rw [if_pos h92] at hstep
        have hes := escV_range (s.data.toList.drop pos)
        have hcall := fun W => escaped_any (s.extract pos s.size) W (by simp; omega)
        have hed := extract_drop s pos
        rw [hed] at hcall
        clear hed
        rw [List.length_drop, size_data] at hes
        generalize escV (s.data.toList.drop pos) = ev at *
        obtain ⟨sg, wd⟩ := ev
        dsimp only at hes hcall hstep
        obtain ⟨q0, q1, q2⟩ := hes
        by_cases hw0 : wd = 0
        · subst hw0
          rw [if_pos rfl] at hstep
          subst hstep
          go_wp2_with fail
          go_at_call 148
          refine (hcall _).mono ?_
          rintro e W1 ⟨rfl, rfl⟩
          go_wp2
          go_ret3
          exact ⟨rfl, hbw2⟩
        · rw [if_neg hw0] at hstep
          have Hstep := Lib.hid hstep
          clear hstep
          have hwb : ((wd : Int) == 0) = false := by rw [beq_eq_false_iff_ne]; omega
          clear hw0
          go_wp2_with fail
          go_at_call 148
          refine (hcall _).mono ?_
          rintro e W1 ⟨rfl, rfl⟩
          go_wp2_with fail
          go_at_call 149
          refine (bld_WriteRune w.heap.size w.heap.size _ _ (by omega) (by omega) _ hI2 (by rw [Lib.byteCells_length]; have := Hal.out; omega) hsz2).mono ?_
          rintro e W2 ⟨rfl, h1, b1, k1⟩
          go_wp2
          go_roundw
          case rel =>
            have hl4 := (Lib.runeCells_le sg).2
            rw [Lib.runeCells_length] at hl4
            refine ⟨pos + (Utf8.decode s pos).2, f, pos + wd, acc ++ Lib.encodeRune sg, by go_num, ?_, k1.iter hit2 (by omega), hbw2.trans b1, Hstep.out, by have := Hfu.out; show s.size ≤ _; omega, by have := Hal.out; show _ ≤ _; simp; omega, by show _ ≤ _; omega⟩
            rw [Lib.byteCells_append, Lib.byteCells_encodeRune]; exact Or.inr h1
          case measure =>
            simp only [World.iterPos, k1.iter hit2 (by omega), Hit.out]
            omega
      · rw [if_neg h92] at hstep
        have Hstep := Lib.hid hstep
        clear hstep
        go_wp2_with fail
        go_at_call 149
        refine (bld_WriteRune w.heap.size w.heap.size _ _ (by omega) (by omega) _ hI2 (by rw [Lib.byteCells_length]; have := Hal.out; omega) hsz2).mono ?_
        rintro e W2 ⟨rfl, h1, b1, k1⟩
        go_wp2
        go_roundw
        case rel =>
          have hl4 := (Lib.runeCells_le ((Utf8.decode s pos).1 : Int)).2
          rw [Lib.runeCells_length] at hl4
          refine ⟨pos + (Utf8.decode s pos).2, f, next, acc ++ Lib.encodeRune (Utf8.decode s pos).1, rfl, ?_, k1.iter hit2 (by omega), hbw2.trans b1, Hstep.out, by have := Hfu.out; show s.size ≤ _; omega, by have := Hal.out; show _ ≤ _; simp; omega, Hnx⟩
          rw [Lib.byteCells_append, Lib.byteCells_encodeRune]; exact Or.inr h1
        case measure =>
          simp only [World.iterPos, k1.iter hit2 (by omega), Hit.out]
          omega
    · have hnx : ∀ ty, (Instr.next (.pointer (some ⟨w.heap.size + 1, 0, none⟩)) true ty).run Tryz.prog wr = _ := fun ty => Lib.run_next_end_at wr (w.heap.size + 1) s pos ty hit hp
      have hstep := Hacc.out
      rw [unqFrom_end s fuel pos next acc hp] at hstep
      subst hstep
      go_wp2
      go_ret3
      exact ⟨rfl, hbw⟩
end Go.Proofs.YtnogdojdjehakaaGreatDoor

/-
  Contracts of package scan: Number, Big, IsName.
-/
namespace Go.Proofs.YtnogdojdjehakaaGreatDoor
open Go.RowKit

set_option maxHeartbeats 1000000 in
theorem number_any (s : ByteArray) (i : Int) (w : World) (hs : s.size ≤ 9223372036854775807) :
    Calls Tryz.prog 111 #[.string s, .int .i64 i] w fun e w' => e = .returned (.int .i64 (numI s.data.toList i)) ∧ Below w.heap.size w w' := by
  have hmf : ∀ (fn : Fn) (first cap : Array Value) (w : World), (Instr.makeFunc fn first cap).run Tryz.prog w = .ok (.func fn first cap) w := fun _ _ _ _ => rfl
  obtain ⟨a, ha⟩ : ∃ a, sgnI s.data.toList 45 i = a := ⟨_, rfl⟩
  obtain ⟨e1, he1⟩ : ∃ a1, behI dgB s.data.toList a = a1 := ⟨_, rfl⟩
  obtain ⟨b, hb⟩ : ∃ b, sgnI s.data.toList 46 e1 = b := ⟨_, rfl⟩
  obtain ⟨e2, he2⟩ : ∃ a2, behI dgB s.data.toList b = a2 := ⟨_, rfl⟩
  have hn : numI s.data.toList i = if a < e1 then if b < e2 then e2 else e1 else i := by
    unfold numI
    rw [ha, he1, hb, he2]
  have H1 : ∀ W p, W.cell? ⟨p, 0, none⟩ = some (.string s) → Calls Tryz.prog 133 #[.int .u8 45, .int .i64 i, .pointer (some ⟨p, 0, none⟩)] W fun e w' => e = .returned (.tuple #[.int .i64 e1, .bool (decide (a < e1))]) ∧ W = w' := by
    intro W p hc
    have h := num1_any s 45 i p W hs hc
    rw [ha, he1] at h
    exact h
  have H2 : ∀ W p, W.cell? ⟨p, 0, none⟩ = some (.string s) → Calls Tryz.prog 133 #[.int .u8 46, .int .i64 e1, .pointer (some ⟨p, 0, none⟩)] W fun e w' => e = .returned (.tuple #[.int .i64 e2, .bool (decide (b < e2))]) ∧ W = w' := by
    intro W p hc
    have h := num1_any s 46 e1 p W hs hc
    rw [hb, he2] at h
    exact h
  have HN := Lib.hid hn
  have K1 := Lib.hid H1
  have K2 := Lib.hid H2
  clear hn ha he1 hb he2 H1 H2
  by_cases h1 : a < e1
  · by_cases h2 : b < e2
    · have E := Lib.hid (show numI s.data.toList i = e2 by rw [HN.out, if_pos h1, if_pos h2])
      have d1 : decide (a < e1) = true := by simpa using h1
      have d2 : decide (b < e2) = true := by simpa using h2
      go_enter Tryz.func111, Tryz.ntmps111
      go_wp2_with fail
      go_at_call 133
      refine (K1.out _ _ (by simp)).mono ?_
      rintro e w' ⟨rfl, rfl⟩
      go_wp2_with fail
      go_at_call 133
      refine (K2.out _ _ (by simp)).mono ?_
      rintro e w' ⟨rfl, rfl⟩
      go_wp2_with fail
      go_ret
      exact ⟨ret_int E.out.symm, (Below.refl _ _).alloc (Nat.le_refl _) _⟩
    · have E := Lib.hid (show numI s.data.toList i = e1 by rw [HN.out, if_pos h1, if_neg h2])
      have d1 : decide (a < e1) = true := by simpa using h1
      have d2 : decide (b < e2) = false := by simpa using h2
      go_enter Tryz.func111, Tryz.ntmps111
      go_wp2_with fail
      go_at_call 133
      refine (K1.out _ _ (by simp)).mono ?_
      rintro e w' ⟨rfl, rfl⟩
      go_wp2_with fail
      go_at_call 133
      refine (K2.out _ _ (by simp)).mono ?_
      rintro e w' ⟨rfl, rfl⟩
      go_wp2_with fail
      go_ret
      exact ⟨ret_int E.out.symm, (Below.refl _ _).alloc (Nat.le_refl _) _⟩
  · have E := Lib.hid (show numI s.data.toList i = i by rw [HN.out, if_neg h1])
    have d1 : decide (a < e1) = false := by simpa using h1
    go_enter Tryz.func111, Tryz.ntmps111
    go_wp2_with fail
    go_at_call 133
    refine (K1.out _ _ (by simp)).mono ?_
    rintro e w' ⟨rfl, rfl⟩
    go_wp2_with fail
    go_ret
    exact ⟨ret_int E.out.symm, (Below.refl _ _).alloc (Nat.le_refl _) _⟩

def bigV (s : ByteArray) : Bool := !s.data.toList.isEmpty && (behI biB s.data.toList 0 == (s.size : Int))
theorem big_any (s : ByteArray) (w : World) (hs : s.size ≤ 9223372036854775807) :
    Calls Tryz.prog 108 #[.string s] w fun e w' => e = .returned (.bool (bigV s)) ∧ w = w' := by
  have hv : bigV s = (!s.toList.isEmpty && (behI biB s.data.toList 0 == (s.size : Int))) := by unfold bigV; rw [Lib.toList_data]
  have HV := Lib.hid hv
  clear hv
  go_enter Tryz.func108, Tryz.ntmps108
  go_wp2_with (go_at_call 73; refine (behind_bi _ _ _ hs).mono ?_; rintro e w' ⟨rfl, rfl⟩)
  all_goals
    go_ret
    exact ⟨ret_bool (by rw [HV.out] <;> simp [*]), rfl⟩
def isNameV (s : ByteArray) : Bool := !s.data.toList.isEmpty && (nameI s.data.toList 0 == (s.size : Int))
end Go.Proofs.YtnogdojdjehakaaGreatDoor

/-
  Package expr: what is read, as a function of the text and the place.
-/
namespace Go.Proofs.YtnogdojdjehakaaGreatDoor
open Go.RowKit
set_option linter.unusedVariables false

def mkB (l : List UInt8) : ByteArray := ⟨l.toArray⟩
def isAt (s : ByteArray) (i : Nat) (c : UInt8) : Bool := decide (i < s.size) && (at0 s.data.toList i == c)
theorem isAt_lt {s : ByteArray} {i : Nat} {c : UInt8} (h : isAt s i c = true) : i < s.size := by
  unfold isAt at h
  rw [Bool.and_eq_true, decide_eq_true_iff] at h
  exact h.1
def bl (s : ByteArray) (i : Nat) : Nat := behN blB s.data.toList i
def sp (s : ByteArray) (i : Nat) : Nat := behN spB s.data.toList i
def nm (s : ByteArray) (i : Nat) : Nat := if i < s.size ∧ leB (at0 s.data.toList i) = true then behN naB s.data.toList i else i
def nu (s : ByteArray) (i : Nat) : Nat := numN s.data.toList i
theorem bl_ge (s : ByteArray) (i : Nat) : i ≤ bl s i := behN_ge _ _ _
theorem sp_ge (s : ByteArray) (i : Nat) : i ≤ sp s i := behN_ge _ _ _
def E0 : ByteArray := ⟨#[]⟩
abbrev Res := Option (EX × Nat)
def quoS (s : ByteArray) (i : Nat) : Res := match unqAll (s.extract i s.size) with
  | some (t, n) => some (.mk 0 (mkB t) E0 E0 [] none [], i + n)
  | none => none
def varS (s : ByteArray) (i : Nat) : Res := if isAt s i 36 && decide (i + 1 < nm s (i + 1)) then some (.mk 2 E0 (s.extract (i + 1) (nm s (i + 1))) E0 [] none [], nm s (i + 1)) else none
def nestS (P : Nat → Res) (i : Nat) : Res := match P i with
  | some (e, j) => some (.mk 6 E0 E0 E0 [] (some e) [], j)
  | none => none
def refS (k : Int) (s : ByteArray) (i : Nat) : Res :=
  if nm s i = i then none
  else if isAt s (nm s i) 46 then
    (if nm s (nm s i + 1) = nm s i + 1 then none else some (.mk k E0 (s.extract i (nm s i)) (s.extract (nm s i + 1) (nm s (nm s i + 1))) [] none [], nm s (nm s i + 1)))
  else some (.mk k E0 (s.extract i (nm s i)) E0 [] none [], nm s i)
def terS (s : ByteArray) (i : Nat) : Res := if isAt s i 45 then refS 4 s (i + 1) else none
def nubS (s : ByteArray) (i : Nat) : Res := if nu s i = i then none else some (.mk 1 (s.extract i (nu s i)) E0 E0 [] none [], nu s i)
def headS (P : Nat → Res) (s : ByteArray) (i : Nat) : Res := (quoS s i).or ((varS s i).or ((nestS P i).or ((terS s i).or ((refS 3 s i).or (nubS s i)))))
def isFuncS : EX → Bool | .mk k _ n a _ _ _ => (k == 3) && emp a && bigV n
def isTermS : EX → Bool | .mk k _ _ _ _ _ _ => k == 4
def termAttr : EX → Bool | .mk k _ _ a _ _ _ => (k == 4) && !emp a
def opnE : EX → EX | .mk k t n a al i v => .mk (if k = 3 then 5 else k) t n a al i v
def withArgs : EX → List AR → EX | .mk k t n a _ i v, xs => .mk k t n a xs i v
def opnS (s : ByteArray) (e : EX) (i : Nat) : Bool × Nat :=
  if isFuncS e || isTermS e then (if isAt s (bl s i) 40 then (true, bl s i + 1) else (false, bl s i)) else (false, i)
def namS (s : ByteArray) (i : Nat) : Option (ByteArray × EX × Nat) :=
  if nm s i = i then none
  else if isAt s (bl s (nm s i)) 58 then
    (match (quoS s (bl s (bl s (nm s i) + 1))).or (nubS s (bl s (bl s (nm s i) + 1))) with
     | some (e, q) => some (s.extract i (nm s i), e, q)
     | none => none)
  else none
def argS (P : Nat → Res) (s : ByteArray) (i : Nat) : Option (ByteArray × EX × Nat) := match namS s i with
  | some x => some x
  | none => match headS P s i with
    | some (e, j) => some (E0, e, j)
    | none => none
def addOk (xs : List AR) (n : ByteArray) (e : EX) : Bool := if emp n then xs.all (fun x => emp (arName x)) && !termAttr e else !(xs.any fun x => decide (arName x = n))
/-- Arguments, behind so many of them; with a comma wanted, or not. -/
def argsS (P : Nat → Res) (s : ByteArray) (xs : List AR) (want : Bool) (i : Nat) : Option (List AR × Nat) :=
  if isAt s (bl s i) 41 then some (xs, bl s i + 1)
  else if want then
    if h : isAt s (bl s i) 44 = true then argsS P s xs false (bl s i + 1) else none
  else match argS P s (bl s i) with
    | none => none
    | some (n, e, j) =>
      if emp n && (opnS s e j).1 then
        if h : i < (opnS s e j).2 ∧ (opnS s e j).2 ≤ s.size then
          match argsS P s [] false (opnS s e j).2 with
          | none => none
          | some (xs', m) =>
            if h2 : i < m ∧ m ≤ s.size then
              if addOk xs E0 (withArgs (opnE e) xs') then argsS P s (xs ++ [.mk E0 (withArgs (opnE e) xs')]) true m else none
            else none
        else none
      else if h : i < (if emp n then (opnS s e j).2 else j) ∧ (if emp n then (opnS s e j).2 else j) ≤ s.size then
        if addOk xs n e then argsS P s (xs ++ [.mk n e]) true (if emp n then (opnS s e j).2 else j) else none
      else none
termination_by s.size - i
decreasing_by
  · have := bl_ge s i; have := isAt_lt h; omega
  · omega
  · omega
  · omega
def inlS (P : Nat → Res) (s : ByteArray) (i : Nat) : Res := match headS P s i with
  | none => none
  | some (e, j) =>
    if (opnS s e j).1 then
      match argsS P s [] false (opnS s e j).2 with
      | none => none
      | some (xs, m) => some (withArgs (opnE e) xs, m)
    else some (e, (opnS s e j).2)
def txB (c : UInt8) : Bool := !(c == 10 || c == 123 || c == 125)
def tx (s : ByteArray) (i : Nat) : Nat := behN txB s.data.toList i
def addT (s : ByteArray) (acc : List EL) (i j : Nat) : List EL := if i < j then acc ++ [.mk (s.extract i j) none] else acc
/-- A line's texts and places, behind so many of them. -/
def partsS (P : Nat → Res) (s : ByteArray) (acc : List EL) (i : Nat) : Option (List EL × Nat) :=
  if isAt s (tx s i) 123 then
    match P (tx s i) with
    | none => none
    | some (e, j) => if h : i < j ∧ j ≤ s.size then partsS P s (addT s acc i (tx s i) ++ [.mk E0 (some e)]) j else none
  else some (addT s acc i (tx s i), tx s i)
termination_by s.size - i
decreasing_by omega
/-- Line feeds, and lines of spaces alone: how many, where the last line begins, and its first sign behind spaces. -/
def nlS (s : ByteArray) (f fr i : Nat) : Nat × Nat × Nat := if h : isAt s i 10 = true then nlS s (f + 1) (i + 1) (sp s (i + 1)) else (f, fr, i)
termination_by s.size - i
decreasing_by have := sp_ge s (i + 1); have := isAt_lt h; omega
def stopB (c : UInt8) : Bool := c == 46 || c == 42 || c == 91 || c == 125
def nextS (s : ByteArray) (i : Nat) : Option (Nat × Nat × Nat) :=
  if (nlS s 0 i i).2.2 = (nlS s 0 i i).2.1 ∨ (nlS s 0 i i).2.2 = s.size ∨ stopB (at0 s.data.toList (nlS s 0 i i).2.2) = true then none
  else some ((nlS s 0 i i).1, (nlS s 0 i i).2.2 - (nlS s 0 i i).2.1, (nlS s 0 i i).2.2)
/-- A line: line feeds and spaces ahead of it, what stands in it. -/
structure LN where
  feeds : Nat
  spaces : Nat
  parts : List EL
def linesS (P : Nat → Res) (s : ByteArray) (acc : List LN) (f p : Nat) (i : Nat) : Option (List LN × Nat) :=
  match partsS P s [] i with
  | none => none
  | some (ps, j) => match nextS s j with
    | none => some (acc ++ [⟨f, p, ps⟩], j)
    | some (f', p', k) => if h : i < k ∧ k ≤ s.size then linesS P s (acc ++ [⟨f, p, ps⟩]) f' p' k else none
termination_by s.size - i
decreasing_by omega
def leastS : List LN → Nat
  | [] => 0
  | x :: r => r.foldl (fun m y => if y.spaces < m then y.spaces else m) x.spaces
/-- The elements so far, and the text that is being put together. -/
abbrev JS := List EL × List UInt8
def endS (b : JS) : List EL := if b.2 = [] then b.1 else b.1 ++ [.mk (mkB b.2) none]
def partJ (b : JS) : EL → JS
  | .mk t none => (b.1, b.2 ++ t.data.toList)
  | .mk t (some e) => (endS b ++ [.mk t (some e)], [])
def headJ (least : Nat) (b : JS) (x : LN) : JS := if b.1 = [] ∧ b.2 = [] then b else (b.1, b.2 ++ List.replicate x.feeds 10 ++ List.replicate (x.spaces - least) 32)
def lineJ (least : Nat) (b : JS) (x : LN) : JS := x.parts.foldl partJ (headJ least b x)
def trimR (l : List UInt8) : List UInt8 := (l.reverse.dropWhile (· == 32)).reverse
def joinS (ls : List LN) : List EL :=
  endS (let b := ls.foldl (lineJ (leastS ls.tail)) ([], []); (b.1, trimR b.2))
def patS (P : Nat → Res) (s : ByteArray) (i : Nat) : Option (List EL × Nat) := match linesS P s [] 0 0 (sp s i) with
  | none => none
  | some (ls, j) => some (joinS ls, j)
def keyE (s : ByteArray) (a : Nat) : Nat := if nm s a = a then nu s a else nm s a
def variS (P : Nat → Res) (s : ByteArray) (i : Nat) : Option (VA × Nat) :=
  if isAt s (if isAt s i 42 then i + 1 else i) 91 then
    if keyE s (bl s ((if isAt s i 42 then i + 1 else i) + 1)) = bl s ((if isAt s i 42 then i + 1 else i) + 1) then none
    else if isAt s (bl s (keyE s (bl s ((if isAt s i 42 then i + 1 else i) + 1)))) 93 then
      match patS P s (bl s (keyE s (bl s ((if isAt s i 42 then i + 1 else i) + 1))) + 1) with
      | none => none
      | some (l, j) => if isAt s j 10 && !l.isEmpty then some (.mk (s.extract (bl s ((if isAt s i 42 then i + 1 else i) + 1)) (keyE s (bl s ((if isAt s i 42 then i + 1 else i) + 1)))) (isAt s i 42) l, j) else none
    else none
  else none
def varsS (P : Nat → Res) (s : ByteArray) (acc : List VA) (i : Nat) : Option (List VA × Nat) :=
  if isAt s i 125 then (if acc.countP vaDflt = 1 then some (acc, i + 1) else none)
  else match variS P s i with
    | none => none
    | some (v, j) => if h : i < bl s j ∧ bl s j ≤ s.size then varsS P s (acc ++ [v]) (bl s j) else none
termination_by s.size - i
decreasing_by omega
def selS (P : Nat → Res) (s : ByteArray) (i : Nat) : Option (List VA × Nat) := if isAt s (sp s i) 10 then varsS P s [] (bl s (sp s i + 1)) else none
def mayAsk : EX → Bool | .mk k t n a al i v => decide (k = 0 ∨ k = 1 ∨ k = 2 ∨ k = 5) || termAttr (.mk k t n a al i v)
/-- A place, with so many braces yet to go. -/
def placeS (s : ByteArray) : Nat → Nat → Res
  | 0, _ => none
  | r + 1, i =>
    if isAt s i 123 then
      match inlS (placeS s r) s (bl s (i + 1)) with
      | none => none
      | some (e, j) =>
        if isAt s (bl s j) 125 then (if termAttr e then none else some (e, bl s j + 1))
        else if isAt s (bl s j) 45 && isAt s (bl s j + 1) 62 && mayAsk e then
          match selS (placeS s r) s (bl s j + 2) with
          | none => none
          | some (vs, m) => some (.mk 7 E0 E0 E0 [] (some e) vs, m)
        else none
    else none
/-- What is told of a place: if anything, it ends behind it, within the text. -/
def PosOk (s : ByteArray) (P : Nat → Res) : Prop := ∀ i e j, P i = some (e, j) → i < j ∧ j ≤ s.size
end Go.Proofs.YtnogdojdjehakaaGreatDoor

/-
  Package expr: the reader's pass and take.
-/
namespace Go.Proofs.YtnogdojdjehakaaGreatDoor
open Go.RowKit
set_option linter.unusedVariables false
set_option linter.unusedSimpArgs false

/-- A call of it enters it. -/
def Enters (N : FuncId) : Prop := ∀ (args : Array Value) (w : World), (callFunc N args).run Tryz.prog w = .ok (.enter N args) w
/-- It tells a place's end. -/
def EndFn (N : FuncId) (f : ByteArray → Nat → Nat) (s : ByteArray) : Prop := Enters N ∧ ∀ (i : Nat) (w : World), s.size ≤ 4000000 → i ≤ s.size → i ≤ f s i ∧ f s i ≤ s.size ∧ Calls Tryz.prog N #[.string s, .int .i64 (i : Nat)] w fun e w' => e = .returned (.int .i64 (f s i : Nat)) ∧ Below w.heap.size w w'
set_option maxHeartbeats 2000000 in
set_option maxRecDepth 100000 in
theorem pass_any {N : FuncId} {f : ByteArray → Nat → Nat} {rb : Nat} {s : ByteArray} {i : Nat} (hN : EndFn N f s) (w : World) (hr : Rd rb s i w) (hs : s.size ≤ 4000000) (hi : i ≤ s.size) :
    Calls Tryz.prog 49 #[pt rb, .func (.func N) #[] #[]] w fun e w' => e = .returned (.string (s.extract i (f s i))) ∧ Rd rb s (f s i) w' ∧ Kp rb w w' := by
  obtain ⟨hE, hC⟩ := hN
  obtain ⟨h1, h2, _⟩ := hC i w hs hi
  have hC2 := fun W => (hC i W hs hi).2.2
  have HC := Lib.hid hC2
  have c0 := hr.c0
  have c1 := hr.c1
  have f0 := hr.f 0
  have f1 := hr.f 1
  have hlt := hr.lt
  have HR := Lib.hid hr
  obtain ⟨j, hj⟩ : ∃ j, f s i = j := ⟨_, rfl⟩
  rw [hj] at h1 h2 HC ⊢
  have hi0 : (i : Int) ≤ 4000000 := by omega
  have hj0 : (j : Int) ≤ 4000000 := by omega
  have hij : (i : Int) ≤ (j : Int) := by omega
  have hjs : (j : Int) ≤ (s.size : Int) := by omega
  have hss : (s.size : Int) ≤ 4000000 := by omega
  clear hC hC2 hj hr
  unfold Enters at hE
  unfold pt
  go_enter Tryz.func49, Tryz.ntmps49
  go_wp2_with fail
  refine (HC.out _).mono ?_
  rintro e w1 ⟨rfl, hb⟩
  have hR1 := HR.out.later hb
  have d0 := hR1.c0
  have d1 := hR1.c1
  have g0 := hR1.f 0
  have g1 := hR1.f 1
  have hl1 := hR1.lt
  have HR1 := Lib.hid hR1
  have HK := Lib.hid (Kp.of_below hb (Nat.le_of_lt hlt))
  clear hR1 hb
  go_wp2
  go_region
  go_wp2
  go_ret
  exact ⟨rfl, HR1.out.set j, (HK.out.setCell 1 _).drew⟩
end Go.Proofs.YtnogdojdjehakaaGreatDoor

/-
  Package expr: take; what a way of reading gives; number, variable, reference, term, message, quoted.
-/
namespace Go.Proofs.YtnogdojdjehakaaGreatDoor
open Go.RowKit
set_option linter.unusedVariables false
set_option linter.unusedSimpArgs false

/-- What a way of reading gives: an expression, or none; then whatever expression. -/
def Got (rb : Nat) (s : ByteArray) (w : World) (r : Res) (e : Ending) (w' : World) : Prop :=
  Kp rb w w' ∧ ∃ (k : Int) (t n a : ByteArray) (A1 : Option Addr) (n1 c1 : Nat) (p : Option Addr) (A2 : Option Addr) (n2 c2 : Nat) (j : Nat),
    e = .returned (.tuple #[exV k t n a A1 n1 c1 p A2 n2 c2, .bool r.isSome]) ∧ Rd rb s j w' ∧ j ≤ s.size ∧
    ∀ x m, r = some (x, m) → m = j ∧ ExF w' (Since w.heap.size w') x ⟨.int .i64 k, .string t, .string n, .string a, .slice A1 n1 c1, .pointer p, .slice A2 n2 c2⟩
/-- An expression with nothing within. -/
theorem exF_flat (W : World) (F : Nat → Prop) (k : Int) (t n a : ByteArray) : ExF W F (.mk k t n a [] none []) ⟨.int .i64 k, .string t, .string n, .string a, .slice none 0 0, .pointer none, .slice none 0 0⟩ := by
  rw [ExF]
  exact ⟨rfl, rfl, rfl, rfl, LieN.nil _, by simp only [OF], ⟨none, 0, rfl, Nat.le_refl _, Nat.zero_le _, fun h => absurd h (by simp)⟩⟩
theorem isAt_prefix (s : ByteArray) (i : Nat) (c : UInt8) (hi : i ≤ s.size) : Lib.hasPrefix (s.extract i s.size).data.toList [c] = isAt s i c := by
  rw [extract_drop]
  unfold isAt
  by_cases h : i < s.size
  · have hl : i < s.data.toList.length := by rw [size_data]; exact h
    rw [List.drop_eq_getElem_cons hl, decide_eq_true h, Bool.true_and, at0_get _ _ hl]
    unfold Lib.hasPrefix
    rw [List.isPrefixOf, List.isPrefixOf, Bool.and_true, Bool.eq_iff_iff, beq_iff_eq, beq_iff_eq]
    exact eq_comm
  · rw [List.drop_eq_nil_of_le (by rw [size_data]; omega), decide_eq_false h]
    rfl
theorem rds_of {rb : Nat} {s : ByteArray} {i : Nat} {w W : World} (hr : Rd rb s i W) (hk : Kp rb w W) : W.cell? ⟨rb, 0, none⟩ = some (.string s) ∧ W.cell? ⟨rb, 1, none⟩ = some (.int .i64 (i : Nat)) ∧ rb + 1 ≤ W.heap.size ∧ Rd rb s i W ∧ Kp rb w W := ⟨hr.c0, hr.c1, hr.lt, hr, hk⟩
theorem Rd.drew {rb : Nat} {s : ByteArray} {i : Nat} {w : World} (h : Rd rb s i w) : Rd rb s i w.drew := h
theorem rds_later {rb : Nat} {s : ByteArray} {i : Nat} {w W W' : World} (h : W.cell? ⟨rb, 0, none⟩ = some (.string s) ∧ W.cell? ⟨rb, 1, none⟩ = some (.int .i64 (i : Nat)) ∧ rb + 1 ≤ W.heap.size ∧ Rd rb s i W ∧ Kp rb w W) (hb : Below W.heap.size W W') :
    W'.cell? ⟨rb, 0, none⟩ = some (.string s) ∧ W'.cell? ⟨rb, 1, none⟩ = some (.int .i64 (i : Nat)) ∧ rb + 1 ≤ W'.heap.size ∧ Rd rb s i W' ∧ Kp rb w W' :=
  rds_of (h.2.2.2.1.later hb) (h.2.2.2.2.trans (Kp.of_below hb (by have := h.2.2.1; omega)))
set_option maxHeartbeats 2000000 in
set_option maxRecDepth 100000 in
theorem take_any {rb : Nat} {s : ByteArray} {i : Nat} (c : UInt8) (w : World) (hr : Rd rb s i w) (hs : s.size ≤ 4000000) (hi : i ≤ s.size) :
    Calls Tryz.prog 48 #[pt rb, .string ⟨#[c]⟩] w fun e w' => e = .returned (.bool (isAt s i c)) ∧ Rd rb s (if isAt s i c then i + 1 else i) w' ∧ Kp rb w w' := by
  have hx := isAt_prefix s i c hi
  have hp := fun W => Tryz.strings_HasPrefix (s.extract i s.size) ⟨#[c]⟩ W
  rw [hx] at hp
  obtain ⟨b, hb⟩ : ∃ b, isAt s i c = b := ⟨_, rfl⟩
  have Hb := Lib.hid hb
  rw [hb] at hp ⊢
  have HP := Lib.hid hp
  have c0 := hr.c0
  have c1 := hr.c1
  have f0 := hr.f 0
  have f1 := hr.f 1
  have hlt := hr.lt
  have HR := Lib.hid hr
  have hi0 : (i : Int) ≤ 4000000 := by omega
  have hjs : (i : Int) ≤ (s.size : Int) := by omega
  have hss : (s.size : Int) ≤ 4000000 := by omega
  have hi1 : (0 : Int) ≤ (i : Int) := by omega
  clear hx hp hb hr
  unfold pt
  go_enter Tryz.func48, Tryz.ntmps48
  go_wp2_with fail
  go_region_held3 (fun w' => w'.cell? ⟨rb, 0, none⟩ = some (.string s) ∧ w'.cell? ⟨rb, 1, none⟩ = some (.int .i64 (i : Nat)) ∧ rb + 1 ≤ w'.heap.size ∧ Rd rb s i w' ∧ Kp rb w w')
    (first | (exact rds_later (by assumption) (by assumption)) | (exact rds_of HR.out.drew (Kp.refl _ _).drew) | go_keep)
    (first | (go_at_call 72; refine (HP.out _).mono ?_; rintro e w' ⟨rfl, rfl⟩))
  have d1 : w.drew.cell? ⟨rb, 1, none⟩ = some (.int .i64 (i : Nat)) := c1
  have g1 : w.drew.frozen? ⟨rb, 1, none⟩ = false := f1
  cases b
  · go_wp2
    go_ret
    exact ⟨rfl, HR.out.drew, (Kp.refl _ _).drew⟩
  · go_wp2
    go_ret
    exact ⟨rfl, HR.out.drew.set' (by omega), (Kp.refl _ _).drew.setCell 1 _⟩
/-- A function of the reader's, whatever it reads from: what it gives. -/
def WayTo (rb : Nat) (s : ByteArray) (N : FuncId) (args : Array Value) (f : Nat → Res) : Prop :=
  ∀ (i : Nat) (w : World), Rd rb s i w → i ≤ s.size → Calls Tryz.prog N args w (Got rb s w (f i))
theorem ext_empty (s : ByteArray) (i j : Nat) (hij : i ≤ j) (hj : j ≤ s.size) : (s.extract i j).toList.isEmpty = decide (j = i) := by
  rw [Lib.toList_data, Bool.eq_iff_iff, List.isEmpty_iff, decide_eq_true_iff, ← List.length_eq_zero_iff, size_data, ByteArray.size_extract]
  omega
theorem ext_nil (s : ByteArray) (i : Nat) : s.extract i i = E0 := by
  apply ByteArray.ext
  simp [E0]
theorem nm_ok (s : ByteArray) (i : Nat) (hi : i ≤ s.size) : i ≤ nm s i ∧ nm s i ≤ s.size := by
  unfold nm
  split
  · exact ⟨behN_ge _ _ _, by have := behN_le naB s.data.toList i (by rw [size_data]; exact hi); rw [size_data] at this; exact this⟩
  · exact ⟨Nat.le_refl _, hi⟩
theorem nameI_nm (s : ByteArray) (i : Nat) : nameI s.data.toList (i : Int) = (nm s i : Int) := by
  unfold nameI nm behI at0
  rw [Int.toNat_natCast, size_data]
  by_cases h : i < s.size ∧ leB (s.data.toList.getD i 0) = true
  · rw [if_pos h, if_pos ⟨by omega, by omega, h.2⟩, if_neg (by omega)]
  · rw [if_neg h, if_neg (fun x => h ⟨by omega, x.2.2⟩)]
theorem numN_ok (l : List UInt8) (i : Nat) (hi : i ≤ l.length) : i ≤ numN l i ∧ numN l i ≤ l.length := by
  have h := long_num l i hi
  rw [← h]
  have : ∀ k, k ≤ l.length → i ≤ longN lnumB l i k ∧ longN lnumB l i k ≤ l.length := by
    intro k
    induction k with
    | zero => intro _; exact ⟨Nat.le_refl _, hi⟩
    | succ k ih =>
      intro hk
      unfold longN
      split
      · next h => exact ⟨Nat.le_of_lt h.1, hk⟩
      · exact ih (by omega)
  exact this _ (Nat.le_refl _)
theorem nu_ok (s : ByteArray) (i : Nat) (hi : i ≤ s.size) : i ≤ nu s i ∧ nu s i ≤ s.size := by
  have := numN_ok s.data.toList i (by rw [size_data]; exact hi)
  rw [size_data] at this
  exact this
theorem endName {s : ByteArray} : EndFn 110 nm s := ⟨fun args w => by go_simp, fun i w hs hi => ⟨(nm_ok s i hi).1, (nm_ok s i hi).2, by
  rw [← nameI_nm]
  exact (name_any s i w (by omega)).mono (by rintro e w' ⟨rfl, rfl⟩; exact ⟨rfl, Below.refl _ _⟩)⟩⟩
theorem endNumber {s : ByteArray} : EndFn 111 nu s := ⟨fun args w => by go_simp, fun i w hs hi => ⟨(nu_ok s i hi).1, (nu_ok s i hi).2, by
  have := number_any s i w (by omega)
  rw [numI_nat] at this
  exact this⟩⟩
theorem endBlank {s : ByteArray} : EndFn 50 bl s := ⟨fun args w => by go_simp, fun i w hs hi => ⟨behN_ge _ _ _, by have := behN_le blB s.data.toList i (by rw [size_data]; exact hi); rw [size_data] at this; exact this, by
  have := blank_any s i w (by omega)
  unfold behI at this
  rw [if_neg (by omega), Int.toNat_natCast] at this
  exact this.mono (by rintro e w' ⟨rfl, rfl⟩; exact ⟨rfl, Below.refl _ _⟩)⟩⟩
theorem endSpaces {s : ByteArray} : EndFn 62 sp s := ⟨fun args w => by go_simp, fun i w hs hi => ⟨behN_ge _ _ _, by have := behN_le spB s.data.toList i (by rw [size_data]; exact hi); rw [size_data] at this; exact this, by
  have := spaces_any s i w (by omega)
  unfold behI at this
  rw [if_neg (by omega), Int.toNat_natCast] at this
  exact this.mono (by rintro e w' ⟨rfl, rfl⟩; exact ⟨rfl, Below.refl _ _⟩)⟩⟩
end Go.Proofs.YtnogdojdjehakaaGreatDoor

/-
  Package expr: number, variable, reference, term, message, quoted.
-/
namespace Go.Proofs.YtnogdojdjehakaaGreatDoor
open Go.RowKit
set_option linter.unusedVariables false
set_option linter.unusedSimpArgs false

theorem cells7 {w : World} {k : Nat} {x0 x1 x2 x3 x4 x5 x6 : Value} {t : TypeId} (h : BoxAt w k #[x0, x1, x2, x3, x4, x5, x6] t) :
    w.cell? ⟨k, 0, none⟩ = some x0 ∧ w.cell? ⟨k, 1, none⟩ = some x1 ∧ w.cell? ⟨k, 2, none⟩ = some x2 ∧ w.cell? ⟨k, 3, none⟩ = some x3 ∧ w.cell? ⟨k, 4, none⟩ = some x4 ∧ w.cell? ⟨k, 5, none⟩ = some x5 ∧ w.cell? ⟨k, 6, none⟩ = some x6 ∧
    w.frozen? ⟨k, 0, none⟩ = false ∧ w.frozen? ⟨k, 1, none⟩ = false ∧ w.frozen? ⟨k, 2, none⟩ = false ∧ w.frozen? ⟨k, 3, none⟩ = false ∧ w.frozen? ⟨k, 4, none⟩ = false ∧ w.frozen? ⟨k, 5, none⟩ = false ∧ w.frozen? ⟨k, 6, none⟩ = false :=
  ⟨h.cell 0, h.cell 1, h.cell 2, h.cell 3, h.cell 4, h.cell 5, h.cell 6, Lib.frozen_of_heap h 0, Lib.frozen_of_heap h 1, Lib.frozen_of_heap h 2, Lib.frozen_of_heap h 3, Lib.frozen_of_heap h 4, Lib.frozen_of_heap h 5, Lib.frozen_of_heap h 6⟩
theorem Kp.setNew {rb : Nat} {a w : World} (h : Kp rb a w) {b : Nat} (hb : a.heap.size ≤ b) (hr : rb < a.heap.size) (o : Nat) (v : Value) : Kp rb a (w.setCell ⟨b, o, none⟩ v) :=
  ⟨h.below.setCell (p := ⟨b, o, none⟩) (by show rb ≤ b; omega) v, fun k hk hn => (Below.heap_setCell w ⟨b, o, none⟩ v k (by show k ≠ b; omega)).trans (h.others k hk hn)⟩
theorem Rd.setOther {rb : Nat} {s : ByteArray} {i : Nat} {w : World} (h : Rd rb s i w) {b : Nat} (hb : rb ≠ b) (o : Nat) (v : Value) : Rd rb s i (w.setCell ⟨b, o, none⟩ v) := BoxAt.setOther h ⟨b, o, none⟩ v hb
/-- The result's cell is written. -/
def set7 (w : World) (b : Nat) (x0 x1 x2 x3 x4 x5 x6 : Value) : World := ((((((w.setCell ⟨b, 0, none⟩ x0).setCell ⟨b, 1, none⟩ x1).setCell ⟨b, 2, none⟩ x2).setCell ⟨b, 3, none⟩ x3).setCell ⟨b, 4, none⟩ x4).setCell ⟨b, 5, none⟩ x5).setCell ⟨b, 6, none⟩ x6
theorem set7_heap (w : World) (b : Nat) (x0 x1 x2 x3 x4 x5 x6 : Value) (k : Nat) (hk : k ≠ b) : (set7 w b x0 x1 x2 x3 x4 x5 x6).heap[k]? = w.heap[k]? := by
  unfold set7
  rw [Below.heap_setCell _ _ _ k hk, Below.heap_setCell _ _ _ k hk, Below.heap_setCell _ _ _ k hk, Below.heap_setCell _ _ _ k hk, Below.heap_setCell _ _ _ k hk, Below.heap_setCell _ _ _ k hk, Below.heap_setCell _ _ _ k hk]
theorem set7_size (w : World) (b : Nat) (x0 x1 x2 x3 x4 x5 x6 : Value) : (set7 w b x0 x1 x2 x3 x4 x5 x6).heap.size = w.heap.size := by
  unfold set7; simp
theorem Kp.set7 {rb : Nat} {a w : World} (h : Kp rb a w) {b : Nat} (hb : a.heap.size ≤ b) (hr : rb < a.heap.size) (x0 x1 x2 x3 x4 x5 x6 : Value) : Kp rb a (set7 w b x0 x1 x2 x3 x4 x5 x6) :=
  ((((((h.setNew hb hr 0 x0).setNew hb hr 1 x1).setNew hb hr 2 x2).setNew hb hr 3 x3).setNew hb hr 4 x4).setNew hb hr 5 x5).setNew hb hr 6 x6
theorem Rd.set7 {rb : Nat} {s : ByteArray} {i : Nat} {w : World} (h : Rd rb s i w) {b : Nat} (hb : rb ≠ b) (x0 x1 x2 x3 x4 x5 x6 : Value) : Rd rb s i (set7 w b x0 x1 x2 x3 x4 x5 x6) :=
  ((((((h.setOther hb 0 x0).setOther hb 1 x1).setOther hb 2 x2).setOther hb 3 x3).setOther hb 4 x4).setOther hb 5 x5).setOther hb 6 x6
/-- How a way of reading ends: the result's cell, at block b, is written. -/
theorem got_fin {rb : Nat} {s : ByteArray} {w w1 : World} {r : Res} {b : Nat} {k : Int} {t n a : ByteArray} {A1 : Option Addr} {n1 c1 : Nat} {p : Option Addr} {A2 : Option Addr} {n2 c2 : Nat} {j : Nat} {ok : Bool} {x0 x1 x2 x3 x4 x5 x6 : Value}
    (hK : Kp rb w w1) (hb : w.heap.size ≤ b) (hlt : rb < w.heap.size) (hR : Rd rb s j w1) (hj : j ≤ s.size) (hok : ok = r.isSome)
    (hx : ∀ x m, r = some (x, m) → m = j ∧ ExF w1 (fun q => Since w.heap.size w1 q ∧ q ≠ b) x ⟨.int .i64 k, .string t, .string n, .string a, .slice A1 n1 c1, .pointer p, .slice A2 n2 c2⟩) :
    Got rb s w r (.returned (.tuple #[exV k t n a A1 n1 c1 p A2 n2 c2, .bool ok])) (set7 w1 b x0 x1 x2 x3 x4 x5 x6) := by
  refine ⟨hK.set7 hb hlt _ _ _ _ _ _ _, k, t, n, a, A1, n1, c1, p, A2, n2, c2, j, by rw [hok], hR.set7 (by omega) _ _ _ _ _ _ _, hj, fun x m h => ?_⟩
  obtain ⟨h1, h2⟩ := hx x m h
  refine ⟨h1, ExF.carry (fun q hq => ⟨?_, set7_heap _ _ _ _ _ _ _ _ _ q hq.2⟩) _ _ h2⟩
  obtain ⟨⟨ha, hb⟩, _⟩ := hq
  exact ⟨ha, by rw [set7_size]; exact hb⟩
theorem box_set7 {w : World} {E : Nat} {x0 x1 x2 x3 x4 x5 x6 : Value} {t : TypeId} (h : BoxAt w E #[x0, x1, x2, x3, x4, x5, x6] t) (y0 y1 y2 y3 y4 y5 y6 : Value) :
    BoxAt (set7 w E y0 y1 y2 y3 y4 y5 y6) E #[y0, y1, y2, y3, y4, y5, y6] t := by
  unfold set7
  unfold BoxAt at h ⊢
  simp [World.setCell, Array.getElem?_modify, h]
set_option maxRecDepth 100000 in
theorem res7 {fn : Func} {A M : Nat} {tmps : Array Value} {w : World} {b : Nat} {x0 x1 x2 x3 x4 x5 x6 v : Value} {t : TypeId} (hres : fn.results = #[.cell A 29, .tmp M]) (ha : tmps.getD A undef = .pointer (some ⟨b, 0, none⟩)) (hm : tmps.getD M undef = v)
    (hb : BoxAt w b #[x0, x1, x2, x3, x4, x5, x6] t) : (results fn tmps).run Tryz.prog w = .ok (.tuple #[.agg #[x0, x1, x2, x3, x4, x5, x6], v]) w := by
  obtain ⟨q0, q1, q2, q3, q4, q5, q6, _⟩ := cells7 hb
  have ha' : tmps[A]?.getD undef = .pointer (some ⟨b, 0, none⟩) := by rw [← ha]; simp
  have hm' : tmps[M]?.getD undef = v := by rw [← hm]; simp
  simp [results, hres, ha', hm', go_sem, q0, q1, q2, q3, q4, q5, q6]
/-- A call ends whose result's cell, at block b, was written. -/
theorem end7 {fn : Func} {R : Ending → World → Prop} {a : Act} {w1 w2 : World} {A M b : Nat} {x0 x1 x2 x3 x4 x5 x6 y0 y1 y2 y3 y4 y5 y6 v : Value} {t : TypeId} (hres : fn.results = #[.cell A 29, .tmp M]) (hbox : BoxAt w1 b #[y0, y1, y2, y3, y4, y5, y6] t)
    (hw : w2 = set7 w1 b x0 x1 x2 x3 x4 x5 x6) (ha : a.tmps.getD A undef = .pointer (some ⟨b, 0, none⟩)) (hm : a.tmps.getD M undef = v) (hd : a.defers = []) (hR : R (.returned (.tuple #[.agg #[x0, x1, x2, x3, x4, x5, x6], v])) (set7 w1 b x0 x1 x2 x3 x4 x5 x6)) : bodyPost Tryz.prog fn R .ret a w2 := by
  subst hw
  exact bodyPost_ret (res7 hres ha hm (box_set7 hbox x0 x1 x2 x3 x4 x5 x6)) hd hR
theorem end7w {fn : Func} {R : Ending → World → Prop} {a : Act} {w2 : World} {A M b : Nat} {x0 x1 x2 x3 x4 x5 x6 v : Value} {t : TypeId} (hres : fn.results = #[.cell A 29, .tmp M]) (hbox : BoxAt w2 b #[x0, x1, x2, x3, x4, x5, x6] t)
    (ha : a.tmps.getD A undef = .pointer (some ⟨b, 0, none⟩)) (hm : a.tmps.getD M undef = v) (hd : a.defers = []) (hR : R (.returned (.tuple #[.agg #[x0, x1, x2, x3, x4, x5, x6], v])) w2) : bodyPost Tryz.prog fn R .ret a w2 :=
  bodyPost_ret (res7 hres ha hm hbox) hd hR
theorem got_end {rb : Nat} {s : ByteArray} {w w2 : World} {r : Res} {k : Int} {t n a : ByteArray} {A1 : Option Addr} {n1 c1 : Nat} {p : Option Addr} {A2 : Option Addr} {n2 c2 : Nat} {j : Nat} {ok : Bool}
    (hK : Kp rb w w2) (hR : Rd rb s j w2) (hj : j ≤ s.size) (hok : ok = r.isSome)
    (hx : ∀ x m, r = some (x, m) → m = j ∧ ExF w2 (Since w.heap.size w2) x ⟨.int .i64 k, .string t, .string n, .string a, .slice A1 n1 c1, .pointer p, .slice A2 n2 c2⟩) :
    Got rb s w r (.returned (.tuple #[exV k t n a A1 n1 c1 p A2 n2 c2, .bool ok])) w2 :=
  ⟨hK, k, t, n, a, A1, n1, c1, p, A2, n2, c2, j, by rw [hok], hR, hj, hx⟩
theorem BoxAt.drew {w : World} {k : Nat} {cs : Array Value} {t : TypeId} (h : BoxAt w k cs t) : BoxAt w.drew k cs t := h
set_option maxHeartbeats 2000000 in
set_option maxRecDepth 100000 in
theorem number_way {rb : Nat} {s : ByteArray} (hs : s.size ≤ 4000000) : WayTo rb s 107 #[pt rb] (nubS s) := by
  intro i w hr hi
  have hn := nu_ok s i hi
  have he := ext_empty s i (nu s i) hn.1 hn.2
  have hP := fun W (h : Rd rb s i W) => pass_any endNumber W h hs hi
  unfold nubS
  obtain ⟨j, hj⟩ : ∃ j, nu s i = j := ⟨_, rfl⟩
  rw [hj] at hn he hP ⊢
  have HP := Lib.hid hP
  have HR := Lib.hid hr
  have hlt := hr.lt
  obtain ⟨X, hX⟩ : ∃ X, s.extract i j = X := ⟨_, rfl⟩
  rw [hX] at he HP ⊢
  have HE := Lib.hid he
  have HX := Lib.hid hX
  clear hj hP hr he hX
  unfold pt at HP ⊢
  by_cases hji : j = i
  · have hx : X.toList.isEmpty = true := by rw [HE.out, decide_eq_true hji]
    rw [if_pos hji]
    go_enter Tryz.func107, Tryz.ntmps107
    go_wp2_with fail
    go_at_call 49
    refine (HP.out _ (HR.out.alloc _)).mono ?_
    rintro e w1 ⟨rfl, h1, h2⟩
    have H1 := Lib.hid h1
    have HK := Lib.hid (((Kp.refl rb w).alloc (Nat.le_of_lt hlt) _).trans h2)
    have hc := BoxAt.kp (BoxAt.new w #[.int .i64 0, .string ⟨#[]⟩, .string ⟨#[]⟩, .string ⟨#[]⟩, .slice none 0 0, .pointer none, .slice none 0 0] 29) h2 (by omega)
    have hl := hc.lt
    have HC := Lib.hid hc
    have q := cells7 hc
    obtain ⟨q0, q1, q2, q3, q4, q5, q6, p0, p1, p2, p3, p4, p5, p6⟩ := q
    clear h1 h2 hc
    go_wp2
    exact end7 Tryz.results107 HC.out rfl rfl rfl rfl (got_fin (b := w.heap.size) HK.out (Nat.le_refl _) hlt H1.out hn.2 rfl (fun x m h => by cases h))
  · have hx : X.toList.isEmpty = false := by rw [HE.out, decide_eq_false hji]
    rw [if_neg hji]
    go_enter Tryz.func107, Tryz.ntmps107
    go_wp2_with fail
    go_at_call 49
    refine (HP.out _ (HR.out.alloc _)).mono ?_
    rintro e w1 ⟨rfl, h1, h2⟩
    have H1 := Lib.hid h1
    have HK := Lib.hid (((Kp.refl rb w).alloc (Nat.le_of_lt hlt) _).trans h2)
    have hc := BoxAt.kp (BoxAt.new w #[.int .i64 0, .string ⟨#[]⟩, .string ⟨#[]⟩, .string ⟨#[]⟩, .slice none 0 0, .pointer none, .slice none 0 0] 29) h2 (by omega)
    have hl := hc.lt
    have HC := Lib.hid hc
    have q := cells7 hc
    obtain ⟨q0, q1, q2, q3, q4, q5, q6, p0, p1, p2, p3, p4, p5, p6⟩ := q
    clear h1 h2 hc
    go_wp2
    exact end7 Tryz.results107 HC.out rfl rfl rfl rfl (got_fin (b := w.heap.size) HK.out (Nat.le_refl _) hlt H1.out hn.2 rfl (fun x m h => by cases h; exact ⟨rfl, exF_flat _ _ _ _ _ _⟩))
end Go.Proofs.YtnogdojdjehakaaGreatDoor
