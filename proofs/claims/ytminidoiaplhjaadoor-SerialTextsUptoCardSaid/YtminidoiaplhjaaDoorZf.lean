/-
  Package serial: a writer's frame; write.
-/
import Derived.Test.YtminidoiaplhjaaDoorZe
namespace Go.Proofs.YtminidoiaplhjaaDoor
open Go.RowKit
set_option linter.unusedVariables false
set_option linter.unusedSimpArgs false

/-- What a call of a writer does: of what was there the writer, and rows of bytes, alone change. -/
structure Wk (B b : Nat) (w w' : World) : Prop where
  below : Below B w w'
  kept : Lib.OthersKept 5 (some b) w w'
theorem Wk.refl (B b : Nat) (w : World) : Wk B b w w := ⟨Below.refl _ _, Lib.OthersKept.refl _ _ _⟩
theorem Wk.trans {B b : Nat} {u v w : World} (h : Wk B b u v) (k : Wk B b v w) : Wk B b u w := ⟨h.below.trans k.below, h.kept.trans k.kept⟩
theorem Wk.size {B b : Nat} {w w' : World} (h : Wk B b w w') : w.heap.size ≤ w'.heap.size := h.below.size
theorem Wk.alloc {B b : Nat} {w w' : World} (h : Wk B b w w') (hB : B ≤ w'.heap.size) (o : Obj) : Wk B b w (w'.alloc o) := ⟨h.below.alloc hB o, h.kept.alloc o⟩
theorem Wk.drew {B b : Nat} {w w' : World} (h : Wk B b w w') : Wk B b w w'.drew := ⟨h.below.drew, h.kept.drew⟩
theorem BoxAt.wk {B b : Nat} {w w' : World} {k : Nat} {cs : Array Value} {t : TypeId} (h : BoxAt w k cs t) (g : Wk B b w w') (hk : k ≠ b) (ht : t ≠ 5) : BoxAt w' k cs t :=
  g.kept k _ h (fun e => hk (Option.some.inj e)) (fun c fz e => by simp at e; exact ht e.2.1)
/-- A writer: its text, and that all that was there lies below it. -/
structure WrAt (B b : Nat) (bs : List UInt8) (W : World) : Prop where
  bld : WrB B b bs W
  le : B ≤ W.heap.size
theorem WrAt.lt {B b : Nat} {bs : List UInt8} {W : World} (h : WrAt B b bs W) : b < W.heap.size := by
  rcases h.bld with ⟨_, v, hb, _⟩ | ⟨_, v, hb, _⟩ <;> exact (Array.getElem?_eq_some_iff.1 hb).1
theorem WrAt.ge {B b : Nat} {bs : List UInt8} {W : World} (h : WrAt B b bs W) : B ≤ b := by
  rcases h.bld with ⟨h, _⟩ | ⟨h, _⟩ <;> exact h
theorem WrAt.alloc {B b : Nat} {bs : List UInt8} {W : World} (h : WrAt B b bs W) (o : Obj) : WrAt B b bs (W.alloc o) := ⟨h.bld.alloc o, by rw [World.size_alloc]; have := h.le; omega⟩
theorem WrAt.drew {B b : Nat} {bs : List UInt8} {W : World} (h : WrAt B b bs W) : WrAt B b bs W.drew := ⟨h.bld, h.le⟩
theorem WrAt.box_ne {B b : Nat} {bs : List UInt8} {W : World} (h : WrAt B b bs W) {k : Nat} {cs : Array Value} {t : TypeId} (hk : BoxAt W k cs t) (ht : t ≠ 46) : k ≠ b := by
  intro e
  subst e
  unfold BoxAt at hk
  rcases h.bld with ⟨_, v, hb, _⟩ | ⟨_, v, hb, _⟩ <;> rw [hb] at hk <;> simp at hk <;> exact ht hk.2.symm
theorem WrAt.start (w : World) : WrAt w.heap.size w.heap.size [] (w.alloc (.cells #[.pointer none, .slice none 0 0] 46)) :=
  ⟨.inl ⟨Nat.le_refl _, .slice none 0 0, BoxAt.new w _ _, World.ownsRowF_nil _ _ _ _, by simp [Value.ownBlock]⟩, by simp⟩
/-- Some texts, one behind the other. -/
def catL (ps : List ByteArray) : List UInt8 := ps.flatMap fun p => p.data.toList
theorem catL_take (ps : List ByteArray) (j : Nat) (p : ByteArray) (h : ps[j]? = some p) : catL (ps.take (j + 1)) = catL (ps.take j) ++ p.data.toList := by
  rw [take_snoc ps j p h]; simp [catL]
theorem catL_take_le (ps : List ByteArray) (j : Nat) : (catL (ps.take j)).length ≤ (catL ps).length := by
  have e : catL ps = catL (ps.take j) ++ catL (ps.drop j) := by
    unfold catL
    rw [← List.flatMap_append, List.take_append_drop]
  rw [e, List.length_append]; omega
theorem strCells_bytes (p : ByteArray) : Lib.strCells p = Lib.byteCells p.data.toList := by
  rfl
theorem byteCells_app (a b : List UInt8) : Lib.byteCells (a ++ b) = Lib.byteCells a ++ Lib.byteCells b := by simp [Lib.byteCells]
theorem writeS_any {B b : Nat} {bs : List UInt8} (s : ByteArray) (w : World) (h : WrAt B b bs w) (hn : bs.length + s.size ≤ 140737488355328) :
    Calls Tryd.prog 29 #[.pointer (some ⟨b, 0, none⟩), .string s] w fun e w' => e = .returned (.tuple #[.int .i64 s.size, .nilIface]) ∧ WrAt B b (bs ++ s.data.toList) w' ∧ Wk B b w w' := by
  refine (wr_WriteString B b (Lib.byteCells bs) s w h.bld (by rw [Lib.byteCells_length]; exact hn) h.le).mono ?_
  rintro e w' ⟨he, h1, h2, h3⟩
  refine ⟨he, ⟨.inr ?_, Nat.le_trans h.le h2.size⟩, h2, h3⟩
  rw [byteCells_app, ← strCells_bytes]
  exact h1
set_option maxHeartbeats 2000000 in
set_option maxRecDepth 100000 in
/-- Pieces are written. -/
theorem write_any {B b : Nat} {bs : List UInt8} (ps : List ByteArray) (a n : Nat) (w : World) (h : WrAt B b bs w) (hbx : BoxAt w a (ps.map Value.string).toArray 9) (hn : bs.length + (catL ps).length ≤ 140737488355328) (hp : ps.length ≤ 100) :
    Calls Tryd.prog 20 #[.pointer (some ⟨b, 0, none⟩), .slice (some ⟨a, 0, none⟩) ps.length n] w fun e w' => e = .returned (.tuple #[]) ∧ WrAt B b (bs ++ catL ps) w' ∧ Wk B b w w' := by
  have HW := Lib.hid (fun (cs : List UInt8) (s : ByteArray) (W : World) (g : WrAt B b cs W) (hz : cs.length + s.size ≤ 140737488355328) => writeS_any s W g hz)
  have H := Lib.hid h
  have HX := Lib.hid hbx
  have HN := Lib.hid hn
  have hp0 : (ps.length : Int) ≤ 100 := by omega
  have hne := h.box_ne hbx (by decide)
  clear h hbx hn
  go_enter Tryd.func20, Tryd.ntmps20
  go_wp2
  go_loopw [8] (fun t8 wr => ∃ j : Nat, t8 = .int .i64 j ∧ j ≤ ps.length ∧ Hid (WrAt B b (bs ++ catL (ps.take j)) wr) ∧ Hid (Wk B b w wr)) (fun t8 _ => ps.length - (intOf t8).toNat)
  case atStart => exact ⟨0, rfl, Nat.zero_le _, Lib.hid (by rw [List.take_zero]; show WrAt B b (bs ++ []) w; rw [List.append_nil]; exact H.out), Lib.hid (Wk.refl _ _ _)⟩
  case round =>
    obtain ⟨j, rfl, hj, HA, HK⟩ := hrel
    have hj0 : (j : Int) ≤ 100 := by omega
    by_cases hlt : j < ps.length
    · have d1 : decide ((j : Int) < (ps.length : Int)) = true := decide_eq_true (by omega)
      have d2 : (j : Int) < (ps.length : Int) := by omega
      obtain ⟨p, hp1⟩ : ∃ p, ps[j]? = some p := ⟨_, List.getElem?_eq_getElem hlt⟩
      have hb2 := HX.out.wk HK.out hne (by decide)
      have c0 : wr.cell? ⟨a, j, none⟩ = some (.string p) := by rw [hb2.cell]; simp [hp1]
      have hal := hb2.lt
      have hlen : (bs ++ catL (ps.take j)).length + p.size ≤ 140737488355328 := by
        have := catL_take_le ps (j + 1)
        rw [catL_take ps j p hp1, List.length_append, size_data] at this
        have := HN.out
        rw [List.length_append]; omega
      have HL := Lib.hid hlen
      have HT := Lib.hid (catL_take ps j p hp1)
      have hbl := HA.out.lt
      clear hb2 hlen hp1
      go_wp2_with fail
      go_at_call 29
      refine (HW.out _ _ _ HA.out HL.out).mono ?_
      rintro e w1 ⟨rfl, h1, h2⟩
      have HA1 := Lib.hid h1
      have HK1 := Lib.hid (HK.out.trans h2)
      clear h1 h2
      go_wp2
      go_roundw
      case rel => exact ⟨j + 1, by go_num, hlt, Lib.hid (by rw [HT.out, ← List.append_assoc]; exact HA1.out), HK1⟩
      case measure => simp [intOf]; omega
    · obtain rfl : j = ps.length := by omega
      have d1 : decide ((ps.length : Int) < (ps.length : Int)) = false := decide_eq_false (by omega)
      have hA := HA.out
      rw [List.take_of_length_le (Nat.le_refl _)] at hA
      have HA2 := Lib.hid hA
      clear hA
      go_wp2
      go_end0
      exact ⟨rfl, HA2.out, HK.out⟩
end Go.Proofs.YtminidoiaplhjaaDoor
