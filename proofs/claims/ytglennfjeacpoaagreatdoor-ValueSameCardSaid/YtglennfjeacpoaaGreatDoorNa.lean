/-
  Package number: a language's signs: they are made once; how often they were asked for.
-/
import Derived.Test.YtglennfjeacpoaaGreatDoorBase
import Derived.Test.YtglennfjeacpoaaGreatDoorBx
import Derived.Laws.Pointers
import Derived.Defers
import Derived.Laws.LoneSync
import Derived.Laws.NewBlocks
import Derived.RegionTactic
import Derived.RegionCalls
import Derived.ChangeAlike
import Derived.ChangeMaps5
import Derived.Maps.Own
import Derived.Maps.Keyed
namespace Go.Proofs.YtglennfjeacpoaaGreatDoor
open Go.RowKit Go.ChangeMaps
open Go.Maps (Keyed string_keyed)
set_option linter.unusedVariables false
set_option linter.unusedSimpArgs false

/-- Of what was there only block rb changes. -/
structure Kp (rb : Nat) (w w' : World) : Prop where
  below : Below rb w w'
  others : ∀ k, k < w.heap.size → k ≠ rb → w'.heap[k]? = w.heap[k]?
theorem Kp.size {rb : Nat} {w w' : World} (h : Kp rb w w') : w.heap.size ≤ w'.heap.size := h.below.size
theorem Kp.refl (rb : Nat) (w : World) : Kp rb w w := ⟨Below.refl _ _, fun _ _ _ => rfl⟩
theorem Kp.trans {rb : Nat} {a b c : World} (h : Kp rb a b) (k : Kp rb b c) : Kp rb a c :=
  ⟨h.below.trans k.below, fun j hj hn => (k.others j (Nat.lt_of_lt_of_le hj h.size) hn).trans (h.others j hj hn)⟩
theorem Kp.of_below {rb : Nat} {w w' : World} (hb : Below w.heap.size w w') (hr : rb ≤ w.heap.size) : Kp rb w w' := ⟨hb.mono hr, fun k hk _ => hb.block k hk⟩
theorem Kp.alloc {rb : Nat} {a w : World} (h : Kp rb a w) (hr : rb ≤ w.heap.size) (o : Obj) : Kp rb a (w.alloc o) := h.trans (Kp.of_below ((Below.refl _ _).alloc (Nat.le_refl _) _) hr)
theorem Kp.drew {rb : Nat} {a w : World} (h : Kp rb a w) : Kp rb a w.drew := ⟨h.below.drew, fun k hk hn => h.others k hk hn⟩
theorem Kp.setCell {rb : Nat} {a w : World} (h : Kp rb a w) (o : Nat) (v : Value) : Kp rb a (w.setCell ⟨rb, o, none⟩ v) :=
  ⟨h.below.setCell (p := ⟨rb, o, none⟩) (Nat.le_refl _) v, fun k hk hn => by
    rw [← h.others k hk hn]
    simp only [World.setCell]
    rw [Array.getElem?_modify, if_neg (fun e => hn e.symm)]⟩
theorem BoxAt.kp {rb : Nat} {w w' : World} {k : Nat} {cs : Array Value} {t : TypeId} (h : BoxAt w k cs t) (g : Kp rb w w') (hk : k ≠ rb) : BoxAt w' k cs t := (g.others k h.lt hk).trans h
theorem BoxAt.set {w : World} {k : Nat} {cs : Array Value} {t : TypeId} (h : BoxAt w k cs t) (o : Nat) (v : Value) : BoxAt (w.setCell ⟨k, o, none⟩ v) k (cs.setIfInBounds o v) t := by
  unfold BoxAt at h ⊢
  simp [World.setCell, Array.getElem?_modify, h]
theorem BoxAt.drew {w : World} {k : Nat} {cs : Array Value} {t : TypeId} (h : BoxAt w k cs t) : BoxAt w.drew k cs t := h
theorem BoxAt.z {w : World} {k : Nat} {cs : Array Value} {t : TypeId} (h : BoxAt w k cs t) (o : Nat) : w.frozen? ⟨k, o, none⟩ = false := Lib.frozen_of_heap h o

theorem check_str {P : Program} {k : TypeId} (hk : P.underlying k = some .string) (w : World) (em : Bool) (s : ByteArray) : (Instr.checkKey em 10000 k (.string s)).run P w = .ok () w := by
  have h : ∀ n, (Instr.checkKey em (n + 1) k (.string s)).run P w = .ok () w := fun n => by simp [Instr.checkKey, run_underlying hk, Result.andThen]
  exact h 9999
/-- An element of a map literal is put there, under a key that isn't there. -/
theorem run_ins {P : Program} {t k e : TypeId} (ht : P.underlying t = some (.map k e)) (hk : P.underlying k = some .string) (w : World) (es es' : Array MapEntry) (c : Nat) (s : ByteArray) (v : Value)
    (hn : Instr.findNow .string (.string s) es.toList 0 = some none) (he : es.push { key := .string s, val := v, born := c } = es') :
    (Instr.mapUpdate t (.map (some w.heap.size)) (.string s) v).run P (w.alloc (.map es c)) = .ok () (w.alloc (.map es' (c + 1))) := by
  have hb : (w.alloc (.map es c)).heap[w.heap.size]? = some (.map es c) := by
    show (w.heap.push _)[w.heap.size]? = _
    simp
  have h1 : (Instr.findKey k (.string s) es.toList).run P (w.alloc (.map es c)) = .ok none (w.alloc (.map es c)) := by
    simp [Instr.findKey, run_underlying hk, hn, Result.andThen]
  have hc := check_str hk (w.alloc (.map es c)) false s
  have hrun : (Instr.mapUpdate t (.map (some w.heap.size)) (.string s) v).run P (w.alloc (.map es c)) = .ok () (setBlock (w.alloc (.map es c)) w.heap.size (.map (es.push { key := .string s, val := v, born := c }) (c + 1))) := by
    simp [Instr.mapUpdate, run_underlying ht, MapKept.run_getObj_map hb, hc, h1, MapKept.run_setObj_map _ hb, Result.andThen, setBlock]
  rw [hrun, he]
  congr 1
  have h : (w.heap.push (.map es c)).setIfInBounds w.heap.size (.map es' (c + 1)) = w.heap.push (.map es' (c + 1)) := by
    apply Array.toList_inj.1
    simp [List.set_append]
  show ({ w with heap := (w.heap.push (.map es c)).setIfInBounds w.heap.size (.map es' (c + 1)) } : World) = { w with heap := w.heap.push (.map es' (c + 1)) }
  rw [h]
/-- What stands under a key, as a run. -/
theorem run_look {P : Program} {t k e : TypeId} (ht : P.underlying t = some (.map k e)) (hk : P.underlying k = some .string) (w : World) {z : Value} (hz : (zeroValue e).run P w = .ok z w) (b : Nat) (es : Array MapEntry) (c : Nat)
    (hb : w.heap[b]? = some (.map es c)) (s : ByteArray) (r : Option (Nat × Value)) (hn : Instr.findNow .string (.string s) es.toList 0 = some r) :
    (Instr.lookup t (.map (some b)) (.string s) true).run P w = .ok (.tuple #[(r.map (·.2)).getD z, .bool r.isSome]) w := by
  have h1 : (Instr.findKey k (.string s) es.toList).run P w = .ok r w := by
    simp [Instr.findKey, run_underlying hk, hn, Result.andThen]
  have hc := check_str hk w es.isEmpty s
  cases r with
  | none => simp [Instr.lookup, run_underlying ht, MapKept.run_getObj_map hb, hc, h1, hz, Result.andThen]
  | some p => simp [Instr.lookup, run_underlying ht, MapKept.run_getObj_map hb, hc, h1, Result.andThen]
def sgV (p q : List UInt8) : Value := .agg #[.string ⟨p.toArray⟩, .string ⟨q.toArray⟩]
/-- The languages that have signs of their own, in the order in which they are put there. -/
def langs : List (List UInt8 × List UInt8 × List UInt8) := [([100, 101], [44], [46]), ([110, 108], [44], [46]), ([101, 115], [44], [46]), ([102, 114], [44], [226, 128, 175]), ([114, 117], [44], [194, 160]), ([99, 115], [44], [194, 160]), ([112, 108], [44], [194, 160]), ([115, 118], [44], [194, 160])]
def entOf (i : Nat) (x : List UInt8 × List UInt8 × List UInt8) : MapEntry := { key := .string ⟨x.1.toArray⟩, val := sgV x.2.1 x.2.2, born := i }
def tabE (n : Nat) : Array MapEntry := ((langs.take n).zipIdx.map fun x => entOf x.2 x.1).toArray
/-- The signs of a language. -/
def sgn (s : ByteArray) : List UInt8 × List UInt8 := match langs.find? (fun x => s == ⟨x.1.toArray⟩) with
  | some x => (x.2.1, x.2.2)
  | none => ([46], [44])
theorem find_go (s : ByteArray) : ∀ (l : List (List UInt8 × List UInt8 × List UInt8)) (i j : Nat), ∃ r, Instr.findNow .string (.string s) ((l.zipIdx i).map fun x => entOf x.2 x.1) j = some r ∧
    r.map (·.2) = (l.find? (fun x => s == ⟨x.1.toArray⟩)).map (fun x => sgV x.2.1 x.2.2)
  | [], i, j => ⟨none, rfl, rfl⟩
  | x :: r, i, j => by
    rw [List.zipIdx_cons, List.map_cons, List.find?_cons]
    show ∃ q, (match (some (s == ⟨x.1.toArray⟩) : Option Bool) with | some true => some (some (j, sgV x.2.1 x.2.2)) | some false => Instr.findNow .string (.string s) _ (j + 1) | none => none) = some q ∧ _
    cases h : (s == ⟨x.1.toArray⟩) with
    | true => exact ⟨some (j, sgV x.2.1 x.2.2), rfl, rfl⟩
    | false => exact find_go s r (i + 1) (j + 1)
/-- A value's signs, by what was found. -/
theorem find_tab (s : ByteArray) : ∃ r, Instr.findNow .string (.string s) (tabE 8).toList 0 = some r ∧ (r.isSome = true → r.map (·.2) = some (sgV (sgn s).1 (sgn s).2)) ∧ (r.isSome = false → sgn s = ([46], [44])) := by
  obtain ⟨r, h1, h2⟩ := find_go s langs 0 0
  refine ⟨r, h1, ?_, ?_⟩
  · intro hr
    unfold sgn
    rw [h2]
    cases hf : langs.find? (fun x => s == ⟨x.1.toArray⟩) with
    | none => rw [hf] at h2; cases r with
      | none => cases hr
      | some p => cases h2
    | some x => rfl
  · intro hr
    unfold sgn
    cases hf : langs.find? (fun x => s == ⟨x.1.toArray⟩) with
    | none => rfl
    | some x => rw [hf] at h2; cases r with
      | none => cases h2
      | some p => cases hr
theorem sgn_len (s : ByteArray) : (sgn s).1.length = 1 ∧ (sgn s).2.length ≤ 3 := by
  unfold sgn
  split
  · next x h =>
    have := List.mem_of_find?_eq_some h
    unfold langs at this
    simp only [List.mem_cons, List.not_mem_nil, or_false] at this
    rcases this with rfl | rfl | rfl | rfl | rfl | rfl | rfl | rfl <;> decide
  · decide
/-- Marks: whether the signs are made, and how often they were asked for. -/
def MarksAt (w : World) (b : Nat) (made : Bool) (n : Nat) : Prop :=
  ∃ x : Value, BoxAt w b #[.int .u32 (if made then 1 else 0), .int .i32 0, .int .u32 0, x, .int .i64 (n : Int)] 53 ∧ (made = true → ∃ mb, x = .map (some mb) ∧ mb ≠ b ∧ w.heap[mb]? = some (.map (tabE 8) 8))
theorem MarksAt.lt {w : World} {b n : Nat} {made : Bool} (h : MarksAt w b made n) : b < w.heap.size := by
  obtain ⟨x, h, _⟩ := h
  exact h.lt
theorem MarksAt.later {w w' : World} {b n : Nat} {made : Bool} (h : MarksAt w b made n) (g : Below w.heap.size w w') : MarksAt w' b made n := by
  obtain ⟨x, h1, h2⟩ := h
  refine ⟨x, h1.later g, fun hm => ?_⟩
  obtain ⟨mb, e1, e2, e3⟩ := h2 hm
  exact ⟨mb, e1, e2, (g.block mb (Array.getElem?_eq_some_iff.1 e3).1).trans e3⟩
theorem MarksAt.drew {w : World} {b n : Nat} {made : Bool} (h : MarksAt w b made n) : MarksAt w.drew b made n := h
end Go.Proofs.YtglennfjeacpoaaGreatDoor
