/-
  Several texts put together (part 11): what the law and the program call, walked; their contracts.
-/
import Derived.Test.YtjdpmdheapmanaaGreatDoorQ3
import Derived.Lib.OthersKept
import Derived.Lib.OwnKind
import Derived.Lib.Builder
import Derived.WalkSmall
import Derived.OneCell
import Derived.Laws.EntriesVeiled
import Derived.Laws.Pointers
import Derived.Defers
import Derived.Laws.LoneSync
import Derived.Laws.NewBlocks
import Derived.RegionTactic
import Derived.RegionCalls
import Derived.ChangeAlike
import Derived.ChangeMaps5
import Derived.Maps.Own
import Derived.Maps.Keyed
import Derived.IntWalk
namespace Go.Proofs.YtjdpmdheapmanaaGreatDoor
open Go.RowKit
set_option linter.unusedVariables false
def pt (k : Nat) : Value := .pointer (some ⟨k, 0, none⟩)
def BoxAt (w : World) (k : Nat) (cs : Array Value) (t : TypeId) : Prop := w.heap[k]? = some (.cells cs t (0, 0))
theorem BoxAt.lt {w : World} {k : Nat} {cs : Array Value} {t : TypeId} (h : BoxAt w k cs t) : k < w.heap.size := (Array.getElem?_eq_some_iff.1 h).1
theorem BoxAt.cell {w : World} {k : Nat} {cs : Array Value} {t : TypeId} (h : BoxAt w k cs t) (o : Nat) : w.cell? ⟨k, o, none⟩ = cs[o]? := by
  rw [Lib.cell_of_heap h]
theorem BoxAt.new (w : World) (cs : Array Value) (t : TypeId) : BoxAt (w.alloc (.cells cs t)) w.heap.size cs t := by
  show (w.heap.push _)[w.heap.size]? = _
  simp
theorem BoxAt.alloc {w : World} {k : Nat} {cs : Array Value} {t : TypeId} (h : BoxAt w k cs t) (o : Obj) : BoxAt (w.alloc o) k cs t :=
  (Lib.alloc_old w o k h.lt).trans h
theorem BoxAt.later {w w' : World} {k : Nat} {c : Array Value} {t : TypeId} (h : BoxAt w k c t) (hb : Below w.heap.size w w') : BoxAt w' k c t := (hb.block k h.lt).trans h
theorem BoxAt.setOther {w : World} {k : Nat} {cs : Array Value} {t : TypeId} (h : BoxAt w k cs t) (p : Addr) (v : Value) (hp : k ≠ p.block) : BoxAt (w.setCell p v) k cs t :=
  (Below.heap_setCell w p v k hp).trans h
theorem BoxAt.new' (w : World) (k : Nat) (cs : Array Value) (t : TypeId) (h : k = w.heap.size) : BoxAt (w.alloc (.cells cs t)) k cs t := by rw [h]; exact BoxAt.new w cs t
theorem take_snoc {α : Type} (l : List α) (i : Nat) (x : α) (h : l[i]? = some x) : l.take (i + 1) = l.take i ++ [x] := by
  rw [List.take_add_one, h]; rfl
theorem drop_cons {α : Type} (l : List α) (i : Nat) (x : α) (h : l[i]? = some x) : l.drop i = x :: l.drop (i + 1) := by
  obtain ⟨hi, rfl⟩ := List.getElem?_eq_some_iff.1 h
  exact List.drop_eq_getElem_cons hi
end Go.Proofs.YtjdpmdheapmanaaGreatDoor

namespace Go.Proofs.YtjdpmdheapmanaaGreatDoor
open Go.RowKit Go.ChangeMaps
open Go.Maps (Keyed string_keyed)
set_option linter.unusedVariables false
set_option linter.unusedSimpArgs false
structure Kp (rb : Nat) (w w' : World) : Prop where
  below : Below rb w w'
  others : ∀ k, k < w.heap.size → k ≠ rb → w'.heap[k]? = w.heap[k]?
theorem Kp.size {rb : Nat} {w w' : World} (h : Kp rb w w') : w.heap.size ≤ w'.heap.size := h.below.size
theorem Kp.refl (rb : Nat) (w : World) : Kp rb w w := ⟨Below.refl _ _, fun _ _ _ => rfl⟩
theorem Kp.trans {rb : Nat} {a b c : World} (h : Kp rb a b) (k : Kp rb b c) : Kp rb a c :=
  ⟨h.below.trans k.below, fun j hj hn => (k.others j (Nat.lt_of_lt_of_le hj h.size) hn).trans (h.others j hj hn)⟩
theorem Kp.of_below {rb : Nat} {w w' : World} (hb : Below w.heap.size w w') (hr : rb ≤ w.heap.size) : Kp rb w w' := ⟨hb.mono hr, fun k hk _ => hb.block k hk⟩
theorem Kp.alloc {rb : Nat} {a w : World} (h : Kp rb a w) (hr : rb ≤ w.heap.size) (o : Obj) : Kp rb a (w.alloc o) := h.trans (Kp.of_below ((Below.refl _ _).alloc (Nat.le_refl _) _) hr)
theorem Kp.drew {rb : Nat} {a w : World} (h : Kp rb a w) : Kp rb a w.drew := ⟨h.below.drew, fun k hk hn => h.others k hk hn⟩
theorem Kp.setCell {rb : Nat} {a w : World} (h : Kp rb a w) (o : Nat) (v : Value) : Kp rb a (w.setCell ⟨rb, o, none⟩ v) :=
  ⟨h.below.setCell (p := ⟨rb, o, none⟩) (Nat.le_refl _) v, fun k hk hn => by
    rw [← h.others k hk hn]
    simp only [World.setCell]
    rw [Array.getElem?_modify, if_neg (fun e => hn e.symm)]⟩
theorem BoxAt.kp {rb : Nat} {w w' : World} {k : Nat} {cs : Array Value} {t : TypeId} (h : BoxAt w k cs t) (g : Kp rb w w') (hk : k ≠ rb) : BoxAt w' k cs t := (g.others k h.lt hk).trans h
theorem BoxAt.set {w : World} {k : Nat} {cs : Array Value} {t : TypeId} (h : BoxAt w k cs t) (o : Nat) (v : Value) : BoxAt (w.setCell ⟨k, o, none⟩ v) k (cs.setIfInBounds o v) t := by
  unfold BoxAt at h ⊢
  simp [World.setCell, Array.getElem?_modify, h]
theorem BoxAt.drew {w : World} {k : Nat} {cs : Array Value} {t : TypeId} (h : BoxAt w k cs t) : BoxAt w.drew k cs t := h
theorem BoxAt.z {w : World} {k : Nat} {cs : Array Value} {t : TypeId} (h : BoxAt w k cs t) (o : Nat) : w.frozen? ⟨k, o, none⟩ = false := Lib.frozen_of_heap h o
theorem check_str {P : Program} {k : TypeId} (hk : P.underlying k = some .string) (w : World) (em : Bool) (s : ByteArray) : (Instr.checkKey em 10000 k (.string s)).run P w = .ok () w := by
  have h : ∀ n, (Instr.checkKey em (n + 1) k (.string s)).run P w = .ok () w := fun n => by simp [Instr.checkKey, run_underlying hk, Result.andThen]
  exact h 9999
theorem run_ins {P : Program} {t k e : TypeId} (ht : P.underlying t = some (.map k e)) (hk : P.underlying k = some .string) (w : World) (es es' : Array MapEntry) (c : Nat) (s : ByteArray) (v : Value)
    (hn : Instr.findNow .string (.string s) es.toList 0 = some none) (he : es.push { key := .string s, val := v, born := c } = es') :
    (Instr.mapUpdate t (.map (some w.heap.size)) (.string s) v).run P (w.alloc (.map es c)) = .ok () (w.alloc (.map es' (c + 1))) := by
  have hb : (w.alloc (.map es c)).heap[w.heap.size]? = some (.map es c) := by
    show (w.heap.push _)[w.heap.size]? = _
    simp
  have h1 : (Instr.findKey k (.string s) es.toList).run P (w.alloc (.map es c)) = .ok none (w.alloc (.map es c)) := by
    simp [Instr.findKey, run_underlying hk, hn, Result.andThen]
  have hc := check_str hk (w.alloc (.map es c)) false s
  have hrun : (Instr.mapUpdate t (.map (some w.heap.size)) (.string s) v).run P (w.alloc (.map es c)) = .ok () (setBlock (w.alloc (.map es c)) w.heap.size (.map (es.push { key := .string s, val := v, born := c }) (c + 1))) := by
    simp [Instr.mapUpdate, run_underlying ht, MapKept.run_getObj_map hb, hc, h1, MapKept.run_setObj_map _ hb, Result.andThen, setBlock]
  rw [hrun, he]
  congr 1
  have h : (w.heap.push (.map es c)).setIfInBounds w.heap.size (.map es' (c + 1)) = w.heap.push (.map es' (c + 1)) := by
    apply Array.toList_inj.1
    simp [List.set_append]
  show ({ w with heap := (w.heap.push (.map es c)).setIfInBounds w.heap.size (.map es' (c + 1)) } : World) = { w with heap := w.heap.push (.map es' (c + 1)) }
  rw [h]
theorem run_look {P : Program} {t k e : TypeId} (ht : P.underlying t = some (.map k e)) (hk : P.underlying k = some .string) (w : World) {z : Value} (hz : (zeroValue e).run P w = .ok z w) (b : Nat) (es : Array MapEntry) (c : Nat)
    (hb : w.heap[b]? = some (.map es c)) (s : ByteArray) (r : Option (Nat × Value)) (hn : Instr.findNow .string (.string s) es.toList 0 = some r) :
    (Instr.lookup t (.map (some b)) (.string s) true).run P w = .ok (.tuple #[(r.map (·.2)).getD z, .bool r.isSome]) w := by
  have h1 : (Instr.findKey k (.string s) es.toList).run P w = .ok r w := by
    simp [Instr.findKey, run_underlying hk, hn, Result.andThen]
  have hc := check_str hk w es.isEmpty s
  cases r with
  | none => simp [Instr.lookup, run_underlying ht, MapKept.run_getObj_map hb, hc, h1, hz, Result.andThen]
  | some p => simp [Instr.lookup, run_underlying ht, MapKept.run_getObj_map hb, hc, h1, Result.andThen]
def sgV (p q : List UInt8) : Value := .agg #[.string ⟨p.toArray⟩, .string ⟨q.toArray⟩]
def langs : List (List UInt8 × List UInt8 × List UInt8) := [([100, 101], [44], [46]), ([110, 108], [44], [46]), ([101, 115], [44], [46]), ([102, 114], [44], [226, 128, 175]), ([114, 117], [44], [194, 160]), ([99, 115], [44], [194, 160]), ([112, 108], [44], [194, 160]), ([115, 118], [44], [194, 160])]
def entOf (i : Nat) (x : List UInt8 × List UInt8 × List UInt8) : MapEntry := { key := .string ⟨x.1.toArray⟩, val := sgV x.2.1 x.2.2, born := i }
def tabE (n : Nat) : Array MapEntry := ((langs.take n).zipIdx.map fun x => entOf x.2 x.1).toArray
def sgn (s : ByteArray) : List UInt8 × List UInt8 := match langs.find? (fun x => s == ⟨x.1.toArray⟩) with
  | some x => (x.2.1, x.2.2)
  | none => ([46], [44])
theorem find_go (s : ByteArray) : ∀ (l : List (List UInt8 × List UInt8 × List UInt8)) (i j : Nat), ∃ r, Instr.findNow .string (.string s) ((l.zipIdx i).map fun x => entOf x.2 x.1) j = some r ∧
    r.map (·.2) = (l.find? (fun x => s == ⟨x.1.toArray⟩)).map (fun x => sgV x.2.1 x.2.2)
  | [], i, j => ⟨none, rfl, rfl⟩
  | x :: r, i, j => by
    rw [List.zipIdx_cons, List.map_cons, List.find?_cons]
    show ∃ q, (match (some (s == ⟨x.1.toArray⟩) : Option Bool) with | some true => some (some (j, sgV x.2.1 x.2.2)) | some false => Instr.findNow .string (.string s) _ (j + 1) | none => none) = some q ∧ _
    cases h : (s == ⟨x.1.toArray⟩) with
    | true => exact ⟨some (j, sgV x.2.1 x.2.2), rfl, rfl⟩
    | false => exact find_go s r (i + 1) (j + 1)
theorem find_tab (s : ByteArray) : ∃ r, Instr.findNow .string (.string s) (tabE 8).toList 0 = some r ∧ (r.isSome = true → r.map (·.2) = some (sgV (sgn s).1 (sgn s).2)) ∧ (r.isSome = false → sgn s = ([46], [44])) := by
  obtain ⟨r, h1, h2⟩ := find_go s langs 0 0
  refine ⟨r, h1, ?_, ?_⟩
  · intro hr
    unfold sgn
    rw [h2]
    cases hf : langs.find? (fun x => s == ⟨x.1.toArray⟩) with
    | none => rw [hf] at h2; cases r with
      | none => cases hr
      | some p => cases h2
    | some x => rfl
  · intro hr
    unfold sgn
    cases hf : langs.find? (fun x => s == ⟨x.1.toArray⟩) with
    | none => rfl
    | some x => rw [hf] at h2; cases r with
      | none => cases h2
      | some p => cases hr
theorem sgn_len (s : ByteArray) : (sgn s).1.length = 1 ∧ (sgn s).2.length ≤ 3 := by
  unfold sgn
  split
  · next x h =>
    have := List.mem_of_find?_eq_some h
    unfold langs at this
    simp only [List.mem_cons, List.not_mem_nil, or_false] at this
    rcases this with rfl | rfl | rfl | rfl | rfl | rfl | rfl | rfl <;> decide
  · decide
def MarksAt (w : World) (b : Nat) (made : Bool) (n : Nat) : Prop :=
  ∃ x : Value, BoxAt w b #[.int .u32 (if made then 1 else 0), .int .i32 0, .int .u32 0, x, .int .i64 (n : Int)] 62 ∧ (made = true → ∃ mb, x = .map (some mb) ∧ mb ≠ b ∧ w.heap[mb]? = some (.map (tabE 8) 8))
theorem MarksAt.lt {w : World} {b n : Nat} {made : Bool} (h : MarksAt w b made n) : b < w.heap.size := by
  obtain ⟨x, h, _⟩ := h
  exact h.lt
theorem MarksAt.later {w w' : World} {b n : Nat} {made : Bool} (h : MarksAt w b made n) (g : Below w.heap.size w w') : MarksAt w' b made n := by
  obtain ⟨x, h1, h2⟩ := h
  refine ⟨x, h1.later g, fun hm => ?_⟩
  obtain ⟨mb, e1, e2, e3⟩ := h2 hm
  exact ⟨mb, e1, e2, (g.block mb (Array.getElem?_eq_some_iff.1 e3).1).trans e3⟩
theorem MarksAt.drew {w : World} {b n : Nat} {made : Bool} (h : MarksAt w b made n) : MarksAt w.drew b made n := h
end Go.Proofs.YtjdpmdheapmanaaGreatDoor

namespace Go.Proofs.YtjdpmdheapmanaaGreatDoor
open Go.RowKit Go.ChangeMaps
set_option linter.unusedVariables false
set_option linter.unusedSimpArgs false
theorem race_off (w : World) : (callFunc 100 #[]).run Tryz.prog w = .ok (.value (.tuple #[])) w := run_call_mark0 Tryz.func100 (by kernel_rfl) (by kernel_rfl) (by kernel_rfl) .disable (by kernel_rfl) w
theorem race_on (w : World) : (callFunc 102 #[]).run Tryz.prog w = .ok (.value (.tuple #[])) w := run_call_mark0 Tryz.func102 (by kernel_rfl) (by kernel_rfl) (by kernel_rfl) .enable (by kernel_rfl) w
theorem race_in (a : Addr) (w : World) : (callFunc 103 #[.pointer (some a)]).run Tryz.prog w = .ok (.value (.tuple #[])) w := run_call_marked Tryz.func103 (by kernel_rfl) (by kernel_rfl) (by kernel_rfl) .acquire (by kernel_rfl) a w
theorem race_out (a : Addr) (w : World) : (callFunc 105 #[.pointer (some a)]).run Tryz.prog w = .ok (.value (.tuple #[])) w := run_call_marked Tryz.func105 (by kernel_rfl) (by kernel_rfl) (by kernel_rfl) .releaseMerge (by kernel_rfl) a w
theorem add_any (b o : Nat) (n : Nat) (hn : n ≤ 1000) (w : World) (hc : w.cell? ⟨b, o, none⟩ = some (.int .i64 (n : Int))) (hz : w.frozen? ⟨b, o, none⟩ = false) :
    Calls Tryz.prog 28 #[.pointer (some ⟨b, o, none⟩), .int .i64 1] w fun e w' => e = .returned (.int .i64 ((n + 1 : Nat) : Int)) ∧ w' = w.setCell ⟨b, o, none⟩ (.int .i64 ((n + 1 : Nat) : Int)) := by
  have hw : IntKind.i64.wrap ((n : Int) + 1) = ((n + 1 : Nat) : Int) := (IntWalk.i64_in _ (by omega)).trans (by omega)
  have hadd := run_call_add (P := Tryz.prog) Tryz.func41 (by kernel_rfl) (by kernel_rfl) (by kernel_rfl) .i64 (by kernel_rfl) (y := 1) (s := ((n + 1 : Nat) : Int)) hc hz (by simp [go_sem, hw])
  clear hw
  go_enter Tryz.func28, Tryz.ntmps28
  go_wp2
  go_ret
  exact ⟨rfl, rfl⟩
theorem store_deferred (a : Addr) (x : Value) (u : FrameMode) (w : World) (hc : w.cell? a = some x) (hz : w.frozen? a = false) :
    CallsD Tryz.prog 64 #[.pointer (some a), .bool true] u w fun e u' w' => u' = u ∧ (e = .returned (.tuple #[]) ∧ w' = w.drew.setCell a (.int .u32 1)) := by
  have hc' : w.drew.cell? a = some x := by go_simp
  have hz' : w.drew.frozen? a = false := by go_simp
  have hst := run_call_store (P := Tryz.prog) Tryz.func84 (by kernel_rfl) (by kernel_rfl) (by kernel_rfl) (by kernel_rfl) (k := .u32) (y := 1) hc' hz'
  go_enter_d Tryz.func64, Tryz.ntmps64
  go_wp2
  go_region_calls
  all_goals (go_end0; exact ⟨rfl, rfl⟩)
set_option maxRecDepth 100000 in
set_option maxHeartbeats 1600000 in
theorem unlock_deferred (a : Addr) (u : FrameMode) (w : World) (hc : w.cell? a = some (.int .i32 1)) (hz : w.frozen? a = false) :
    CallsD Tryz.prog 63 #[.pointer (some a)] u w fun e u' w' => u' = u ∧ (e = .returned (.tuple #[]) ∧ w' = w.setCell a (.int .i32 0)) := by
  have hd := race_off
  have he := race_on
  have hr := race_out
  have hadd := run_call_add (P := Tryz.prog) Tryz.func106 (by kernel_rfl) (by kernel_rfl) (by kernel_rfl) .i32 (by kernel_rfl) (y := -1) (s := 0) hc hz (by simp [go_sem]; rfl)
  have hcv := run_convert_to_unsafe (P := Tryz.prog) (src := 146) (dst := 135) Tryz.underlying146 Tryz.underlying135 (by kernel_rfl) hc
  go_enter_d Tryz.func63, Tryz.ntmps63
  go_wp2
  go_end0
  go_wp2
  go_end0
  exact ⟨rfl, rfl⟩
set_option maxRecDepth 100000 in
set_option maxHeartbeats 1600000 in
theorem lock_free (a : Addr) (w : World) (hc : w.cell? a = some (.int .i32 0)) (hz : w.frozen? a = false) :
    Calls Tryz.prog 62 #[.pointer (some a)] w fun e w' => e = .returned (.tuple #[]) ∧ w' = w.setCell a (.int .i32 1) := by
  have hd := race_off
  have he := race_on
  have ha := race_in
  have hcas := run_call_cas_hit (P := Tryz.prog) Tryz.func101 (by kernel_rfl) (by kernel_rfl) (by kernel_rfl) .i32 (by kernel_rfl) (y := 1) hc hz
  have hc' : (w.setCell a (.int .i32 1)).cell? a = some (.int .i32 1) := World.cell?_setCell_same w a _ hc
  have hcv := run_convert_to_unsafe (P := Tryz.prog) (src := 146) (dst := 135) Tryz.underlying146 Tryz.underlying135 (by kernel_rfl) hc'
  go_enter Tryz.func62, Tryz.ntmps62
  go_wp2
  first | go_end0 | (simp only [Exit.inBlock, Exit.then]; refine bodyPost_ret (results_none rfl _ _ _) rfl ?_) | refine bodyPost_ret (results_none rfl _ _ _) rfl ?_
  go_wp2
  go_end0
  exact ⟨rfl, rfl⟩
end Go.Proofs.YtjdpmdheapmanaaGreatDoor

namespace Go.Proofs.YtjdpmdheapmanaaGreatDoor
open Go.RowKit
set_option linter.unusedVariables false
mutual
inductive EX where
  | mk (kind : Int) (text name attr : ByteArray) (args : List AR) (inner : Option EX) (vars : List VA)
inductive AR where
  | mk (name : ByteArray) (value : EX)
inductive VA where
  | mk (key : ByteArray) (dflt : Bool) (value : List EL)
inductive EL where
  | mk (text : ByteArray) (place : Option EX)
end
mutual
def EX.size : EX → Nat
  | .mk _ t n a args inner vars => 1 + t.size + n.size + a.size + sizeAs args + sizeO inner + sizeVs vars
def sizeAs : List AR → Nat
  | [] => 0
  | .mk n v :: r => n.size + v.size + sizeAs r
def sizeO : Option EX → Nat
  | none => 0
  | some e => e.size
def sizeVs : List VA → Nat
  | [] => 0
  | .mk k _ v :: r => 1 + k.size + sizeEs v + sizeVs r
def sizeEs : List EL → Nat
  | [] => 0
  | .mk t p :: r => 1 + t.size + sizeO p + sizeEs r
end
mutual
def sameE : EX → EX → Bool
  | .mk k t n a al i vs, .mk k' t' n' a' al' i' vs' => decide (k = k') && decide (t = t') && decide (n = n') && decide (a = a') && sameAs al al' && sameO i i' && sameVs vs vs'
def sameAs : List AR → List AR → Bool
  | [], [] => true
  | .mk n v :: r, .mk n' v' :: r' => decide (n = n') && sameE v v' && sameAs r r'
  | _, _ => false
def sameO : Option EX → Option EX → Bool
  | none, none => true
  | some e, some e' => sameE e e'
  | _, _ => false
def sameVs : List VA → List VA → Bool
  | [], [] => true
  | .mk n d v :: r, .mk n' d' v' :: r' => decide (n = n') && (d == d') && sameEs v v' && sameVs r r'
  | _, _ => false
def sameEs : List EL → List EL → Bool
  | [], [] => true
  | .mk n p :: r, .mk n' p' :: r' => decide (n = n') && sameO p p' && sameEs r r'
  | _, _ => false
end
structure C7 where
  k : Value
  t : Value
  n : Value
  a : Value
  al : Value
  i : Value
  vs : Value
def C7.arr (c : C7) : Array Value := #[c.k, c.t, c.n, c.a, c.al, c.i, c.vs]
def CellsAt (W : World) (b o : Nat) (c : C7) : Prop :=
  W.cell? ⟨b, o, none⟩ = some c.k ∧ W.cell? ⟨b, o + 1, none⟩ = some c.t ∧ W.cell? ⟨b, o + 2, none⟩ = some c.n ∧ W.cell? ⟨b, o + 3, none⟩ = some c.a ∧
  W.cell? ⟨b, o + 4, none⟩ = some c.al ∧ W.cell? ⟨b, o + 5, none⟩ = some c.i ∧ W.cell? ⟨b, o + 6, none⟩ = some c.vs
def LieAt (P : Nat → Nat → Prop) (v : Value) (n : Nat) : Prop :=
  ∃ A c, v = .slice A n c ∧ n ≤ c ∧ c ≤ maxLen ∧ (0 < n → ∃ b o, A = some ⟨b, o, none⟩ ∧ P b o)
mutual
def ExAt (W : World) : EX → C7 → Prop
  | .mk k t n a al i vs, c => c.k = .int .i64 k ∧ c.t = .string t ∧ c.n = .string n ∧ c.a = .string a ∧
      LieAt (AsAt W al) c.al al.length ∧ OAt W i c.i ∧ LieAt (VsAt W vs) c.vs vs.length
def OAt (W : World) : Option EX → Value → Prop
  | none, v => v = .pointer none
  | some e, v => ∃ b o c, v = .pointer (some ⟨b, o, none⟩) ∧ b < W.heap.size ∧ CellsAt W b o c ∧ ExAt W e c
def AsAt (W : World) : List AR → Nat → Nat → Prop
  | [], _, _ => True
  | .mk n e :: r, b, o => b < W.heap.size ∧ W.cell? ⟨b, o, none⟩ = some (.string n) ∧ (∃ c, CellsAt W b (o + 1) c ∧ ExAt W e c) ∧ AsAt W r b (o + 8)
def VsAt (W : World) : List VA → Nat → Nat → Prop
  | [], _, _ => True
  | .mk n d v :: r, b, o => b < W.heap.size ∧ W.cell? ⟨b, o, none⟩ = some (.string n) ∧ W.cell? ⟨b, o + 1, none⟩ = some (.bool d) ∧
      (∃ u, W.cell? ⟨b, o + 2, none⟩ = some u ∧ LieAt (EsAt W v) u v.length) ∧ VsAt W r b (o + 3)
def EsAt (W : World) : List EL → Nat → Nat → Prop
  | [], _, _ => True
  | .mk t p :: r, b, o => b < W.heap.size ∧ W.cell? ⟨b, o, none⟩ = some (.string t) ∧ (∃ u, W.cell? ⟨b, o + 1, none⟩ = some u ∧ OAt W p u) ∧ EsAt W r b (o + 2)
end
def PatAt (W : World) (l : List EL) (v : Value) : Prop := LieAt (EsAt W l) v l.length
def emp (s : ByteArray) : Bool := s.toList.isEmpty
def vaDflt : VA → Bool | .mk _ d _ => d
def vaKey : VA → ByteArray | .mk k _ _ => k
def vaVal : VA → List EL | .mk _ _ v => v
def elText : EL → ByteArray | .mk t _ => t
def elPlace : EL → Option EX | .mk _ p => p
def memB (n : ByteArray) (seen : List ByteArray) : Bool := seen.any fun s => decide (n = s)
def arName : AR → ByteArray | .mk n _ => n
def arVal : AR → EX | .mk _ e => e
def exV (k : Int) (t n a : ByteArray) (A1 : Option Addr) (n1 c1 : Nat) (i : Option Addr) (A2 : Option Addr) (n2 c2 : Nat) : Value :=
  .agg #[.int .i64 k, .string t, .string n, .string a, .slice A1 n1 c1, .pointer i, .slice A2 n2 c2]
theorem LieAt.imp {P Q : Nat → Nat → Prop} {v : Value} {n : Nat} (h : LieAt P v n) (hi : ∀ b o, P b o → Q b o) : LieAt Q v n := by
  obtain ⟨A, c, h1, h2, h3, h4⟩ := h
  exact ⟨A, c, h1, h2, h3, fun h0 => by obtain ⟨b, o, e, hp⟩ := h4 h0; exact ⟨b, o, e, hi b o hp⟩⟩
theorem CellsAt.under {W0 W : World} {b o : Nat} {c : C7} (h : CellsAt W0 b o c) (hb : b < W0.heap.size) (g : Below W0.heap.size W0 W) : CellsAt W b o c := by
  obtain ⟨k0, k1, k2, k3, k4, k5, k6⟩ := h
  exact ⟨(g.cell (p := ⟨b, _, none⟩) hb).trans k0, (g.cell (p := ⟨b, _, none⟩) hb).trans k1, (g.cell (p := ⟨b, _, none⟩) hb).trans k2, (g.cell (p := ⟨b, _, none⟩) hb).trans k3, (g.cell (p := ⟨b, _, none⟩) hb).trans k4, (g.cell (p := ⟨b, _, none⟩) hb).trans k5, (g.cell (p := ⟨b, _, none⟩) hb).trans k6⟩
theorem ex_shape {W : World} {e : EX} {c : C7} (h : ExAt W e c) : ∃ (k2 : Int) (t2 n3 a2 : ByteArray) (B1 : Option Addr) (m1 q1 : Nat) (p2 : Option Addr) (B2 : Option Addr) (m2 q2 : Nat), c = ⟨.int .i64 k2, .string t2, .string n3, .string a2, .slice B1 m1 q1, .pointer p2, .slice B2 m2 q2⟩ := by
  obtain ⟨ck, ct, cn, ca, cal, ci, cvs⟩ := c
  obtain ⟨k2, t2, n2', a2, al2, i2, vs2⟩ := e
  rw [ExAt] at h
  obtain ⟨e1, e2, e3, e4, ⟨B1, q1, e5, _⟩, e6, ⟨B2, q2, e7, _⟩⟩ := h
  obtain ⟨p2, e8⟩ : ∃ p, ci = .pointer p := by
    cases i2 with
    | none => simp only [OAt] at e6; exact ⟨_, e6⟩
    | some e => simp only [OAt] at e6; obtain ⟨b, o, c, h, _⟩ := e6; exact ⟨_, h⟩
  simp only at e1 e2 e3 e4 e5 e7
  subst e1 e2 e3 e4 e5 e8 e7
  exact ⟨_, _, _, _, _, _, _, _, _, _, _, rfl⟩
end Go.Proofs.YtjdpmdheapmanaaGreatDoor

namespace Go.Proofs.YtjdpmdheapmanaaGreatDoor
open Go.RowKit
set_option linter.unusedVariables false
set_option linter.unusedSimpArgs false
theorem load_any (b o : Nat) (n : Nat) (w : World) (hc : w.cell? ⟨b, o, none⟩ = some (.int .i64 (n : Int))) :
    Calls Tryz.prog 34 #[.pointer (some ⟨b, o, none⟩)] w fun e w' => e = .returned (.int .i64 (n : Int)) ∧ w' = w := by
  have hl := run_call_load (P := Tryz.prog) Tryz.func48 (by kernel_rfl) (by kernel_rfl) (by kernel_rfl) .i64 (by kernel_rfl) hc
  go_enter Tryz.func34, Tryz.ntmps34
  go_wp2
  go_ret
  exact ⟨rfl, rfl⟩
theorem asked_any (b n : Nat) (made : Bool) (w : World) (h : MarksAt w b made n) :
    Calls Tryz.prog 17 #[pt b] w fun e w' => e = .returned (.int .i64 (n : Int)) ∧ w' = w := by
  obtain ⟨x, h1, _⟩ := h
  have c4 : w.cell? ⟨b, 4, none⟩ = some (.int .i64 (n : Int)) := h1.cell 4
  have hl := load_any b 4 n w c4
  unfold pt
  go_enter Tryz.func17, Tryz.ntmps17
  go_wp2_with fail
  go_at_call 34
  refine hl.mono ?_
  rintro e w1 ⟨rfl, rfl⟩
  go_wp2
  go_ret
  exact ⟨rfl, rfl⟩
end Go.Proofs.YtjdpmdheapmanaaGreatDoor
