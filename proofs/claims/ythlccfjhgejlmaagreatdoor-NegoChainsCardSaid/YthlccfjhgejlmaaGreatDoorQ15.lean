/-
  Several texts put together (part 15): what the law and the program call, walked; their contracts.
-/
import Derived.Test.YthlccfjhgejlmaaGreatDoorQ3
import Derived.Lib.OthersKept
import Derived.Lib.OwnKind
import Derived.Lib.Builder
import Derived.WalkSmall
import Derived.OneCell
import Derived.Laws.EntriesVeiled
import Derived.Laws.AppendOwn
import Derived.Laws.Pointers
import Derived.Defers
import Derived.Laws.LoneSync
import Derived.Laws.NewBlocks
import Derived.RegionTactic
import Derived.RegionCalls
import Derived.ChangeAlike
import Derived.ChangeMaps5
import Derived.Maps.Own
import Derived.Maps.Keyed
namespace Go.Proofs.YthlccfjhgejlmaaGreatDoor
open Go.RowKit
set_option linter.unusedVariables false
def pt (k : Nat) : Value := .pointer (some ⟨k, 0, none⟩)
def BoxAt (w : World) (k : Nat) (cs : Array Value) (t : TypeId) : Prop := w.heap[k]? = some (.cells cs t (0, 0))
theorem BoxAt.lt {w : World} {k : Nat} {cs : Array Value} {t : TypeId} (h : BoxAt w k cs t) : k < w.heap.size := (Array.getElem?_eq_some_iff.1 h).1
theorem BoxAt.cell {w : World} {k : Nat} {cs : Array Value} {t : TypeId} (h : BoxAt w k cs t) (o : Nat) : w.cell? ⟨k, o, none⟩ = cs[o]? := by
  rw [Lib.cell_of_heap h]
theorem BoxAt.new (w : World) (cs : Array Value) (t : TypeId) : BoxAt (w.alloc (.cells cs t)) w.heap.size cs t := by
  show (w.heap.push _)[w.heap.size]? = _
  simp
theorem BoxAt.alloc {w : World} {k : Nat} {cs : Array Value} {t : TypeId} (h : BoxAt w k cs t) (o : Obj) : BoxAt (w.alloc o) k cs t :=
  (Lib.alloc_old w o k h.lt).trans h
theorem BoxAt.later {w w' : World} {k : Nat} {c : Array Value} {t : TypeId} (h : BoxAt w k c t) (hb : Below w.heap.size w w') : BoxAt w' k c t := (hb.block k h.lt).trans h
theorem BoxAt.setOther {w : World} {k : Nat} {cs : Array Value} {t : TypeId} (h : BoxAt w k cs t) (p : Addr) (v : Value) (hp : k ≠ p.block) : BoxAt (w.setCell p v) k cs t :=
  (Below.heap_setCell w p v k hp).trans h
theorem BoxAt.new' (w : World) (k : Nat) (cs : Array Value) (t : TypeId) (h : k = w.heap.size) : BoxAt (w.alloc (.cells cs t)) k cs t := by rw [h]; exact BoxAt.new w cs t
theorem take_snoc {α : Type} (l : List α) (i : Nat) (x : α) (h : l[i]? = some x) : l.take (i + 1) = l.take i ++ [x] := by
  rw [List.take_add_one, h]; rfl
theorem drop_cons {α : Type} (l : List α) (i : Nat) (x : α) (h : l[i]? = some x) : l.drop i = x :: l.drop (i + 1) := by
  obtain ⟨hi, rfl⟩ := List.getElem?_eq_some_iff.1 h
  exact List.drop_eq_getElem_cons hi
end Go.Proofs.YthlccfjhgejlmaaGreatDoor

namespace Go.Proofs.YthlccfjhgejlmaaGreatDoor
open Go.RowKit Go Go.Op
set_option linter.unusedVariables false
section
variable {P : Program} (w : World)
theorem run_append_where (base : Nat) (t ty e : TypeId) (i : TypeInfo) (z : Value) (size bytes : Nat) (ht : P.underlying t = some (.slice e)) (hi : P.info? e = some i) (hz : i.zero = some z)
    (hsize : i.size = size) (hby : i.bytes = bytes) (hzs : z.cells.size = size) (hsz : 0 < size)
    (v : Value) (n : Nat) (xs : List Value) (hown : w.ownsRow base e size v n xs)
    (a : Addr) (m c : Nat) (news : List Value) (hl : news.length = m * size) (hnews : ∀ j u, news[j]? = some u → w.cell? (a.add j) = some u) (h1 : ∀ u ∈ news, u.oneCell' = true)
    (h63 : n + m ≤ maxLen) (hbytes : (n + m) * bytes ≤ 140737488355328) (hbase : base ≤ w.heap.size) (hm0 : 0 < m) :
    ∃ v' w', (Builtin.append_ #[t, t] ty #[v, .slice (some a) m c]).run P w = .ok v' w' ∧ w'.ownsRow base e size v' (n + m) (xs ++ news) ∧ w.grownBy w' v.ownBlock ∧
      (v'.ownBlock = v.ownBlock ∨ v'.ownBlock = some w.heap.size) := by
  obtain ⟨v', w', hr, h2, h3, _⟩ := run_append_own (P := P) w base t ty e i z size bytes ht hi hz hsize hby hzs hsz v n xs hown a m c news hl hnews h1 h63 hbytes hbase
  refine ⟨v', w', hr, h2, h3, ?_⟩
  subst hsize
  subst hby
  have hsmall : n + m ≤ 9223372036854775807 := by simp only [maxLen] at h63; omega
  rcases hown.2 with ⟨rfl, rfl⟩ | ⟨g, cap, cur, rfl, hbg, hg, hnc, hcm, hcs, htake⟩
  · have hr2 := run_append_nil (P := P) w t ty e i z ht hi hz a m c news hl hnews (by omega) (by omega) (by have hb := hbytes; simp only [Nat.zero_add] at hb; omega)
    have hv := hr.symm.trans hr2
    injection hv with e1 _
    rw [e1]
    exact .inr rfl
  · by_cases hroom : n + m ≤ cap
    · have hfit : n * i.size + news.length ≤ cur.size := by rw [hl, hcs, ← Nat.add_mul]; exact Nat.mul_le_mul_right _ hroom
      have hr2 := run_append_room (P := P) w t ty e i ht hi g n cap cur hg a m c news hl hnews h1 hroom hfit
      have hv := hr.symm.trans hr2
      injection hv with e1 _
      rw [e1]
      exact .inl rfl
    · have holds : ∀ j u, xs[j]? = some u → w.cell? ((⟨g, 0, none⟩ : Addr).add j) = some u := hown.cells (g := g) rfl
      have hr2 := run_append_grow (P := P) w t ty e i z ht hi hz ⟨g, 0, none⟩ n cap xs hown.1 holds a m c news hl hnews (by omega) (by omega) (growslice_fits (by omega) hbytes)
      have hv := hr.symm.trans hr2
      injection hv with e1 _
      rw [e1]
      exact .inr rfl
theorem wpList_append_where {ops : Array Oper} {rest : List Oper} {o : Oper} {a : Act} {Q : Exit → Act → World → Prop} (hgd : o.guard = none) (s x : Operand) (t : TypeId)
    (ho : o.op = .call { callee := .builtin .append, args := #[s, x], argTypes := #[t, t] })
    (base : Nat) (e : TypeId) (i : TypeInfo) (z : Value) (size bytes : Nat) (ht : P.underlying t = some (.slice e)) (hi : P.info? e = some i) (hz : i.zero = some z)
    (hsize : i.size = size) (hby : i.bytes = bytes) (hzs : z.cells.size = size) (hsz : 0 < size)
    (v : Value) (n : Nat) (xs : List Value) (hs : a.eval s = v) (hown : w.ownsRow base e size v n xs)
    (ad : Addr) (m c : Nat) (news : List Value) (hx : a.eval x = .slice (some ad) m c) (hl : news.length = m * size) (hnews : ∀ j u, news[j]? = some u → w.cell? (ad.add j) = some u) (h1 : ∀ u ∈ news, u.oneCell' = true)
    (h63 : n + m ≤ maxLen) (hbytes : (n + m) * bytes ≤ 140737488355328) (hbase : base ≤ w.heap.size) (hm0 : 0 < m)
    (h : ∀ v' w', w'.ownsRow base e size v' (n + m) (xs ++ news) → w.grownBy w' v.ownBlock → (v'.ownBlock = v.ownBlock ∨ v'.ownBlock = some w.heap.size) → wpList P ops Q rest (a.put o.dst v') w') : wpList P ops Q (o :: rest) a w := by
  refine wpList_plain hgd fun K hK => ?_
  obtain ⟨v', w', hr, h2, h3, h4⟩ := run_append_where (P := P) w base t o.type e i z size bytes ht hi hz hsize hby hzs hsz v n xs hown ad m c news hl hnews h1 h63 hbytes hbase hm0
  unfold Oper.wp execOp
  simp only [ho, resolve, invoke, builtin, Sem.run_bind, Sem.run_pure, Result.andThen_ok, List.map_toArray, List.map_cons, List.map_nil, hs, hx, hr]
  exact hK _ _ (h v' w' h2 h3 h4)
end
end Go.Proofs.YthlccfjhgejlmaaGreatDoor

namespace Go.Proofs.YthlccfjhgejlmaaGreatDoor
open Go.RowKit Go.ChangeMaps
open Go.Maps (Keyed string_keyed)
set_option linter.unusedVariables false
set_option linter.unusedSimpArgs false
theorem check_str {P : Program} {k : TypeId} (hk : P.underlying k = some .string) (w : World) (em : Bool) (s : ByteArray) : (Instr.checkKey em 10000 k (.string s)).run P w = .ok () w := by
  have h : ∀ n, (Instr.checkKey em (n + 1) k (.string s)).run P w = .ok () w := fun n => by simp [Instr.checkKey, run_underlying hk, Result.andThen]
  exact h 9999
theorem run_ins {P : Program} {t k e : TypeId} (ht : P.underlying t = some (.map k e)) (hk : P.underlying k = some .string) (w : World) (es es' : Array MapEntry) (c : Nat) (s : ByteArray) (v : Value)
    (hn : Instr.findNow .string (.string s) es.toList 0 = some none) (he : es.push { key := .string s, val := v, born := c } = es') :
    (Instr.mapUpdate t (.map (some w.heap.size)) (.string s) v).run P (w.alloc (.map es c)) = .ok () (w.alloc (.map es' (c + 1))) := by
  have hb : (w.alloc (.map es c)).heap[w.heap.size]? = some (.map es c) := by
    show (w.heap.push _)[w.heap.size]? = _
    simp
  have h1 : (Instr.findKey k (.string s) es.toList).run P (w.alloc (.map es c)) = .ok none (w.alloc (.map es c)) := by
    simp [Instr.findKey, run_underlying hk, hn, Result.andThen]
  have hc := check_str hk (w.alloc (.map es c)) false s
  have hrun : (Instr.mapUpdate t (.map (some w.heap.size)) (.string s) v).run P (w.alloc (.map es c)) = .ok () (setBlock (w.alloc (.map es c)) w.heap.size (.map (es.push { key := .string s, val := v, born := c }) (c + 1))) := by
    simp [Instr.mapUpdate, run_underlying ht, MapKept.run_getObj_map hb, hc, h1, MapKept.run_setObj_map _ hb, Result.andThen, setBlock]
  rw [hrun, he]
  congr 1
  have h : (w.heap.push (.map es c)).setIfInBounds w.heap.size (.map es' (c + 1)) = w.heap.push (.map es' (c + 1)) := by
    apply Array.toList_inj.1
    simp [List.set_append]
  show ({ w with heap := (w.heap.push (.map es c)).setIfInBounds w.heap.size (.map es' (c + 1)) } : World) = { w with heap := w.heap.push (.map es' (c + 1)) }
  rw [h]
theorem run_look {P : Program} {t k e : TypeId} (ht : P.underlying t = some (.map k e)) (hk : P.underlying k = some .string) (w : World) {z : Value} (hz : (zeroValue e).run P w = .ok z w) (b : Nat) (es : Array MapEntry) (c : Nat)
    (hb : w.heap[b]? = some (.map es c)) (s : ByteArray) (r : Option (Nat × Value)) (hn : Instr.findNow .string (.string s) es.toList 0 = some r) :
    (Instr.lookup t (.map (some b)) (.string s) true).run P w = .ok (.tuple #[(r.map (·.2)).getD z, .bool r.isSome]) w := by
  have h1 : (Instr.findKey k (.string s) es.toList).run P w = .ok r w := by
    simp [Instr.findKey, run_underlying hk, hn, Result.andThen]
  have hc := check_str hk w es.isEmpty s
  cases r with
  | none => simp [Instr.lookup, run_underlying ht, MapKept.run_getObj_map hb, hc, h1, hz, Result.andThen]
  | some p => simp [Instr.lookup, run_underlying ht, MapKept.run_getObj_map hb, hc, h1, Result.andThen]
theorem run_put_new {P : Program} {t k e : TypeId} (ht : P.underlying t = some (.map k e)) (hk : P.underlying k = some .string) (w : World) (b : Nat) (es : Array MapEntry) (c : Nat) (hb : w.heap[b]? = some (.map es c)) (s : ByteArray) (v : Value)
    (hn : Instr.findNow .string (.string s) es.toList 0 = some none) :
    (Instr.mapUpdate t (.map (some b)) (.string s) v).run P w = .ok () (setBlock w b (.map (es.push { key := .string s, val := v, born := c }) (c + 1))) := by
  have h1 : (Instr.findKey k (.string s) es.toList).run P w = .ok none w := by
    simp [Instr.findKey, run_underlying hk, hn, Result.andThen]
  have hc := check_str hk w false s
  simp [Instr.mapUpdate, run_underlying ht, MapKept.run_getObj_map hb, hc, h1, MapKept.run_setObj_map _ hb, Result.andThen, setBlock]
theorem run_put_old {P : Program} {t k e : TypeId} (ht : P.underlying t = some (.map k e)) (hk : P.underlying k = some .string) (w : World) (b : Nat) (es : Array MapEntry) (c : Nat) (hb : w.heap[b]? = some (.map es c)) (s : ByteArray) (v : Value) (i : Nat) (old : Value) (x : MapEntry)
    (hn : Instr.findNow .string (.string s) es.toList 0 = some (some (i, old))) (hi : es[i]? = some x) (hx : x.key = .string s) :
    (Instr.mapUpdate t (.map (some b)) (.string s) v).run P w = .ok () (setBlock w b (.map (es.modify i fun y => { y with key := .string s, val := v }) c)) := by
  have h1 : (Instr.findKey k (.string s) es.toList).run P w = .ok (some (i, old)) w := by
    simp [Instr.findKey, run_underlying hk, hn, Result.andThen]
  have hc := check_str hk w false s
  have hb2 : (s == s) = true := by
    show (s.data == s.data) = true
    exact beq_self_eq_true _
  have hs : Instr.sameBits 10000 (.string s) (.string s) = true := by
    unfold Instr.sameBits
    exact hb2
  have hK : (Instr.keyThatStays (.string s) (.string s)).run P w = .ok (.string s) w := by
    simp [Instr.keyThatStays, hs]
  simp [Instr.mapUpdate, run_underlying ht, MapKept.run_getObj_map hb, hc, h1, hi, hx, hK, MapKept.run_setObj_map _ hb, Result.andThen, setBlock]
end Go.Proofs.YthlccfjhgejlmaaGreatDoor

namespace Go.Proofs.YthlccfjhgejlmaaGreatDoor
open Go.RowKit Go.ChangeMaps
set_option linter.unusedVariables false
set_option linter.unusedSimpArgs false
def MapAt (W : World) (b : Nat) (es : Array MapEntry) (c : Nat) : Prop := W.heap[b]? = some (.map es c)
theorem MapAt.lt {W : World} {b c : Nat} {es : Array MapEntry} (h : MapAt W b es c) : b < W.heap.size := (Array.getElem?_eq_some_iff.1 h).1
theorem MapAt.later {W W' : World} {b c : Nat} {es : Array MapEntry} (h : MapAt W b es c) (g : Below W.heap.size W W') : MapAt W' b es c := (g.block b h.lt).trans h
theorem MapAt.alloc {W : World} {b c : Nat} {es : Array MapEntry} (h : MapAt W b es c) (o : Obj) : MapAt (W.alloc o) b es c := h.later ((Below.refl _ _).alloc (Nat.le_refl _) o)
theorem MapAt.new (W : World) (b : Nat) (es : Array MapEntry) (c : Nat) (hb : b = W.heap.size) : MapAt (W.alloc (.map es c)) b es c := by
  subst hb
  show (W.heap.push _)[W.heap.size]? = _
  simp
theorem MapAt.setCell {W : World} {b c : Nat} {es : Array MapEntry} (h : MapAt W b es c) (p : Addr) (v : Value) (hp : b ≠ p.block) : MapAt (W.setCell p v) b es c := (Below.heap_setCell W p v b hp).trans h
theorem MapAt.set {W : World} {b c : Nat} {es : Array MapEntry} (h : MapAt W b es c) (es' : Array MapEntry) (c' : Nat) : MapAt (setBlock W b (.map es' c')) b es' c' := by
  have hl := h.lt
  unfold MapAt setBlock
  simp [hl]
theorem beqT {a b : ByteArray} : (a == b) = true ↔ a = b := by
  constructor
  · intro h
    have h1 : (a.data == b.data) = true := h
    have h2 : a.data = b.data := by simpa using h1
    obtain ⟨x⟩ := a
    obtain ⟨y⟩ := b
    simp only at h2
    rw [h2]
  · rintro rfl
    show (a.data == a.data) = true
    exact beq_self_eq_true _
end Go.Proofs.YthlccfjhgejlmaaGreatDoor
