/-
  Several texts put together (part 13): what the law and the program call, walked; their contracts.
-/
import Derived.Test.YtgdkpamlkpncgaaGreatDoorR5
import Derived.Maps.Own
import Derived.Maps.OwnOps
import Derived.Maps.OwnSet
import Derived.Maps.Views
import Derived.WideMake
namespace Go.Proofs.YtgdkpamlkpncgaaGreatDoor
open Go.RowKit Go.Maps
set_option linter.unusedVariables false
set_option linter.unusedSimpArgs false
theorem keyLaw : Keyed Tryz.prog 9:=string_keyed Tryz.underlying9
theorem zeroUnit (w : World) : (zeroValue 148).run Tryz.prog w = .ok (.agg #[]) w:=by kernel_rfl
def NamesAt (W : World) (b n : Nat) (seen : List ByteArray) : Prop :=
 ∃ D : DataW Unit,W.ownsMap Tryz.prog 9 (unitElem (H:=Unit)) b n D /\ (∀ p : ByteArray,Maps.has D (.string p.data.toList) = memB p seen) /\ Maps.size D = seen.length
theorem NamesAt.later {W W1 : World} {b n : Nat} {seen : List ByteArray} (h : NamesAt W b n seen) (hb : Below W.heap.size W W1) : NamesAt W1 b n seen:=by
 obtain ⟨D,⟨es,clock,h1,h2⟩,h3⟩:=h
 exact ⟨D,⟨es,clock,(hb.block b (Array.getElem?_eq_some_iff.1 h1).1).trans h1,h2⟩,h3⟩
theorem NamesAt.made (w : World) : NamesAt (w.alloc (.map #[] 0)) w.heap.size 0 [] :=
 ⟨.map [],World.ownsMap_made w _ _ _,fun p=>by simp [Maps.has,memB],rfl⟩
theorem NamesAt.mono {W : World} {b n m : Nat} {seen : List ByteArray} (h : NamesAt W b n seen) (hm : n <= m) : NamesAt W b m seen:=by
 obtain ⟨D,h1,h3⟩:=h
 exact ⟨D,h1.mono hm,h3⟩
theorem names_put {D : DataW Unit} (hm : Tidy D) {seen : List ByteArray} (h : ∀ p : ByteArray,Maps.has D (.string p.data.toList) = memB p seen) (hz : Maps.size D = seen.length) (q : ByteArray) (hq : memB q seen = false) (u : DataW Unit) :
  (∀ p : ByteArray,Maps.has (D.put (.string q.data.toList) u) (.string p.data.toList) = memB p (q :: seen)) /\ Maps.size (D.put (.string q.data.toList) u) = (q :: seen).length:=by
 constructor
 ·intro p
  by_cases e : p = q
  ·subst e
   rw [has_put_same hm.isMap (by simp [WideAt.IsKeyLit])]
   simp [memB]
  ·rw [has_put_other (by intro e2; exact e (bytes_eq (by injection e2))),h p]
   simp [memB,e]
 ·rw [size_put hm,h q,hq,hz]
  simp
theorem grown_cells {w w' : World} {b : Nat} (hg : w.grownBy w' (some b)) (hm : ∃ es c,w.heap[b]? = some (.map es c)) {k : Nat} {cs : Array Value} {t : TypeId} {fz : Nat × Nat} (h : w.heap[k]? = some (.cells cs t fz)) : w'.heap[k]? = some (.cells cs t fz):=by
 rw [hg.block k (Array.getElem?_eq_some_iff.1 h).1 ?_]
 ·exact h
 ·intro e
  obtain ⟨es,c,hm⟩:=hm
  have:=Option.some.inj e
  subst this
  rw [h] at hm
  cases hm
theorem owns_map {w : World} {b n : Nat} {D : DataW Unit} (h : w.ownsMap Tryz.prog 9 (unitElem (H:=Unit)) b n D) : ∃ es c,w.heap[b]? = some (.map es c):=by
 obtain ⟨es,clock,h1,_⟩:=h
 exact ⟨es,clock,h1⟩
theorem key_str (t : ByteArray) (ht : t.size <= 4000000000) : keyOf Tryz.prog 9 (.string t) = some (.string t.data.toList):=by
 rw [Go.WideMaps.keyOf_string_mk Tryz.underlying9 (by unfold maxLen; omega)]
end Go.Proofs.YtgdkpamlkpncgaaGreatDoor
