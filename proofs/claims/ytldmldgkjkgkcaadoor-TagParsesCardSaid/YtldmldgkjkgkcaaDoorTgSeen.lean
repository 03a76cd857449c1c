/-
  The law's own map of what has been seen (package tag's law): a map of strings to bools that the call makes.
-/
import Derived.Test.YtldmldgkjkgkcaaDoorTgParse0
import Derived.Maps.Own
import Derived.Maps.OwnOps
import Derived.Maps.OwnSet
import Derived.Maps.Views
namespace Go.Proofs.YtldmldgkjkgkcaaDoor
open Go.RowKit Go.Shelf Go.Maps
set_option linter.unusedVariables false
set_option linter.unusedSimpArgs false

theorem keyLaw : Keyed Tryd.prog 9 := string_keyed Tryd.underlying9
theorem zeroBool (w : World) : (zeroValue 4).run Tryd.prog w = .ok (.bool false) w := by kernel_rfl
theorem plainElem_bool_inv {P : Program} {e : TypeId} (he : P.underlying e = some .bool) {v : Value} {z : DataW Unit × List MemPlace} (h : plainElem P e v = some z) : ∃ b, v = .bool b ∧ z = (.lit (.bool b), []) := by
  unfold plainElem at h
  rw [he] at h
  cases v <;> simp at h
  subst h
  exact ⟨_, rfl, rfl⟩

/-- A look-up without 'ok' at elements that are bools. -/
theorem wpList_lookup_own_bool {P : Program} (w : World) {ops : Array Oper} {rest : List Oper} {o : Oper} {a : Act} {Q : Exit → Act → World → Prop}
    (hg : o.guard = none) (m x : Operand) (t : TypeId) (hop : o.op = Op.lookup t m x false)
    (k e : TypeId) (K : Keyed P k) (ht : P.underlying t = some (.map k e)) (he : P.underlying e = some .bool) (hz : (zeroValue e).run P w = .ok (.bool false) w) (b n : Nat) (D : DataW Unit)
    (hm : a.eval m = .map (some b)) (hown : w.ownsMap P k (plainElem P e) b n D) (key : Value) (kl : Lit) (hx : a.eval x = key) (hkey : keyOf P k key = some kl) (c : Bool) (hat : D.atKey kl (.lit (.bool false)) = .lit (.bool c))
    (hK : wpList P ops Q rest (a.put o.dst (.bool c)) w) :
    wpList P ops Q (o :: rest) a w := by
  refine wpList_plain hg fun K' hK' => ?_
  obtain ⟨v, ps, hrun, hv⟩ := hown.lookup K ht hz (plainElem_bool he false) hkey
  obtain ⟨c', rfl, hc⟩ := plainElem_bool_inv he hv
  have : c' = c := by
    have h1 := congrArg Prod.fst hc
    simp only at h1
    rw [hat] at h1
    cases h1; rfl
  subst this
  unfold Oper.wp
  simp [execOp, hop, hm, hx, hrun, Result.andThen]
  exact hK' _ _ hK

/-- The map holds just these words. -/
def SeenAt (W : World) (b n : Nat) (seen : List (List UInt8)) : Prop :=
  ∃ D : DataW Unit, W.ownsMap Tryd.prog 9 (plainElem Tryd.prog 4) b n D ∧ ∀ p : List UInt8, D.atKey (.string p) (.lit (.bool false)) = .lit (.bool (decide (p ∈ seen)))
theorem SeenAt.made (w : World) : SeenAt (w.alloc (.map #[] 0)) w.heap.size 0 [] :=
  ⟨.map [], World.ownsMap_made w _ _ _, fun p => by simp [DataW.atKey]⟩
theorem SeenAt.later {W W1 : World} {b n : Nat} {seen : List (List UInt8)} (h : SeenAt W b n seen) (hb : Below W.heap.size W W1) : SeenAt W1 b n seen := by
  obtain ⟨D, ⟨es, clock, h1, h2⟩, h3⟩ := h
  exact ⟨D, ⟨es, clock, (hb.block b (Array.getElem?_eq_some_iff.1 h1).1).trans h1, h2⟩, h3⟩
theorem SeenAt.lt {W : World} {b n : Nat} {seen : List (List UInt8)} (h : SeenAt W b n seen) : b < W.heap.size := by
  obtain ⟨D, ⟨es, clock, h1, h2⟩, h3⟩ := h
  exact (Array.getElem?_eq_some_iff.1 h1).1
theorem SeenAt.mono {W : World} {b n m : Nat} {seen : List (List UInt8)} (h : SeenAt W b n seen) (hm : n ≤ m) : SeenAt W b m seen := by
  obtain ⟨D, h1, h3⟩ := h
  exact ⟨D, h1.mono hm, h3⟩
theorem seen_put {D : DataW Unit} (hm : IsMap D) {seen : List (List UInt8)} (h : ∀ p : List UInt8, D.atKey (.string p) (.lit (.bool false)) = .lit (.bool (decide (p ∈ seen)))) (q : List UInt8) :
    ∀ p : List UInt8, (D.put (.string q) (.lit (.bool true))).atKey (.string p) (.lit (.bool false)) = .lit (.bool (decide (p ∈ q :: seen))) := by
  intro p
  by_cases e : p = q
  · subst e
    rw [atKey_put_same hm (by simp [WideAt.IsKeyLit])]
    simp
  · rw [atKey_put_other (by simpa using e), h p]
    simp [e]
end Go.Proofs.YtldmldgkjkgkcaaDoor
