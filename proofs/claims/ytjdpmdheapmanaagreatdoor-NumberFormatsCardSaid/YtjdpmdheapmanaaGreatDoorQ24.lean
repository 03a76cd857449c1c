/-
  Several texts put together (part 24): what the law and the program call, walked; their contracts.
-/
import Derived.Test.YtjdpmdheapmanaaGreatDoorQ3
import Derived.Deep.WholeRow
import Derived.Laws.StructEq
namespace Go.Proofs.YtjdpmdheapmanaaGreatDoor
open Go.RowKit
@[irreducible] def row (n : Nat) (A : Nat → Int) : Array Value := Array.ofFn (n := n) fun p => .int .i64 (A p)
theorem row_size (n : Nat) (A : Nat → Int) : (row n A).size = n := by simp [row]
theorem row_get (n : Nat) (A : Nat → Int) (p : Nat) (hp : p < n) : (row n A)[p]? = some (.int .i64 (A p)) := by
  simp [row, hp]
theorem row_set (n : Nat) (A : Nat → Int) (p : Nat) (x : Int) : (row n A).setIfInBounds p (.int .i64 x) = row n (fun q => if q = p then x else A q) := by
  apply Array.ext_getElem?
  intro i
  rw [Array.getElem?_setIfInBounds]
  by_cases h : p = i
  · subst h
    by_cases hp : p < n
    · simp [row, hp]
    · simp [row, hp]
  · have h' : ¬ i = p := fun e => h e.symm
    rw [if_neg h]
    by_cases hi : i < n
    · simp [row, hi, h']
    · simp [row, hi]
theorem row_congr (n : Nat) {A B : Nat → Int} (h : ∀ p, p < n → A p = B p) : row n A = row n B := by
  apply Array.ext
  · simp [row]
  · intro i h1 h2
    simp only [row, Array.size_ofFn] at h1
    simp only [row, Array.getElem_ofFn, h i h1]
theorem row_one (n : Nat) (A : Nat → Int) : (row n A).all (·.oneCell') = true := by
  rw [Array.all_eq_true]
  intro i h
  simp [row, Value.oneCell']
theorem run_part_row {P : Program} (w : World) (e : TypeId) (n : Nat) (A : Nat → Int) (p : Nat) (hp : p < n) (ha : (isAgg e).run P w = .ok false w) :
    (part e (row n A) p).run P w = .ok (.int .i64 (A p)) w := by
  simp [part, Sem.run_bind, ha, row_get n A p hp]
theorem run_eq_rows {P : Program} (w : World) (d : Nat) (e : TypeId) (n : Nat) (A B : Nat → Int) (he : P.underlying e = some (.int .i64)) (ha : (isAgg e).run P w = .ok false w) :
    ∀ (m s : Nat), s + m = n → (forIn (m := Sem) (List.range' s m) ((none, ()) : Option Bool × PUnit) fun i _ => do
      if (!(← Op.equalIn (d + 1) e (← part e (row n A) (i * 1)) (← part e (row n B) (i * 1)))) = true then pure (ForInStep.done (some false, ())) else pure (ForInStep.yield (none, ()))).run P w
      = .ok (if (List.range' s m).all (fun p => A p == B p) then (none, ()) else (some false, ())) w
  | 0, s, _ => by simp [Sem.run_pure]
  | m + 1, s, hs => by
    rw [List.range'_succ, List.forIn_cons]
    simp only [Sem.run_bind, Nat.mul_one, run_part_row w e n A s (by omega) ha, run_part_row w e n B s (by omega) ha, Result.andThen_ok, run_equalIn_int w d e .i64 .i64 (A s) (B s) he, Sem.run_ite]
    cases h : (A s == B s)
    · simp [h, Result.andThen_ok, Sem.run_pure]
    · have ih := run_eq_rows w d e n A B he ha m (s + 1) (by omega)
      simp only [Nat.mul_one, Bool.not_eq_eq_eq_not, Bool.not_true] at ih
      simp [h, Result.andThen_ok, Sem.run_pure]
      rw [ih]
      simp only [h, Bool.true_and]
theorem run_equalIn_row {P : Program} (w : World) (d : Nat) (t e : TypeId) (n : Nat) (A B : Nat → Int) (ht : P.underlying t = some (.array n e)) (he : P.underlying e = some (.int .i64))
    (ha : (isAgg e).run P w = .ok false w) (hz : (sizeOf e).run P w = .ok 1 w) :
    (Op.equalIn (d + 2) t (.agg (row n A)) (.agg (row n B))).run P w = .ok (eqF A B n) w := by
  have h := run_eq_rows w d e n A B he ha n 0 (by omega)
  unfold Op.equalIn
  simp only [Sem.run_bind, run_underlying ht, Result.andThen_ok, hz, Std.Legacy.Range.forIn_eq_forIn_range', Std.Legacy.Range.size, Nat.sub_zero, Nat.add_sub_cancel, Nat.div_one]
  rw [h]
  have e : (List.range' 0 n).all (fun p => A p == B p) = eqF A B n := by unfold eqF; rw [List.range_eq_range']
  rw [e]
  cases eqF A B n <;> simp [Result.andThen_ok, Sem.run_pure]
end Go.Proofs.YtjdpmdheapmanaaGreatDoor
