/-
  What dec.Parse tells, as a value.
-/
import Derived.Test.YtgdkpamlkpncgabGreatDoorParseMath
namespace Go.Proofs.YtgdkpamlkpncgabGreatDoor
open Go.RowKit

def parseVal : Option (Bool × List UInt8 × Nat) → Value
  | some (n, d, k) => .tuple #[.agg #[.bool n, .string ⟨d.toArray⟩, .int .i64 k], .bool true]
  | none => .tuple #[.agg #[.bool false, .string ⟨#[]⟩, .int .i64 0], .bool false]
theorem parse_val (s : ByteArray) (w : World) (hsh : w.ShapedOpen Tryz.prog) (hs : s.size < 4294967281) :
    Calls Tryz.prog 46 #[.string s] w fun e w' => e = .returned (parseVal (parseL s.data.toList)) ∧ Below w.heap.size w w' := by
  refine (parse_any s w hsh hs).mono ?_
  rintro e w' ⟨he, hb⟩
  refine ⟨?_, hb⟩
  unfold ParseEnd at he
  cases h : parseL s.data.toList with
  | none => rw [h] at he; exact he
  | some x => obtain ⟨n, d, k⟩ := x; rw [h] at he; exact he
end Go.Proofs.YtgdkpamlkpncgabGreatDoor
