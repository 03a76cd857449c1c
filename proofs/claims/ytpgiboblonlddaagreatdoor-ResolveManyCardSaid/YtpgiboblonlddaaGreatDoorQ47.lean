/-
  Several texts put together (part 47): what the law and the program call, walked; their contracts.
-/
import Derived.Test.YtpgiboblonlddaaGreatDoorQ42
import Derived.Test.YtpgiboblonlddaaGreatDoorQ46
import Derived.Test.YtpgiboblonlddaaGreatDoorQ44
import Derived.Deep.RegionHeld3
namespace Go.Proofs.YtpgiboblonlddaaGreatDoor
open Go.RowKit
set_option linter.unusedVariables false
set_option linter.unusedSimpArgs false
def ParseYes (key : ByteArray) (n2 : Bool) (D : ByteArray) (k2 : Nat) : Prop := ∀ W : World, W.ShapedOpen Tryz.prog → Calls Tryz.prog 52 #[.string key] W fun e w' => e = .returned (.tuple #[.agg #[.bool n2, .string D, .int .i64 (k2 : Int)], .bool true]) ∧ Below W.heap.size W w'
theorem parseYes {key : ByteArray} {n2 : Bool} {d : List UInt8} {k2 : Nat} (hp : parseL key.data.toList = some (n2, d, k2)) (hs : key.size < 4294967281) : ParseYes key n2 ⟨d.toArray⟩ k2 := by
  intro W hW
  have := parse_val key W hW hs
  rw [hp] at this
  exact this
end Go.Proofs.YtpgiboblonlddaaGreatDoor
