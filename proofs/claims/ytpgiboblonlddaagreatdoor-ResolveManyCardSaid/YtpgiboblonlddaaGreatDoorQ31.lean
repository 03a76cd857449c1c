/-
  Several texts put together (part 31): what the law and the program call, walked; their contracts.
-/
import Derived.Test.YtpgiboblonlddaaGreatDoorQ30
import Derived.Test.YtpgiboblonlddaaGreatDoorQ12
namespace Go.Proofs.YtpgiboblonlddaaGreatDoor
open Go.RowKit Go.ChangeMaps
set_option linter.unusedVariables false
theorem mapOf_V (L : List VE) : mapOf L = mapV (L.map fun e => (e.x.nm, e.v)) := by
  unfold mapOf mapV
  rw [List.zipIdx_map, List.map_map]
  rfl
end Go.Proofs.YtpgiboblonlddaaGreatDoor
