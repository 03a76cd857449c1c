/-
  Several texts put together (part 17): what the law and the program call, walked; their contracts.
-/
import Derived.Test.YtjdpmdheapmanaaGreatDoorQ5
namespace Go.Proofs
open Go.Shelf
end Go.Proofs
