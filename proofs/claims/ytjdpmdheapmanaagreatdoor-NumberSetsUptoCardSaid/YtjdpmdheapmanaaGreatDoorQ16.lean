/-
  Several texts put together (part 16): what the law and the program call, walked; their contracts.
-/
import Derived.Test.YtjdpmdheapmanaaGreatDoorQ8
namespace Go.Proofs
open Go.Shelf
end Go.Proofs
