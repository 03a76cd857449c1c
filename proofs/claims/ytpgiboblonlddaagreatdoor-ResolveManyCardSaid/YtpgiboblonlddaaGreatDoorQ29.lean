/-
  Several texts put together (part 29): what the law and the program call, walked; their contracts.
-/
import Derived.Test.YtpgiboblonlddaaGreatDoorQ28
import Derived.Test.YtpgiboblonlddaaGreatDoorQ20
import Derived.Test.YtpgiboblonlddaaGreatDoorQ7
import Derived.Lib.ConvBytes
import Derived.Lib.SlBytesRow
import Derived.Lib.SlBytesConst
namespace Go.Proofs.YtpgiboblonlddaaGreatDoor
open Go.RowKit Go.ChangeMaps
set_option linter.unusedVariables false
set_option linter.unusedSimpArgs false
theorem conv_bytes (s : ByteArray) (b cap : Nat) (W : World) (h : Lib.Bytes W b 0 s) : (convert 24 9 (.slice (some ⟨b, 0, none⟩) s.size cap)).run Tryz.prog W = .ok (.string s) W :=
  Lib.run_convert_whole (P := Tryz.prog) W 24 5 9 Tryz.underlying24 Tryz.underlying5 Tryz.underlying9 b 0 s h cap
theorem bytes_same {W W' : World} {b : Nat} {s : ByteArray} (h : Lib.Bytes W b 0 s) (e : W'.heap[b]? = W.heap[b]?) : Lib.Bytes W' b 0 s := fun i hi => by
  have h2 := h i hi
  rw [← h2]
  unfold World.cell?
  simp only [e]
end Go.Proofs.YtpgiboblonlddaaGreatDoor
