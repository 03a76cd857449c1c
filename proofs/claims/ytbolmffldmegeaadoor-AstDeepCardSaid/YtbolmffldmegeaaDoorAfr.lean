/-
  utf8's tables out of what the row lists.
-/
import Derived.Test.YtbolmffldmegeaaDoorFrame
import Derived.Test.YtbolmffldmegeaaDoorAtx
import Derived.Lib.LaidU8
namespace Go.Proofs.YtbolmffldmegeaaDoor
open Go.ChangeShapes Go.WideShapes Go.ChangeAt Go.RowKit Go.Lib
set_option maxRecDepth 100000

theorem u8Extra : U8Extra Tryd.prog Tryd.lays260_ren := ⟨by kernel_rfl, by kernel_rfl, by kernel_rfl, by kernel_rfl, by kernel_rfl, by kernel_rfl, by kernel_rfl⟩
theorem tabU_of_laid {l : List (String × DataW Unit)} {W : World} (h : laidMetH Tryd.prog l W) (hl : (l.filter fun x => x.2.handleName?.isNone) = [("unicode/utf8.acceptRanges", acceptData), ("unicode/utf8.first", firstData)]) : TabU W := by
  have h1 := (laidMetH_iff.1 h).1
  rw [hl] at h1
  exact utf8Tabs_of_reads (ρ := Tryd.lays260_ren) Tryd.lays260 u8Extra (Lib.laidMet.reads h1 (.tail _ (.head _))) (Lib.laidMet.reads h1 (.head _))
end Go.Proofs.YtbolmffldmegeaaDoor
