/-
  Several texts put together (part 34): what the law and the program call, walked; their contracts.
-/
import Derived.Test.YtgdkpamlkpncgaaGreatDoorR1
import Derived.Test.YtgdkpamlkpncgaaGreatDoorR20
import Derived.Lib.LaidU8
namespace Go.Proofs.YtgdkpamlkpncgaaGreatDoor
open Go.ChangeShapes Go.WideShapes Go.ChangeAt Go.RowKit Go.Lib
set_option linter.unusedVariables false
set_option linter.unusedSimpArgs false
set_option maxRecDepth 100000
theorem u8Extra : U8Extra Tryz.prog Tryz.lays260_ren:=⟨by kernel_rfl,by kernel_rfl,by kernel_rfl,by kernel_rfl,by kernel_rfl,by kernel_rfl,by kernel_rfl⟩
theorem tabU_of_laid {l : List (String × DataW Unit)} {W : World} (h : laidMetH Tryz.prog l W) (hl : (l.filter fun x => x.2.handleName?.isNone) = [("unicode/utf8.acceptRanges", acceptData), ("unicode/utf8.first", firstData)]) : TabU W := by
 have h1:=(laidMetH_iff.1 h).1
 rw [hl] at h1
 exact utf8Tabs_of_reads (ρ:=Tryz.lays260_ren) Tryz.lays260 u8Extra (Lib.laidMet.reads h1 (.tail _ (.head _))) (Lib.laidMet.reads h1 (.head _))
theorem mxW_of {W : World} (h : W.ShapedOpen Tryz.prog) : MxW W:=Tryz.laysM219.s1_3 W h
end Go.Proofs.YtgdkpamlkpncgaaGreatDoor
