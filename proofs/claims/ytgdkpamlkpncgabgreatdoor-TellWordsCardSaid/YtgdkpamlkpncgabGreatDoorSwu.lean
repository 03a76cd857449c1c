/-
  What a law's row lays: the tables and the errors of the library's.
-/
import Derived.Test.YtgdkpamlkpncgabGreatDoorSwb
import Derived.Test.YtgdkpamlkpncgabGreatDoorFrame
import Derived.Stop.LaidErr
import Derived.LaidLaws
namespace Go.Proofs.YtgdkpamlkpncgabGreatDoor
open Go.RowKit Go.ChangeShapes Go.WideShapes Go.ChangeAt
set_option linter.unusedVariables false
set_option maxRecDepth 100000

theorem starE : "*errors.errorString" = "*" ++ "errors.errorString" := by decide
theorem rowE (u : TypeId) (h : Tryz.prog.typeName? 3 u = some "*errors.errorString") : u = 315 :=
  typeName_ptr_named (nm := "errors.errorString") (by rw [← starE]; kernel_rfl) (by kernel_rfl) (by decide) u (by rw [← starE]; exact h)
theorem sent_of_laid {l : List (String × DataW Unit)} {W : World} (h : laidMetH Tryz.prog l W) (name : String) {text : List UInt8} {g : Nat}
    (hf : (l.filter fun x => x.1 == name) = [(name, .iface "*errors.errorString" (.ptr (.agg [.lit (.string text)])))]) (hg : Tryz.prog.globalNamed name = some g) (hty : (Tryz.prog.globals[g]?).map (·.type) = some 181) :
    ∃ te pe, W.cell? ⟨g, 0, none⟩ = some (.iface te pe) := by
  have h1 := h.filter fun x => x.1 == name
  rw [hf] at h1
  have h2 := (laidMetH_iff.1 h1).1
  rw [show ([(name, (.iface "*errors.errorString" (.ptr (.agg [.lit (.string text)])) : DataW Unit))].filter fun x => x.2.handleName?.isNone) = [(name, .iface "*errors.errorString" (.ptr (.agg [.lit (.string text)])))] from rfl] at h2
  obtain ⟨a, s, hv, _, _, _⟩ := laid_sentinel h2 hg hty Tryz.underlying181 rowE Tryz.underlying315 Tryz.underlying317 rfl rfl Tryz.underlying9 (by kernel_rfl) (by kernel_rfl)
  have h0 := World.var?_cell hg hv 0
  exact ⟨_, _, by simpa using h0⟩
theorem env_of {l : List (String × DataW Unit)} {W : World} (hL : laidMetH Tryz.prog l W) (hsh : W.ShapedOpen Tryz.prog)
    (f1 : (l.filter fun x => x.1 == "internal/strconv.uint64pow10") = [("internal/strconv.uint64pow10", Lib.tabData .u64 Lib.pow10Tab)])
    (f2 : (l.filter fun x => x.1 == "strconv.ErrSyntax") = [("strconv.ErrSyntax", .iface "*errors.errorString" (.ptr (.agg [.lit (.string [105, 110, 118, 97, 108, 105, 100, 32, 115, 121, 110, 116, 97, 120])])))])
    (f3 : (l.filter fun x => x.1 == "strconv.ErrRange") = [("strconv.ErrRange", .iface "*errors.errorString" (.ptr (.agg [.lit (.string [118, 97, 108, 117, 101, 32, 111, 117, 116, 32, 111, 102, 32, 114, 97, 110, 103, 101])])))]) : Env W :=
  ⟨hsh, tab_of_laid (g := 1) (zs := Lib.pow10Tab) (n := 20) (k := .u64) (t := 224) (e := 172) hL "internal/strconv.uint64pow10" f1 (by kernel_rfl) (by kernel_rfl) (by kernel_rfl) Tryz.underlying224 Tryz.underlying172 (by kernel_rfl) (by kernel_rfl),
    sent_of_laid hL "strconv.ErrSyntax" f2 (by kernel_rfl) (by kernel_rfl), sent_of_laid hL "strconv.ErrRange" f3 (by kernel_rfl) (by kernel_rfl)⟩
end Go.Proofs.YtgdkpamlkpncgabGreatDoor
