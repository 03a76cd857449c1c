/-
  Several texts put together (part O3): what the law and the program call, walked; their contracts.
-/
import Derived.Test.YthlccfjhgejlmaaDoorQ14
import Derived.Test.YthlccfjhgejlmaaDoorQO2
namespace Go.Proofs.YthlccfjhgejlmaaDoor
open Go.RowKit Go.Shelf
set_option linter.unusedVariables false
set_option linter.unusedSimpArgs false
theorem fitsTo {t u : TagT} (k : t.Ok) (l : u.Ok) {A A' : Option Addr} {c c' : Nat} {W : World} (h : VarsAt W t A c) (h' : VarsAt W u A' c') :
    Calls Tryd.prog 11 #[.agg #[.string (mk t.L), .string (mk t.S), .string (mk t.R), .slice A t.vs.length c], .agg #[.string (mk u.L), .string (mk u.S), .string (mk u.R), .slice A' u.vs.length c']] W fun e W' => e = .returned (.bool (fitsT t u)) ∧ Below W.heap.size W W' := by
  refine (fits_any (mk t.L) (mk t.S) (mk t.R) (.slice A t.vs.length c) (t.vs.map mk) (mk u.L) (mk u.S) (mk u.R) (.slice A' u.vs.length c') (u.vs.map mk) (mkL_ne k.good) (mkL_ne l.good) (by rw [List.length_map]; exact k.vs) (by rw [List.length_map]; exact l.vs) W h.2 h'.2).mono ?_
  rintro e W' ⟨rfl, hb⟩
  exact ⟨by rw [pieces_mk, pieces_mk, fits_mk], hb⟩
end Go.Proofs.YthlccfjhgejlmaaDoor
