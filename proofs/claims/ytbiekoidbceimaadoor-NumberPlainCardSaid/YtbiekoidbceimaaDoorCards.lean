/-
  DERIVED. GIVEN WITH THE SEED: THE CARDS: each row of YtbiekoidbceimaaDoorRows.lean that lists a variable, with what it lists TIED to the program's text (the seventh form; the later family's looks); each row that meets fmt, with fmt's text TOLD by the authors' own Lean function (tested against real Go, not proved from fmt's source: count such statements apart). THE CARD IS WHAT COUNTS. Prove the row's statement (the work); the ties are given (YtbiekoidbceimaaDoorTie.lean); close each card by the builder's one call (the guide's Derived/Test/ToyasCard.lean, 'card_holds'). Laid BY PROGRAM, IN A SANDBOX (cutbox-door.mjs). By AI agents, Wed Nov 11 2026. No macro, syntax, notation, axiom, sorry.
-/
import Derived.Test.YtbiekoidbceimaaDoorRows
import GoSem.ClaimSeven
namespace Go.Proofs.YtbiekoidbceimaaDoor
namespace Rows

/-- THE TIED CARD OF 'polyglotlaw12.NumberSame'. -/
def numberSameCard : Claim7 := { stood := { row := numberSameRow, standIns := [], harness := (true, "bf36e27cb986ba3fe4e6afb1fa26d8b643430451a3b48e1fc36a7208d7c29c4e"), looks := false }, kinds := [], alts := [], laidByText := true, laidKinds := [.data, .pinned], laidTests := true, laidLooks := .later }
def NumberSameCardSaid : Prop := Claim7.holds Tryd.pinned (.plain (OpenSpec.ofChange numberSameSpec)) numberSameCard

/-- THE TIED CARD OF 'polyglotlaw12.NumberPlain'. -/
def numberPlainCard : Claim7 := { stood := { row := numberPlainRow, standIns := [], harness := (true, "bf36e27cb986ba3fe4e6afb1fa26d8b643430451a3b48e1fc36a7208d7c29c4e"), looks := false }, kinds := [], alts := [], laidByText := true, laidKinds := [.data, .pinned], laidTests := true, laidLooks := .later }
def NumberPlainCardSaid : Prop := Claim7.holds Tryd.pinned (.plain (OpenSpec.ofChange numberPlainSpec)) numberPlainCard

/-- THE SECOND FORM's CARD OF 'polyglotlaw12.NumberSame'. -/
def numberSameUptoCard : Claim7 := { stood := { row := numberSameUptoRow, standIns := [], harness := (true, "bf36e27cb986ba3fe4e6afb1fa26d8b643430451a3b48e1fc36a7208d7c29c4e"), looks := false }, kinds := [], alts := [], laidByText := true, laidKinds := [.data, .pinned], laidTests := true, laidLooks := .later }
def NumberSameUptoCardSaid : Prop := Claim7.holds Tryd.pinned (.plain (OpenSpec.upto numberSameSpec)) numberSameUptoCard

/-- THE SECOND FORM's CARD OF 'polyglotlaw12.NumberPlain'. -/
def numberPlainUptoCard : Claim7 := { stood := { row := numberPlainUptoRow, standIns := [], harness := (true, "bf36e27cb986ba3fe4e6afb1fa26d8b643430451a3b48e1fc36a7208d7c29c4e"), looks := false }, kinds := [], alts := [], laidByText := true, laidKinds := [.data, .pinned], laidTests := true, laidLooks := .later }
def NumberPlainUptoCardSaid : Prop := Claim7.holds Tryd.pinned (.plain (OpenSpec.upto numberPlainSpec)) numberPlainUptoCard
end Rows
end Go.Proofs.YtbiekoidbceimaaDoor
