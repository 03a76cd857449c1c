/-
  DERIVED. GIVEN WITH THE SEED: THE CARDS: each row of YtdoambpiafkmmaaGreatDoorRows.lean that lists a variable, with what it lists TIED to the program's text (the seventh form; the later family's looks); each row that meets fmt, with fmt's text TOLD by the authors' own Lean function (tested against real Go, not proved from fmt's source: count such statements apart). THE CARD IS WHAT COUNTS. Prove the row's statement (the work); the ties are given (YtdoambpiafkmmaaGreatDoorTie.lean); close each card by the builder's one call (the guide's Derived/Test/ToyasCard.lean, 'card_holds'). Laid BY PROGRAM, IN A SANDBOX (cutbox-door.mjs). By AI agents, Wed Nov 11 2026. No macro, syntax, notation, axiom, sorry.
-/
import Derived.Test.YtdoambpiafkmmaaGreatDoorRows
import GoSem.ClaimSeven
namespace Go.Proofs.YtdoambpiafkmmaaGreatDoor
namespace Rows

/-- THE TIED CARD OF 'polyglotlaw08.ExprPlaces'. -/
def exprPlacesCard : Claim7 := { stood := { row := exprPlacesRow, standIns := [], harness := (true, "55d7d3bbe48ded4849934c33f4dfe62a778dd147b2c892301446f6d7e87f8169"), looks := false }, kinds := [], alts := [], laidByText := true, laidKinds := [.data, .pinned], laidTests := true, laidLooks := .later }
def ExprPlacesCardSaid : Prop := Claim7.holds Tryz.pinned (.plain (OpenSpec.ofChange exprPlacesSpec)) exprPlacesCard

/-- THE TIED CARD OF 'polyglotlaw09.EntryParses'. -/
def entryParsesCard : Claim7 := { stood := { row := entryParsesRow, standIns := [], harness := (true, "55d7d3bbe48ded4849934c33f4dfe62a778dd147b2c892301446f6d7e87f8169"), looks := false }, kinds := [], alts := [], laidByText := true, laidKinds := [.data, .pinned], laidTests := true, laidLooks := .later }
def EntryParsesCardSaid : Prop := Claim7.holds Tryz.pinned (.plain (OpenSpec.ofChange entryParsesSpec)) entryParsesCard

/-- THE TIED CARD OF 'polyglotlaw09.EntryParts'. -/
def entryPartsCard : Claim7 := { stood := { row := entryPartsRow, standIns := [], harness := (true, "55d7d3bbe48ded4849934c33f4dfe62a778dd147b2c892301446f6d7e87f8169"), looks := false }, kinds := [], alts := [], laidByText := true, laidKinds := [.data, .pinned], laidTests := true, laidLooks := .later }
def EntryPartsCardSaid : Prop := Claim7.holds Tryz.pinned (.plain (OpenSpec.ofChange entryPartsSpec)) entryPartsCard

/-- THE TIED CARD OF 'polyglotlaw09.EntryJoins'. -/
def entryJoinsCard : Claim7 := { stood := { row := entryJoinsRow, standIns := [], harness := (true, "55d7d3bbe48ded4849934c33f4dfe62a778dd147b2c892301446f6d7e87f8169"), looks := false }, kinds := [], alts := [], laidByText := true, laidKinds := [.data, .pinned], laidTests := true, laidLooks := .later }
def EntryJoinsCardSaid : Prop := Claim7.holds Tryz.pinned (.plain (OpenSpec.ofChange entryJoinsSpec)) entryJoinsCard

/-- THE TIED CARD OF 'polyglotlaw09.EntryLines'. -/
def entryLinesCard : Claim7 := { stood := { row := entryLinesRow, standIns := [], harness := (true, "55d7d3bbe48ded4849934c33f4dfe62a778dd147b2c892301446f6d7e87f8169"), looks := false }, kinds := [], alts := [], laidByText := true, laidKinds := [.data, .pinned], laidTests := true, laidLooks := .later }
def EntryLinesCardSaid : Prop := Claim7.holds Tryz.pinned (.plain (OpenSpec.ofChange entryLinesSpec)) entryLinesCard

/-- THE SECOND FORM's CARD OF 'polyglotlaw08.ExprPlaces'. -/
def exprPlacesUptoCard : Claim7 := { stood := { row := exprPlacesUptoRow, standIns := [], harness := (true, "55d7d3bbe48ded4849934c33f4dfe62a778dd147b2c892301446f6d7e87f8169"), looks := false }, kinds := [], alts := [], laidByText := true, laidKinds := [.data, .pinned], laidTests := true, laidLooks := .later }
def ExprPlacesUptoCardSaid : Prop := Claim7.holds Tryz.pinned (.plain (OpenSpec.upto exprPlacesSpec)) exprPlacesUptoCard

/-- THE SECOND FORM's CARD OF 'polyglotlaw09.EntryParses'. -/
def entryParsesUptoCard : Claim7 := { stood := { row := entryParsesUptoRow, standIns := [], harness := (true, "55d7d3bbe48ded4849934c33f4dfe62a778dd147b2c892301446f6d7e87f8169"), looks := false }, kinds := [], alts := [], laidByText := true, laidKinds := [.data, .pinned], laidTests := true, laidLooks := .later }
def EntryParsesUptoCardSaid : Prop := Claim7.holds Tryz.pinned (.plain (OpenSpec.upto entryParsesSpec)) entryParsesUptoCard

/-- THE SECOND FORM's CARD OF 'polyglotlaw09.EntryParts'. -/
def entryPartsUptoCard : Claim7 := { stood := { row := entryPartsUptoRow, standIns := [], harness := (true, "55d7d3bbe48ded4849934c33f4dfe62a778dd147b2c892301446f6d7e87f8169"), looks := false }, kinds := [], alts := [], laidByText := true, laidKinds := [.data, .pinned], laidTests := true, laidLooks := .later }
def EntryPartsUptoCardSaid : Prop := Claim7.holds Tryz.pinned (.plain (OpenSpec.upto entryPartsSpec)) entryPartsUptoCard

/-- THE SECOND FORM's CARD OF 'polyglotlaw09.EntryJoins'. -/
def entryJoinsUptoCard : Claim7 := { stood := { row := entryJoinsUptoRow, standIns := [], harness := (true, "55d7d3bbe48ded4849934c33f4dfe62a778dd147b2c892301446f6d7e87f8169"), looks := false }, kinds := [], alts := [], laidByText := true, laidKinds := [.data, .pinned], laidTests := true, laidLooks := .later }
def EntryJoinsUptoCardSaid : Prop := Claim7.holds Tryz.pinned (.plain (OpenSpec.upto entryJoinsSpec)) entryJoinsUptoCard

/-- THE SECOND FORM's CARD OF 'polyglotlaw09.EntryLines'. -/
def entryLinesUptoCard : Claim7 := { stood := { row := entryLinesUptoRow, standIns := [], harness := (true, "55d7d3bbe48ded4849934c33f4dfe62a778dd147b2c892301446f6d7e87f8169"), looks := false }, kinds := [], alts := [], laidByText := true, laidKinds := [.data, .pinned], laidTests := true, laidLooks := .later }
def EntryLinesUptoCardSaid : Prop := Claim7.holds Tryz.pinned (.plain (OpenSpec.upto entryLinesSpec)) entryLinesUptoCard
end Rows
end Go.Proofs.YtdoambpiafkmmaaGreatDoor
