/-
  DERIVED. GIVEN WITH THE SEED: THE CARDS: each row of YtldmldgkjkgkcaaDoorRows.lean that lists a variable, with what it lists TIED to the program's text (the seventh form; the later family's looks); each row that meets fmt, with fmt's text TOLD by the authors' own Lean function (tested against real Go, not proved from fmt's source: count such statements apart). THE CARD IS WHAT COUNTS. Prove the row's statement (the work); the ties are given (YtldmldgkjkgkcaaDoorTie.lean); close each card by the builder's one call (the guide's Derived/Test/ToyasCard.lean, 'card_holds'). Laid BY PROGRAM, IN A SANDBOX (cutbox-door.mjs). By AI agents, Wed Nov 11 2026. No macro, syntax, notation, axiom, sorry.
-/
import Derived.Test.YtldmldgkjkgkcaaDoorRows
import GoSem.ClaimSeven
namespace Go.Proofs.YtldmldgkjkgkcaaDoor
namespace Rows

/-- THE TIED CARD OF 'polyglotlaw03.TagParses'. -/
def tagParsesCard : Claim7 := { stood := { row := tagParsesRow, standIns := [], harness := (true, "10b6a139c50a22629fb14a28f0b17234a9e2349c88bc5363f51f6b99c40f5e29"), looks := false }, kinds := [], alts := [], laidByText := true, laidKinds := [.data, .pinned, .pinned], laidTests := true, laidLooks := .later }
def TagParsesCardSaid : Prop := Claim7.holds Tryd.pinned (.plain (OpenSpec.ofChange tagParsesSpec)) tagParsesCard

/-- THE TIED CARD OF 'polyglotlaw03.TagFits'. -/
def tagFitsCard : Claim7 := { stood := { row := tagFitsRow, standIns := [], harness := (true, "10b6a139c50a22629fb14a28f0b17234a9e2349c88bc5363f51f6b99c40f5e29"), looks := false }, kinds := [], alts := [], laidByText := true, laidKinds := [.data, .pinned, .pinned], laidTests := true, laidLooks := .later }
def TagFitsCardSaid : Prop := Claim7.holds Tryd.pinned (.plain (OpenSpec.ofChange tagFitsSpec)) tagFitsCard

/-- THE TIED CARD OF 'polyglotlaw03.TagLess'. -/
def tagLessCard : Claim7 := { stood := { row := tagLessRow, standIns := [], harness := (true, "10b6a139c50a22629fb14a28f0b17234a9e2349c88bc5363f51f6b99c40f5e29"), looks := false }, kinds := [], alts := [], laidByText := true, laidKinds := [.data, .pinned, .pinned], laidTests := true, laidLooks := .later }
def TagLessCardSaid : Prop := Claim7.holds Tryd.pinned (.plain (OpenSpec.ofChange tagLessSpec)) tagLessCard

/-- THE TIED CARD OF 'polyglotlaw03.TagMore'. -/
def tagMoreCard : Claim7 := { stood := { row := tagMoreRow, standIns := [], harness := (true, "10b6a139c50a22629fb14a28f0b17234a9e2349c88bc5363f51f6b99c40f5e29"), looks := false }, kinds := [], alts := [], laidByText := true, laidKinds := [.data, .pinned, .pinned], laidTests := true, laidLooks := .later }
def TagMoreCardSaid : Prop := Claim7.holds Tryd.pinned (.plain (OpenSpec.ofChange tagMoreSpec)) tagMoreCard

/-- THE SECOND FORM's CARD OF 'polyglotlaw03.TagParses'. -/
def tagParsesUptoCard : Claim7 := { stood := { row := tagParsesUptoRow, standIns := [], harness := (true, "10b6a139c50a22629fb14a28f0b17234a9e2349c88bc5363f51f6b99c40f5e29"), looks := false }, kinds := [], alts := [], laidByText := true, laidKinds := [.data, .pinned, .pinned], laidTests := true, laidLooks := .later }
def TagParsesUptoCardSaid : Prop := Claim7.holds Tryd.pinned (.plain (OpenSpec.upto tagParsesSpec)) tagParsesUptoCard

/-- THE SECOND FORM's CARD OF 'polyglotlaw03.TagFits'. -/
def tagFitsUptoCard : Claim7 := { stood := { row := tagFitsUptoRow, standIns := [], harness := (true, "10b6a139c50a22629fb14a28f0b17234a9e2349c88bc5363f51f6b99c40f5e29"), looks := false }, kinds := [], alts := [], laidByText := true, laidKinds := [.data, .pinned, .pinned], laidTests := true, laidLooks := .later }
def TagFitsUptoCardSaid : Prop := Claim7.holds Tryd.pinned (.plain (OpenSpec.upto tagFitsSpec)) tagFitsUptoCard

/-- THE SECOND FORM's CARD OF 'polyglotlaw03.TagLess'. -/
def tagLessUptoCard : Claim7 := { stood := { row := tagLessUptoRow, standIns := [], harness := (true, "10b6a139c50a22629fb14a28f0b17234a9e2349c88bc5363f51f6b99c40f5e29"), looks := false }, kinds := [], alts := [], laidByText := true, laidKinds := [.data, .pinned, .pinned], laidTests := true, laidLooks := .later }
def TagLessUptoCardSaid : Prop := Claim7.holds Tryd.pinned (.plain (OpenSpec.upto tagLessSpec)) tagLessUptoCard

/-- THE SECOND FORM's CARD OF 'polyglotlaw03.TagMore'. -/
def tagMoreUptoCard : Claim7 := { stood := { row := tagMoreUptoRow, standIns := [], harness := (true, "10b6a139c50a22629fb14a28f0b17234a9e2349c88bc5363f51f6b99c40f5e29"), looks := false }, kinds := [], alts := [], laidByText := true, laidKinds := [.data, .pinned, .pinned], laidTests := true, laidLooks := .later }
def TagMoreUptoCardSaid : Prop := Claim7.holds Tryd.pinned (.plain (OpenSpec.upto tagMoreSpec)) tagMoreUptoCard
end Rows
end Go.Proofs.YtldmldgkjkgkcaaDoor
