/-
  DERIVED. GIVEN WITH THE SEED: THE CARDS: each row of YtgdkpamlkpncgaaGreatDoorRows.lean that lists a variable, with what it lists TIED to the program's text (the seventh form; the later family's looks); each row that meets fmt, with fmt's text TOLD by the authors' own Lean function (tested against real Go, not proved from fmt's source: count such statements apart). THE CARD IS WHAT COUNTS. Prove the row's statement (the work); the ties are given (YtgdkpamlkpncgaaGreatDoorTie.lean); close each card by the builder's one call (the guide's Derived/Test/ToyasCard.lean, 'card_holds'). Laid BY PROGRAM, IN A SANDBOX (cutbox-door.mjs). By AI agents, Wed Nov 11 2026. No macro, syntax, notation, axiom, sorry.
-/
import Derived.Test.YtgdkpamlkpncgaaGreatDoorRows
import GoSem.ClaimSeven
namespace Go.Proofs.YtgdkpamlkpncgaaGreatDoor
namespace Rows

/-- THE TIED CARD OF 'polyglotlaw10.SerialBacks'. -/
def serialBacksCard : Claim7 := { stood := { row := serialBacksRow, standIns := [], harness := (true, "d2965317d3b6f1522c3312e6dc7ee5511845960bd86ec108315eca24112bb4f9"), looks := true }, kinds := [], alts := [], laidByText := true, laidKinds := [.data, .pinned], laidTests := true, laidLooks := .later }
def SerialBacksCardSaid : Prop := Claim7.holds Tryz.pinned (.plain (OpenSpec.ofChange serialBacksSpec)) serialBacksCard

/-- THE TIED CARD OF 'polyglotlaw10.SerialAgain'. -/
def serialAgainCard : Claim7 := { stood := { row := serialAgainRow, standIns := [], harness := (true, "d2965317d3b6f1522c3312e6dc7ee5511845960bd86ec108315eca24112bb4f9"), looks := true }, kinds := [], alts := [], laidByText := true, laidKinds := [.data, .pinned], laidTests := true, laidLooks := .later }
def SerialAgainCardSaid : Prop := Claim7.holds Tryz.pinned (.plain (OpenSpec.ofChange serialAgainSpec)) serialAgainCard

/-- THE TIED CARD OF 'polyglotlaw10.SerialEnds'. -/
def serialEndsCard : Claim7 := { stood := { row := serialEndsRow, standIns := [], harness := (true, "d2965317d3b6f1522c3312e6dc7ee5511845960bd86ec108315eca24112bb4f9"), looks := true }, kinds := [], alts := [], laidByText := true, laidKinds := [.data, .pinned], laidTests := true, laidLooks := .later }
def SerialEndsCardSaid : Prop := Claim7.holds Tryz.pinned (.plain (OpenSpec.ofChange serialEndsSpec)) serialEndsCard

/-- THE TIED CARD OF 'polyglotlaw20.TellMany'. -/
def tellManyCard : Claim7 := { stood := { row := tellManyRow, standIns := [], harness := (true, "d2965317d3b6f1522c3312e6dc7ee5511845960bd86ec108315eca24112bb4f9"), looks := true }, kinds := [], alts := [], laidByText := true, laidKinds := [.data, .data, .data, .data, .sentinel, .sentinel, .pinned, .pinned], laidTests := true, laidLooks := .later }
def TellManyCardSaid : Prop := Claim7.holds Tryz.pinned (.plain (OpenSpec.ofChange tellManySpec)) tellManyCard

/-- THE SECOND FORM's CARD OF 'polyglotlaw10.SerialBacks'. -/
def serialBacksUptoCard : Claim7 := { stood := { row := serialBacksUptoRow, standIns := [], harness := (true, "d2965317d3b6f1522c3312e6dc7ee5511845960bd86ec108315eca24112bb4f9"), looks := true }, kinds := [], alts := [], laidByText := true, laidKinds := [.data, .pinned], laidTests := true, laidLooks := .later }
def SerialBacksUptoCardSaid : Prop := Claim7.holds Tryz.pinned (.plain (OpenSpec.upto serialBacksSpec)) serialBacksUptoCard

/-- THE SECOND FORM's CARD OF 'polyglotlaw10.SerialAgain'. -/
def serialAgainUptoCard : Claim7 := { stood := { row := serialAgainUptoRow, standIns := [], harness := (true, "d2965317d3b6f1522c3312e6dc7ee5511845960bd86ec108315eca24112bb4f9"), looks := true }, kinds := [], alts := [], laidByText := true, laidKinds := [.data, .pinned], laidTests := true, laidLooks := .later }
def SerialAgainUptoCardSaid : Prop := Claim7.holds Tryz.pinned (.plain (OpenSpec.upto serialAgainSpec)) serialAgainUptoCard

/-- THE SECOND FORM's CARD OF 'polyglotlaw10.SerialEnds'. -/
def serialEndsUptoCard : Claim7 := { stood := { row := serialEndsUptoRow, standIns := [], harness := (true, "d2965317d3b6f1522c3312e6dc7ee5511845960bd86ec108315eca24112bb4f9"), looks := true }, kinds := [], alts := [], laidByText := true, laidKinds := [.data, .pinned], laidTests := true, laidLooks := .later }
def SerialEndsUptoCardSaid : Prop := Claim7.holds Tryz.pinned (.plain (OpenSpec.upto serialEndsSpec)) serialEndsUptoCard

/-- THE SECOND FORM's CARD OF 'polyglotlaw20.TellMany'. -/
def tellManyUptoCard : Claim7 := { stood := { row := tellManyUptoRow, standIns := [], harness := (true, "d2965317d3b6f1522c3312e6dc7ee5511845960bd86ec108315eca24112bb4f9"), looks := true }, kinds := [], alts := [], laidByText := true, laidKinds := [.data, .data, .data, .data, .sentinel, .sentinel, .pinned, .pinned], laidTests := true, laidLooks := .later }
def TellManyUptoCardSaid : Prop := Claim7.holds Tryz.pinned (.plain (OpenSpec.upto tellManySpec)) tellManyUptoCard
end Rows
end Go.Proofs.YtgdkpamlkpncgaaGreatDoor
