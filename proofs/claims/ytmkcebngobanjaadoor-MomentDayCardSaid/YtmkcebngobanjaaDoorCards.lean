/-
  DERIVED. GIVEN WITH THE SEED: THE CARDS: each row of YtmkcebngobanjaaDoorRows.lean that lists a variable, with what it lists TIED to the program's text (the seventh form; the later family's looks); each row that meets fmt, with fmt's text TOLD by the authors' own Lean function (tested against real Go, not proved from fmt's source: count such statements apart). THE CARD IS WHAT COUNTS. Prove the row's statement (the work); the ties are given (YtmkcebngobanjaaDoorTie.lean); close each card by the builder's one call (the guide's Derived/Test/ToyasCard.lean, 'card_holds'). Laid BY PROGRAM, IN A SANDBOX (cutbox-door.mjs). By AI agents, Wed Nov 11 2026. No macro, syntax, notation, axiom, sorry.
-/
import Derived.Test.YtmkcebngobanjaaDoorRows
import GoSem.ClaimSeven
namespace Go.Proofs.YtmkcebngobanjaaDoor
namespace Rows

/-- THE TIED CARD OF 'polyglotlaw13.MomentFormats'. -/
def momentFormatsCard : Claim7 := { stood := { row := momentFormatsRow, standIns := [], harness := (true, "fd2bc86ea35e68654d2a5f51d62677eaf09521d57adb5cd1d5851378485ff52c"), looks := false }, kinds := [], alts := [], laidByText := true, laidKinds := [.data, .data, .data], laidTests := true, laidLooks := .later }
def MomentFormatsCardSaid : Prop := Claim7.holds Tryd.pinned (.plain (OpenSpec.ofChange momentFormatsSpec)) momentFormatsCard

/-- THE TIED CARD OF 'polyglotlaw13.MomentDay'. -/
def momentDayCard : Claim7 := { stood := { row := momentDayRow, standIns := [], harness := (true, "fd2bc86ea35e68654d2a5f51d62677eaf09521d57adb5cd1d5851378485ff52c"), looks := false }, kinds := [], alts := [], laidByText := true, laidKinds := [.data, .data, .data], laidTests := true, laidLooks := .later }
def MomentDayCardSaid : Prop := Claim7.holds Tryd.pinned (.plain (OpenSpec.ofChange momentDaySpec)) momentDayCard

/-- THE TIED CARD OF 'polyglotlaw13.MomentWords'. -/
def momentWordsCard : Claim7 := { stood := { row := momentWordsRow, standIns := [], harness := (true, "fd2bc86ea35e68654d2a5f51d62677eaf09521d57adb5cd1d5851378485ff52c"), looks := false }, kinds := [], alts := [], laidByText := true, laidKinds := [.data, .data, .data], laidTests := true, laidLooks := .later }
def MomentWordsCardSaid : Prop := Claim7.holds Tryd.pinned (.plain (OpenSpec.ofChange momentWordsSpec)) momentWordsCard

/-- THE TIED CARD OF 'polyglotlaw13.MomentParts'. -/
def momentPartsCard : Claim7 := { stood := { row := momentPartsRow, standIns := [], harness := (true, "fd2bc86ea35e68654d2a5f51d62677eaf09521d57adb5cd1d5851378485ff52c"), looks := false }, kinds := [], alts := [], laidByText := true, laidKinds := [.data, .data, .data], laidTests := true, laidLooks := .later }
def MomentPartsCardSaid : Prop := Claim7.holds Tryd.pinned (.plain (OpenSpec.ofChange momentPartsSpec)) momentPartsCard

/-- THE SECOND FORM's CARD OF 'polyglotlaw13.MomentFormats'. -/
def momentFormatsUptoCard : Claim7 := { stood := { row := momentFormatsUptoRow, standIns := [], harness := (true, "fd2bc86ea35e68654d2a5f51d62677eaf09521d57adb5cd1d5851378485ff52c"), looks := false }, kinds := [], alts := [], laidByText := true, laidKinds := [.data, .data, .data], laidTests := true, laidLooks := .later }
def MomentFormatsUptoCardSaid : Prop := Claim7.holds Tryd.pinned (.plain (OpenSpec.upto momentFormatsSpec)) momentFormatsUptoCard

/-- THE SECOND FORM's CARD OF 'polyglotlaw13.MomentDay'. -/
def momentDayUptoCard : Claim7 := { stood := { row := momentDayUptoRow, standIns := [], harness := (true, "fd2bc86ea35e68654d2a5f51d62677eaf09521d57adb5cd1d5851378485ff52c"), looks := false }, kinds := [], alts := [], laidByText := true, laidKinds := [.data, .data, .data], laidTests := true, laidLooks := .later }
def MomentDayUptoCardSaid : Prop := Claim7.holds Tryd.pinned (.plain (OpenSpec.upto momentDaySpec)) momentDayUptoCard

/-- THE SECOND FORM's CARD OF 'polyglotlaw13.MomentWords'. -/
def momentWordsUptoCard : Claim7 := { stood := { row := momentWordsUptoRow, standIns := [], harness := (true, "fd2bc86ea35e68654d2a5f51d62677eaf09521d57adb5cd1d5851378485ff52c"), looks := false }, kinds := [], alts := [], laidByText := true, laidKinds := [.data, .data, .data], laidTests := true, laidLooks := .later }
def MomentWordsUptoCardSaid : Prop := Claim7.holds Tryd.pinned (.plain (OpenSpec.upto momentWordsSpec)) momentWordsUptoCard

/-- THE SECOND FORM's CARD OF 'polyglotlaw13.MomentParts'. -/
def momentPartsUptoCard : Claim7 := { stood := { row := momentPartsUptoRow, standIns := [], harness := (true, "fd2bc86ea35e68654d2a5f51d62677eaf09521d57adb5cd1d5851378485ff52c"), looks := false }, kinds := [], alts := [], laidByText := true, laidKinds := [.data, .data, .data], laidTests := true, laidLooks := .later }
def MomentPartsUptoCardSaid : Prop := Claim7.holds Tryd.pinned (.plain (OpenSpec.upto momentPartsSpec)) momentPartsUptoCard
end Rows
end Go.Proofs.YtmkcebngobanjaaDoor
