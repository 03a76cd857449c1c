/-
  DERIVED. GIVEN WITH THE SEED: THE CARDS: each row of YthlccfjhgejlmaaGreatDoorRows.lean that lists a variable, with what it lists TIED to the program's text (the seventh form; the later family's looks); each row that meets fmt, with fmt's text TOLD by the authors' own Lean function (tested against real Go, not proved from fmt's source: count such statements apart). THE CARD IS WHAT COUNTS. Prove the row's statement (the work); the ties are given (YthlccfjhgejlmaaGreatDoorTie.lean); close each card by the builder's one call (the guide's Derived/Test/ToyasCard.lean, 'card_holds'). Laid BY PROGRAM, IN A SANDBOX (cutbox-door.mjs). By AI agents, Wed Nov 11 2026. No macro, syntax, notation, axiom, sorry.
-/
import Derived.Test.YthlccfjhgejlmaaGreatDoorRows
import GoSem.ClaimSeven
namespace Go.Proofs.YthlccfjhgejlmaaGreatDoor
namespace Rows

/-- THE TIED CARD OF 'polyglotlaw11.NegoChains'. -/
def negoChainsCard : Claim7 := { stood := { row := negoChainsRow, standIns := [], harness := (true, "48a4220480ac5ca47e34d913565d7de8b9e391cfbacb5250e64e86e6a5974618"), looks := false }, kinds := [], alts := [], laidByText := true, laidKinds := [.data, .pinned, .pinned], laidTests := true, laidLooks := .later }
def NegoChainsCardSaid : Prop := Claim7.holds Tryz.pinned (.plain (OpenSpec.ofChange negoChainsSpec)) negoChainsCard

/-- THE SECOND FORM's CARD OF 'polyglotlaw11.NegoChains'. -/
def negoChainsUptoCard : Claim7 := { stood := { row := negoChainsUptoRow, standIns := [], harness := (true, "48a4220480ac5ca47e34d913565d7de8b9e391cfbacb5250e64e86e6a5974618"), looks := false }, kinds := [], alts := [], laidByText := true, laidKinds := [.data, .pinned, .pinned], laidTests := true, laidLooks := .later }
def NegoChainsUptoCardSaid : Prop := Claim7.holds Tryz.pinned (.plain (OpenSpec.upto negoChainsSpec)) negoChainsUptoCard
end Rows
end Go.Proofs.YthlccfjhgejlmaaGreatDoor
