/-
  DERIVED. GIVEN WITH THE SEED: THE CARDS: each row of YtmceblemiboedaaDoorRows.lean that lists a variable, with what it lists TIED to the program's text (the seventh form; the later family's looks); each row that meets fmt, with fmt's text TOLD by the authors' own Lean function (tested against real Go, not proved from fmt's source: count such statements apart). THE CARD IS WHAT COUNTS. Prove the row's statement (the work); the ties are given (YtmceblemiboedaaDoorTie.lean); close each card by the builder's one call (the guide's Derived/Test/ToyasCard.lean, 'card_holds'). Laid BY PROGRAM, IN A SANDBOX (cutbox-door.mjs). By AI agents, Wed Nov 11 2026. No macro, syntax, notation, axiom, sorry.
-/
import Derived.Test.YtmceblemiboedaaDoorRows
import GoSem.ClaimSeven
namespace Go.Proofs.YtmceblemiboedaaDoor
namespace Rows

/-- THE TIED CARD OF 'polyglotlaw07.AstRights'. -/
def astRightsCard : Claim7 := { stood := { row := astRightsRow, standIns := [], harness := (true, "e9588f8a1478707c89f8b676dfb1457892176242f96e2836dd9cc9a8b5531f75"), looks := false }, kinds := [], alts := [], laidByText := true, laidKinds := [.data, .pinned], laidTests := true, laidLooks := .later }
def AstRightsCardSaid : Prop := Claim7.holds Tryd.pinned (.plain (OpenSpec.ofChange astRightsSpec)) astRightsCard

/-- THE TIED CARD OF 'polyglotlaw07.AstSames'. -/
def astSamesCard : Claim7 := { stood := { row := astSamesRow, standIns := [], harness := (true, "e9588f8a1478707c89f8b676dfb1457892176242f96e2836dd9cc9a8b5531f75"), looks := false }, kinds := [], alts := [], laidByText := true, laidKinds := [.data, .pinned], laidTests := true, laidLooks := .later }
def AstSamesCardSaid : Prop := Claim7.holds Tryd.pinned (.plain (OpenSpec.ofChange astSamesSpec)) astSamesCard

/-- THE TIED CARD OF 'polyglotlaw07.AstDeep'. -/
def astDeepCard : Claim7 := { stood := { row := astDeepRow, standIns := [], harness := (true, "e9588f8a1478707c89f8b676dfb1457892176242f96e2836dd9cc9a8b5531f75"), looks := false }, kinds := [], alts := [], laidByText := true, laidKinds := [.data, .pinned], laidTests := true, laidLooks := .later }
def AstDeepCardSaid : Prop := Claim7.holds Tryd.pinned (.plain (OpenSpec.ofChange astDeepSpec)) astDeepCard

/-- THE SECOND FORM's CARD OF 'polyglotlaw07.AstRights'. -/
def astRightsUptoCard : Claim7 := { stood := { row := astRightsUptoRow, standIns := [], harness := (true, "e9588f8a1478707c89f8b676dfb1457892176242f96e2836dd9cc9a8b5531f75"), looks := false }, kinds := [], alts := [], laidByText := true, laidKinds := [.data, .pinned], laidTests := true, laidLooks := .later }
def AstRightsUptoCardSaid : Prop := Claim7.holds Tryd.pinned (.plain (OpenSpec.upto astRightsSpec)) astRightsUptoCard

/-- THE SECOND FORM's CARD OF 'polyglotlaw07.AstSames'. -/
def astSamesUptoCard : Claim7 := { stood := { row := astSamesUptoRow, standIns := [], harness := (true, "e9588f8a1478707c89f8b676dfb1457892176242f96e2836dd9cc9a8b5531f75"), looks := false }, kinds := [], alts := [], laidByText := true, laidKinds := [.data, .pinned], laidTests := true, laidLooks := .later }
def AstSamesUptoCardSaid : Prop := Claim7.holds Tryd.pinned (.plain (OpenSpec.upto astSamesSpec)) astSamesUptoCard

/-- THE SECOND FORM's CARD OF 'polyglotlaw07.AstDeep'. -/
def astDeepUptoCard : Claim7 := { stood := { row := astDeepUptoRow, standIns := [], harness := (true, "e9588f8a1478707c89f8b676dfb1457892176242f96e2836dd9cc9a8b5531f75"), looks := false }, kinds := [], alts := [], laidByText := true, laidKinds := [.data, .pinned], laidTests := true, laidLooks := .later }
def AstDeepUptoCardSaid : Prop := Claim7.holds Tryd.pinned (.plain (OpenSpec.upto astDeepSpec)) astDeepUptoCard
end Rows
end Go.Proofs.YtmceblemiboedaaDoor
