/-
  DERIVED. GIVEN WITH THE SEED: THE CARDS: each row of YtminidoiaplhjaaDoorRows.lean that lists a variable, with what it lists TIED to the program's text (the seventh form; the later family's looks); each row that meets fmt, with fmt's text TOLD by the authors' own Lean function (tested against real Go, not proved from fmt's source: count such statements apart). THE CARD IS WHAT COUNTS. Prove the row's statement (the work); the ties are given (YtminidoiaplhjaaDoorTie.lean); close each card by the builder's one call (the guide's Derived/Test/ToyasCard.lean, 'card_holds'). Laid BY PROGRAM, IN A SANDBOX (cutbox-door.mjs). By AI agents, Wed Nov 11 2026. No macro, syntax, notation, axiom, sorry.
-/
import Derived.Test.YtminidoiaplhjaaDoorRows
import GoSem.ClaimSeven
namespace Go.Proofs.YtminidoiaplhjaaDoor
namespace Rows

/-- THE TIED CARD OF 'polyglotlaw10.SerialTexts'. -/
def serialTextsCard : Claim7 := { stood := { row := serialTextsRow, standIns := [], harness := (true, "9b3b532c62adfb27d7a2f9a8577f311107566b66897458c9cb977c93946ea5d9"), looks := false }, kinds := [], alts := [], laidByText := true, laidKinds := [.data, .pinned], laidTests := true, laidLooks := .later }
def SerialTextsCardSaid : Prop := Claim7.holds Tryd.pinned (.plain (OpenSpec.ofChange serialTextsSpec)) serialTextsCard

/-- THE SECOND FORM's CARD OF 'polyglotlaw10.SerialTexts'. -/
def serialTextsUptoCard : Claim7 := { stood := { row := serialTextsUptoRow, standIns := [], harness := (true, "9b3b532c62adfb27d7a2f9a8577f311107566b66897458c9cb977c93946ea5d9"), looks := false }, kinds := [], alts := [], laidByText := true, laidKinds := [.data, .pinned], laidTests := true, laidLooks := .later }
def SerialTextsUptoCardSaid : Prop := Claim7.holds Tryd.pinned (.plain (OpenSpec.upto serialTextsSpec)) serialTextsUptoCard
end Rows
end Go.Proofs.YtminidoiaplhjaaDoor
