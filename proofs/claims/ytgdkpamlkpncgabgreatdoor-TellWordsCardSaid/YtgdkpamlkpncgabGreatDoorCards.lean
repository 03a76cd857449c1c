/-
  DERIVED. GIVEN WITH THE SEED: THE CARDS: each row of YtgdkpamlkpncgabGreatDoorRows.lean that lists a variable, with what it lists TIED to the program's text (the seventh form; the later family's looks); each row that meets fmt, with fmt's text TOLD by the authors' own Lean function (tested against real Go, not proved from fmt's source: count such statements apart). THE CARD IS WHAT COUNTS. Prove the row's statement (the work); the ties are given (YtgdkpamlkpncgabGreatDoorTie.lean); close each card by the builder's one call (the guide's Derived/Test/ToyasCard.lean, 'card_holds'). Laid BY PROGRAM, IN A SANDBOX (cutbox-door.mjs). By AI agents, Wed Nov 11 2026. No macro, syntax, notation, axiom, sorry.
-/
import Derived.Test.YtgdkpamlkpncgabGreatDoorRows
import GoSem.ClaimSeven
namespace Go.Proofs.YtgdkpamlkpncgabGreatDoor
namespace Rows

/-- THE TIED CARD OF 'polyglotlaw20.TellWords'. -/
def tellWordsCard : Claim7 := { stood := { row := tellWordsRow, standIns := [], harness := (true, "edb6407650c768108655b9f4316acff530c09dd2cb3bb3e0724cdffa86a22a01"), looks := true }, kinds := [], alts := [], laidByText := true, laidKinds := [.data, .data, .data, .data, .sentinel, .sentinel, .pinned, .pinned], laidTests := true, laidLooks := .later }
def TellWordsCardSaid : Prop := Claim7.holds Tryz.pinned (.plain (OpenSpec.ofChange tellWordsSpec)) tellWordsCard

/-- THE SECOND FORM's CARD OF 'polyglotlaw20.TellWords'. -/
def tellWordsUptoCard : Claim7 := { stood := { row := tellWordsUptoRow, standIns := [], harness := (true, "edb6407650c768108655b9f4316acff530c09dd2cb3bb3e0724cdffa86a22a01"), looks := true }, kinds := [], alts := [], laidByText := true, laidKinds := [.data, .data, .data, .data, .sentinel, .sentinel, .pinned, .pinned], laidTests := true, laidLooks := .later }
def TellWordsUptoCardSaid : Prop := Claim7.holds Tryz.pinned (.plain (OpenSpec.upto tellWordsSpec)) tellWordsUptoCard
end Rows
end Go.Proofs.YtgdkpamlkpncgabGreatDoor
