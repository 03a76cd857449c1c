/-
  DERIVED. GIVEN WITH THE SEED: THE CARDS: each row of YthlccfjhgejlmaaDoorRows.lean that lists a variable, with what it lists TIED to the program's text (the seventh form; the later family's looks); each row that meets fmt, with fmt's text TOLD by the authors' own Lean function (tested against real Go, not proved from fmt's source: count such statements apart). THE CARD IS WHAT COUNTS. Prove the row's statement (the work); the ties are given (YthlccfjhgejlmaaDoorTie.lean); close each card by the builder's one call (the guide's Derived/Test/ToyasCard.lean, 'card_holds'). Laid BY PROGRAM, IN A SANDBOX (cutbox-door.mjs). By AI agents, Wed Nov 11 2026. No macro, syntax, notation, axiom, sorry.
-/
import Derived.Test.YthlccfjhgejlmaaDoorRows
import GoSem.ClaimSeven
namespace Go.Proofs.YthlccfjhgejlmaaDoor
namespace Rows

/-- THE TIED CARD OF 'polyglotlaw11.NegoOnes'. -/
def negoOnesCard : Claim7 := { stood := { row := negoOnesRow, standIns := [], harness := (true, "7bcfb7506cb793fc8f7b4ddf3feb8726da35d871bad3d1ebfa1506681e84ce20"), looks := false }, kinds := [], alts := [], laidByText := true, laidKinds := [.data, .pinned, .pinned], laidTests := true, laidLooks := .later }
def NegoOnesCardSaid : Prop := Claim7.holds Tryd.pinned (.plain (OpenSpec.ofChange negoOnesSpec)) negoOnesCard

/-- THE TIED CARD OF 'polyglotlaw11.NegoFirst'. -/
def negoFirstCard : Claim7 := { stood := { row := negoFirstRow, standIns := [], harness := (true, "7bcfb7506cb793fc8f7b4ddf3feb8726da35d871bad3d1ebfa1506681e84ce20"), looks := false }, kinds := [], alts := [], laidByText := true, laidKinds := [.data, .pinned, .pinned], laidTests := true, laidLooks := .later }
def NegoFirstCardSaid : Prop := Claim7.holds Tryd.pinned (.plain (OpenSpec.ofChange negoFirstSpec)) negoFirstCard

/-- THE SECOND FORM's CARD OF 'polyglotlaw11.NegoOnes'. -/
def negoOnesUptoCard : Claim7 := { stood := { row := negoOnesUptoRow, standIns := [], harness := (true, "7bcfb7506cb793fc8f7b4ddf3feb8726da35d871bad3d1ebfa1506681e84ce20"), looks := false }, kinds := [], alts := [], laidByText := true, laidKinds := [.data, .pinned, .pinned], laidTests := true, laidLooks := .later }
def NegoOnesUptoCardSaid : Prop := Claim7.holds Tryd.pinned (.plain (OpenSpec.upto negoOnesSpec)) negoOnesUptoCard

/-- THE SECOND FORM's CARD OF 'polyglotlaw11.NegoFirst'. -/
def negoFirstUptoCard : Claim7 := { stood := { row := negoFirstUptoRow, standIns := [], harness := (true, "7bcfb7506cb793fc8f7b4ddf3feb8726da35d871bad3d1ebfa1506681e84ce20"), looks := false }, kinds := [], alts := [], laidByText := true, laidKinds := [.data, .pinned, .pinned], laidTests := true, laidLooks := .later }
def NegoFirstUptoCardSaid : Prop := Claim7.holds Tryd.pinned (.plain (OpenSpec.upto negoFirstSpec)) negoFirstUptoCard
end Rows
end Go.Proofs.YthlccfjhgejlmaaDoor
