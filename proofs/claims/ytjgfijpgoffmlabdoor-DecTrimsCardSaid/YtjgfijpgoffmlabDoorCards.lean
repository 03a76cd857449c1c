/-
  DERIVED. GIVEN WITH THE SEED: THE CARDS: each row of YtjgfijpgoffmlabDoorRows.lean that lists a variable, with what it lists TIED to the program's text (the seventh form; the later family's looks); each row that meets fmt, with fmt's text TOLD by the authors' own Lean function (tested against real Go, not proved from fmt's source: count such statements apart). THE CARD IS WHAT COUNTS. Prove the row's statement (the work); the ties are given (YtjgfijpgoffmlabDoorTie.lean); close each card by the builder's one call (the guide's Derived/Test/ToyasCard.lean, 'card_holds'). Laid BY PROGRAM, IN A SANDBOX (cutbox-door.mjs). By AI agents, Wed Nov 11 2026. No macro, syntax, notation, axiom, sorry.
-/
import Derived.Test.YtjgfijpgoffmlabDoorRows
import GoSem.ClaimSeven
namespace Go.Proofs.YtjgfijpgoffmlabDoor
namespace Rows

/-- THE TIED CARD OF 'polyglotlaw02.DecParses'. -/
def decParsesCard : Claim7 := { stood := { row := decParsesRow, standIns := [], harness := (true, "52a53bccdd3fffc3d2902403bd170cb03cfaac149d5d95a27e08d0ecac023a74"), looks := false }, kinds := [], alts := [], laidByText := true, laidKinds := [.data, .pinned], laidTests := true, laidLooks := .later }
def DecParsesCardSaid : Prop := Claim7.holds Tryd.pinned (.plain (OpenSpec.ofChange decParsesSpec)) decParsesCard

/-- THE TIED CARD OF 'polyglotlaw02.DecCompares'. -/
def decComparesCard : Claim7 := { stood := { row := decComparesRow, standIns := [], harness := (true, "52a53bccdd3fffc3d2902403bd170cb03cfaac149d5d95a27e08d0ecac023a74"), looks := false }, kinds := [], alts := [], laidByText := true, laidKinds := [.data, .pinned], laidTests := true, laidLooks := .later }
def DecComparesCardSaid : Prop := Claim7.holds Tryd.pinned (.plain (OpenSpec.ofChange decComparesSpec)) decComparesCard

/-- THE TIED CARD OF 'polyglotlaw02.DecRounds'. -/
def decRoundsCard : Claim7 := { stood := { row := decRoundsRow, standIns := [], harness := (true, "52a53bccdd3fffc3d2902403bd170cb03cfaac149d5d95a27e08d0ecac023a74"), looks := false }, kinds := [], alts := [], laidByText := true, laidKinds := [.data, .pinned], laidTests := true, laidLooks := .later }
def DecRoundsCardSaid : Prop := Claim7.holds Tryd.pinned (.plain (OpenSpec.ofChange decRoundsSpec)) decRoundsCard

/-- THE TIED CARD OF 'polyglotlaw02.DecTrims'. -/
def decTrimsCard : Claim7 := { stood := { row := decTrimsRow, standIns := [], harness := (true, "52a53bccdd3fffc3d2902403bd170cb03cfaac149d5d95a27e08d0ecac023a74"), looks := false }, kinds := [], alts := [], laidByText := true, laidKinds := [.data, .pinned], laidTests := true, laidLooks := .later }
def DecTrimsCardSaid : Prop := Claim7.holds Tryd.pinned (.plain (OpenSpec.ofChange decTrimsSpec)) decTrimsCard

/-- THE TIED CARD OF 'polyglotlaw02.DecInts'. -/
def decIntsCard : Claim7 := { stood := { row := decIntsRow, standIns := [], harness := (true, "52a53bccdd3fffc3d2902403bd170cb03cfaac149d5d95a27e08d0ecac023a74"), looks := false }, kinds := [], alts := [], laidByText := true, laidKinds := [.data, .data, .data, .data, .pinned], laidTests := true, laidLooks := .later }
def DecIntsCardSaid : Prop := Claim7.holds Tryd.pinned (.plain (OpenSpec.ofChange decIntsSpec)) decIntsCard

/-- THE SECOND FORM's CARD OF 'polyglotlaw02.DecParses'. -/
def decParsesUptoCard : Claim7 := { stood := { row := decParsesUptoRow, standIns := [], harness := (true, "52a53bccdd3fffc3d2902403bd170cb03cfaac149d5d95a27e08d0ecac023a74"), looks := false }, kinds := [], alts := [], laidByText := true, laidKinds := [.data, .pinned], laidTests := true, laidLooks := .later }
def DecParsesUptoCardSaid : Prop := Claim7.holds Tryd.pinned (.plain (OpenSpec.upto decParsesSpec)) decParsesUptoCard

/-- THE SECOND FORM's CARD OF 'polyglotlaw02.DecCompares'. -/
def decComparesUptoCard : Claim7 := { stood := { row := decComparesUptoRow, standIns := [], harness := (true, "52a53bccdd3fffc3d2902403bd170cb03cfaac149d5d95a27e08d0ecac023a74"), looks := false }, kinds := [], alts := [], laidByText := true, laidKinds := [.data, .pinned], laidTests := true, laidLooks := .later }
def DecComparesUptoCardSaid : Prop := Claim7.holds Tryd.pinned (.plain (OpenSpec.upto decComparesSpec)) decComparesUptoCard

/-- THE SECOND FORM's CARD OF 'polyglotlaw02.DecRounds'. -/
def decRoundsUptoCard : Claim7 := { stood := { row := decRoundsUptoRow, standIns := [], harness := (true, "52a53bccdd3fffc3d2902403bd170cb03cfaac149d5d95a27e08d0ecac023a74"), looks := false }, kinds := [], alts := [], laidByText := true, laidKinds := [.data, .pinned], laidTests := true, laidLooks := .later }
def DecRoundsUptoCardSaid : Prop := Claim7.holds Tryd.pinned (.plain (OpenSpec.upto decRoundsSpec)) decRoundsUptoCard

/-- THE SECOND FORM's CARD OF 'polyglotlaw02.DecTrims'. -/
def decTrimsUptoCard : Claim7 := { stood := { row := decTrimsUptoRow, standIns := [], harness := (true, "52a53bccdd3fffc3d2902403bd170cb03cfaac149d5d95a27e08d0ecac023a74"), looks := false }, kinds := [], alts := [], laidByText := true, laidKinds := [.data, .pinned], laidTests := true, laidLooks := .later }
def DecTrimsUptoCardSaid : Prop := Claim7.holds Tryd.pinned (.plain (OpenSpec.upto decTrimsSpec)) decTrimsUptoCard

/-- THE SECOND FORM's CARD OF 'polyglotlaw02.DecInts'. -/
def decIntsUptoCard : Claim7 := { stood := { row := decIntsUptoRow, standIns := [], harness := (true, "52a53bccdd3fffc3d2902403bd170cb03cfaac149d5d95a27e08d0ecac023a74"), looks := false }, kinds := [], alts := [], laidByText := true, laidKinds := [.data, .data, .data, .data, .pinned], laidTests := true, laidLooks := .later }
def DecIntsUptoCardSaid : Prop := Claim7.holds Tryd.pinned (.plain (OpenSpec.upto decIntsSpec)) decIntsUptoCard
end Rows
end Go.Proofs.YtjgfijpgoffmlabDoor
