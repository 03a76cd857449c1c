/-
  DERIVED. GIVEN WITH THE SEED: THE CARDS: each row of YtmkcebngobanjabDoorRows.lean that lists a variable, with what it lists TIED to the program's text (the seventh form; the later family's looks); each row that meets fmt, with fmt's text TOLD by the authors' own Lean function (tested against real Go, not proved from fmt's source: count such statements apart). THE CARD IS WHAT COUNTS. Prove the row's statement (the work); the ties are given (YtmkcebngobanjabDoorTie.lean); close each card by the builder's one call (the guide's Derived/Test/ToyasCard.lean, 'card_holds'). Laid BY PROGRAM, IN A SANDBOX (cutbox-door.mjs). By AI agents, Wed Nov 11 2026. No macro, syntax, notation, axiom, sorry.
-/
import Derived.Test.YtmkcebngobanjabDoorRows
import GoSem.ClaimSeven
namespace Go.Proofs.YtmkcebngobanjabDoor
namespace Rows

/-- THE TIED CARD OF 'polyglotlaw04.PluralOf'. -/
def pluralOfCard : Claim7 := { stood := { row := pluralOfRow, standIns := [], harness := (true, "f30573c6f732482bdece567d45158c3ba9ae7b4da38a9546c70eb80d5e4d469d"), looks := false }, kinds := [], alts := [], laidByText := true, laidKinds := [.data, .pinned], laidTests := true, laidLooks := .later }
def PluralOfCardSaid : Prop := Claim7.holds Tryd.pinned (.plain (OpenSpec.ofChange pluralOfSpec)) pluralOfCard

/-- THE TIED CARD OF 'polyglotlaw04.PluralAll'. -/
def pluralAllCard : Claim7 := { stood := { row := pluralAllRow, standIns := [], harness := (true, "f30573c6f732482bdece567d45158c3ba9ae7b4da38a9546c70eb80d5e4d469d"), looks := false }, kinds := [], alts := [], laidByText := true, laidKinds := [.data, .data, .data, .data, .pinned], laidTests := true, laidLooks := .later }
def PluralAllCardSaid : Prop := Claim7.holds Tryd.pinned (.plain (OpenSpec.ofChange pluralAllSpec)) pluralAllCard

/-- THE TIED CARD OF 'polyglotlaw04.PluralWords'. -/
def pluralWordsCard : Claim7 := { stood := { row := pluralWordsRow, standIns := [], harness := (true, "f30573c6f732482bdece567d45158c3ba9ae7b4da38a9546c70eb80d5e4d469d"), looks := false }, kinds := [], alts := [], laidByText := true, laidKinds := [.data, .pinned], laidTests := true, laidLooks := .later }
def PluralWordsCardSaid : Prop := Claim7.holds Tryd.pinned (.plain (OpenSpec.ofChange pluralWordsSpec)) pluralWordsCard

/-- THE TIED CARD OF 'polyglotlaw04.PluralFar'. -/
def pluralFarCard : Claim7 := { stood := { row := pluralFarRow, standIns := [], harness := (true, "f30573c6f732482bdece567d45158c3ba9ae7b4da38a9546c70eb80d5e4d469d"), looks := false }, kinds := [], alts := [], laidByText := true, laidKinds := [.data, .data, .data, .data, .pinned], laidTests := true, laidLooks := .later }
def PluralFarCardSaid : Prop := Claim7.holds Tryd.pinned (.plain (OpenSpec.ofChange pluralFarSpec)) pluralFarCard

/-- THE SECOND FORM's CARD OF 'polyglotlaw04.PluralOf'. -/
def pluralOfUptoCard : Claim7 := { stood := { row := pluralOfUptoRow, standIns := [], harness := (true, "f30573c6f732482bdece567d45158c3ba9ae7b4da38a9546c70eb80d5e4d469d"), looks := false }, kinds := [], alts := [], laidByText := true, laidKinds := [.data, .pinned], laidTests := true, laidLooks := .later }
def PluralOfUptoCardSaid : Prop := Claim7.holds Tryd.pinned (.plain (OpenSpec.upto pluralOfSpec)) pluralOfUptoCard

/-- THE SECOND FORM's CARD OF 'polyglotlaw04.PluralAll'. -/
def pluralAllUptoCard : Claim7 := { stood := { row := pluralAllUptoRow, standIns := [], harness := (true, "f30573c6f732482bdece567d45158c3ba9ae7b4da38a9546c70eb80d5e4d469d"), looks := false }, kinds := [], alts := [], laidByText := true, laidKinds := [.data, .data, .data, .data, .pinned], laidTests := true, laidLooks := .later }
def PluralAllUptoCardSaid : Prop := Claim7.holds Tryd.pinned (.plain (OpenSpec.upto pluralAllSpec)) pluralAllUptoCard

/-- THE SECOND FORM's CARD OF 'polyglotlaw04.PluralWords'. -/
def pluralWordsUptoCard : Claim7 := { stood := { row := pluralWordsUptoRow, standIns := [], harness := (true, "f30573c6f732482bdece567d45158c3ba9ae7b4da38a9546c70eb80d5e4d469d"), looks := false }, kinds := [], alts := [], laidByText := true, laidKinds := [.data, .pinned], laidTests := true, laidLooks := .later }
def PluralWordsUptoCardSaid : Prop := Claim7.holds Tryd.pinned (.plain (OpenSpec.upto pluralWordsSpec)) pluralWordsUptoCard

/-- THE SECOND FORM's CARD OF 'polyglotlaw04.PluralFar'. -/
def pluralFarUptoCard : Claim7 := { stood := { row := pluralFarUptoRow, standIns := [], harness := (true, "f30573c6f732482bdece567d45158c3ba9ae7b4da38a9546c70eb80d5e4d469d"), looks := false }, kinds := [], alts := [], laidByText := true, laidKinds := [.data, .data, .data, .data, .pinned], laidTests := true, laidLooks := .later }
def PluralFarUptoCardSaid : Prop := Claim7.holds Tryd.pinned (.plain (OpenSpec.upto pluralFarSpec)) pluralFarUptoCard
end Rows
end Go.Proofs.YtmkcebngobanjabDoor
