/-
  DERIVED. GIVEN WITH THE SEED: THE CARDS: each row of YtjgfijpgoffmlacDoorRows.lean that lists a variable, with what it lists TIED to the program's text (the seventh form; the later family's looks); each row that meets fmt, with fmt's text TOLD by the authors' own Lean function (tested against real Go, not proved from fmt's source: count such statements apart). THE CARD IS WHAT COUNTS. Prove the row's statement (the work); the ties are given (YtjgfijpgoffmlacDoorTie.lean); close each card by the builder's one call (the guide's Derived/Test/ToyasCard.lean, 'card_holds'). Laid BY PROGRAM, IN A SANDBOX (cutbox-door.mjs). By AI agents, Wed Nov 11 2026. No macro, syntax, notation, axiom, sorry.
-/
import Derived.Test.YtjgfijpgoffmlacDoorRows
import GoSem.ClaimSeven
namespace Go.Proofs.YtjgfijpgoffmlacDoor
namespace Rows

/-- THE TIED CARD OF 'polyglotlaw02.DecGroups'. -/
def decGroupsCard : Claim7 := { stood := { row := decGroupsRow, standIns := [], harness := (true, "266869bc2bfa76d9e70f17859c056b3b666f42e66ddc4ab816c60d361a4e4d5b"), looks := false }, kinds := [], alts := [], laidByText := true, laidKinds := [.data, .pinned], laidTests := true, laidLooks := .later }
def DecGroupsCardSaid : Prop := Claim7.holds Tryd.pinned (.plain (OpenSpec.ofChange decGroupsSpec)) decGroupsCard

/-- THE TIED CARD OF 'polyglotlaw02.DecOrders'. -/
def decOrdersCard : Claim7 := { stood := { row := decOrdersRow, standIns := [], harness := (true, "266869bc2bfa76d9e70f17859c056b3b666f42e66ddc4ab816c60d361a4e4d5b"), looks := false }, kinds := [], alts := [], laidByText := true, laidKinds := [.data, .pinned], laidTests := true, laidLooks := .later }
def DecOrdersCardSaid : Prop := Claim7.holds Tryd.pinned (.plain (OpenSpec.ofChange decOrdersSpec)) decOrdersCard

/-- THE TIED CARD OF 'polyglotlaw02.DecSigns'. -/
def decSignsCard : Claim7 := { stood := { row := decSignsRow, standIns := [], harness := (true, "266869bc2bfa76d9e70f17859c056b3b666f42e66ddc4ab816c60d361a4e4d5b"), looks := false }, kinds := [], alts := [], laidByText := true, laidKinds := [.data, .pinned], laidTests := true, laidLooks := .later }
def DecSignsCardSaid : Prop := Claim7.holds Tryd.pinned (.plain (OpenSpec.ofChange decSignsSpec)) decSignsCard

/-- THE SECOND FORM's CARD OF 'polyglotlaw02.DecGroups'. -/
def decGroupsUptoCard : Claim7 := { stood := { row := decGroupsUptoRow, standIns := [], harness := (true, "266869bc2bfa76d9e70f17859c056b3b666f42e66ddc4ab816c60d361a4e4d5b"), looks := false }, kinds := [], alts := [], laidByText := true, laidKinds := [.data, .pinned], laidTests := true, laidLooks := .later }
def DecGroupsUptoCardSaid : Prop := Claim7.holds Tryd.pinned (.plain (OpenSpec.upto decGroupsSpec)) decGroupsUptoCard

/-- THE SECOND FORM's CARD OF 'polyglotlaw02.DecOrders'. -/
def decOrdersUptoCard : Claim7 := { stood := { row := decOrdersUptoRow, standIns := [], harness := (true, "266869bc2bfa76d9e70f17859c056b3b666f42e66ddc4ab816c60d361a4e4d5b"), looks := false }, kinds := [], alts := [], laidByText := true, laidKinds := [.data, .pinned], laidTests := true, laidLooks := .later }
def DecOrdersUptoCardSaid : Prop := Claim7.holds Tryd.pinned (.plain (OpenSpec.upto decOrdersSpec)) decOrdersUptoCard

/-- THE SECOND FORM's CARD OF 'polyglotlaw02.DecSigns'. -/
def decSignsUptoCard : Claim7 := { stood := { row := decSignsUptoRow, standIns := [], harness := (true, "266869bc2bfa76d9e70f17859c056b3b666f42e66ddc4ab816c60d361a4e4d5b"), looks := false }, kinds := [], alts := [], laidByText := true, laidKinds := [.data, .pinned], laidTests := true, laidLooks := .later }
def DecSignsUptoCardSaid : Prop := Claim7.holds Tryd.pinned (.plain (OpenSpec.upto decSignsSpec)) decSignsUptoCard
end Rows
end Go.Proofs.YtjgfijpgoffmlacDoor
