/-
  DERIVED. GIVEN WITH THE SEED: THE CARDS: each row of YtamghpleajbonaaGreatDoorRows.lean that lists a variable, with what it lists TIED to the program's text (the seventh form; the later family's looks); each row that meets fmt, with fmt's text TOLD by the authors' own Lean function (tested against real Go, not proved from fmt's source: count such statements apart). THE CARD IS WHAT COUNTS. Prove the row's statement (the work); the ties are given (YtamghpleajbonaaGreatDoorTie.lean); close each card by the builder's one call (the guide's Derived/Test/ToyasCard.lean, 'card_holds'). Laid BY PROGRAM, IN A SANDBOX (cutbox-door.mjs). By AI agents, Wed Nov 11 2026. No macro, syntax, notation, axiom, sorry.
-/
import Derived.Test.YtamghpleajbonaaGreatDoorRows
import GoSem.ClaimSeven
namespace Go.Proofs.YtamghpleajbonaaGreatDoor
namespace Rows

/-- THE TIED CARD OF 'polyglotlaw15.BundleAttrs'. -/
def bundleAttrsCard : Claim7 := { stood := { row := bundleAttrsRow, standIns := [], harness := (true, "8ebd3fb7c8730e2d0637585dbf2af1455c4c6019d4288ee2a5a14f656b16a504"), looks := false }, kinds := [], alts := [], laidByText := true, laidKinds := [.data, .pinned], laidTests := true, laidLooks := .later }
def BundleAttrsCardSaid : Prop := Claim7.holds Tryz.pinned (.plain (OpenSpec.ofChange bundleAttrsSpec)) bundleAttrsCard

/-- THE TIED CARD OF 'polyglotlaw15.BundleOver'. -/
def bundleOverCard : Claim7 := { stood := { row := bundleOverRow, standIns := [], harness := (true, "8ebd3fb7c8730e2d0637585dbf2af1455c4c6019d4288ee2a5a14f656b16a504"), looks := false }, kinds := [], alts := [], laidByText := true, laidKinds := [.data, .pinned], laidTests := true, laidLooks := .later }
def BundleOverCardSaid : Prop := Claim7.holds Tryz.pinned (.plain (OpenSpec.ofChange bundleOverSpec)) bundleOverCard

/-- THE TIED CARD OF 'polyglotlaw15.BundleTwice'. -/
def bundleTwiceCard : Claim7 := { stood := { row := bundleTwiceRow, standIns := [], harness := (true, "8ebd3fb7c8730e2d0637585dbf2af1455c4c6019d4288ee2a5a14f656b16a504"), looks := false }, kinds := [], alts := [], laidByText := true, laidKinds := [.data, .pinned], laidTests := true, laidLooks := .later }
def BundleTwiceCardSaid : Prop := Claim7.holds Tryz.pinned (.plain (OpenSpec.ofChange bundleTwiceSpec)) bundleTwiceCard

/-- THE SECOND FORM's CARD OF 'polyglotlaw15.BundleAttrs'. -/
def bundleAttrsUptoCard : Claim7 := { stood := { row := bundleAttrsUptoRow, standIns := [], harness := (true, "8ebd3fb7c8730e2d0637585dbf2af1455c4c6019d4288ee2a5a14f656b16a504"), looks := false }, kinds := [], alts := [], laidByText := true, laidKinds := [.data, .pinned], laidTests := true, laidLooks := .later }
def BundleAttrsUptoCardSaid : Prop := Claim7.holds Tryz.pinned (.plain (OpenSpec.upto bundleAttrsSpec)) bundleAttrsUptoCard

/-- THE SECOND FORM's CARD OF 'polyglotlaw15.BundleOver'. -/
def bundleOverUptoCard : Claim7 := { stood := { row := bundleOverUptoRow, standIns := [], harness := (true, "8ebd3fb7c8730e2d0637585dbf2af1455c4c6019d4288ee2a5a14f656b16a504"), looks := false }, kinds := [], alts := [], laidByText := true, laidKinds := [.data, .pinned], laidTests := true, laidLooks := .later }
def BundleOverUptoCardSaid : Prop := Claim7.holds Tryz.pinned (.plain (OpenSpec.upto bundleOverSpec)) bundleOverUptoCard

/-- THE SECOND FORM's CARD OF 'polyglotlaw15.BundleTwice'. -/
def bundleTwiceUptoCard : Claim7 := { stood := { row := bundleTwiceUptoRow, standIns := [], harness := (true, "8ebd3fb7c8730e2d0637585dbf2af1455c4c6019d4288ee2a5a14f656b16a504"), looks := false }, kinds := [], alts := [], laidByText := true, laidKinds := [.data, .pinned], laidTests := true, laidLooks := .later }
def BundleTwiceUptoCardSaid : Prop := Claim7.holds Tryz.pinned (.plain (OpenSpec.upto bundleTwiceSpec)) bundleTwiceUptoCard
end Rows
end Go.Proofs.YtamghpleajbonaaGreatDoor
