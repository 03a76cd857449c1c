/-
  DERIVED. GIVEN WITH THE SEED: THE CARDS: each row of YtpgiboblonlddaaGreatDoorRows.lean that lists a variable, with what it lists TIED to the program's text (the seventh form; the later family's looks); each row that meets fmt, with fmt's text TOLD by the authors' own Lean function (tested against real Go, not proved from fmt's source: count such statements apart). THE CARD IS WHAT COUNTS. Prove the row's statement (the work); the ties are given (YtpgiboblonlddaaGreatDoorTie.lean); close each card by the builder's one call (the guide's Derived/Test/ToyasCard.lean, 'card_holds'). Laid BY PROGRAM, IN A SANDBOX (cutbox-door.mjs). By AI agents, Wed Nov 11 2026. No macro, syntax, notation, axiom, sorry.
-/
import Derived.Test.YtpgiboblonlddaaGreatDoorRows
import GoSem.ClaimSeven
namespace Go.Proofs.YtpgiboblonlddaaGreatDoor
namespace Rows

/-- THE TIED CARD OF 'polyglotlaw16.ResolveRings'. -/
def resolveRingsCard : Claim7 := { stood := { row := resolveRingsRow, standIns := [], harness := (true, "dc9337252bb7859444103404702369c95fff7d5979643f32bcc3e7b9ff7a0bbb"), looks := true }, kinds := [], alts := [], laidByText := true, laidKinds := [.data, .data, .data, .data, .sentinel, .sentinel, .pinned], laidTests := true, laidLooks := .later }
def ResolveRingsCardSaid : Prop := Claim7.holds Tryz.pinned (.plain (OpenSpec.ofChange resolveRingsSpec)) resolveRingsCard

/-- THE TIED CARD OF 'polyglotlaw16.ResolveMany'. -/
def resolveManyCard : Claim7 := { stood := { row := resolveManyRow, standIns := [], harness := (true, "dc9337252bb7859444103404702369c95fff7d5979643f32bcc3e7b9ff7a0bbb"), looks := true }, kinds := [], alts := [], laidByText := true, laidKinds := [.data, .data, .data, .data, .sentinel, .sentinel, .pinned], laidTests := true, laidLooks := .later }
def ResolveManyCardSaid : Prop := Claim7.holds Tryz.pinned (.plain (OpenSpec.ofChange resolveManySpec)) resolveManyCard

/-- THE TIED CARD OF 'polyglotlaw16.ResolveLong'. -/
def resolveLongCard : Claim7 := { stood := { row := resolveLongRow, standIns := [], harness := (true, "dc9337252bb7859444103404702369c95fff7d5979643f32bcc3e7b9ff7a0bbb"), looks := true }, kinds := [], alts := [], laidByText := true, laidKinds := [.data, .data, .data, .data, .sentinel, .sentinel, .pinned], laidTests := true, laidLooks := .later }
def ResolveLongCardSaid : Prop := Claim7.holds Tryz.pinned (.plain (OpenSpec.ofChange resolveLongSpec)) resolveLongCard

/-- THE TIED CARD OF 'polyglotlaw16.ResolvePlurals'. -/
def resolvePluralsCard : Claim7 := { stood := { row := resolvePluralsRow, standIns := [], harness := (true, "dc9337252bb7859444103404702369c95fff7d5979643f32bcc3e7b9ff7a0bbb"), looks := true }, kinds := [], alts := [], laidByText := true, laidKinds := [.data, .data, .data, .data, .sentinel, .sentinel, .pinned], laidTests := true, laidLooks := .later }
def ResolvePluralsCardSaid : Prop := Claim7.holds Tryz.pinned (.plain (OpenSpec.ofChange resolvePluralsSpec)) resolvePluralsCard

/-- THE TIED CARD OF 'polyglotlaw16.ResolveTerms'. -/
def resolveTermsCard : Claim7 := { stood := { row := resolveTermsRow, standIns := [], harness := (true, "dc9337252bb7859444103404702369c95fff7d5979643f32bcc3e7b9ff7a0bbb"), looks := true }, kinds := [], alts := [], laidByText := true, laidKinds := [.data, .data, .data, .data, .sentinel, .sentinel, .pinned], laidTests := true, laidLooks := .later }
def ResolveTermsCardSaid : Prop := Claim7.holds Tryz.pinned (.plain (OpenSpec.ofChange resolveTermsSpec)) resolveTermsCard

/-- THE SECOND FORM's CARD OF 'polyglotlaw16.ResolveRings'. -/
def resolveRingsUptoCard : Claim7 := { stood := { row := resolveRingsUptoRow, standIns := [], harness := (true, "dc9337252bb7859444103404702369c95fff7d5979643f32bcc3e7b9ff7a0bbb"), looks := true }, kinds := [], alts := [], laidByText := true, laidKinds := [.data, .data, .data, .data, .sentinel, .sentinel, .pinned], laidTests := true, laidLooks := .later }
def ResolveRingsUptoCardSaid : Prop := Claim7.holds Tryz.pinned (.plain (OpenSpec.upto resolveRingsSpec)) resolveRingsUptoCard

/-- THE SECOND FORM's CARD OF 'polyglotlaw16.ResolveMany'. -/
def resolveManyUptoCard : Claim7 := { stood := { row := resolveManyUptoRow, standIns := [], harness := (true, "dc9337252bb7859444103404702369c95fff7d5979643f32bcc3e7b9ff7a0bbb"), looks := true }, kinds := [], alts := [], laidByText := true, laidKinds := [.data, .data, .data, .data, .sentinel, .sentinel, .pinned], laidTests := true, laidLooks := .later }
def ResolveManyUptoCardSaid : Prop := Claim7.holds Tryz.pinned (.plain (OpenSpec.upto resolveManySpec)) resolveManyUptoCard

/-- THE SECOND FORM's CARD OF 'polyglotlaw16.ResolveLong'. -/
def resolveLongUptoCard : Claim7 := { stood := { row := resolveLongUptoRow, standIns := [], harness := (true, "dc9337252bb7859444103404702369c95fff7d5979643f32bcc3e7b9ff7a0bbb"), looks := true }, kinds := [], alts := [], laidByText := true, laidKinds := [.data, .data, .data, .data, .sentinel, .sentinel, .pinned], laidTests := true, laidLooks := .later }
def ResolveLongUptoCardSaid : Prop := Claim7.holds Tryz.pinned (.plain (OpenSpec.upto resolveLongSpec)) resolveLongUptoCard

/-- THE SECOND FORM's CARD OF 'polyglotlaw16.ResolvePlurals'. -/
def resolvePluralsUptoCard : Claim7 := { stood := { row := resolvePluralsUptoRow, standIns := [], harness := (true, "dc9337252bb7859444103404702369c95fff7d5979643f32bcc3e7b9ff7a0bbb"), looks := true }, kinds := [], alts := [], laidByText := true, laidKinds := [.data, .data, .data, .data, .sentinel, .sentinel, .pinned], laidTests := true, laidLooks := .later }
def ResolvePluralsUptoCardSaid : Prop := Claim7.holds Tryz.pinned (.plain (OpenSpec.upto resolvePluralsSpec)) resolvePluralsUptoCard

/-- THE SECOND FORM's CARD OF 'polyglotlaw16.ResolveTerms'. -/
def resolveTermsUptoCard : Claim7 := { stood := { row := resolveTermsUptoRow, standIns := [], harness := (true, "dc9337252bb7859444103404702369c95fff7d5979643f32bcc3e7b9ff7a0bbb"), looks := true }, kinds := [], alts := [], laidByText := true, laidKinds := [.data, .data, .data, .data, .sentinel, .sentinel, .pinned], laidTests := true, laidLooks := .later }
def ResolveTermsUptoCardSaid : Prop := Claim7.holds Tryz.pinned (.plain (OpenSpec.upto resolveTermsSpec)) resolveTermsUptoCard
end Rows
end Go.Proofs.YtpgiboblonlddaaGreatDoor
