/-
  DERIVED. GIVEN WITH THE SEED: THE CARDS: each row of YtgehimdkdeldaaaGreatDoorRows.lean that lists a variable, with what it lists TIED to the program's text (the seventh form; the later family's looks); each row that meets fmt, with fmt's text TOLD by the authors' own Lean function (tested against real Go, not proved from fmt's source: count such statements apart). THE CARD IS WHAT COUNTS. Prove the row's statement (the work); the ties are given (YtgehimdkdeldaaaGreatDoorTie.lean); close each card by the builder's one call (the guide's Derived/Test/ToyasCard.lean, 'card_holds'). Laid BY PROGRAM, IN A SANDBOX (cutbox-door.mjs). By AI agents, Wed Nov 11 2026. No macro, syntax, notation, axiom, sorry.
-/
import Derived.Test.YtgehimdkdeldaaaGreatDoorRows
import GoSem.ClaimSeven
namespace Go.Proofs.YtgehimdkdeldaaaGreatDoor
namespace Rows

/-- THE TIED CARD OF 'semblancelaw16.DistinguishBounds'. -/
def distinguishBoundsCard : Claim7 := { stood := { row := distinguishBoundsRow, standIns := [], harness := (true, "2a74143b980c04ba1ea11d80c68ecf1654586bf8b05ecf9c96d9a632a38b48f2"), looks := true }, kinds := [], alts := [], laidByText := true, laidKinds := [.data, .data, .data, .handle, .sentinel, .sentinel, .sentinel, .sentinel, .sentinel, .sentinel], laidTests := true, laidLooks := .later }
def DistinguishBoundsCardSaid : Prop := Claim7.holds Tryz.pinned (.plain (OpenSpec.ofChange distinguishBoundsSpec)) distinguishBoundsCard

/-- THE TIED CARD OF 'semblancelaw16.DistinguishFormulas'. -/
def distinguishFormulasCard : Claim7 := { stood := { row := distinguishFormulasRow, standIns := [], harness := (true, "2a74143b980c04ba1ea11d80c68ecf1654586bf8b05ecf9c96d9a632a38b48f2"), looks := true }, kinds := [], alts := [], laidByText := true, laidKinds := [.data, .data, .data, .handle, .sentinel, .sentinel, .sentinel, .sentinel, .sentinel, .sentinel, .sentinel, .sentinel, .sentinel, .sentinel, .sentinel, .sentinel, .sentinel, .sentinel, .sentinel, .sentinel, .sentinel, .sentinel, .sentinel], laidTests := true, laidLooks := .later }
def DistinguishFormulasCardSaid : Prop := Claim7.holds Tryz.pinned (.plain (OpenSpec.ofChange distinguishFormulasSpec)) distinguishFormulasCard

/-- THE TIED CARD OF 'semblancelaw16.DistinguishCompares'. -/
def distinguishComparesCard : Claim7 := { stood := { row := distinguishComparesRow, standIns := [], harness := (true, "2a74143b980c04ba1ea11d80c68ecf1654586bf8b05ecf9c96d9a632a38b48f2"), looks := true }, kinds := [], alts := [], laidByText := true, laidKinds := [.data, .data, .data, .handle, .sentinel, .sentinel, .sentinel, .sentinel, .sentinel, .sentinel, .sentinel, .sentinel, .sentinel, .sentinel, .sentinel, .sentinel, .sentinel, .sentinel, .sentinel, .sentinel, .sentinel, .sentinel, .sentinel], laidTests := true, laidLooks := .later }
def DistinguishComparesCardSaid : Prop := Claim7.holds Tryz.pinned (.plain (OpenSpec.ofChange distinguishComparesSpec)) distinguishComparesCard

/-- THE TIED CARD OF 'semblancelaw16.DistinguishTells'. -/
def distinguishTellsCard : Claim7 := { stood := { row := distinguishTellsRow, standIns := [], harness := (true, "2a74143b980c04ba1ea11d80c68ecf1654586bf8b05ecf9c96d9a632a38b48f2"), looks := true }, kinds := [], alts := [], laidByText := true, laidKinds := [.data, .data, .data, .handle, .sentinel, .sentinel, .sentinel, .sentinel, .sentinel, .sentinel, .sentinel], laidTests := true, laidLooks := .later }
def DistinguishTellsCardSaid : Prop := Claim7.holds Tryz.pinned (.plain (OpenSpec.ofChange distinguishTellsSpec)) distinguishTellsCard

/-- THE TIED CARD OF 'semblancelaw16.DistinguishWays'. -/
def distinguishWaysCard : Claim7 := { stood := { row := distinguishWaysRow, standIns := [], harness := (true, "2a74143b980c04ba1ea11d80c68ecf1654586bf8b05ecf9c96d9a632a38b48f2"), looks := true }, kinds := [], alts := [], laidByText := true, laidKinds := [.data, .data, .data, .handle, .sentinel, .sentinel, .sentinel, .sentinel, .sentinel, .sentinel, .sentinel, .sentinel, .sentinel, .sentinel, .sentinel, .sentinel, .sentinel, .sentinel, .sentinel, .sentinel, .sentinel, .sentinel, .sentinel], laidTests := true, laidLooks := .later }
def DistinguishWaysCardSaid : Prop := Claim7.holds Tryz.pinned (.plain (OpenSpec.ofChange distinguishWaysSpec)) distinguishWaysCard

/-- THE TIED CARD OF 'semblancelaw16.DistinguishBounded'. -/
def distinguishBoundedCard : Claim7 := { stood := { row := distinguishBoundedRow, standIns := [], harness := (true, "2a74143b980c04ba1ea11d80c68ecf1654586bf8b05ecf9c96d9a632a38b48f2"), looks := true }, kinds := [], alts := [], laidByText := true, laidKinds := [.data, .data, .data, .handle, .sentinel, .sentinel, .sentinel, .sentinel, .sentinel, .sentinel], laidTests := true, laidLooks := .later }
def DistinguishBoundedCardSaid : Prop := Claim7.holds Tryz.pinned (.plain (OpenSpec.ofChange distinguishBoundedSpec)) distinguishBoundedCard

/-- THE SECOND FORM's CARD OF 'semblancelaw16.DistinguishBounds'. -/
def distinguishBoundsUptoCard : Claim7 := { stood := { row := distinguishBoundsUptoRow, standIns := [], harness := (true, "2a74143b980c04ba1ea11d80c68ecf1654586bf8b05ecf9c96d9a632a38b48f2"), looks := true }, kinds := [], alts := [], laidByText := true, laidKinds := [.data, .data, .data, .handle, .sentinel, .sentinel, .sentinel, .sentinel, .sentinel, .sentinel], laidTests := true, laidLooks := .later }
def DistinguishBoundsUptoCardSaid : Prop := Claim7.holds Tryz.pinned (.plain (OpenSpec.upto distinguishBoundsSpec)) distinguishBoundsUptoCard

/-- THE SECOND FORM's CARD OF 'semblancelaw16.DistinguishFormulas'. -/
def distinguishFormulasUptoCard : Claim7 := { stood := { row := distinguishFormulasUptoRow, standIns := [], harness := (true, "2a74143b980c04ba1ea11d80c68ecf1654586bf8b05ecf9c96d9a632a38b48f2"), looks := true }, kinds := [], alts := [], laidByText := true, laidKinds := [.data, .data, .data, .handle, .sentinel, .sentinel, .sentinel, .sentinel, .sentinel, .sentinel, .sentinel, .sentinel, .sentinel, .sentinel, .sentinel, .sentinel, .sentinel, .sentinel, .sentinel, .sentinel, .sentinel, .sentinel, .sentinel], laidTests := true, laidLooks := .later }
def DistinguishFormulasUptoCardSaid : Prop := Claim7.holds Tryz.pinned (.plain (OpenSpec.upto distinguishFormulasSpec)) distinguishFormulasUptoCard

/-- THE SECOND FORM's CARD OF 'semblancelaw16.DistinguishCompares'. -/
def distinguishComparesUptoCard : Claim7 := { stood := { row := distinguishComparesUptoRow, standIns := [], harness := (true, "2a74143b980c04ba1ea11d80c68ecf1654586bf8b05ecf9c96d9a632a38b48f2"), looks := true }, kinds := [], alts := [], laidByText := true, laidKinds := [.data, .data, .data, .handle, .sentinel, .sentinel, .sentinel, .sentinel, .sentinel, .sentinel, .sentinel, .sentinel, .sentinel, .sentinel, .sentinel, .sentinel, .sentinel, .sentinel, .sentinel, .sentinel, .sentinel, .sentinel, .sentinel], laidTests := true, laidLooks := .later }
def DistinguishComparesUptoCardSaid : Prop := Claim7.holds Tryz.pinned (.plain (OpenSpec.upto distinguishComparesSpec)) distinguishComparesUptoCard

/-- THE SECOND FORM's CARD OF 'semblancelaw16.DistinguishTells'. -/
def distinguishTellsUptoCard : Claim7 := { stood := { row := distinguishTellsUptoRow, standIns := [], harness := (true, "2a74143b980c04ba1ea11d80c68ecf1654586bf8b05ecf9c96d9a632a38b48f2"), looks := true }, kinds := [], alts := [], laidByText := true, laidKinds := [.data, .data, .data, .handle, .sentinel, .sentinel, .sentinel, .sentinel, .sentinel, .sentinel, .sentinel], laidTests := true, laidLooks := .later }
def DistinguishTellsUptoCardSaid : Prop := Claim7.holds Tryz.pinned (.plain (OpenSpec.upto distinguishTellsSpec)) distinguishTellsUptoCard

/-- THE SECOND FORM's CARD OF 'semblancelaw16.DistinguishWays'. -/
def distinguishWaysUptoCard : Claim7 := { stood := { row := distinguishWaysUptoRow, standIns := [], harness := (true, "2a74143b980c04ba1ea11d80c68ecf1654586bf8b05ecf9c96d9a632a38b48f2"), looks := true }, kinds := [], alts := [], laidByText := true, laidKinds := [.data, .data, .data, .handle, .sentinel, .sentinel, .sentinel, .sentinel, .sentinel, .sentinel, .sentinel, .sentinel, .sentinel, .sentinel, .sentinel, .sentinel, .sentinel, .sentinel, .sentinel, .sentinel, .sentinel, .sentinel, .sentinel], laidTests := true, laidLooks := .later }
def DistinguishWaysUptoCardSaid : Prop := Claim7.holds Tryz.pinned (.plain (OpenSpec.upto distinguishWaysSpec)) distinguishWaysUptoCard

/-- THE SECOND FORM's CARD OF 'semblancelaw16.DistinguishBounded'. -/
def distinguishBoundedUptoCard : Claim7 := { stood := { row := distinguishBoundedUptoRow, standIns := [], harness := (true, "2a74143b980c04ba1ea11d80c68ecf1654586bf8b05ecf9c96d9a632a38b48f2"), looks := true }, kinds := [], alts := [], laidByText := true, laidKinds := [.data, .data, .data, .handle, .sentinel, .sentinel, .sentinel, .sentinel, .sentinel, .sentinel], laidTests := true, laidLooks := .later }
def DistinguishBoundedUptoCardSaid : Prop := Claim7.holds Tryz.pinned (.plain (OpenSpec.upto distinguishBoundedSpec)) distinguishBoundedUptoCard
end Rows
end Go.Proofs.YtgehimdkdeldaaaGreatDoor
