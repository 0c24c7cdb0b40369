/-
  DERIVED. GIVEN WITH THE SEED: THE CARDS: each row of YtgehimdkdeldaabGreatDoorRows.lean that lists a variable, with what it lists TIED to the program's text (the seventh form; the later family's looks); each row that meets fmt, with fmt's text TOLD by the authors' own Lean function (tested against real Go, not proved from fmt's source: count such statements apart). THE CARD IS WHAT COUNTS. Prove the row's statement (the work); the ties are given (YtgehimdkdeldaabGreatDoorTie.lean); close each card by the builder's one call (the guide's Derived/Test/ToyasCard.lean, 'card_holds'). Laid BY PROGRAM, IN A SANDBOX (cutbox-door.mjs). By AI agents, Wed Nov 11 2026. No macro, syntax, notation, axiom, sorry.
-/
import Derived.Test.YtgehimdkdeldaabGreatDoorRows
import GoSem.ClaimSeven
namespace Go.Proofs.YtgehimdkdeldaabGreatDoor
namespace Rows

/-- THE TIED CARD OF 'semblancelaw16.DistinguishGrows'. -/
def distinguishGrowsCard : Claim7 := { stood := { row := distinguishGrowsRow, standIns := [], harness := (true, "5009a2fbeab3df2ed98d0c6e2bd84b705e6449e913e81055dc0f74888cec3454"), looks := true }, kinds := [], alts := [], laidByText := true, laidKinds := [.data, .data, .data, .handle, .sentinel, .sentinel, .sentinel, .sentinel, .sentinel, .sentinel], laidTests := true, laidLooks := .later }
def DistinguishGrowsCardSaid : Prop := Claim7.holds Tryz.pinned (.plain (OpenSpec.ofChange distinguishGrowsSpec)) distinguishGrowsCard

/-- THE TIED CARD OF 'semblancelaw16.DistinguishLong'. -/
def distinguishLongCard : Claim7 := { stood := { row := distinguishLongRow, standIns := [], harness := (true, "5009a2fbeab3df2ed98d0c6e2bd84b705e6449e913e81055dc0f74888cec3454"), looks := true }, kinds := [], alts := [], laidByText := true, laidKinds := [.data, .data, .data, .handle, .sentinel, .sentinel, .sentinel, .sentinel, .sentinel, .sentinel], laidTests := true, laidLooks := .later }
def DistinguishLongCardSaid : Prop := Claim7.holds Tryz.pinned (.plain (OpenSpec.ofChange distinguishLongSpec)) distinguishLongCard

/-- THE SECOND FORM's CARD OF 'semblancelaw16.DistinguishGrows'. -/
def distinguishGrowsUptoCard : Claim7 := { stood := { row := distinguishGrowsUptoRow, standIns := [], harness := (true, "5009a2fbeab3df2ed98d0c6e2bd84b705e6449e913e81055dc0f74888cec3454"), looks := true }, kinds := [], alts := [], laidByText := true, laidKinds := [.data, .data, .data, .handle, .sentinel, .sentinel, .sentinel, .sentinel, .sentinel, .sentinel], laidTests := true, laidLooks := .later }
def DistinguishGrowsUptoCardSaid : Prop := Claim7.holds Tryz.pinned (.plain (OpenSpec.upto distinguishGrowsSpec)) distinguishGrowsUptoCard

/-- THE SECOND FORM's CARD OF 'semblancelaw16.DistinguishLong'. -/
def distinguishLongUptoCard : Claim7 := { stood := { row := distinguishLongUptoRow, standIns := [], harness := (true, "5009a2fbeab3df2ed98d0c6e2bd84b705e6449e913e81055dc0f74888cec3454"), looks := true }, kinds := [], alts := [], laidByText := true, laidKinds := [.data, .data, .data, .handle, .sentinel, .sentinel, .sentinel, .sentinel, .sentinel, .sentinel], laidTests := true, laidLooks := .later }
def DistinguishLongUptoCardSaid : Prop := Claim7.holds Tryz.pinned (.plain (OpenSpec.upto distinguishLongSpec)) distinguishLongUptoCard
end Rows
end Go.Proofs.YtgehimdkdeldaabGreatDoor
