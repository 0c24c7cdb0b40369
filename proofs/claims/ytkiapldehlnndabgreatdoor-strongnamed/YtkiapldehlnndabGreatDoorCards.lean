/-
  DERIVED. GIVEN WITH THE SEED: THE CARDS: each row of YtkiapldehlnndabGreatDoorRows.lean that lists a variable, with what it lists TIED to the program's text (the seventh form; the later family's looks); each row that meets fmt, with fmt's text TOLD by the authors' own Lean function (tested against real Go, not proved from fmt's source: count such statements apart). THE CARD IS WHAT COUNTS. Prove the row's statement (the work); the ties are given (YtkiapldehlnndabGreatDoorTie.lean); close each card by the builder's one call (the guide's Derived/Test/ToyasCard.lean, 'card_holds'). Laid BY PROGRAM, IN A SANDBOX (cutbox-door.mjs). By AI agents, Wed Nov 11 2026. No macro, syntax, notation, axiom, sorry.
-/
import Derived.Test.YtkiapldehlnndabGreatDoorRows
import GoSem.ClaimSeven
namespace Go.Proofs.YtkiapldehlnndabGreatDoor
namespace Rows

/-- THE TIED CARD OF 'semblancelaw9.StrongNamed'. -/
def strongNamedCard : Claim7 := { stood := { row := strongNamedRow, standIns := [], harness := (true, "7f43bb12497036fc5695f54d8df9b1b81c754402c86432c7c1125d272ebf8c8a"), looks := true }, kinds := [], alts := [], laidByText := true, laidKinds := [.handle, .sentinel, .sentinel, .sentinel, .sentinel], laidTests := true, laidLooks := .later }
def StrongNamedCardSaid : Prop := Claim7.holds Tryz.pinned (.plain (OpenSpec.ofChange strongNamedSpec)) strongNamedCard

/-- THE TIED CARD OF 'semblancelaw9.StrongEdges'. -/
def strongEdgesCard : Claim7 := { stood := { row := strongEdgesRow, standIns := [], harness := (true, "7f43bb12497036fc5695f54d8df9b1b81c754402c86432c7c1125d272ebf8c8a"), looks := true }, kinds := [], alts := [], laidByText := true, laidKinds := [.handle, .sentinel, .sentinel, .sentinel, .sentinel], laidTests := true, laidLooks := .later }
def StrongEdgesCardSaid : Prop := Claim7.holds Tryz.pinned (.plain (OpenSpec.ofChange strongEdgesSpec)) strongEdgesCard

/-- THE TIED CARD OF 'semblancelaw9.StrongEnds'. -/
def strongEndsCard : Claim7 := { stood := { row := strongEndsRow, standIns := [], harness := (true, "7f43bb12497036fc5695f54d8df9b1b81c754402c86432c7c1125d272ebf8c8a"), looks := true }, kinds := [], alts := [], laidByText := true, laidKinds := [.handle, .sentinel, .sentinel, .sentinel, .sentinel, .sentinel, .sentinel, .sentinel, .sentinel, .sentinel, .sentinel, .sentinel, .sentinel, .sentinel, .sentinel, .sentinel, .sentinel, .sentinel, .sentinel, .sentinel], laidTests := true, laidLooks := .later }
def StrongEndsCardSaid : Prop := Claim7.holds Tryz.pinned (.plain (OpenSpec.ofChange strongEndsSpec)) strongEndsCard

/-- THE TIED CARD OF 'semblancelaw10.RoundsLast'. -/
def roundsLastCard : Claim7 := { stood := { row := roundsLastRow, standIns := [], harness := (true, "7f43bb12497036fc5695f54d8df9b1b81c754402c86432c7c1125d272ebf8c8a"), looks := true }, kinds := [], alts := [], laidByText := true, laidKinds := [.data, .data, .data, .handle, .sentinel, .sentinel, .sentinel, .sentinel, .sentinel, .sentinel, .sentinel, .sentinel, .sentinel, .sentinel, .sentinel, .sentinel, .sentinel, .sentinel, .sentinel, .sentinel, .sentinel, .sentinel, .sentinel], laidTests := true, laidLooks := .later }
def RoundsLastCardSaid : Prop := Claim7.holds Tryz.pinned (.plain (OpenSpec.ofChange roundsLastSpec)) roundsLastCard

/-- THE SECOND FORM's CARD OF 'semblancelaw9.StrongNamed'. -/
def strongNamedUptoCard : Claim7 := { stood := { row := strongNamedUptoRow, standIns := [], harness := (true, "7f43bb12497036fc5695f54d8df9b1b81c754402c86432c7c1125d272ebf8c8a"), looks := true }, kinds := [], alts := [], laidByText := true, laidKinds := [.handle, .sentinel, .sentinel, .sentinel, .sentinel], laidTests := true, laidLooks := .later }
def StrongNamedUptoCardSaid : Prop := Claim7.holds Tryz.pinned (.plain (OpenSpec.upto strongNamedSpec)) strongNamedUptoCard

/-- THE SECOND FORM's CARD OF 'semblancelaw9.StrongEdges'. -/
def strongEdgesUptoCard : Claim7 := { stood := { row := strongEdgesUptoRow, standIns := [], harness := (true, "7f43bb12497036fc5695f54d8df9b1b81c754402c86432c7c1125d272ebf8c8a"), looks := true }, kinds := [], alts := [], laidByText := true, laidKinds := [.handle, .sentinel, .sentinel, .sentinel, .sentinel], laidTests := true, laidLooks := .later }
def StrongEdgesUptoCardSaid : Prop := Claim7.holds Tryz.pinned (.plain (OpenSpec.upto strongEdgesSpec)) strongEdgesUptoCard

/-- THE SECOND FORM's CARD OF 'semblancelaw9.StrongEnds'. -/
def strongEndsUptoCard : Claim7 := { stood := { row := strongEndsUptoRow, standIns := [], harness := (true, "7f43bb12497036fc5695f54d8df9b1b81c754402c86432c7c1125d272ebf8c8a"), looks := true }, kinds := [], alts := [], laidByText := true, laidKinds := [.handle, .sentinel, .sentinel, .sentinel, .sentinel, .sentinel, .sentinel, .sentinel, .sentinel, .sentinel, .sentinel, .sentinel, .sentinel, .sentinel, .sentinel, .sentinel, .sentinel, .sentinel, .sentinel, .sentinel], laidTests := true, laidLooks := .later }
def StrongEndsUptoCardSaid : Prop := Claim7.holds Tryz.pinned (.plain (OpenSpec.upto strongEndsSpec)) strongEndsUptoCard

/-- THE SECOND FORM's CARD OF 'semblancelaw10.RoundsLast'. -/
def roundsLastUptoCard : Claim7 := { stood := { row := roundsLastUptoRow, standIns := [], harness := (true, "7f43bb12497036fc5695f54d8df9b1b81c754402c86432c7c1125d272ebf8c8a"), looks := true }, kinds := [], alts := [], laidByText := true, laidKinds := [.data, .data, .data, .handle, .sentinel, .sentinel, .sentinel, .sentinel, .sentinel, .sentinel, .sentinel, .sentinel, .sentinel, .sentinel, .sentinel, .sentinel, .sentinel, .sentinel, .sentinel, .sentinel, .sentinel, .sentinel, .sentinel], laidTests := true, laidLooks := .later }
def RoundsLastUptoCardSaid : Prop := Claim7.holds Tryz.pinned (.plain (OpenSpec.upto roundsLastSpec)) roundsLastUptoCard
end Rows
end Go.Proofs.YtkiapldehlnndabGreatDoor
