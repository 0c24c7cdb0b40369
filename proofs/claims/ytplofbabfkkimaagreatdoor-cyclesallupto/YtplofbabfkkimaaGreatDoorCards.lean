/-
  DERIVED. GIVEN WITH THE SEED: THE CARDS: each row of YtplofbabfkkimaaGreatDoorRows.lean that lists a variable, with what it lists TIED to the program's text (the seventh form; the later family's looks); each row that meets fmt, with fmt's text TOLD by the authors' own Lean function (tested against real Go, not proved from fmt's source: count such statements apart). THE CARD IS WHAT COUNTS. Prove the row's statement (the work); the ties are given (YtplofbabfkkimaaGreatDoorTie.lean); close each card by the builder's one call (the guide's Derived/Test/ToyasCard.lean, 'card_holds'). Laid BY PROGRAM, IN A SANDBOX (cutbox-door.mjs). By AI agents, Wed Nov 11 2026. No macro, syntax, notation, axiom, sorry.
-/
import Derived.Test.YtplofbabfkkimaaGreatDoorRows
import GoSem.ClaimSeven
namespace Go.Proofs.YtplofbabfkkimaaGreatDoor
namespace Rows

/-- THE TIED CARD OF 'semblancelaw11.CyclesAll'. -/
def cyclesAllCard : Claim7 := { stood := { row := cyclesAllRow, standIns := [], harness := (true, "d9aabc65596aa6d32b63e0523b006cf00cc1244e963b18f4dcd818b5400fdd43"), looks := true }, kinds := [], alts := [], laidByText := true, laidKinds := [.sentinel, .sentinel, .sentinel, .sentinel, .sentinel, .sentinel, .sentinel, .sentinel, .sentinel, .sentinel, .sentinel, .sentinel, .sentinel, .sentinel, .sentinel, .sentinel, .sentinel, .sentinel, .sentinel], laidTests := true, laidLooks := .later }
def CyclesAllCardSaid : Prop := Claim7.holds Tryz.pinned (.plain (OpenSpec.ofChange cyclesAllSpec)) cyclesAllCard

/-- THE SECOND FORM's CARD OF 'semblancelaw11.CyclesAll'. -/
def cyclesAllUptoCard : Claim7 := { stood := { row := cyclesAllUptoRow, standIns := [], harness := (true, "d9aabc65596aa6d32b63e0523b006cf00cc1244e963b18f4dcd818b5400fdd43"), looks := true }, kinds := [], alts := [], laidByText := true, laidKinds := [.sentinel, .sentinel, .sentinel, .sentinel, .sentinel, .sentinel, .sentinel, .sentinel, .sentinel, .sentinel, .sentinel, .sentinel, .sentinel, .sentinel, .sentinel, .sentinel, .sentinel, .sentinel, .sentinel], laidTests := true, laidLooks := .later }
def CyclesAllUptoCardSaid : Prop := Claim7.holds Tryz.pinned (.plain (OpenSpec.upto cyclesAllSpec)) cyclesAllUptoCard
end Rows
end Go.Proofs.YtplofbabfkkimaaGreatDoor
