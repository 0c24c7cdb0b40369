/-
  DERIVED. GIVEN WITH THE SEED: THE CARDS: each row of YtihdpncjgmpboaaGreatDoorRows.lean that lists a variable, with what it lists TIED to the program's text (the seventh form; the later family's looks); each row that meets fmt, with fmt's text TOLD by the authors' own Lean function (tested against real Go, not proved from fmt's source: count such statements apart). THE CARD IS WHAT COUNTS. Prove the row's statement (the work); the ties are given (YtihdpncjgmpboaaGreatDoorTie.lean); close each card by the builder's one call (the guide's Derived/Test/ToyasCard.lean, 'card_holds'). Laid BY PROGRAM, IN A SANDBOX (cutbox-door.mjs). By AI agents, Wed Nov 11 2026. No macro, syntax, notation, axiom, sorry.
-/
import Derived.Test.YtihdpncjgmpboaaGreatDoorRows
import GoSem.ClaimSeven
namespace Go.Proofs.YtihdpncjgmpboaaGreatDoor
namespace Rows

/-- THE TIED CARD OF 'semblancelaw7.GraphAll'. -/
def graphAllCard : Claim7 := { stood := { row := graphAllRow, standIns := [], harness := (true, "db22e2fa0079fefaf3e8af22afb3266522c2de5a7b209ae8ae1cf271477878e7"), looks := false }, kinds := [], alts := [], laidByText := true, laidKinds := [.sentinel], laidTests := true, laidLooks := .later }
def GraphAllCardSaid : Prop := Claim7.holds Tryz.pinned (.plain (OpenSpec.ofChange graphAllSpec)) graphAllCard

/-- THE SECOND FORM's CARD OF 'semblancelaw7.GraphAll'. -/
def graphAllUptoCard : Claim7 := { stood := { row := graphAllUptoRow, standIns := [], harness := (true, "db22e2fa0079fefaf3e8af22afb3266522c2de5a7b209ae8ae1cf271477878e7"), looks := false }, kinds := [], alts := [], laidByText := true, laidKinds := [.sentinel], laidTests := true, laidLooks := .later }
def GraphAllUptoCardSaid : Prop := Claim7.holds Tryz.pinned (.plain (OpenSpec.upto graphAllSpec)) graphAllUptoCard
end Rows
end Go.Proofs.YtihdpncjgmpboaaGreatDoor
