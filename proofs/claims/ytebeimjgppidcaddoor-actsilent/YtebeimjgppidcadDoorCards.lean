/-
  DERIVED. GIVEN WITH THE SEED: THE CARDS: each row of YtebeimjgppidcadDoorRows.lean that lists a variable, with what it lists TIED to the program's text (the seventh form; the later family's looks); each row that meets fmt, with fmt's text TOLD by the authors' own Lean function (tested against real Go, not proved from fmt's source: count such statements apart). THE CARD IS WHAT COUNTS. Prove the row's statement (the work); the ties are given (YtebeimjgppidcadDoorTie.lean); close each card by the builder's one call (the guide's Derived/Test/ToyasCard.lean, 'card_holds'). Laid BY PROGRAM, IN A SANDBOX (cutbox-door.mjs). By AI agents, Wed Nov 11 2026. No macro, syntax, notation, axiom, sorry.
-/
import Derived.Test.YtebeimjgppidcadDoorRows
import GoSem.ClaimSeven
namespace Go.Proofs.YtebeimjgppidcadDoor
namespace Rows

/-- THE TIED CARD OF 'semblancelaw2.ActSilent'. -/
def actSilentCard : Claim7 := { stood := { row := actSilentRow, standIns := [], harness := (true, "6436c0189737592b4ddac368892c18c77954ca271b4b9f82c21c43619baded37"), looks := true }, kinds := [], alts := [], laidByText := true, laidKinds := [.sentinel, .sentinel, .sentinel, .sentinel, .sentinel, .sentinel], laidTests := true, laidLooks := .later }
def ActSilentCardSaid : Prop := Claim7.holds Tryd.pinned (.plain (OpenSpec.ofChange actSilentSpec)) actSilentCard

/-- THE SECOND FORM's CARD OF 'semblancelaw2.ActSilent'. -/
def actSilentUptoCard : Claim7 := { stood := { row := actSilentUptoRow, standIns := [], harness := (true, "6436c0189737592b4ddac368892c18c77954ca271b4b9f82c21c43619baded37"), looks := true }, kinds := [], alts := [], laidByText := true, laidKinds := [.sentinel, .sentinel, .sentinel, .sentinel, .sentinel, .sentinel], laidTests := true, laidLooks := .later }
def ActSilentUptoCardSaid : Prop := Claim7.holds Tryd.pinned (.plain (OpenSpec.upto actSilentSpec)) actSilentUptoCard
end Rows
end Go.Proofs.YtebeimjgppidcadDoor
