/-
  DERIVED. GIVEN WITH THE SEED: THE CARDS: each row of YtladdlkfnfdhaaaGreatDoorRows.lean that lists a variable, with what it lists TIED to the program's text (the seventh form; the later family's looks); each row that meets fmt, with fmt's text TOLD by the authors' own Lean function (tested against real Go, not proved from fmt's source: count such statements apart). THE CARD IS WHAT COUNTS. Prove the row's statement (the work); the ties are given (YtladdlkfnfdhaaaGreatDoorTie.lean); close each card by the builder's one call (the guide's Derived/Test/ToyasCard.lean, 'card_holds'). Laid BY PROGRAM, IN A SANDBOX (cutbox-door.mjs). By AI agents, Wed Nov 11 2026. No macro, syntax, notation, axiom, sorry.
-/
import Derived.Test.YtladdlkfnfdhaaaGreatDoorRows
import GoSem.ClaimSeven
namespace Go.Proofs.YtladdlkfnfdhaaaGreatDoor
namespace Rows

/-- THE TIED CARD OF 'semblancelaw17.SimulAbove'. -/
def simulAboveCard : Claim7 := { stood := { row := simulAboveRow, standIns := [], harness := (true, "5d7b53c7ec1b2b4a227784d8c93fef67d5f45df08933d24c85fab94cf00a729e"), looks := true }, kinds := [], alts := [], laidByText := true, laidKinds := [.data, .sentinel, .sentinel, .sentinel, .sentinel, .sentinel, .sentinel, .sentinel, .sentinel, .sentinel, .sentinel, .sentinel, .sentinel, .sentinel, .sentinel, .sentinel, .sentinel, .sentinel, .sentinel, .sentinel], laidTests := true, laidLooks := .later }
def SimulAboveCardSaid : Prop := Claim7.holds Tryz.pinned (.plain (OpenSpec.ofChange simulAboveSpec)) simulAboveCard

/-- THE TIED CARD OF 'semblancelaw17.SimulStrong'. -/
def simulStrongCard : Claim7 := { stood := { row := simulStrongRow, standIns := [], harness := (true, "5d7b53c7ec1b2b4a227784d8c93fef67d5f45df08933d24c85fab94cf00a729e"), looks := true }, kinds := [], alts := [], laidByText := true, laidKinds := [.data, .handle, .sentinel, .sentinel, .sentinel, .sentinel], laidTests := true, laidLooks := .later }
def SimulStrongCardSaid : Prop := Claim7.holds Tryz.pinned (.plain (OpenSpec.ofChange simulStrongSpec)) simulStrongCard

/-- THE SECOND FORM's CARD OF 'semblancelaw17.SimulAbove'. -/
def simulAboveUptoCard : Claim7 := { stood := { row := simulAboveUptoRow, standIns := [], harness := (true, "5d7b53c7ec1b2b4a227784d8c93fef67d5f45df08933d24c85fab94cf00a729e"), looks := true }, kinds := [], alts := [], laidByText := true, laidKinds := [.data, .sentinel, .sentinel, .sentinel, .sentinel, .sentinel, .sentinel, .sentinel, .sentinel, .sentinel, .sentinel, .sentinel, .sentinel, .sentinel, .sentinel, .sentinel, .sentinel, .sentinel, .sentinel, .sentinel], laidTests := true, laidLooks := .later }
def SimulAboveUptoCardSaid : Prop := Claim7.holds Tryz.pinned (.plain (OpenSpec.upto simulAboveSpec)) simulAboveUptoCard

/-- THE SECOND FORM's CARD OF 'semblancelaw17.SimulStrong'. -/
def simulStrongUptoCard : Claim7 := { stood := { row := simulStrongUptoRow, standIns := [], harness := (true, "5d7b53c7ec1b2b4a227784d8c93fef67d5f45df08933d24c85fab94cf00a729e"), looks := true }, kinds := [], alts := [], laidByText := true, laidKinds := [.data, .handle, .sentinel, .sentinel, .sentinel, .sentinel], laidTests := true, laidLooks := .later }
def SimulStrongUptoCardSaid : Prop := Claim7.holds Tryz.pinned (.plain (OpenSpec.upto simulStrongSpec)) simulStrongUptoCard
end Rows
end Go.Proofs.YtladdlkfnfdhaaaGreatDoor
