/-
  DERIVED. GIVEN WITH THE SEED: THE CARDS: each row of YtnpooilcpapkaabGreatDoorRows.lean that lists a variable, with what it lists TIED to the program's text (the seventh form; the later family's looks); each row that meets fmt, with fmt's text TOLD by the authors' own Lean function (tested against real Go, not proved from fmt's source: count such statements apart). THE CARD IS WHAT COUNTS. Prove the row's statement (the work); the ties are given (YtnpooilcpapkaabGreatDoorTie.lean); close each card by the builder's one call (the guide's Derived/Test/ToyasCard.lean, 'card_holds'). Laid BY PROGRAM, IN A SANDBOX (cutbox-door.mjs). By AI agents, Wed Nov 11 2026. No macro, syntax, notation, axiom, sorry.
-/
import Derived.Test.YtnpooilcpapkaabGreatDoorRows
import GoSem.ClaimSeven
namespace Go.Proofs.YtnpooilcpapkaabGreatDoor
namespace Rows

/-- THE TIED CARD OF 'semblancelaw10.RoundsIs'. -/
def roundsIsCard : Claim7 := { stood := { row := roundsIsRow, standIns := [], harness := (true, "fbb85bc86840dc72613b0a489f83fd0fe962459b81c0790b4e52dbb53897995a"), looks := true }, kinds := [], alts := [], laidByText := true, laidKinds := [.data, .data, .data, .sentinel, .sentinel, .sentinel, .sentinel, .sentinel, .sentinel, .sentinel, .sentinel, .sentinel, .sentinel, .sentinel, .sentinel, .sentinel, .sentinel, .sentinel, .sentinel, .sentinel, .sentinel, .sentinel], laidTests := true, laidLooks := .later }
def RoundsIsCardSaid : Prop := Claim7.holds Tryz.pinned (.plain (OpenSpec.ofChange roundsIsSpec)) roundsIsCard

/-- THE SECOND FORM's CARD OF 'semblancelaw10.RoundsIs'. -/
def roundsIsUptoCard : Claim7 := { stood := { row := roundsIsUptoRow, standIns := [], harness := (true, "fbb85bc86840dc72613b0a489f83fd0fe962459b81c0790b4e52dbb53897995a"), looks := true }, kinds := [], alts := [], laidByText := true, laidKinds := [.data, .data, .data, .sentinel, .sentinel, .sentinel, .sentinel, .sentinel, .sentinel, .sentinel, .sentinel, .sentinel, .sentinel, .sentinel, .sentinel, .sentinel, .sentinel, .sentinel, .sentinel, .sentinel, .sentinel, .sentinel], laidTests := true, laidLooks := .later }
def RoundsIsUptoCardSaid : Prop := Claim7.holds Tryz.pinned (.plain (OpenSpec.upto roundsIsSpec)) roundsIsUptoCard
end Rows
end Go.Proofs.YtnpooilcpapkaabGreatDoor
