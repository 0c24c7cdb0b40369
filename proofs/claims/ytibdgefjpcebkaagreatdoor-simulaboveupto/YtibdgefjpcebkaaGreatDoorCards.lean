/-
  DERIVED. GIVEN WITH THE SEED: THE CARDS: each row of YtibdgefjpcebkaaGreatDoorRows.lean that lists a variable, with what it lists TIED to the program's text (the seventh form; the later family's looks); each row that meets fmt, with fmt's text TOLD by the authors' own Lean function (tested against real Go, not proved from fmt's source: count such statements apart). THE CARD IS WHAT COUNTS. Prove the row's statement (the work); the ties are given (YtibdgefjpcebkaaGreatDoorTie.lean); close each card by the builder's one call (the guide's Derived/Test/ToyasCard.lean, 'card_holds'). Laid BY PROGRAM, IN A SANDBOX (cutbox-door.mjs). By AI agents, Wed Nov 11 2026. No macro, syntax, notation, axiom, sorry.
-/
import Derived.Test.YtibdgefjpcebkaaGreatDoorRows
import GoSem.ClaimSeven
namespace Go.Proofs.YtibdgefjpcebkaaGreatDoor
namespace Rows

/-- THE TIED CARD OF 'semblancelaw17.SimulAbove'. -/
def simulAboveCard : Claim7 := { stood := { row := simulAboveRow, standIns := [], harness := (true, "d270977f7a8839ec05fb41290083d43fe0080a85099e15efa13b2e678fdc76d6"), looks := true }, kinds := [], alts := [], laidByText := true, laidKinds := [.data, .sentinel, .sentinel, .sentinel, .sentinel, .sentinel, .sentinel, .sentinel, .sentinel, .sentinel, .sentinel, .sentinel, .sentinel, .sentinel, .sentinel, .sentinel, .sentinel, .sentinel, .sentinel, .sentinel], laidTests := true, laidLooks := .later }
def SimulAboveCardSaid : Prop := Claim7.holds Tryz.pinned (.plain (OpenSpec.ofChange simulAboveSpec)) simulAboveCard

/-- THE SECOND FORM's CARD OF 'semblancelaw17.SimulAbove'. -/
def simulAboveUptoCard : Claim7 := { stood := { row := simulAboveUptoRow, standIns := [], harness := (true, "d270977f7a8839ec05fb41290083d43fe0080a85099e15efa13b2e678fdc76d6"), looks := true }, kinds := [], alts := [], laidByText := true, laidKinds := [.data, .sentinel, .sentinel, .sentinel, .sentinel, .sentinel, .sentinel, .sentinel, .sentinel, .sentinel, .sentinel, .sentinel, .sentinel, .sentinel, .sentinel, .sentinel, .sentinel, .sentinel, .sentinel, .sentinel], laidTests := true, laidLooks := .later }
def SimulAboveUptoCardSaid : Prop := Claim7.holds Tryz.pinned (.plain (OpenSpec.upto simulAboveSpec)) simulAboveUptoCard
end Rows
end Go.Proofs.YtibdgefjpcebkaaGreatDoor
