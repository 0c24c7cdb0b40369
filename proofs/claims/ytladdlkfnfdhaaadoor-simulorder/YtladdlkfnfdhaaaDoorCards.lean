/-
  DERIVED. GIVEN WITH THE SEED: THE CARDS: each row of YtladdlkfnfdhaaaDoorRows.lean that lists a variable, with what it lists TIED to the program's text (the seventh form; the later family's looks); each row that meets fmt, with fmt's text TOLD by the authors' own Lean function (tested against real Go, not proved from fmt's source: count such statements apart). THE CARD IS WHAT COUNTS. Prove the row's statement (the work); the ties are given (YtladdlkfnfdhaaaDoorTie.lean); close each card by the builder's one call (the guide's Derived/Test/ToyasCard.lean, 'card_holds'). Laid BY PROGRAM, IN A SANDBOX (cutbox-door.mjs). By AI agents, Wed Nov 11 2026. No macro, syntax, notation, axiom, sorry.
-/
import Derived.Test.YtladdlkfnfdhaaaDoorRows
import GoSem.ClaimSeven
namespace Go.Proofs.YtladdlkfnfdhaaaDoor
namespace Rows

/-- THE TIED CARD OF 'semblancelaw17.SimulOrder'. -/
def simulOrderCard : Claim7 := { stood := { row := simulOrderRow, standIns := [], harness := (true, "fab6fbcb47ba9b4b8113aafbfb132b18bed792b35bc048648d2a0b3868c40741"), looks := false }, kinds := [], alts := [], laidByText := true, laidKinds := [.data, .sentinel, .sentinel, .sentinel], laidTests := true, laidLooks := .later }
def SimulOrderCardSaid : Prop := Claim7.holds Tryd.pinned (.plain (OpenSpec.ofChange simulOrderSpec)) simulOrderCard

/-- THE TIED CARD OF 'semblancelaw17.SimulMeets'. -/
def simulMeetsCard : Claim7 := { stood := { row := simulMeetsRow, standIns := [], harness := (true, "fab6fbcb47ba9b4b8113aafbfb132b18bed792b35bc048648d2a0b3868c40741"), looks := false }, kinds := [], alts := [], laidByText := true, laidKinds := [.data, .sentinel, .sentinel, .sentinel], laidTests := true, laidLooks := .later }
def SimulMeetsCardSaid : Prop := Claim7.holds Tryd.pinned (.plain (OpenSpec.ofChange simulMeetsSpec)) simulMeetsCard

/-- THE SECOND FORM's CARD OF 'semblancelaw17.SimulOrder'. -/
def simulOrderUptoCard : Claim7 := { stood := { row := simulOrderUptoRow, standIns := [], harness := (true, "fab6fbcb47ba9b4b8113aafbfb132b18bed792b35bc048648d2a0b3868c40741"), looks := false }, kinds := [], alts := [], laidByText := true, laidKinds := [.data, .sentinel, .sentinel, .sentinel], laidTests := true, laidLooks := .later }
def SimulOrderUptoCardSaid : Prop := Claim7.holds Tryd.pinned (.plain (OpenSpec.upto simulOrderSpec)) simulOrderUptoCard

/-- THE SECOND FORM's CARD OF 'semblancelaw17.SimulMeets'. -/
def simulMeetsUptoCard : Claim7 := { stood := { row := simulMeetsUptoRow, standIns := [], harness := (true, "fab6fbcb47ba9b4b8113aafbfb132b18bed792b35bc048648d2a0b3868c40741"), looks := false }, kinds := [], alts := [], laidByText := true, laidKinds := [.data, .sentinel, .sentinel, .sentinel], laidTests := true, laidLooks := .later }
def SimulMeetsUptoCardSaid : Prop := Claim7.holds Tryd.pinned (.plain (OpenSpec.upto simulMeetsSpec)) simulMeetsUptoCard
end Rows
end Go.Proofs.YtladdlkfnfdhaaaDoor
