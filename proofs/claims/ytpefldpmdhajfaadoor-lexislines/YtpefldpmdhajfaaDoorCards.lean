/-
  DERIVED. GIVEN WITH THE SEED: THE CARDS: each row of YtpefldpmdhajfaaDoorRows.lean that lists a variable, with what it lists TIED to the program's text (the seventh form; the later family's looks); each row that meets fmt, with fmt's text TOLD by the authors' own Lean function (tested against real Go, not proved from fmt's source: count such statements apart). THE CARD IS WHAT COUNTS. Prove the row's statement (the work); the ties are given (YtpefldpmdhajfaaDoorTie.lean); close each card by the builder's one call (the guide's Derived/Test/ToyasCard.lean, 'card_holds'). Laid BY PROGRAM, IN A SANDBOX (cutbox-door.mjs). By AI agents, Wed Nov 11 2026. No macro, syntax, notation, axiom, sorry.
-/
import Derived.Test.YtpefldpmdhajfaaDoorRows
import GoSem.ClaimSeven
namespace Go.Proofs.YtpefldpmdhajfaaDoor
namespace Rows

/-- THE TIED CARD OF 'semblancelaw1.LexisLines'. -/
def lexisLinesCard : Claim7 := { stood := { row := lexisLinesRow, standIns := [], harness := (true, "95e525155c7d5d0448574d8fd66bda3431ea4c0ece57fd95157f4cdbf1e5d5c8"), looks := true }, kinds := [], alts := [], laidByText := true, laidKinds := [.sentinel, .sentinel], laidTests := true, laidLooks := .later }
def LexisLinesCardSaid : Prop := Claim7.holds Tryd.pinned (.plain (OpenSpec.ofChange lexisLinesSpec)) lexisLinesCard

/-- THE TIED CARD OF 'semblancelaw1.LexisPlaces'. -/
def lexisPlacesCard : Claim7 := { stood := { row := lexisPlacesRow, standIns := [], harness := (true, "95e525155c7d5d0448574d8fd66bda3431ea4c0ece57fd95157f4cdbf1e5d5c8"), looks := true }, kinds := [], alts := [], laidByText := true, laidKinds := [.sentinel, .sentinel, .sentinel, .sentinel, .sentinel, .sentinel, .sentinel, .sentinel, .sentinel, .sentinel, .sentinel, .sentinel, .sentinel, .sentinel, .sentinel, .sentinel, .sentinel, .sentinel, .sentinel], laidTests := true, laidLooks := .later }
def LexisPlacesCardSaid : Prop := Claim7.holds Tryd.pinned (.plain (OpenSpec.ofChange lexisPlacesSpec)) lexisPlacesCard

/-- THE SECOND FORM's CARD OF 'semblancelaw1.LexisLines'. -/
def lexisLinesUptoCard : Claim7 := { stood := { row := lexisLinesUptoRow, standIns := [], harness := (true, "95e525155c7d5d0448574d8fd66bda3431ea4c0ece57fd95157f4cdbf1e5d5c8"), looks := true }, kinds := [], alts := [], laidByText := true, laidKinds := [.sentinel, .sentinel], laidTests := true, laidLooks := .later }
def LexisLinesUptoCardSaid : Prop := Claim7.holds Tryd.pinned (.plain (OpenSpec.upto lexisLinesSpec)) lexisLinesUptoCard

/-- THE SECOND FORM's CARD OF 'semblancelaw1.LexisPlaces'. -/
def lexisPlacesUptoCard : Claim7 := { stood := { row := lexisPlacesUptoRow, standIns := [], harness := (true, "95e525155c7d5d0448574d8fd66bda3431ea4c0ece57fd95157f4cdbf1e5d5c8"), looks := true }, kinds := [], alts := [], laidByText := true, laidKinds := [.sentinel, .sentinel, .sentinel, .sentinel, .sentinel, .sentinel, .sentinel, .sentinel, .sentinel, .sentinel, .sentinel, .sentinel, .sentinel, .sentinel, .sentinel, .sentinel, .sentinel, .sentinel, .sentinel], laidTests := true, laidLooks := .later }
def LexisPlacesUptoCardSaid : Prop := Claim7.holds Tryd.pinned (.plain (OpenSpec.upto lexisPlacesSpec)) lexisPlacesUptoCard
end Rows
end Go.Proofs.YtpefldpmdhajfaaDoor
