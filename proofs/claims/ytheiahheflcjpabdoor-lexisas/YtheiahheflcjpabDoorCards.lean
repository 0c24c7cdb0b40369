/-
  DERIVED. GIVEN WITH THE SEED: THE CARDS: each row of YtheiahheflcjpabDoorRows.lean that lists a variable, with what it lists TIED to the program's text (the seventh form; the later family's looks); each row that meets fmt, with fmt's text TOLD by the authors' own Lean function (tested against real Go, not proved from fmt's source: count such statements apart). THE CARD IS WHAT COUNTS. Prove the row's statement (the work); the ties are given (YtheiahheflcjpabDoorTie.lean); close each card by the builder's one call (the guide's Derived/Test/ToyasCard.lean, 'card_holds'). Laid BY PROGRAM, IN A SANDBOX (cutbox-door.mjs). By AI agents, Wed Nov 11 2026. No macro, syntax, notation, axiom, sorry.
-/
import Derived.Test.YtheiahheflcjpabDoorRows
import GoSem.ClaimSeven
namespace Go.Proofs.YtheiahheflcjpabDoor
namespace Rows

/-- THE TIED CARD OF 'semblancelaw1.LexisDigits'. -/
def lexisDigitsCard : Claim7 := { stood := { row := lexisDigitsRow, standIns := [], harness := (true, "846008de5942360cbe53b9461e7fc8803e2ca79bb0b4f0a637551075fbc6720b"), looks := true }, kinds := [], alts := [], laidByText := true, laidKinds := [.sentinel, .sentinel, .sentinel, .sentinel, .sentinel, .sentinel, .sentinel, .sentinel, .sentinel, .sentinel, .sentinel, .sentinel, .sentinel, .sentinel, .sentinel, .sentinel, .sentinel, .sentinel, .sentinel], laidTests := true, laidLooks := .later }
def LexisDigitsCardSaid : Prop := Claim7.holds Tryd.pinned (.plain (OpenSpec.ofChange lexisDigitsSpec)) lexisDigitsCard

/-- THE TIED CARD OF 'semblancelaw1.LexisIs'. -/
def lexisIsCard : Claim7 := { stood := { row := lexisIsRow, standIns := [], harness := (true, "846008de5942360cbe53b9461e7fc8803e2ca79bb0b4f0a637551075fbc6720b"), looks := true }, kinds := [], alts := [], laidByText := true, laidKinds := [.sentinel, .sentinel, .sentinel, .sentinel, .sentinel, .sentinel, .sentinel, .sentinel, .sentinel, .sentinel, .sentinel, .sentinel, .sentinel, .sentinel, .sentinel, .sentinel, .sentinel, .sentinel, .sentinel], laidTests := true, laidLooks := .later }
def LexisIsCardSaid : Prop := Claim7.holds Tryd.pinned (.plain (OpenSpec.ofChange lexisIsSpec)) lexisIsCard

/-- THE TIED CARD OF 'semblancelaw1.LexisAs'. -/
def lexisAsCard : Claim7 := { stood := { row := lexisAsRow, standIns := [], harness := (true, "846008de5942360cbe53b9461e7fc8803e2ca79bb0b4f0a637551075fbc6720b"), looks := true }, kinds := [], alts := [], laidByText := true, laidKinds := [.handle, .sentinel, .sentinel], laidTests := true, laidLooks := .later }
def LexisAsCardSaid : Prop := Claim7.holds Tryd.pinned (.plain (OpenSpec.ofChange lexisAsSpec)) lexisAsCard

/-- THE SECOND FORM's CARD OF 'semblancelaw1.LexisDigits'. -/
def lexisDigitsUptoCard : Claim7 := { stood := { row := lexisDigitsUptoRow, standIns := [], harness := (true, "846008de5942360cbe53b9461e7fc8803e2ca79bb0b4f0a637551075fbc6720b"), looks := true }, kinds := [], alts := [], laidByText := true, laidKinds := [.sentinel, .sentinel, .sentinel, .sentinel, .sentinel, .sentinel, .sentinel, .sentinel, .sentinel, .sentinel, .sentinel, .sentinel, .sentinel, .sentinel, .sentinel, .sentinel, .sentinel, .sentinel, .sentinel], laidTests := true, laidLooks := .later }
def LexisDigitsUptoCardSaid : Prop := Claim7.holds Tryd.pinned (.plain (OpenSpec.upto lexisDigitsSpec)) lexisDigitsUptoCard

/-- THE SECOND FORM's CARD OF 'semblancelaw1.LexisIs'. -/
def lexisIsUptoCard : Claim7 := { stood := { row := lexisIsUptoRow, standIns := [], harness := (true, "846008de5942360cbe53b9461e7fc8803e2ca79bb0b4f0a637551075fbc6720b"), looks := true }, kinds := [], alts := [], laidByText := true, laidKinds := [.sentinel, .sentinel, .sentinel, .sentinel, .sentinel, .sentinel, .sentinel, .sentinel, .sentinel, .sentinel, .sentinel, .sentinel, .sentinel, .sentinel, .sentinel, .sentinel, .sentinel, .sentinel, .sentinel], laidTests := true, laidLooks := .later }
def LexisIsUptoCardSaid : Prop := Claim7.holds Tryd.pinned (.plain (OpenSpec.upto lexisIsSpec)) lexisIsUptoCard

/-- THE SECOND FORM's CARD OF 'semblancelaw1.LexisAs'. -/
def lexisAsUptoCard : Claim7 := { stood := { row := lexisAsUptoRow, standIns := [], harness := (true, "846008de5942360cbe53b9461e7fc8803e2ca79bb0b4f0a637551075fbc6720b"), looks := true }, kinds := [], alts := [], laidByText := true, laidKinds := [.handle, .sentinel, .sentinel], laidTests := true, laidLooks := .later }
def LexisAsUptoCardSaid : Prop := Claim7.holds Tryd.pinned (.plain (OpenSpec.upto lexisAsSpec)) lexisAsUptoCard
end Rows
end Go.Proofs.YtheiahheflcjpabDoor
