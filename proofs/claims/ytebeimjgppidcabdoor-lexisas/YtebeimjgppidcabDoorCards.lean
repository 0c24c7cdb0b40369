/-
  DERIVED. GIVEN WITH THE SEED: THE CARDS: each row of YtebeimjgppidcabDoorRows.lean that lists a variable, with what it lists TIED to the program's text (the seventh form; the later family's looks); each row that meets fmt, with fmt's text TOLD by the authors' own Lean function (tested against real Go, not proved from fmt's source: count such statements apart). THE CARD IS WHAT COUNTS. Prove the row's statement (the work); the ties are given (YtebeimjgppidcabDoorTie.lean); close each card by the builder's one call (the guide's Derived/Test/ToyasCard.lean, 'card_holds'). Laid BY PROGRAM, IN A SANDBOX (cutbox-door.mjs). By AI agents, Wed Nov 11 2026. No macro, syntax, notation, axiom, sorry.
-/
import Derived.Test.YtebeimjgppidcabDoorRows
import GoSem.ClaimSeven
namespace Go.Proofs.YtebeimjgppidcabDoor
namespace Rows

/-- THE TIED CARD OF 'semblancelaw1.LexisDigits'. -/
def lexisDigitsCard : Claim7 := { stood := { row := lexisDigitsRow, standIns := [], harness := (true, "27aee68713aa11162dc367016e5791ef078f40766cd1c888d4141e7f48cedc61"), looks := true }, kinds := [], alts := [], laidByText := true, laidKinds := [.sentinel, .sentinel, .sentinel, .sentinel, .sentinel, .sentinel, .sentinel, .sentinel, .sentinel, .sentinel, .sentinel, .sentinel, .sentinel, .sentinel, .sentinel, .sentinel, .sentinel, .sentinel, .sentinel], laidTests := true, laidLooks := .later }
def LexisDigitsCardSaid : Prop := Claim7.holds Tryd.pinned (.plain (OpenSpec.ofChange lexisDigitsSpec)) lexisDigitsCard

/-- THE TIED CARD OF 'semblancelaw1.LexisIs'. -/
def lexisIsCard : Claim7 := { stood := { row := lexisIsRow, standIns := [], harness := (true, "27aee68713aa11162dc367016e5791ef078f40766cd1c888d4141e7f48cedc61"), looks := true }, kinds := [], alts := [], laidByText := true, laidKinds := [.sentinel, .sentinel, .sentinel, .sentinel, .sentinel, .sentinel, .sentinel, .sentinel, .sentinel, .sentinel, .sentinel, .sentinel, .sentinel, .sentinel, .sentinel, .sentinel, .sentinel, .sentinel, .sentinel], laidTests := true, laidLooks := .later }
def LexisIsCardSaid : Prop := Claim7.holds Tryd.pinned (.plain (OpenSpec.ofChange lexisIsSpec)) lexisIsCard

/-- THE TIED CARD OF 'semblancelaw1.LexisAs'. -/
def lexisAsCard : Claim7 := { stood := { row := lexisAsRow, standIns := [], harness := (true, "27aee68713aa11162dc367016e5791ef078f40766cd1c888d4141e7f48cedc61"), looks := true }, kinds := [], alts := [], laidByText := true, laidKinds := [.handle, .sentinel, .sentinel], laidTests := true, laidLooks := .later }
def LexisAsCardSaid : Prop := Claim7.holds Tryd.pinned (.plain (OpenSpec.ofChange lexisAsSpec)) lexisAsCard

/-- THE TIED CARD OF 'semblancelaw2.ActLabels'. -/
def actLabelsCard : Claim7 := { stood := { row := actLabelsRow, standIns := [], harness := (true, "27aee68713aa11162dc367016e5791ef078f40766cd1c888d4141e7f48cedc61"), looks := true }, kinds := [], alts := [], laidByText := true, laidKinds := [.sentinel, .sentinel, .sentinel, .sentinel, .sentinel, .sentinel], laidTests := true, laidLooks := .later }
def ActLabelsCardSaid : Prop := Claim7.holds Tryd.pinned (.plain (OpenSpec.ofChange actLabelsSpec)) actLabelsCard

/-- THE SECOND FORM's CARD OF 'semblancelaw1.LexisDigits'. -/
def lexisDigitsUptoCard : Claim7 := { stood := { row := lexisDigitsUptoRow, standIns := [], harness := (true, "27aee68713aa11162dc367016e5791ef078f40766cd1c888d4141e7f48cedc61"), looks := true }, kinds := [], alts := [], laidByText := true, laidKinds := [.sentinel, .sentinel, .sentinel, .sentinel, .sentinel, .sentinel, .sentinel, .sentinel, .sentinel, .sentinel, .sentinel, .sentinel, .sentinel, .sentinel, .sentinel, .sentinel, .sentinel, .sentinel, .sentinel], laidTests := true, laidLooks := .later }
def LexisDigitsUptoCardSaid : Prop := Claim7.holds Tryd.pinned (.plain (OpenSpec.upto lexisDigitsSpec)) lexisDigitsUptoCard

/-- THE SECOND FORM's CARD OF 'semblancelaw1.LexisIs'. -/
def lexisIsUptoCard : Claim7 := { stood := { row := lexisIsUptoRow, standIns := [], harness := (true, "27aee68713aa11162dc367016e5791ef078f40766cd1c888d4141e7f48cedc61"), looks := true }, kinds := [], alts := [], laidByText := true, laidKinds := [.sentinel, .sentinel, .sentinel, .sentinel, .sentinel, .sentinel, .sentinel, .sentinel, .sentinel, .sentinel, .sentinel, .sentinel, .sentinel, .sentinel, .sentinel, .sentinel, .sentinel, .sentinel, .sentinel], laidTests := true, laidLooks := .later }
def LexisIsUptoCardSaid : Prop := Claim7.holds Tryd.pinned (.plain (OpenSpec.upto lexisIsSpec)) lexisIsUptoCard

/-- THE SECOND FORM's CARD OF 'semblancelaw1.LexisAs'. -/
def lexisAsUptoCard : Claim7 := { stood := { row := lexisAsUptoRow, standIns := [], harness := (true, "27aee68713aa11162dc367016e5791ef078f40766cd1c888d4141e7f48cedc61"), looks := true }, kinds := [], alts := [], laidByText := true, laidKinds := [.handle, .sentinel, .sentinel], laidTests := true, laidLooks := .later }
def LexisAsUptoCardSaid : Prop := Claim7.holds Tryd.pinned (.plain (OpenSpec.upto lexisAsSpec)) lexisAsUptoCard

/-- THE SECOND FORM's CARD OF 'semblancelaw2.ActLabels'. -/
def actLabelsUptoCard : Claim7 := { stood := { row := actLabelsUptoRow, standIns := [], harness := (true, "27aee68713aa11162dc367016e5791ef078f40766cd1c888d4141e7f48cedc61"), looks := true }, kinds := [], alts := [], laidByText := true, laidKinds := [.sentinel, .sentinel, .sentinel, .sentinel, .sentinel, .sentinel], laidTests := true, laidLooks := .later }
def ActLabelsUptoCardSaid : Prop := Claim7.holds Tryd.pinned (.plain (OpenSpec.upto actLabelsSpec)) actLabelsUptoCard
end Rows
end Go.Proofs.YtebeimjgppidcabDoor
