/-
  DERIVED. GIVEN WITH THE SEED: THE CARDS: each row of YthcboklkejlifaaGreatDoorRows.lean that lists a variable, with what it lists TIED to the program's text (the seventh form; the later family's looks); each row that meets fmt, with fmt's text TOLD by the authors' own Lean function (tested against real Go, not proved from fmt's source: count such statements apart). THE CARD IS WHAT COUNTS. Prove the row's statement (the work); the ties are given (YthcboklkejlifaaGreatDoorTie.lean); close each card by the builder's one call (the guide's Derived/Test/ToyasCard.lean, 'card_holds'). Laid BY PROGRAM, IN A SANDBOX (cutbox-door.mjs). By AI agents, Wed Nov 11 2026. No macro, syntax, notation, axiom, sorry.
-/
import Derived.Test.YthcboklkejlifaaGreatDoorRows
import GoSem.ClaimSeven
namespace Go.Proofs.YthcboklkejlifaaGreatDoor
namespace Rows

/-- THE TIED CARD OF 'semblancelaw1.LexisAll'. -/
def lexisAllCard : Claim7 := { stood := { row := lexisAllRow, standIns := [], harness := (true, "15f0250ab7ae2e3c754ff42d165d4109167230d7bd51657c0a992e00427e9e87"), looks := true }, kinds := [], alts := [], laidByText := true, laidKinds := [.sentinel, .sentinel, .sentinel, .sentinel, .sentinel, .sentinel, .sentinel, .sentinel, .sentinel, .sentinel, .sentinel, .sentinel, .sentinel, .sentinel, .sentinel, .sentinel, .sentinel, .sentinel, .sentinel], laidTests := true, laidLooks := .later }
def LexisAllCardSaid : Prop := Claim7.holds Tryz.pinned (.plain (OpenSpec.ofChange lexisAllSpec)) lexisAllCard

/-- THE TIED CARD OF 'semblancelaw2.ActPlays'. -/
def actPlaysCard : Claim7 := { stood := { row := actPlaysRow, standIns := [], harness := (true, "15f0250ab7ae2e3c754ff42d165d4109167230d7bd51657c0a992e00427e9e87"), looks := true }, kinds := [], alts := [], laidByText := true, laidKinds := [.sentinel, .sentinel, .sentinel, .sentinel, .sentinel, .sentinel, .sentinel, .sentinel, .sentinel, .sentinel, .sentinel, .sentinel, .sentinel, .sentinel, .sentinel, .sentinel, .sentinel, .sentinel, .sentinel], laidTests := true, laidLooks := .later }
def ActPlaysCardSaid : Prop := Claim7.holds Tryz.pinned (.plain (OpenSpec.ofChange actPlaysSpec)) actPlaysCard

/-- THE TIED CARD OF 'semblancelaw2.ActAll'. -/
def actAllCard : Claim7 := { stood := { row := actAllRow, standIns := [], harness := (true, "15f0250ab7ae2e3c754ff42d165d4109167230d7bd51657c0a992e00427e9e87"), looks := true }, kinds := [], alts := [], laidByText := true, laidKinds := [.sentinel, .sentinel, .sentinel, .sentinel, .sentinel, .sentinel, .sentinel, .sentinel, .sentinel, .sentinel, .sentinel, .sentinel, .sentinel, .sentinel, .sentinel, .sentinel, .sentinel, .sentinel, .sentinel], laidTests := true, laidLooks := .later }
def ActAllCardSaid : Prop := Claim7.holds Tryz.pinned (.plain (OpenSpec.ofChange actAllSpec)) actAllCard

/-- THE SECOND FORM's CARD OF 'semblancelaw1.LexisAll'. -/
def lexisAllUptoCard : Claim7 := { stood := { row := lexisAllUptoRow, standIns := [], harness := (true, "15f0250ab7ae2e3c754ff42d165d4109167230d7bd51657c0a992e00427e9e87"), looks := true }, kinds := [], alts := [], laidByText := true, laidKinds := [.sentinel, .sentinel, .sentinel, .sentinel, .sentinel, .sentinel, .sentinel, .sentinel, .sentinel, .sentinel, .sentinel, .sentinel, .sentinel, .sentinel, .sentinel, .sentinel, .sentinel, .sentinel, .sentinel], laidTests := true, laidLooks := .later }
def LexisAllUptoCardSaid : Prop := Claim7.holds Tryz.pinned (.plain (OpenSpec.upto lexisAllSpec)) lexisAllUptoCard

/-- THE SECOND FORM's CARD OF 'semblancelaw2.ActPlays'. -/
def actPlaysUptoCard : Claim7 := { stood := { row := actPlaysUptoRow, standIns := [], harness := (true, "15f0250ab7ae2e3c754ff42d165d4109167230d7bd51657c0a992e00427e9e87"), looks := true }, kinds := [], alts := [], laidByText := true, laidKinds := [.sentinel, .sentinel, .sentinel, .sentinel, .sentinel, .sentinel, .sentinel, .sentinel, .sentinel, .sentinel, .sentinel, .sentinel, .sentinel, .sentinel, .sentinel, .sentinel, .sentinel, .sentinel, .sentinel], laidTests := true, laidLooks := .later }
def ActPlaysUptoCardSaid : Prop := Claim7.holds Tryz.pinned (.plain (OpenSpec.upto actPlaysSpec)) actPlaysUptoCard

/-- THE SECOND FORM's CARD OF 'semblancelaw2.ActAll'. -/
def actAllUptoCard : Claim7 := { stood := { row := actAllUptoRow, standIns := [], harness := (true, "15f0250ab7ae2e3c754ff42d165d4109167230d7bd51657c0a992e00427e9e87"), looks := true }, kinds := [], alts := [], laidByText := true, laidKinds := [.sentinel, .sentinel, .sentinel, .sentinel, .sentinel, .sentinel, .sentinel, .sentinel, .sentinel, .sentinel, .sentinel, .sentinel, .sentinel, .sentinel, .sentinel, .sentinel, .sentinel, .sentinel, .sentinel], laidTests := true, laidLooks := .later }
def ActAllUptoCardSaid : Prop := Claim7.holds Tryz.pinned (.plain (OpenSpec.upto actAllSpec)) actAllUptoCard
end Rows
end Go.Proofs.YthcboklkejlifaaGreatDoor
