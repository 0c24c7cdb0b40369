/-
  DERIVED. GIVEN WITH THE SEED: THE CARDS: each row of YtplofbabfkkimaaDoorRows.lean that lists a variable, with what it lists TIED to the program's text (the seventh form; the later family's looks); each row that meets fmt, with fmt's text TOLD by the authors' own Lean function (tested against real Go, not proved from fmt's source: count such statements apart). THE CARD IS WHAT COUNTS. Prove the row's statement (the work); the ties are given (YtplofbabfkkimaaDoorTie.lean); close each card by the builder's one call (the guide's Derived/Test/ToyasCard.lean, 'card_holds'). Laid BY PROGRAM, IN A SANDBOX (cutbox-door.mjs). By AI agents, Wed Nov 11 2026. No macro, syntax, notation, axiom, sorry.
-/
import Derived.Test.YtplofbabfkkimaaDoorRows
import GoSem.ClaimSeven
namespace Go.Proofs.YtplofbabfkkimaaDoor
namespace Rows

/-- THE TIED CARD OF 'semblancelaw11.CyclesNone'. -/
def cyclesNoneCard : Claim7 := { stood := { row := cyclesNoneRow, standIns := [], harness := (true, "a011d5870d7d3f17445882feaa4ead6fa59eae5d1fc07f94e0620136c36301e9"), looks := true }, kinds := [], alts := [], laidByText := true, laidKinds := [.sentinel], laidTests := true, laidLooks := .later }
def CyclesNoneCardSaid : Prop := Claim7.holds Tryd.pinned (.plain (OpenSpec.ofChange cyclesNoneSpec)) cyclesNoneCard

/-- THE TIED CARD OF 'semblancelaw11.CyclesEdges'. -/
def cyclesEdgesCard : Claim7 := { stood := { row := cyclesEdgesRow, standIns := [], harness := (true, "a011d5870d7d3f17445882feaa4ead6fa59eae5d1fc07f94e0620136c36301e9"), looks := true }, kinds := [], alts := [], laidByText := true, laidKinds := [.sentinel], laidTests := true, laidLooks := .later }
def CyclesEdgesCardSaid : Prop := Claim7.holds Tryd.pinned (.plain (OpenSpec.ofChange cyclesEdgesSpec)) cyclesEdgesCard

/-- THE SECOND FORM's CARD OF 'semblancelaw11.CyclesNone'. -/
def cyclesNoneUptoCard : Claim7 := { stood := { row := cyclesNoneUptoRow, standIns := [], harness := (true, "a011d5870d7d3f17445882feaa4ead6fa59eae5d1fc07f94e0620136c36301e9"), looks := true }, kinds := [], alts := [], laidByText := true, laidKinds := [.sentinel], laidTests := true, laidLooks := .later }
def CyclesNoneUptoCardSaid : Prop := Claim7.holds Tryd.pinned (.plain (OpenSpec.upto cyclesNoneSpec)) cyclesNoneUptoCard

/-- THE SECOND FORM's CARD OF 'semblancelaw11.CyclesEdges'. -/
def cyclesEdgesUptoCard : Claim7 := { stood := { row := cyclesEdgesUptoRow, standIns := [], harness := (true, "a011d5870d7d3f17445882feaa4ead6fa59eae5d1fc07f94e0620136c36301e9"), looks := true }, kinds := [], alts := [], laidByText := true, laidKinds := [.sentinel], laidTests := true, laidLooks := .later }
def CyclesEdgesUptoCardSaid : Prop := Claim7.holds Tryd.pinned (.plain (OpenSpec.upto cyclesEdgesSpec)) cyclesEdgesUptoCard
end Rows
end Go.Proofs.YtplofbabfkkimaaDoor
