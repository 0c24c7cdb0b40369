/-
  DERIVED. GIVEN WITH THE SEED: THE CARDS: each row of YtmfcfiiggmkbpaaDoorRows.lean that lists a variable, with what it lists TIED to the program's text (the seventh form; the later family's looks); each row that meets fmt, with fmt's text TOLD by the authors' own Lean function (tested against real Go, not proved from fmt's source: count such statements apart). THE CARD IS WHAT COUNTS. Prove the row's statement (the work); the ties are given (YtmfcfiiggmkbpaaDoorTie.lean); close each card by the builder's one call (the guide's Derived/Test/ToyasCard.lean, 'card_holds'). Laid BY PROGRAM, IN A SANDBOX (cutbox-door.mjs). By AI agents, Wed Nov 11 2026. No macro, syntax, notation, axiom, sorry.
-/
import Derived.Test.YtmfcfiiggmkbpaaDoorRows
import GoSem.ClaimSeven
namespace Go.Proofs.YtmfcfiiggmkbpaaDoor
namespace Rows

/-- THE TIED CARD OF 'semblancelaw7.GraphCuts'. -/
def graphCutsCard : Claim7 := { stood := { row := graphCutsRow, standIns := [], harness := (true, "28160808828e50c5b8ef17eaf8540e624888a17557971277ec65db96dad9c118"), looks := true }, kinds := [], alts := [], laidByText := true, laidKinds := [.sentinel], laidTests := true, laidLooks := .later }
def GraphCutsCardSaid : Prop := Claim7.holds Tryd.pinned (.plain (OpenSpec.ofChange graphCutsSpec)) graphCutsCard

/-- THE TIED CARD OF 'semblancelaw7.GraphTurned'. -/
def graphTurnedCard : Claim7 := { stood := { row := graphTurnedRow, standIns := [], harness := (true, "28160808828e50c5b8ef17eaf8540e624888a17557971277ec65db96dad9c118"), looks := true }, kinds := [], alts := [], laidByText := true, laidKinds := [.sentinel, .sentinel, .sentinel, .sentinel, .sentinel, .sentinel, .sentinel, .sentinel, .sentinel, .sentinel, .sentinel, .sentinel, .sentinel, .sentinel, .sentinel, .sentinel, .sentinel, .sentinel, .sentinel], laidTests := true, laidLooks := .later }
def GraphTurnedCardSaid : Prop := Claim7.holds Tryd.pinned (.plain (OpenSpec.ofChange graphTurnedSpec)) graphTurnedCard

/-- THE TIED CARD OF 'semblancelaw7.SystemShuffled'. -/
def systemShuffledCard : Claim7 := { stood := { row := systemShuffledRow, standIns := [], harness := (true, "28160808828e50c5b8ef17eaf8540e624888a17557971277ec65db96dad9c118"), looks := true }, kinds := [], alts := [], laidByText := true, laidKinds := [.sentinel, .sentinel, .sentinel, .sentinel, .sentinel, .sentinel, .sentinel, .sentinel, .sentinel, .sentinel, .sentinel, .sentinel, .sentinel, .sentinel, .sentinel, .sentinel, .sentinel, .sentinel, .sentinel], laidTests := true, laidLooks := .later }
def SystemShuffledCardSaid : Prop := Claim7.holds Tryd.pinned (.plain (OpenSpec.ofChange systemShuffledSpec)) systemShuffledCard

/-- THE TIED CARD OF 'semblancelaw7.GraphReached'. -/
def graphReachedCard : Claim7 := { stood := { row := graphReachedRow, standIns := [], harness := (true, "28160808828e50c5b8ef17eaf8540e624888a17557971277ec65db96dad9c118"), looks := true }, kinds := [], alts := [], laidByText := true, laidKinds := [.sentinel], laidTests := true, laidLooks := .later }
def GraphReachedCardSaid : Prop := Claim7.holds Tryd.pinned (.plain (OpenSpec.ofChange graphReachedSpec)) graphReachedCard

/-- THE SECOND FORM's CARD OF 'semblancelaw7.GraphCuts'. -/
def graphCutsUptoCard : Claim7 := { stood := { row := graphCutsUptoRow, standIns := [], harness := (true, "28160808828e50c5b8ef17eaf8540e624888a17557971277ec65db96dad9c118"), looks := true }, kinds := [], alts := [], laidByText := true, laidKinds := [.sentinel], laidTests := true, laidLooks := .later }
def GraphCutsUptoCardSaid : Prop := Claim7.holds Tryd.pinned (.plain (OpenSpec.upto graphCutsSpec)) graphCutsUptoCard

/-- THE SECOND FORM's CARD OF 'semblancelaw7.GraphTurned'. -/
def graphTurnedUptoCard : Claim7 := { stood := { row := graphTurnedUptoRow, standIns := [], harness := (true, "28160808828e50c5b8ef17eaf8540e624888a17557971277ec65db96dad9c118"), looks := true }, kinds := [], alts := [], laidByText := true, laidKinds := [.sentinel, .sentinel, .sentinel, .sentinel, .sentinel, .sentinel, .sentinel, .sentinel, .sentinel, .sentinel, .sentinel, .sentinel, .sentinel, .sentinel, .sentinel, .sentinel, .sentinel, .sentinel, .sentinel], laidTests := true, laidLooks := .later }
def GraphTurnedUptoCardSaid : Prop := Claim7.holds Tryd.pinned (.plain (OpenSpec.upto graphTurnedSpec)) graphTurnedUptoCard

/-- THE SECOND FORM's CARD OF 'semblancelaw7.SystemShuffled'. -/
def systemShuffledUptoCard : Claim7 := { stood := { row := systemShuffledUptoRow, standIns := [], harness := (true, "28160808828e50c5b8ef17eaf8540e624888a17557971277ec65db96dad9c118"), looks := true }, kinds := [], alts := [], laidByText := true, laidKinds := [.sentinel, .sentinel, .sentinel, .sentinel, .sentinel, .sentinel, .sentinel, .sentinel, .sentinel, .sentinel, .sentinel, .sentinel, .sentinel, .sentinel, .sentinel, .sentinel, .sentinel, .sentinel, .sentinel], laidTests := true, laidLooks := .later }
def SystemShuffledUptoCardSaid : Prop := Claim7.holds Tryd.pinned (.plain (OpenSpec.upto systemShuffledSpec)) systemShuffledUptoCard

/-- THE SECOND FORM's CARD OF 'semblancelaw7.GraphReached'. -/
def graphReachedUptoCard : Claim7 := { stood := { row := graphReachedUptoRow, standIns := [], harness := (true, "28160808828e50c5b8ef17eaf8540e624888a17557971277ec65db96dad9c118"), looks := true }, kinds := [], alts := [], laidByText := true, laidKinds := [.sentinel], laidTests := true, laidLooks := .later }
def GraphReachedUptoCardSaid : Prop := Claim7.holds Tryd.pinned (.plain (OpenSpec.upto graphReachedSpec)) graphReachedUptoCard
end Rows
end Go.Proofs.YtmfcfiiggmkbpaaDoor
