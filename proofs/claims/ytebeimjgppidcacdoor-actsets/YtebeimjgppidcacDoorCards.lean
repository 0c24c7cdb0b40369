/-
  DERIVED. GIVEN WITH THE SEED: THE CARDS: each row of YtebeimjgppidcacDoorRows.lean that lists a variable, with what it lists TIED to the program's text (the seventh form; the later family's looks); each row that meets fmt, with fmt's text TOLD by the authors' own Lean function (tested against real Go, not proved from fmt's source: count such statements apart). THE CARD IS WHAT COUNTS. Prove the row's statement (the work); the ties are given (YtebeimjgppidcacDoorTie.lean); close each card by the builder's one call (the guide's Derived/Test/ToyasCard.lean, 'card_holds'). Laid BY PROGRAM, IN A SANDBOX (cutbox-door.mjs). By AI agents, Wed Nov 11 2026. No macro, syntax, notation, axiom, sorry.
-/
import Derived.Test.YtebeimjgppidcacDoorRows
import GoSem.ClaimSeven
namespace Go.Proofs.YtebeimjgppidcacDoor
namespace Rows

/-- THE TIED CARD OF 'semblancelaw2.ActSets'. -/
def actSetsCard : Claim7 := { stood := { row := actSetsRow, standIns := [], harness := (true, "7969290104338bdcf682a8a1418e994cb126fed1e4ed2d904a064171e68ee319"), looks := true }, kinds := [], alts := [], laidByText := true, laidKinds := [.sentinel, .sentinel, .sentinel, .sentinel, .sentinel, .sentinel], laidTests := true, laidLooks := .later }
def ActSetsCardSaid : Prop := Claim7.holds Tryd.pinned (.plain (OpenSpec.ofChange actSetsSpec)) actSetsCard

/-- THE TIED CARD OF 'semblancelaw2.ActNone'. -/
def actNoneCard : Claim7 := { stood := { row := actNoneRow, standIns := [], harness := (true, "7969290104338bdcf682a8a1418e994cb126fed1e4ed2d904a064171e68ee319"), looks := true }, kinds := [], alts := [], laidByText := true, laidKinds := [.sentinel, .sentinel, .sentinel, .sentinel, .sentinel, .sentinel, .sentinel, .sentinel, .sentinel, .sentinel, .sentinel, .sentinel, .sentinel, .sentinel, .sentinel, .sentinel, .sentinel, .sentinel, .sentinel], laidTests := true, laidLooks := .later }
def ActNoneCardSaid : Prop := Claim7.holds Tryd.pinned (.plain (OpenSpec.ofChange actNoneSpec)) actNoneCard

/-- THE TIED CARD OF 'semblancelaw2.ActCo'. -/
def actCoCard : Claim7 := { stood := { row := actCoRow, standIns := [], harness := (true, "7969290104338bdcf682a8a1418e994cb126fed1e4ed2d904a064171e68ee319"), looks := true }, kinds := [], alts := [], laidByText := true, laidKinds := [.sentinel, .sentinel, .sentinel, .sentinel, .sentinel, .sentinel], laidTests := true, laidLooks := .later }
def ActCoCardSaid : Prop := Claim7.holds Tryd.pinned (.plain (OpenSpec.ofChange actCoSpec)) actCoCard

/-- THE TIED CARD OF 'semblancelaw2.ActTexts'. -/
def actTextsCard : Claim7 := { stood := { row := actTextsRow, standIns := [], harness := (true, "7969290104338bdcf682a8a1418e994cb126fed1e4ed2d904a064171e68ee319"), looks := true }, kinds := [], alts := [], laidByText := true, laidKinds := [.sentinel, .sentinel, .sentinel, .sentinel, .sentinel, .sentinel, .sentinel, .sentinel, .sentinel, .sentinel, .sentinel, .sentinel, .sentinel, .sentinel, .sentinel, .sentinel, .sentinel, .sentinel, .sentinel], laidTests := true, laidLooks := .later }
def ActTextsCardSaid : Prop := Claim7.holds Tryd.pinned (.plain (OpenSpec.ofChange actTextsSpec)) actTextsCard

/-- THE TIED CARD OF 'semblancelaw2.ActRenames'. -/
def actRenamesCard : Claim7 := { stood := { row := actRenamesRow, standIns := [], harness := (true, "7969290104338bdcf682a8a1418e994cb126fed1e4ed2d904a064171e68ee319"), looks := true }, kinds := [], alts := [], laidByText := true, laidKinds := [.sentinel, .sentinel, .sentinel, .sentinel, .sentinel, .sentinel], laidTests := true, laidLooks := .later }
def ActRenamesCardSaid : Prop := Claim7.holds Tryd.pinned (.plain (OpenSpec.ofChange actRenamesSpec)) actRenamesCard

/-- THE TIED CARD OF 'semblancelaw2.ActOnce'. -/
def actOnceCard : Claim7 := { stood := { row := actOnceRow, standIns := [], harness := (true, "7969290104338bdcf682a8a1418e994cb126fed1e4ed2d904a064171e68ee319"), looks := true }, kinds := [], alts := [], laidByText := true, laidKinds := [.sentinel, .sentinel, .sentinel, .sentinel, .sentinel, .sentinel], laidTests := true, laidLooks := .later }
def ActOnceCardSaid : Prop := Claim7.holds Tryd.pinned (.plain (OpenSpec.ofChange actOnceSpec)) actOnceCard

/-- THE SECOND FORM's CARD OF 'semblancelaw2.ActSets'. -/
def actSetsUptoCard : Claim7 := { stood := { row := actSetsUptoRow, standIns := [], harness := (true, "7969290104338bdcf682a8a1418e994cb126fed1e4ed2d904a064171e68ee319"), looks := true }, kinds := [], alts := [], laidByText := true, laidKinds := [.sentinel, .sentinel, .sentinel, .sentinel, .sentinel, .sentinel], laidTests := true, laidLooks := .later }
def ActSetsUptoCardSaid : Prop := Claim7.holds Tryd.pinned (.plain (OpenSpec.upto actSetsSpec)) actSetsUptoCard

/-- THE SECOND FORM's CARD OF 'semblancelaw2.ActNone'. -/
def actNoneUptoCard : Claim7 := { stood := { row := actNoneUptoRow, standIns := [], harness := (true, "7969290104338bdcf682a8a1418e994cb126fed1e4ed2d904a064171e68ee319"), looks := true }, kinds := [], alts := [], laidByText := true, laidKinds := [.sentinel, .sentinel, .sentinel, .sentinel, .sentinel, .sentinel, .sentinel, .sentinel, .sentinel, .sentinel, .sentinel, .sentinel, .sentinel, .sentinel, .sentinel, .sentinel, .sentinel, .sentinel, .sentinel], laidTests := true, laidLooks := .later }
def ActNoneUptoCardSaid : Prop := Claim7.holds Tryd.pinned (.plain (OpenSpec.upto actNoneSpec)) actNoneUptoCard

/-- THE SECOND FORM's CARD OF 'semblancelaw2.ActCo'. -/
def actCoUptoCard : Claim7 := { stood := { row := actCoUptoRow, standIns := [], harness := (true, "7969290104338bdcf682a8a1418e994cb126fed1e4ed2d904a064171e68ee319"), looks := true }, kinds := [], alts := [], laidByText := true, laidKinds := [.sentinel, .sentinel, .sentinel, .sentinel, .sentinel, .sentinel], laidTests := true, laidLooks := .later }
def ActCoUptoCardSaid : Prop := Claim7.holds Tryd.pinned (.plain (OpenSpec.upto actCoSpec)) actCoUptoCard

/-- THE SECOND FORM's CARD OF 'semblancelaw2.ActTexts'. -/
def actTextsUptoCard : Claim7 := { stood := { row := actTextsUptoRow, standIns := [], harness := (true, "7969290104338bdcf682a8a1418e994cb126fed1e4ed2d904a064171e68ee319"), looks := true }, kinds := [], alts := [], laidByText := true, laidKinds := [.sentinel, .sentinel, .sentinel, .sentinel, .sentinel, .sentinel, .sentinel, .sentinel, .sentinel, .sentinel, .sentinel, .sentinel, .sentinel, .sentinel, .sentinel, .sentinel, .sentinel, .sentinel, .sentinel], laidTests := true, laidLooks := .later }
def ActTextsUptoCardSaid : Prop := Claim7.holds Tryd.pinned (.plain (OpenSpec.upto actTextsSpec)) actTextsUptoCard

/-- THE SECOND FORM's CARD OF 'semblancelaw2.ActRenames'. -/
def actRenamesUptoCard : Claim7 := { stood := { row := actRenamesUptoRow, standIns := [], harness := (true, "7969290104338bdcf682a8a1418e994cb126fed1e4ed2d904a064171e68ee319"), looks := true }, kinds := [], alts := [], laidByText := true, laidKinds := [.sentinel, .sentinel, .sentinel, .sentinel, .sentinel, .sentinel], laidTests := true, laidLooks := .later }
def ActRenamesUptoCardSaid : Prop := Claim7.holds Tryd.pinned (.plain (OpenSpec.upto actRenamesSpec)) actRenamesUptoCard

/-- THE SECOND FORM's CARD OF 'semblancelaw2.ActOnce'. -/
def actOnceUptoCard : Claim7 := { stood := { row := actOnceUptoRow, standIns := [], harness := (true, "7969290104338bdcf682a8a1418e994cb126fed1e4ed2d904a064171e68ee319"), looks := true }, kinds := [], alts := [], laidByText := true, laidKinds := [.sentinel, .sentinel, .sentinel, .sentinel, .sentinel, .sentinel], laidTests := true, laidLooks := .later }
def ActOnceUptoCardSaid : Prop := Claim7.holds Tryd.pinned (.plain (OpenSpec.upto actOnceSpec)) actOnceUptoCard
end Rows
end Go.Proofs.YtebeimjgppidcacDoor
