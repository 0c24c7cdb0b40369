/-
  DERIVED. GIVEN WITH THE SEED: THE CARDS: each row of YthcpliinddjkhaaGreatDoorRows.lean that lists a variable, with what it lists TIED to the program's text (the seventh form; the later family's looks); each row that meets fmt, with fmt's text TOLD by the authors' own Lean function (tested against real Go, not proved from fmt's source: count such statements apart). THE CARD IS WHAT COUNTS. Prove the row's statement (the work); the ties are given (YthcpliinddjkhaaGreatDoorTie.lean); close each card by the builder's one call (the guide's Derived/Test/ToyasCard.lean, 'card_holds'). Laid BY PROGRAM, IN A SANDBOX (cutbox-door.mjs). By AI agents, Wed Nov 11 2026. No macro, syntax, notation, axiom, sorry.
-/
import Derived.Test.YthcpliinddjkhaaGreatDoorRows
import GoSem.ClaimSeven
namespace Go.Proofs.YthcpliinddjkhaaGreatDoor
namespace Rows

/-- THE TIED CARD OF 'semblancelaw13.WeakSteps'. -/
def weakStepsCard : Claim7 := { stood := { row := weakStepsRow, standIns := [], harness := (true, "1a9c35635290eb15f54270186ac99abff297cdb86bec3f99189a1ab9b8ba7bf2"), looks := true }, kinds := [], alts := [], laidByText := true, laidKinds := [.data, .handle, .sentinel, .sentinel, .sentinel, .sentinel, .sentinel, .sentinel, .sentinel, .sentinel, .sentinel, .sentinel, .sentinel, .sentinel, .sentinel, .sentinel, .sentinel, .sentinel, .sentinel, .sentinel, .sentinel], laidTests := true, laidLooks := .later }
def WeakStepsCardSaid : Prop := Claim7.holds Tryz.pinned (.plain (OpenSpec.ofChange weakStepsSpec)) weakStepsCard

/-- THE TIED CARD OF 'semblancelaw13.WeakClasses'. -/
def weakClassesCard : Claim7 := { stood := { row := weakClassesRow, standIns := [], harness := (true, "1a9c35635290eb15f54270186ac99abff297cdb86bec3f99189a1ab9b8ba7bf2"), looks := true }, kinds := [], alts := [], laidByText := true, laidKinds := [.data, .handle, .sentinel, .sentinel, .sentinel, .sentinel, .sentinel, .sentinel, .sentinel, .sentinel, .sentinel, .sentinel, .sentinel, .sentinel, .sentinel, .sentinel, .sentinel, .sentinel, .sentinel, .sentinel, .sentinel], laidTests := true, laidLooks := .later }
def WeakClassesCardSaid : Prop := Claim7.holds Tryz.pinned (.plain (OpenSpec.ofChange weakClassesSpec)) weakClassesCard

/-- THE TIED CARD OF 'semblancelaw13.WeakMany'. -/
def weakManyCard : Claim7 := { stood := { row := weakManyRow, standIns := [], harness := (true, "1a9c35635290eb15f54270186ac99abff297cdb86bec3f99189a1ab9b8ba7bf2"), looks := true }, kinds := [], alts := [], laidByText := true, laidKinds := [.data, .handle, .sentinel, .sentinel, .sentinel, .sentinel, .sentinel, .sentinel, .sentinel, .sentinel, .sentinel, .sentinel, .sentinel, .sentinel, .sentinel, .sentinel, .sentinel, .sentinel, .sentinel, .sentinel, .sentinel], laidTests := true, laidLooks := .later }
def WeakManyCardSaid : Prop := Claim7.holds Tryz.pinned (.plain (OpenSpec.ofChange weakManySpec)) weakManyCard

/-- THE TIED CARD OF 'semblancelaw13.WeakStrong'. -/
def weakStrongCard : Claim7 := { stood := { row := weakStrongRow, standIns := [], harness := (true, "1a9c35635290eb15f54270186ac99abff297cdb86bec3f99189a1ab9b8ba7bf2"), looks := true }, kinds := [], alts := [], laidByText := true, laidKinds := [.data, .handle, .sentinel, .sentinel, .sentinel, .sentinel, .sentinel], laidTests := true, laidLooks := .later }
def WeakStrongCardSaid : Prop := Claim7.holds Tryz.pinned (.plain (OpenSpec.ofChange weakStrongSpec)) weakStrongCard

/-- THE TIED CARD OF 'semblancelaw13.WeakSilence'. -/
def weakSilenceCard : Claim7 := { stood := { row := weakSilenceRow, standIns := [], harness := (true, "1a9c35635290eb15f54270186ac99abff297cdb86bec3f99189a1ab9b8ba7bf2"), looks := true }, kinds := [], alts := [], laidByText := true, laidKinds := [.data, .handle, .sentinel, .sentinel, .sentinel, .sentinel, .sentinel], laidTests := true, laidLooks := .later }
def WeakSilenceCardSaid : Prop := Claim7.holds Tryz.pinned (.plain (OpenSpec.ofChange weakSilenceSpec)) weakSilenceCard

/-- THE SECOND FORM's CARD OF 'semblancelaw13.WeakSteps'. -/
def weakStepsUptoCard : Claim7 := { stood := { row := weakStepsUptoRow, standIns := [], harness := (true, "1a9c35635290eb15f54270186ac99abff297cdb86bec3f99189a1ab9b8ba7bf2"), looks := true }, kinds := [], alts := [], laidByText := true, laidKinds := [.data, .handle, .sentinel, .sentinel, .sentinel, .sentinel, .sentinel, .sentinel, .sentinel, .sentinel, .sentinel, .sentinel, .sentinel, .sentinel, .sentinel, .sentinel, .sentinel, .sentinel, .sentinel, .sentinel, .sentinel], laidTests := true, laidLooks := .later }
def WeakStepsUptoCardSaid : Prop := Claim7.holds Tryz.pinned (.plain (OpenSpec.upto weakStepsSpec)) weakStepsUptoCard

/-- THE SECOND FORM's CARD OF 'semblancelaw13.WeakClasses'. -/
def weakClassesUptoCard : Claim7 := { stood := { row := weakClassesUptoRow, standIns := [], harness := (true, "1a9c35635290eb15f54270186ac99abff297cdb86bec3f99189a1ab9b8ba7bf2"), looks := true }, kinds := [], alts := [], laidByText := true, laidKinds := [.data, .handle, .sentinel, .sentinel, .sentinel, .sentinel, .sentinel, .sentinel, .sentinel, .sentinel, .sentinel, .sentinel, .sentinel, .sentinel, .sentinel, .sentinel, .sentinel, .sentinel, .sentinel, .sentinel, .sentinel], laidTests := true, laidLooks := .later }
def WeakClassesUptoCardSaid : Prop := Claim7.holds Tryz.pinned (.plain (OpenSpec.upto weakClassesSpec)) weakClassesUptoCard

/-- THE SECOND FORM's CARD OF 'semblancelaw13.WeakMany'. -/
def weakManyUptoCard : Claim7 := { stood := { row := weakManyUptoRow, standIns := [], harness := (true, "1a9c35635290eb15f54270186ac99abff297cdb86bec3f99189a1ab9b8ba7bf2"), looks := true }, kinds := [], alts := [], laidByText := true, laidKinds := [.data, .handle, .sentinel, .sentinel, .sentinel, .sentinel, .sentinel, .sentinel, .sentinel, .sentinel, .sentinel, .sentinel, .sentinel, .sentinel, .sentinel, .sentinel, .sentinel, .sentinel, .sentinel, .sentinel, .sentinel], laidTests := true, laidLooks := .later }
def WeakManyUptoCardSaid : Prop := Claim7.holds Tryz.pinned (.plain (OpenSpec.upto weakManySpec)) weakManyUptoCard

/-- THE SECOND FORM's CARD OF 'semblancelaw13.WeakStrong'. -/
def weakStrongUptoCard : Claim7 := { stood := { row := weakStrongUptoRow, standIns := [], harness := (true, "1a9c35635290eb15f54270186ac99abff297cdb86bec3f99189a1ab9b8ba7bf2"), looks := true }, kinds := [], alts := [], laidByText := true, laidKinds := [.data, .handle, .sentinel, .sentinel, .sentinel, .sentinel, .sentinel], laidTests := true, laidLooks := .later }
def WeakStrongUptoCardSaid : Prop := Claim7.holds Tryz.pinned (.plain (OpenSpec.upto weakStrongSpec)) weakStrongUptoCard

/-- THE SECOND FORM's CARD OF 'semblancelaw13.WeakSilence'. -/
def weakSilenceUptoCard : Claim7 := { stood := { row := weakSilenceUptoRow, standIns := [], harness := (true, "1a9c35635290eb15f54270186ac99abff297cdb86bec3f99189a1ab9b8ba7bf2"), looks := true }, kinds := [], alts := [], laidByText := true, laidKinds := [.data, .handle, .sentinel, .sentinel, .sentinel, .sentinel, .sentinel], laidTests := true, laidLooks := .later }
def WeakSilenceUptoCardSaid : Prop := Claim7.holds Tryz.pinned (.plain (OpenSpec.upto weakSilenceSpec)) weakSilenceUptoCard
end Rows
end Go.Proofs.YthcpliinddjkhaaGreatDoor
