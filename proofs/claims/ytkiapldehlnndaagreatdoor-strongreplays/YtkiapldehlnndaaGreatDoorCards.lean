/-
  DERIVED. GIVEN WITH THE SEED: THE CARDS: each row of YtkiapldehlnndaaGreatDoorRows.lean that lists a variable, with what it lists TIED to the program's text (the seventh form; the later family's looks); each row that meets fmt, with fmt's text TOLD by the authors' own Lean function (tested against real Go, not proved from fmt's source: count such statements apart). THE CARD IS WHAT COUNTS. Prove the row's statement (the work); the ties are given (YtkiapldehlnndaaGreatDoorTie.lean); close each card by the builder's one call (the guide's Derived/Test/ToyasCard.lean, 'card_holds'). Laid BY PROGRAM, IN A SANDBOX (cutbox-door.mjs). By AI agents, Wed Nov 11 2026. No macro, syntax, notation, axiom, sorry.
-/
import Derived.Test.YtkiapldehlnndaaGreatDoorRows
import GoSem.ClaimSeven
namespace Go.Proofs.YtkiapldehlnndaaGreatDoor
namespace Rows

/-- THE TIED CARD OF 'semblancelaw9.StrongClasses'. -/
def strongClassesCard : Claim7 := { stood := { row := strongClassesRow, standIns := [], harness := (true, "d8130db1c31a2fd9b47bd755700a11f9cc772d92825ce8d794b29493dc43842a"), looks := true }, kinds := [], alts := [], laidByText := true, laidKinds := [.handle, .sentinel, .sentinel, .sentinel, .sentinel, .sentinel, .sentinel, .sentinel, .sentinel, .sentinel, .sentinel, .sentinel, .sentinel, .sentinel, .sentinel, .sentinel, .sentinel, .sentinel, .sentinel, .sentinel], laidTests := true, laidLooks := .later }
def StrongClassesCardSaid : Prop := Claim7.holds Tryz.pinned (.plain (OpenSpec.ofChange strongClassesSpec)) strongClassesCard

/-- THE TIED CARD OF 'semblancelaw9.StrongReplays'. -/
def strongReplaysCard : Claim7 := { stood := { row := strongReplaysRow, standIns := [], harness := (true, "d8130db1c31a2fd9b47bd755700a11f9cc772d92825ce8d794b29493dc43842a"), looks := true }, kinds := [], alts := [], laidByText := true, laidKinds := [.handle, .sentinel, .sentinel, .sentinel, .sentinel, .sentinel, .sentinel, .sentinel, .sentinel, .sentinel, .sentinel, .sentinel, .sentinel, .sentinel, .sentinel, .sentinel, .sentinel, .sentinel, .sentinel, .sentinel], laidTests := true, laidLooks := .later }
def StrongReplaysCardSaid : Prop := Claim7.holds Tryz.pinned (.plain (OpenSpec.ofChange strongReplaysSpec)) strongReplaysCard

/-- THE TIED CARD OF 'semblancelaw9.StrongRuns'. -/
def strongRunsCard : Claim7 := { stood := { row := strongRunsRow, standIns := [], harness := (true, "d8130db1c31a2fd9b47bd755700a11f9cc772d92825ce8d794b29493dc43842a"), looks := true }, kinds := [], alts := [], laidByText := true, laidKinds := [.handle, .sentinel, .sentinel, .sentinel, .sentinel, .sentinel, .sentinel, .sentinel, .sentinel, .sentinel, .sentinel, .sentinel, .sentinel, .sentinel, .sentinel, .sentinel, .sentinel, .sentinel, .sentinel, .sentinel], laidTests := true, laidLooks := .later }
def StrongRunsCardSaid : Prop := Claim7.holds Tryz.pinned (.plain (OpenSpec.ofChange strongRunsSpec)) strongRunsCard

/-- THE TIED CARD OF 'semblancelaw9.StrongGauge'. -/
def strongGaugeCard : Claim7 := { stood := { row := strongGaugeRow, standIns := [], harness := (true, "d8130db1c31a2fd9b47bd755700a11f9cc772d92825ce8d794b29493dc43842a"), looks := true }, kinds := [], alts := [], laidByText := true, laidKinds := [.handle, .sentinel, .sentinel, .sentinel, .sentinel], laidTests := true, laidLooks := .later }
def StrongGaugeCardSaid : Prop := Claim7.holds Tryz.pinned (.plain (OpenSpec.ofChange strongGaugeSpec)) strongGaugeCard

/-- THE TIED CARD OF 'semblancelaw9.StrongRelates'. -/
def strongRelatesCard : Claim7 := { stood := { row := strongRelatesRow, standIns := [], harness := (true, "d8130db1c31a2fd9b47bd755700a11f9cc772d92825ce8d794b29493dc43842a"), looks := true }, kinds := [], alts := [], laidByText := true, laidKinds := [.handle, .sentinel, .sentinel, .sentinel, .sentinel], laidTests := true, laidLooks := .later }
def StrongRelatesCardSaid : Prop := Claim7.holds Tryz.pinned (.plain (OpenSpec.ofChange strongRelatesSpec)) strongRelatesCard

/-- THE TIED CARD OF 'semblancelaw9.StrongApart'. -/
def strongApartCard : Claim7 := { stood := { row := strongApartRow, standIns := [], harness := (true, "d8130db1c31a2fd9b47bd755700a11f9cc772d92825ce8d794b29493dc43842a"), looks := true }, kinds := [], alts := [], laidByText := true, laidKinds := [.handle, .sentinel, .sentinel, .sentinel, .sentinel], laidTests := true, laidLooks := .later }
def StrongApartCardSaid : Prop := Claim7.holds Tryz.pinned (.plain (OpenSpec.ofChange strongApartSpec)) strongApartCard

/-- THE SECOND FORM's CARD OF 'semblancelaw9.StrongClasses'. -/
def strongClassesUptoCard : Claim7 := { stood := { row := strongClassesUptoRow, standIns := [], harness := (true, "d8130db1c31a2fd9b47bd755700a11f9cc772d92825ce8d794b29493dc43842a"), looks := true }, kinds := [], alts := [], laidByText := true, laidKinds := [.handle, .sentinel, .sentinel, .sentinel, .sentinel, .sentinel, .sentinel, .sentinel, .sentinel, .sentinel, .sentinel, .sentinel, .sentinel, .sentinel, .sentinel, .sentinel, .sentinel, .sentinel, .sentinel, .sentinel], laidTests := true, laidLooks := .later }
def StrongClassesUptoCardSaid : Prop := Claim7.holds Tryz.pinned (.plain (OpenSpec.upto strongClassesSpec)) strongClassesUptoCard

/-- THE SECOND FORM's CARD OF 'semblancelaw9.StrongReplays'. -/
def strongReplaysUptoCard : Claim7 := { stood := { row := strongReplaysUptoRow, standIns := [], harness := (true, "d8130db1c31a2fd9b47bd755700a11f9cc772d92825ce8d794b29493dc43842a"), looks := true }, kinds := [], alts := [], laidByText := true, laidKinds := [.handle, .sentinel, .sentinel, .sentinel, .sentinel, .sentinel, .sentinel, .sentinel, .sentinel, .sentinel, .sentinel, .sentinel, .sentinel, .sentinel, .sentinel, .sentinel, .sentinel, .sentinel, .sentinel, .sentinel], laidTests := true, laidLooks := .later }
def StrongReplaysUptoCardSaid : Prop := Claim7.holds Tryz.pinned (.plain (OpenSpec.upto strongReplaysSpec)) strongReplaysUptoCard

/-- THE SECOND FORM's CARD OF 'semblancelaw9.StrongRuns'. -/
def strongRunsUptoCard : Claim7 := { stood := { row := strongRunsUptoRow, standIns := [], harness := (true, "d8130db1c31a2fd9b47bd755700a11f9cc772d92825ce8d794b29493dc43842a"), looks := true }, kinds := [], alts := [], laidByText := true, laidKinds := [.handle, .sentinel, .sentinel, .sentinel, .sentinel, .sentinel, .sentinel, .sentinel, .sentinel, .sentinel, .sentinel, .sentinel, .sentinel, .sentinel, .sentinel, .sentinel, .sentinel, .sentinel, .sentinel, .sentinel], laidTests := true, laidLooks := .later }
def StrongRunsUptoCardSaid : Prop := Claim7.holds Tryz.pinned (.plain (OpenSpec.upto strongRunsSpec)) strongRunsUptoCard

/-- THE SECOND FORM's CARD OF 'semblancelaw9.StrongGauge'. -/
def strongGaugeUptoCard : Claim7 := { stood := { row := strongGaugeUptoRow, standIns := [], harness := (true, "d8130db1c31a2fd9b47bd755700a11f9cc772d92825ce8d794b29493dc43842a"), looks := true }, kinds := [], alts := [], laidByText := true, laidKinds := [.handle, .sentinel, .sentinel, .sentinel, .sentinel], laidTests := true, laidLooks := .later }
def StrongGaugeUptoCardSaid : Prop := Claim7.holds Tryz.pinned (.plain (OpenSpec.upto strongGaugeSpec)) strongGaugeUptoCard

/-- THE SECOND FORM's CARD OF 'semblancelaw9.StrongRelates'. -/
def strongRelatesUptoCard : Claim7 := { stood := { row := strongRelatesUptoRow, standIns := [], harness := (true, "d8130db1c31a2fd9b47bd755700a11f9cc772d92825ce8d794b29493dc43842a"), looks := true }, kinds := [], alts := [], laidByText := true, laidKinds := [.handle, .sentinel, .sentinel, .sentinel, .sentinel], laidTests := true, laidLooks := .later }
def StrongRelatesUptoCardSaid : Prop := Claim7.holds Tryz.pinned (.plain (OpenSpec.upto strongRelatesSpec)) strongRelatesUptoCard

/-- THE SECOND FORM's CARD OF 'semblancelaw9.StrongApart'. -/
def strongApartUptoCard : Claim7 := { stood := { row := strongApartUptoRow, standIns := [], harness := (true, "d8130db1c31a2fd9b47bd755700a11f9cc772d92825ce8d794b29493dc43842a"), looks := true }, kinds := [], alts := [], laidByText := true, laidKinds := [.handle, .sentinel, .sentinel, .sentinel, .sentinel], laidTests := true, laidLooks := .later }
def StrongApartUptoCardSaid : Prop := Claim7.holds Tryz.pinned (.plain (OpenSpec.upto strongApartSpec)) strongApartUptoCard
end Rows
end Go.Proofs.YtkiapldehlnndaaGreatDoor
