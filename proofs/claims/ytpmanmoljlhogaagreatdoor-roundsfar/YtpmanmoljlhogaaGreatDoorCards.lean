/-
  DERIVED. GIVEN WITH THE SEED: THE CARDS: each row of YtpmanmoljlhogaaGreatDoorRows.lean that lists a variable, with what it lists TIED to the program's text (the seventh form; the later family's looks); each row that meets fmt, with fmt's text TOLD by the authors' own Lean function (tested against real Go, not proved from fmt's source: count such statements apart). THE CARD IS WHAT COUNTS. Prove the row's statement (the work); the ties are given (YtpmanmoljlhogaaGreatDoorTie.lean); close each card by the builder's one call (the guide's Derived/Test/ToyasCard.lean, 'card_holds'). Laid BY PROGRAM, IN A SANDBOX (cutbox-door.mjs). By AI agents, Wed Nov 11 2026. No macro, syntax, notation, axiom, sorry.
-/
import Derived.Test.YtpmanmoljlhogaaGreatDoorRows
import GoSem.ClaimSeven
namespace Go.Proofs.YtpmanmoljlhogaaGreatDoor
namespace Rows

/-- THE TIED CARD OF 'semblancelaw10.RoundsAll'. -/
def roundsAllCard : Claim7 := { stood := { row := roundsAllRow, standIns := [], harness := (true, "df22e817f8478bc8fec03dc6545952324b63507d2cd0de261651f88a1ae2220f"), looks := true }, kinds := [], alts := [], laidByText := true, laidKinds := [.data, .data, .data, .sentinel, .sentinel, .sentinel, .sentinel, .sentinel, .sentinel, .sentinel, .sentinel, .sentinel, .sentinel, .sentinel, .sentinel, .sentinel, .sentinel, .sentinel, .sentinel, .sentinel, .sentinel, .sentinel], laidTests := true, laidLooks := .later }
def RoundsAllCardSaid : Prop := Claim7.holds Tryz.pinned (.plain (OpenSpec.ofChange roundsAllSpec)) roundsAllCard

/-- THE TIED CARD OF 'semblancelaw10.RoundsRank'. -/
def roundsRankCard : Claim7 := { stood := { row := roundsRankRow, standIns := [], harness := (true, "df22e817f8478bc8fec03dc6545952324b63507d2cd0de261651f88a1ae2220f"), looks := true }, kinds := [], alts := [], laidByText := true, laidKinds := [.data, .data, .data, .sentinel, .sentinel, .sentinel, .sentinel, .sentinel, .sentinel, .sentinel, .sentinel, .sentinel, .sentinel, .sentinel, .sentinel, .sentinel, .sentinel, .sentinel, .sentinel, .sentinel, .sentinel, .sentinel], laidTests := true, laidLooks := .later }
def RoundsRankCardSaid : Prop := Claim7.holds Tryz.pinned (.plain (OpenSpec.ofChange roundsRankSpec)) roundsRankCard

/-- THE TIED CARD OF 'semblancelaw10.RoundsRanks'. -/
def roundsRanksCard : Claim7 := { stood := { row := roundsRanksRow, standIns := [], harness := (true, "df22e817f8478bc8fec03dc6545952324b63507d2cd0de261651f88a1ae2220f"), looks := true }, kinds := [], alts := [], laidByText := true, laidKinds := [.data, .data, .data, .sentinel, .sentinel, .sentinel, .sentinel, .sentinel, .sentinel, .sentinel, .sentinel, .sentinel, .sentinel, .sentinel, .sentinel, .sentinel, .sentinel, .sentinel, .sentinel, .sentinel, .sentinel, .sentinel], laidTests := true, laidLooks := .later }
def RoundsRanksCardSaid : Prop := Claim7.holds Tryz.pinned (.plain (OpenSpec.ofChange roundsRanksSpec)) roundsRanksCard

/-- THE TIED CARD OF 'semblancelaw10.RoundsLast'. -/
def roundsLastCard : Claim7 := { stood := { row := roundsLastRow, standIns := [], harness := (true, "df22e817f8478bc8fec03dc6545952324b63507d2cd0de261651f88a1ae2220f"), looks := true }, kinds := [], alts := [], laidByText := true, laidKinds := [.data, .data, .data, .handle, .sentinel, .sentinel, .sentinel, .sentinel, .sentinel, .sentinel, .sentinel, .sentinel, .sentinel, .sentinel, .sentinel, .sentinel, .sentinel, .sentinel, .sentinel, .sentinel, .sentinel, .sentinel, .sentinel], laidTests := true, laidLooks := .later }
def RoundsLastCardSaid : Prop := Claim7.holds Tryz.pinned (.plain (OpenSpec.ofChange roundsLastSpec)) roundsLastCard

/-- THE TIED CARD OF 'semblancelaw10.RoundsFar'. -/
def roundsFarCard : Claim7 := { stood := { row := roundsFarRow, standIns := [], harness := (true, "df22e817f8478bc8fec03dc6545952324b63507d2cd0de261651f88a1ae2220f"), looks := true }, kinds := [], alts := [], laidByText := true, laidKinds := [.data, .data, .data, .sentinel, .sentinel, .sentinel, .sentinel], laidTests := true, laidLooks := .later }
def RoundsFarCardSaid : Prop := Claim7.holds Tryz.pinned (.plain (OpenSpec.ofChange roundsFarSpec)) roundsFarCard

/-- THE SECOND FORM's CARD OF 'semblancelaw10.RoundsAll'. -/
def roundsAllUptoCard : Claim7 := { stood := { row := roundsAllUptoRow, standIns := [], harness := (true, "df22e817f8478bc8fec03dc6545952324b63507d2cd0de261651f88a1ae2220f"), looks := true }, kinds := [], alts := [], laidByText := true, laidKinds := [.data, .data, .data, .sentinel, .sentinel, .sentinel, .sentinel, .sentinel, .sentinel, .sentinel, .sentinel, .sentinel, .sentinel, .sentinel, .sentinel, .sentinel, .sentinel, .sentinel, .sentinel, .sentinel, .sentinel, .sentinel], laidTests := true, laidLooks := .later }
def RoundsAllUptoCardSaid : Prop := Claim7.holds Tryz.pinned (.plain (OpenSpec.upto roundsAllSpec)) roundsAllUptoCard

/-- THE SECOND FORM's CARD OF 'semblancelaw10.RoundsRank'. -/
def roundsRankUptoCard : Claim7 := { stood := { row := roundsRankUptoRow, standIns := [], harness := (true, "df22e817f8478bc8fec03dc6545952324b63507d2cd0de261651f88a1ae2220f"), looks := true }, kinds := [], alts := [], laidByText := true, laidKinds := [.data, .data, .data, .sentinel, .sentinel, .sentinel, .sentinel, .sentinel, .sentinel, .sentinel, .sentinel, .sentinel, .sentinel, .sentinel, .sentinel, .sentinel, .sentinel, .sentinel, .sentinel, .sentinel, .sentinel, .sentinel], laidTests := true, laidLooks := .later }
def RoundsRankUptoCardSaid : Prop := Claim7.holds Tryz.pinned (.plain (OpenSpec.upto roundsRankSpec)) roundsRankUptoCard

/-- THE SECOND FORM's CARD OF 'semblancelaw10.RoundsRanks'. -/
def roundsRanksUptoCard : Claim7 := { stood := { row := roundsRanksUptoRow, standIns := [], harness := (true, "df22e817f8478bc8fec03dc6545952324b63507d2cd0de261651f88a1ae2220f"), looks := true }, kinds := [], alts := [], laidByText := true, laidKinds := [.data, .data, .data, .sentinel, .sentinel, .sentinel, .sentinel, .sentinel, .sentinel, .sentinel, .sentinel, .sentinel, .sentinel, .sentinel, .sentinel, .sentinel, .sentinel, .sentinel, .sentinel, .sentinel, .sentinel, .sentinel], laidTests := true, laidLooks := .later }
def RoundsRanksUptoCardSaid : Prop := Claim7.holds Tryz.pinned (.plain (OpenSpec.upto roundsRanksSpec)) roundsRanksUptoCard

/-- THE SECOND FORM's CARD OF 'semblancelaw10.RoundsLast'. -/
def roundsLastUptoCard : Claim7 := { stood := { row := roundsLastUptoRow, standIns := [], harness := (true, "df22e817f8478bc8fec03dc6545952324b63507d2cd0de261651f88a1ae2220f"), looks := true }, kinds := [], alts := [], laidByText := true, laidKinds := [.data, .data, .data, .handle, .sentinel, .sentinel, .sentinel, .sentinel, .sentinel, .sentinel, .sentinel, .sentinel, .sentinel, .sentinel, .sentinel, .sentinel, .sentinel, .sentinel, .sentinel, .sentinel, .sentinel, .sentinel, .sentinel], laidTests := true, laidLooks := .later }
def RoundsLastUptoCardSaid : Prop := Claim7.holds Tryz.pinned (.plain (OpenSpec.upto roundsLastSpec)) roundsLastUptoCard

/-- THE SECOND FORM's CARD OF 'semblancelaw10.RoundsFar'. -/
def roundsFarUptoCard : Claim7 := { stood := { row := roundsFarUptoRow, standIns := [], harness := (true, "df22e817f8478bc8fec03dc6545952324b63507d2cd0de261651f88a1ae2220f"), looks := true }, kinds := [], alts := [], laidByText := true, laidKinds := [.data, .data, .data, .sentinel, .sentinel, .sentinel, .sentinel], laidTests := true, laidLooks := .later }
def RoundsFarUptoCardSaid : Prop := Claim7.holds Tryz.pinned (.plain (OpenSpec.upto roundsFarSpec)) roundsFarUptoCard
end Rows
end Go.Proofs.YtpmanmoljlhogaaGreatDoor
