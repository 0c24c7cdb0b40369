/-
  DERIVED. GIVEN WITH THE SEED: THE CARDS: each row of YthkidoplmbekbaaDoorRows.lean that lists a variable, with what it lists TIED to the program's text (the seventh form; the later family's looks); each row that meets fmt, with fmt's text TOLD by the authors' own Lean function (tested against real Go, not proved from fmt's source: count such statements apart). THE CARD IS WHAT COUNTS. Prove the row's statement (the work); the ties are given (YthkidoplmbekbaaDoorTie.lean); close each card by the builder's one call (the guide's Derived/Test/ToyasCard.lean, 'card_holds'). Laid BY PROGRAM, IN A SANDBOX (cutbox-door.mjs). By AI agents, Wed Nov 11 2026. No macro, syntax, notation, axiom, sorry.
-/
import Derived.Test.YthkidoplmbekbaaDoorRows
import GoSem.ClaimSeven
namespace Go.Proofs.YthkidoplmbekbaaDoor
namespace Rows

/-- THE TIED CARD OF 'semblancelaw7.SystemChecks'. -/
def systemChecksCard : Claim7 := { stood := { row := systemChecksRow, standIns := [], harness := (true, "07f58cf1fd001638b76bf594a174c218fda5b8c285cc28c52b01e020a57f6c8c"), looks := true }, kinds := [], alts := [], laidByText := true, laidKinds := [.sentinel, .sentinel, .sentinel, .sentinel, .sentinel, .sentinel, .sentinel, .sentinel, .sentinel, .sentinel, .sentinel, .sentinel, .sentinel, .sentinel, .sentinel, .sentinel, .sentinel, .sentinel, .sentinel], laidTests := true, laidLooks := .later }
def SystemChecksCardSaid : Prop := Claim7.holds Tryd.pinned (.plain (OpenSpec.ofChange systemChecksSpec)) systemChecksCard

/-- THE TIED CARD OF 'semblancelaw7.SystemForms'. -/
def systemFormsCard : Claim7 := { stood := { row := systemFormsRow, standIns := [], harness := (true, "07f58cf1fd001638b76bf594a174c218fda5b8c285cc28c52b01e020a57f6c8c"), looks := true }, kinds := [], alts := [], laidByText := true, laidKinds := [.sentinel], laidTests := true, laidLooks := .later }
def SystemFormsCardSaid : Prop := Claim7.holds Tryd.pinned (.plain (OpenSpec.ofChange systemFormsSpec)) systemFormsCard

/-- THE TIED CARD OF 'semblancelaw7.SystemOneForm'. -/
def systemOneFormCard : Claim7 := { stood := { row := systemOneFormRow, standIns := [], harness := (true, "07f58cf1fd001638b76bf594a174c218fda5b8c285cc28c52b01e020a57f6c8c"), looks := true }, kinds := [], alts := [], laidByText := true, laidKinds := [.sentinel], laidTests := true, laidLooks := .later }
def SystemOneFormCardSaid : Prop := Claim7.holds Tryd.pinned (.plain (OpenSpec.ofChange systemOneFormSpec)) systemOneFormCard

/-- THE SECOND FORM's CARD OF 'semblancelaw7.SystemChecks'. -/
def systemChecksUptoCard : Claim7 := { stood := { row := systemChecksUptoRow, standIns := [], harness := (true, "07f58cf1fd001638b76bf594a174c218fda5b8c285cc28c52b01e020a57f6c8c"), looks := true }, kinds := [], alts := [], laidByText := true, laidKinds := [.sentinel, .sentinel, .sentinel, .sentinel, .sentinel, .sentinel, .sentinel, .sentinel, .sentinel, .sentinel, .sentinel, .sentinel, .sentinel, .sentinel, .sentinel, .sentinel, .sentinel, .sentinel, .sentinel], laidTests := true, laidLooks := .later }
def SystemChecksUptoCardSaid : Prop := Claim7.holds Tryd.pinned (.plain (OpenSpec.upto systemChecksSpec)) systemChecksUptoCard

/-- THE SECOND FORM's CARD OF 'semblancelaw7.SystemForms'. -/
def systemFormsUptoCard : Claim7 := { stood := { row := systemFormsUptoRow, standIns := [], harness := (true, "07f58cf1fd001638b76bf594a174c218fda5b8c285cc28c52b01e020a57f6c8c"), looks := true }, kinds := [], alts := [], laidByText := true, laidKinds := [.sentinel], laidTests := true, laidLooks := .later }
def SystemFormsUptoCardSaid : Prop := Claim7.holds Tryd.pinned (.plain (OpenSpec.upto systemFormsSpec)) systemFormsUptoCard

/-- THE SECOND FORM's CARD OF 'semblancelaw7.SystemOneForm'. -/
def systemOneFormUptoCard : Claim7 := { stood := { row := systemOneFormUptoRow, standIns := [], harness := (true, "07f58cf1fd001638b76bf594a174c218fda5b8c285cc28c52b01e020a57f6c8c"), looks := true }, kinds := [], alts := [], laidByText := true, laidKinds := [.sentinel], laidTests := true, laidLooks := .later }
def SystemOneFormUptoCardSaid : Prop := Claim7.holds Tryd.pinned (.plain (OpenSpec.upto systemOneFormSpec)) systemOneFormUptoCard
end Rows
end Go.Proofs.YthkidoplmbekbaaDoor
