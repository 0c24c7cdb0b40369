/-
  NARROWER THAN 'FOR EVERY INPUT', by the rows' own cells (each row's printed sentence says how): CyclesNone: laid · CyclesEdges: laid.
  DERIVED. THE GIVEN ROWS OF THIS SEAT. 2 by the template 'for every input the law returns true; each argument reads behind the call as it read before'; 0 by the template 'total and deterministic' (their statements: YtplofbabfkkimaaDoorTotals.lean).
  GIVEN WITH THE SEED: the statements are not yours to turn. If you find one false, say at which input.
  Laid BY PROGRAM, IN A SANDBOX (cutbox-rows.mjs): the forced cells as the released guide's own fill.sh prints them over the translation 1122e8061751fc89… (all of the seat's roots in one cut). By AI agents, Wed Nov 11 2026. No macro, syntax, notation, axiom, sorry.
-/
import Derived.Test.YtplofbabfkkimaaDoorChecked
import GoSem.Claim
import GoSem.ClaimJoined
import GoSem.ClaimMapViews
import Derived.JoinedTies
import Derived.KernelRfl
namespace Go.Proofs.YtplofbabfkkimaaDoor
/- THE CELL 'sum', in the pinned program and in every row, IS THE sha256 OF THE DUMP (.gsa) THAT YtplofbabfkkimaaDoorProg.lean LOADS. Nothing in Lean hashes anything: it is a label: what it is worth is what the hold of that sum in a sandbox is worth. -/
noncomputable def Tryd.pinned : Pinned := { name := "ytplofbabfkkimaadoor", sum := "1122e8061751fc89cf519b9c7c9364a99f5b3edf446d477d332070df9f928359", checked := Tryd.checked }
namespace Rows
def none {H : Type} : Left H := { results := [], args := [] }

/- WHAT THE LISTED PACKAGE-LEVEL VARIABLES READ AS WHEN THE CALL BEGINS. Each datum BY PROGRAM (the guide's laid-datum.mjs) off the statement by which the dump's own 'gosem.cut.vars' lays the variable. In a bare row this is a premise. The card (YtplofbabfkkimaaDoorCards.lean) ties it to the program's text. -/
def laid_semblance_api_ErrSystem {H : Type} : DataW H := .iface "*errors.errorString" (.ptr (.agg [.lit (.string [97, 32, 115, 121, 115, 116, 101, 109, 32, 116, 104, 97, 116, 32, 105, 115, 32, 110, 111, 110, 101])]))

/-- 'semblancelaw11.CyclesNone': WHATEVER THE INPUT: true; the input reads as it did. -/
def cyclesNoneSpec : ChangeSpec := { name := "cyclesNone", fn := fun _ => fun
  | [d] => { results := [.lit (.bool true)], args := [d] }
  | _ => none }
def cyclesNoneRow : OpenClaim := { program := "ytplofbabfkkimaadoor", sum := "1122e8061751fc89cf519b9c7c9364a99f5b3edf446d477d332070df9f928359", func := "semblance/semblancelaw11.CyclesNone", spec := "cyclesNone", inPlace := ["slices.overlaps[int]", "internal/reflectlite.TypeOf"], unfollowed := true, recurses := true, named := ["semblance/api.ErrSystem"], apart := false, laid := [("semblance/api.ErrSystem", laid_semblance_api_ErrSystem)] }
def CyclesNoneSaid : Prop := cyclesNoneRow.holds Tryd.pinned (OpenSpec.ofChange cyclesNoneSpec)

/-- ITS FALSE NEIGHBOUR: 'it returns false'. Refute it at one input. -/
def cyclesNoneWrong : ChangeSpec := { name := "cyclesNone", fn := fun _ => fun
  | [d] => { results := [.lit (.bool false)], args := [d] }
  | _ => none }
def CyclesNoneWrongFalsely : Prop := cyclesNoneRow.holds Tryd.pinned (OpenSpec.ofChange cyclesNoneWrong)

/-- 'semblancelaw11.CyclesEdges': WHATEVER THE INPUT: true; the input reads as it did. -/
def cyclesEdgesSpec : ChangeSpec := { name := "cyclesEdges", fn := fun _ => fun
  | [d] => { results := [.lit (.bool true)], args := [d] }
  | _ => none }
def cyclesEdgesRow : OpenClaim := { program := "ytplofbabfkkimaadoor", sum := "1122e8061751fc89cf519b9c7c9364a99f5b3edf446d477d332070df9f928359", func := "semblance/semblancelaw11.CyclesEdges", spec := "cyclesEdges", inPlace := ["slices.overlaps[int]"], unfollowed := true, recurses := true, named := ["semblance/api.ErrSystem"], apart := false, laid := [("semblance/api.ErrSystem", laid_semblance_api_ErrSystem)] }
def CyclesEdgesSaid : Prop := cyclesEdgesRow.holds Tryd.pinned (OpenSpec.ofChange cyclesEdgesSpec)

/-- ITS FALSE NEIGHBOUR: 'it returns false'. Refute it at one input. -/
def cyclesEdgesWrong : ChangeSpec := { name := "cyclesEdges", fn := fun _ => fun
  | [d] => { results := [.lit (.bool false)], args := [d] }
  | _ => none }
def CyclesEdgesWrongFalsely : Prop := cyclesEdgesRow.holds Tryd.pinned (OpenSpec.ofChange cyclesEdgesWrong)

/- THE SECOND FORM. 'bulk': how many values and letters a reading holds, each counted each time it is reached (what is shared counts as often as it is met; a slice's spare places count too). A statement '..UptoSaid' is the law's where the arguments, and the package variables that the reading takes, are together of bulk at most 1048576: NARROWER than '..Said'. Prove '..Said' where nothing that the law and all that it calls make is longer than what came in: it says more and counts as full. Else prove '..UptoSaid'. A law counts once. -/
mutual
def uptoBulk {H : Type} : DataW H → Nat
  | .lit (.string bytes) => bytes.length + 1
  | .lit _ => 1
  | .nil => 1
  | .ptr d => uptoBulk d + 1
  | .slice elems spare => uptoBulkAll elems + uptoBulkAll spare + 1
  | .agg parts => uptoBulkAll parts + 1
  | .iface _ d => uptoBulk d + 1
  | .map entries => uptoBulkEntries entries + 1
  | .held _ => 1
def uptoBulkAll {H : Type} : List (DataW H) → Nat
  | [] => 0
  | d :: r => uptoBulk d + uptoBulkAll r
def uptoBulkEntries {H : Type} : List (Lit × DataW H) → Nat
  | [] => 0
  | x :: r => uptoBulkEntry x + uptoBulkEntries r
def uptoBulkEntry {H : Type} : Lit × DataW H → Nat
  | (.string bytes, d) => bytes.length + uptoBulk d + 1
  | (_, d) => uptoBulk d + 1
 end
def uptoSmall : (H : Type) → List (DataW H) → Bool := fun _ ds => decide (uptoBulkAll ds ≤ 1048576)
def OpenSpec.upto (s : _root_.Go.ChangeSpec) : _root_.Go.OpenSpec := { _root_.Go.OpenSpec.ofChange s with cond := some uptoSmall }

/-- 'semblancelaw11.CyclesNone', WHERE WHAT IT READS IS OF BULK AT MOST 1048576: true; the input reads as it did. -/
def cyclesNoneUptoRow : OpenClaim := { program := "ytplofbabfkkimaadoor", sum := "1122e8061751fc89cf519b9c7c9364a99f5b3edf446d477d332070df9f928359", func := "semblance/semblancelaw11.CyclesNone", spec := "cyclesNone", inPlace := ["slices.overlaps[int]", "internal/reflectlite.TypeOf"], unfollowed := true, recurses := true, named := ["semblance/api.ErrSystem"], apart := false, laid := [("semblance/api.ErrSystem", laid_semblance_api_ErrSystem)], narrowed := true }
def CyclesNoneUptoSaid : Prop := cyclesNoneUptoRow.holds Tryd.pinned (OpenSpec.upto cyclesNoneSpec)

/-- 'semblancelaw11.CyclesEdges', WHERE WHAT IT READS IS OF BULK AT MOST 1048576: true; the input reads as it did. -/
def cyclesEdgesUptoRow : OpenClaim := { program := "ytplofbabfkkimaadoor", sum := "1122e8061751fc89cf519b9c7c9364a99f5b3edf446d477d332070df9f928359", func := "semblance/semblancelaw11.CyclesEdges", spec := "cyclesEdges", inPlace := ["slices.overlaps[int]"], unfollowed := true, recurses := true, named := ["semblance/api.ErrSystem"], apart := false, laid := [("semblance/api.ErrSystem", laid_semblance_api_ErrSystem)], narrowed := true }
def CyclesEdgesUptoSaid : Prop := cyclesEdgesUptoRow.holds Tryd.pinned (OpenSpec.upto cyclesEdgesSpec)

end Rows
end Go.Proofs.YtplofbabfkkimaaDoor
