/-
  NARROWER THAN 'FOR EVERY INPUT', by the rows' own cells (each row's printed sentence says how): StrongClasses: laid · StrongReplays: laid · StrongRuns: laid · StrongGauge: laid · StrongRelates: laid · StrongApart: laid.
  DERIVED. THE GIVEN ROWS OF THIS SEAT. 6 by the template 'for every input the law returns true; each argument reads behind the call as it read before'; 0 by the template 'total and deterministic' (their statements: YtkiapldehlnndaaGreatDoorTotals.lean).
  GIVEN WITH THE SEED: the statements are not yours to turn. If you find one false, say at which input.
  Laid BY PROGRAM, IN A SANDBOX (cutbox-rows.mjs): the forced cells as the released guide's own fill.sh prints them over the translation 39084ffb49b8d43e… (all of the seat's roots in one cut). By AI agents, Wed Nov 11 2026. No macro, syntax, notation, axiom, sorry.
-/
import Derived.Test.YtkiapldehlnndaaGreatDoorChecked
import GoSem.Claim
import GoSem.ClaimJoined
import GoSem.ClaimMapViews
import Derived.JoinedTies
import Derived.KernelRfl
namespace Go.Proofs.YtkiapldehlnndaaGreatDoor
/- THE CELL 'sum', in the pinned program and in every row, IS THE sha256 OF THE DUMP (.gsa) THAT YtkiapldehlnndaaGreatDoorProg.lean LOADS. Nothing in Lean hashes anything: it is a label: what it is worth is what the hold of that sum in a sandbox is worth. -/
noncomputable def Tryz.pinned : Pinned := { name := "ytkiapldehlnndaagreatdoor", sum := "39084ffb49b8d43ea7b4d4fd6c4297838667ac3b0c2c12d7d7fdfd6d3f28289a", checked := Tryz.checked }
namespace Rows
def none {H : Type} : Left H := { results := [], args := [] }

/- WHAT THE LISTED PACKAGE-LEVEL VARIABLES READ AS WHEN THE CALL BEGINS. Each datum BY PROGRAM (the guide's laid-datum.mjs) off the statement by which the dump's own 'gosem.cut.vars' lays the variable. In a bare row this is a premise. The card (YtkiapldehlnndaaGreatDoorCards.lean) ties it to the program's text. -/
def laid_errors_errorType {H : Type} : DataW H := .iface "internal/reflectlite.rtype" (.agg [.ptr (.lit (.string [101, 114, 114, 111, 114]))])
def laid_semblance_api_ErrArg {H : Type} : DataW H := .iface "*errors.errorString" (.ptr (.agg [.lit (.string [97, 110, 32, 97, 114, 103, 117, 109, 101, 110, 116, 32, 116, 104, 97, 116, 32, 99, 97, 110, 39, 116, 32, 98, 101])]))
def laid_semblance_api_ErrLong {H : Type} : DataW H := .iface "*errors.errorString" (.ptr (.agg [.lit (.string [116, 111, 111, 32, 108, 111, 110, 103, 44, 32, 111, 114, 32, 116, 111, 111, 32, 109, 97, 110, 121])]))
def laid_semblance_api_ErrIndex {H : Type} : DataW H := .iface "*errors.errorString" (.ptr (.agg [.lit (.string [97, 32, 110, 117, 109, 98, 101, 114, 32, 116, 104, 97, 116, 32, 105, 115, 32, 110, 111, 116, 32, 116, 104, 101, 114, 101])]))
def laid_semblance_api_ErrWord {H : Type} : DataW H := .iface "*errors.errorString" (.ptr (.agg [.lit (.string [97, 32, 99, 104, 97, 114, 97, 99, 116, 101, 114, 32, 116, 104, 97, 116, 32, 98, 101, 103, 105, 110, 115, 32, 110, 111, 32, 119, 111, 114, 100])]))
def laid_semblance_api_ErrSyntax {H : Type} : DataW H := .iface "*errors.errorString" (.ptr (.agg [.lit (.string [97, 32, 119, 111, 114, 100, 32, 116, 104, 97, 116, 32, 99, 97, 110, 39, 116, 32, 115, 116, 97, 110, 100, 32, 116, 104, 101, 114, 101])]))
def laid_semblance_api_ErrDeep {H : Type} : DataW H := .iface "*errors.errorString" (.ptr (.agg [.lit (.string [98, 114, 97, 99, 107, 101, 116, 115, 32, 116, 104, 97, 116, 32, 115, 116, 97, 110, 100, 32, 116, 111, 111, 32, 100, 101, 101, 112])]))
def laid_semblance_api_ErrTwice {H : Type} : DataW H := .iface "*errors.errorString" (.ptr (.agg [.lit (.string [115, 111, 109, 101, 116, 104, 105, 110, 103, 32, 116, 104, 97, 116, 32, 115, 116, 97, 110, 100, 115, 32, 116, 104, 101, 114, 101, 32, 97, 108, 114, 101, 97, 100, 121])]))
def laid_semblance_api_ErrUnknown {H : Type} : DataW H := .iface "*errors.errorString" (.ptr (.agg [.lit (.string [97, 32, 110, 97, 109, 101, 32, 116, 104, 97, 116, 32, 105, 115, 32, 110, 111, 116, 32, 116, 104, 101, 114, 101])]))
def laid_semblance_api_ErrSilent {H : Type} : DataW H := .iface "*errors.errorString" (.ptr (.agg [.lit (.string [116, 104, 101, 32, 115, 105, 108, 101, 110, 116, 32, 97, 99, 116, 105, 111, 110, 44, 32, 119, 104, 101, 114, 101, 32, 105, 116, 32, 99, 97, 110, 39, 116, 32, 115, 116, 97, 110, 100])]))
def laid_semblance_api_ErrUnguarded {H : Type} : DataW H := .iface "*errors.errorString" (.ptr (.agg [.lit (.string [97, 32, 99, 111, 110, 115, 116, 97, 110, 116, 32, 116, 104, 97, 116, 32, 110, 101, 101, 100, 115, 32, 105, 116, 115, 101, 108, 102, 32, 102, 105, 114, 115, 116])]))
def laid_semblance_api_ErrSteps {H : Type} : DataW H := .iface "*errors.errorString" (.ptr (.agg [.lit (.string [97, 32, 116, 101, 114, 109, 32, 119, 105, 116, 104, 32, 116, 111, 111, 32, 109, 97, 110, 121, 32, 115, 116, 101, 112, 115])]))
def laid_semblance_api_ErrStates {H : Type} : DataW H := .iface "*errors.errorString" (.ptr (.agg [.lit (.string [116, 111, 111, 32, 109, 97, 110, 121, 32, 115, 116, 97, 116, 101, 115])]))
def laid_semblance_api_ErrEdges {H : Type} : DataW H := .iface "*errors.errorString" (.ptr (.agg [.lit (.string [116, 111, 111, 32, 109, 97, 110, 121, 32, 101, 100, 103, 101, 115])]))
def laid_semblance_api_ErrSystem {H : Type} : DataW H := .iface "*errors.errorString" (.ptr (.agg [.lit (.string [97, 32, 115, 121, 115, 116, 101, 109, 32, 116, 104, 97, 116, 32, 105, 115, 32, 110, 111, 110, 101])]))
def laid_semblance_api_ErrClasses {H : Type} : DataW H := .iface "*errors.errorString" (.ptr (.agg [.lit (.string [99, 108, 97, 115, 115, 101, 115, 32, 116, 104, 97, 116, 32, 97, 114, 101, 32, 110, 111, 110, 101])]))
def laid_semblance_api_ErrFormula {H : Type} : DataW H := .iface "*errors.errorString" (.ptr (.agg [.lit (.string [97, 32, 102, 111, 114, 109, 117, 108, 97, 32, 116, 104, 97, 116, 32, 105, 115, 32, 110, 111, 110, 101])]))
def laid_semblance_api_ErrLimit {H : Type} : DataW H := .iface "*errors.errorString" (.ptr (.agg [.lit (.string [97, 32, 102, 111, 114, 109, 117, 108, 97, 32, 116, 104, 97, 116, 32, 119, 111, 117, 108, 100, 32, 98, 101, 32, 116, 111, 111, 32, 103, 114, 101, 97, 116])]))
def laid_semblance_api_ErrNone {H : Type} : DataW H := .iface "*errors.errorString" (.ptr (.agg [.lit (.string [116, 104, 101, 114, 101, 32, 105, 115, 32, 110, 111, 110, 101])]))
def laid_semblance_api_ErrScript {H : Type} : DataW H := .iface "*errors.errorString" (.ptr (.agg [.lit (.string [97, 32, 115, 99, 114, 105, 112, 116, 32, 116, 104, 97, 116, 32, 105, 115, 32, 110, 111, 110, 101])]))

/-- 'semblancelaw9.StrongClasses': WHATEVER THE INPUT: true; the input reads as it did. -/
def strongClassesSpec : ChangeSpec := { name := "strongClasses", fn := fun _ => fun
  | [d] => { results := [.lit (.bool true)], args := [d] }
  | _ => none }
def strongClassesRow : OpenClaim := { program := "ytkiapldehlnndaagreatdoor", sum := "39084ffb49b8d43ea7b4d4fd6c4297838667ac3b0c2c12d7d7fdfd6d3f28289a", func := "semblance/semblancelaw9.StrongClasses", spec := "strongClasses", inPlace := ["internal/reflectlite.ValueOf", "(internal/reflectlite.Value).Type", "(internal/reflectlite.Value).IsNil", "internal/reflectlite.TypeOf", "(internal/reflectlite.Value).Elem", "(internal/reflectlite.Value).Set"], unfollowed := true, recurses := true, named := ["semblance/api.ErrSystem", "semblance/api.ErrArg", "errors.errorType", "semblance/api.ErrIndex", "semblance/api.ErrClasses", "semblance/api.ErrLong", "semblance/api.ErrWord", "semblance/api.ErrSyntax", "semblance/api.ErrDeep", "semblance/api.ErrTwice", "semblance/api.ErrUnknown", "semblance/api.ErrSilent", "semblance/api.ErrUnguarded", "semblance/api.ErrSteps", "semblance/api.ErrStates", "semblance/api.ErrEdges", "semblance/api.ErrFormula", "semblance/api.ErrLimit", "semblance/api.ErrNone", "semblance/api.ErrScript"], plainKeys := false, apart := false, laid := [("errors.errorType", laid_errors_errorType), ("semblance/api.ErrArg", laid_semblance_api_ErrArg), ("semblance/api.ErrLong", laid_semblance_api_ErrLong), ("semblance/api.ErrIndex", laid_semblance_api_ErrIndex), ("semblance/api.ErrWord", laid_semblance_api_ErrWord), ("semblance/api.ErrSyntax", laid_semblance_api_ErrSyntax), ("semblance/api.ErrDeep", laid_semblance_api_ErrDeep), ("semblance/api.ErrTwice", laid_semblance_api_ErrTwice), ("semblance/api.ErrUnknown", laid_semblance_api_ErrUnknown), ("semblance/api.ErrSilent", laid_semblance_api_ErrSilent), ("semblance/api.ErrUnguarded", laid_semblance_api_ErrUnguarded), ("semblance/api.ErrSteps", laid_semblance_api_ErrSteps), ("semblance/api.ErrStates", laid_semblance_api_ErrStates), ("semblance/api.ErrEdges", laid_semblance_api_ErrEdges), ("semblance/api.ErrSystem", laid_semblance_api_ErrSystem), ("semblance/api.ErrClasses", laid_semblance_api_ErrClasses), ("semblance/api.ErrFormula", laid_semblance_api_ErrFormula), ("semblance/api.ErrLimit", laid_semblance_api_ErrLimit), ("semblance/api.ErrNone", laid_semblance_api_ErrNone), ("semblance/api.ErrScript", laid_semblance_api_ErrScript)] }
def StrongClassesSaid : Prop := strongClassesRow.holds Tryz.pinned (OpenSpec.ofChange strongClassesSpec)

/-- ITS FALSE NEIGHBOUR: 'it returns false'. Refute it at one input. -/
def strongClassesWrong : ChangeSpec := { name := "strongClasses", fn := fun _ => fun
  | [d] => { results := [.lit (.bool false)], args := [d] }
  | _ => none }
def StrongClassesWrongFalsely : Prop := strongClassesRow.holds Tryz.pinned (OpenSpec.ofChange strongClassesWrong)

/-- 'semblancelaw9.StrongReplays': WHATEVER THE INPUT: true; the input reads as it did. -/
def strongReplaysSpec : ChangeSpec := { name := "strongReplays", fn := fun _ => fun
  | [d1, d2] => { results := [.lit (.bool true)], args := [d1, d2] }
  | _ => none }
def strongReplaysRow : OpenClaim := { program := "ytkiapldehlnndaagreatdoor", sum := "39084ffb49b8d43ea7b4d4fd6c4297838667ac3b0c2c12d7d7fdfd6d3f28289a", func := "semblance/semblancelaw9.StrongReplays", spec := "strongReplays", inPlace := ["internal/reflectlite.ValueOf", "(internal/reflectlite.Value).Type", "(internal/reflectlite.Value).IsNil", "internal/reflectlite.TypeOf", "(internal/reflectlite.Value).Elem", "(internal/reflectlite.Value).Set"], unfollowed := true, recurses := true, named := ["semblance/api.ErrSystem", "semblance/api.ErrArg", "errors.errorType", "semblance/api.ErrIndex", "semblance/api.ErrClasses", "semblance/api.ErrLong", "semblance/api.ErrWord", "semblance/api.ErrSyntax", "semblance/api.ErrDeep", "semblance/api.ErrTwice", "semblance/api.ErrUnknown", "semblance/api.ErrSilent", "semblance/api.ErrUnguarded", "semblance/api.ErrSteps", "semblance/api.ErrStates", "semblance/api.ErrEdges", "semblance/api.ErrFormula", "semblance/api.ErrLimit", "semblance/api.ErrNone", "semblance/api.ErrScript"], plainKeys := false, apart := false, laid := [("errors.errorType", laid_errors_errorType), ("semblance/api.ErrArg", laid_semblance_api_ErrArg), ("semblance/api.ErrLong", laid_semblance_api_ErrLong), ("semblance/api.ErrIndex", laid_semblance_api_ErrIndex), ("semblance/api.ErrWord", laid_semblance_api_ErrWord), ("semblance/api.ErrSyntax", laid_semblance_api_ErrSyntax), ("semblance/api.ErrDeep", laid_semblance_api_ErrDeep), ("semblance/api.ErrTwice", laid_semblance_api_ErrTwice), ("semblance/api.ErrUnknown", laid_semblance_api_ErrUnknown), ("semblance/api.ErrSilent", laid_semblance_api_ErrSilent), ("semblance/api.ErrUnguarded", laid_semblance_api_ErrUnguarded), ("semblance/api.ErrSteps", laid_semblance_api_ErrSteps), ("semblance/api.ErrStates", laid_semblance_api_ErrStates), ("semblance/api.ErrEdges", laid_semblance_api_ErrEdges), ("semblance/api.ErrSystem", laid_semblance_api_ErrSystem), ("semblance/api.ErrClasses", laid_semblance_api_ErrClasses), ("semblance/api.ErrFormula", laid_semblance_api_ErrFormula), ("semblance/api.ErrLimit", laid_semblance_api_ErrLimit), ("semblance/api.ErrNone", laid_semblance_api_ErrNone), ("semblance/api.ErrScript", laid_semblance_api_ErrScript)] }
def StrongReplaysSaid : Prop := strongReplaysRow.holds Tryz.pinned (OpenSpec.ofChange strongReplaysSpec)

/-- ITS FALSE NEIGHBOUR: 'it returns false'. Refute it at one input. -/
def strongReplaysWrong : ChangeSpec := { name := "strongReplays", fn := fun _ => fun
  | [d1, d2] => { results := [.lit (.bool false)], args := [d1, d2] }
  | _ => none }
def StrongReplaysWrongFalsely : Prop := strongReplaysRow.holds Tryz.pinned (OpenSpec.ofChange strongReplaysWrong)

/-- 'semblancelaw9.StrongRuns': WHATEVER THE INPUT: true; the input reads as it did. -/
def strongRunsSpec : ChangeSpec := { name := "strongRuns", fn := fun _ => fun
  | [d] => { results := [.lit (.bool true)], args := [d] }
  | _ => none }
def strongRunsRow : OpenClaim := { program := "ytkiapldehlnndaagreatdoor", sum := "39084ffb49b8d43ea7b4d4fd6c4297838667ac3b0c2c12d7d7fdfd6d3f28289a", func := "semblance/semblancelaw9.StrongRuns", spec := "strongRuns", inPlace := ["internal/reflectlite.ValueOf", "(internal/reflectlite.Value).Type", "(internal/reflectlite.Value).IsNil", "internal/reflectlite.TypeOf", "(internal/reflectlite.Value).Elem", "(internal/reflectlite.Value).Set"], unfollowed := true, recurses := true, named := ["semblance/api.ErrSystem", "semblance/api.ErrArg", "errors.errorType", "semblance/api.ErrIndex", "semblance/api.ErrClasses", "semblance/api.ErrLong", "semblance/api.ErrWord", "semblance/api.ErrSyntax", "semblance/api.ErrDeep", "semblance/api.ErrTwice", "semblance/api.ErrUnknown", "semblance/api.ErrSilent", "semblance/api.ErrUnguarded", "semblance/api.ErrSteps", "semblance/api.ErrStates", "semblance/api.ErrEdges", "semblance/api.ErrFormula", "semblance/api.ErrLimit", "semblance/api.ErrNone", "semblance/api.ErrScript"], plainKeys := false, apart := false, laid := [("errors.errorType", laid_errors_errorType), ("semblance/api.ErrArg", laid_semblance_api_ErrArg), ("semblance/api.ErrLong", laid_semblance_api_ErrLong), ("semblance/api.ErrIndex", laid_semblance_api_ErrIndex), ("semblance/api.ErrWord", laid_semblance_api_ErrWord), ("semblance/api.ErrSyntax", laid_semblance_api_ErrSyntax), ("semblance/api.ErrDeep", laid_semblance_api_ErrDeep), ("semblance/api.ErrTwice", laid_semblance_api_ErrTwice), ("semblance/api.ErrUnknown", laid_semblance_api_ErrUnknown), ("semblance/api.ErrSilent", laid_semblance_api_ErrSilent), ("semblance/api.ErrUnguarded", laid_semblance_api_ErrUnguarded), ("semblance/api.ErrSteps", laid_semblance_api_ErrSteps), ("semblance/api.ErrStates", laid_semblance_api_ErrStates), ("semblance/api.ErrEdges", laid_semblance_api_ErrEdges), ("semblance/api.ErrSystem", laid_semblance_api_ErrSystem), ("semblance/api.ErrClasses", laid_semblance_api_ErrClasses), ("semblance/api.ErrFormula", laid_semblance_api_ErrFormula), ("semblance/api.ErrLimit", laid_semblance_api_ErrLimit), ("semblance/api.ErrNone", laid_semblance_api_ErrNone), ("semblance/api.ErrScript", laid_semblance_api_ErrScript)] }
def StrongRunsSaid : Prop := strongRunsRow.holds Tryz.pinned (OpenSpec.ofChange strongRunsSpec)

/-- ITS FALSE NEIGHBOUR: 'it returns false'. Refute it at one input. -/
def strongRunsWrong : ChangeSpec := { name := "strongRuns", fn := fun _ => fun
  | [d] => { results := [.lit (.bool false)], args := [d] }
  | _ => none }
def StrongRunsWrongFalsely : Prop := strongRunsRow.holds Tryz.pinned (OpenSpec.ofChange strongRunsWrong)

/-- 'semblancelaw9.StrongGauge': WHATEVER THE INPUT: true; the input reads as it did. -/
def strongGaugeSpec : ChangeSpec := { name := "strongGauge", fn := fun _ => fun
  | [d] => { results := [.lit (.bool true)], args := [d] }
  | _ => none }
def strongGaugeRow : OpenClaim := { program := "ytkiapldehlnndaagreatdoor", sum := "39084ffb49b8d43ea7b4d4fd6c4297838667ac3b0c2c12d7d7fdfd6d3f28289a", func := "semblance/semblancelaw9.StrongGauge", spec := "strongGauge", inPlace := ["internal/reflectlite.ValueOf", "(internal/reflectlite.Value).Type", "(internal/reflectlite.Value).IsNil", "internal/reflectlite.TypeOf", "(internal/reflectlite.Value).Elem", "(internal/reflectlite.Value).Set"], unfollowed := true, recurses := true, named := ["semblance/api.ErrSystem", "semblance/api.ErrArg", "errors.errorType", "semblance/api.ErrIndex", "semblance/api.ErrClasses"], plainKeys := false, apart := false, laid := [("errors.errorType", laid_errors_errorType), ("semblance/api.ErrArg", laid_semblance_api_ErrArg), ("semblance/api.ErrIndex", laid_semblance_api_ErrIndex), ("semblance/api.ErrSystem", laid_semblance_api_ErrSystem), ("semblance/api.ErrClasses", laid_semblance_api_ErrClasses)] }
def StrongGaugeSaid : Prop := strongGaugeRow.holds Tryz.pinned (OpenSpec.ofChange strongGaugeSpec)

/-- ITS FALSE NEIGHBOUR: 'it returns false'. Refute it at one input. -/
def strongGaugeWrong : ChangeSpec := { name := "strongGauge", fn := fun _ => fun
  | [d] => { results := [.lit (.bool false)], args := [d] }
  | _ => none }
def StrongGaugeWrongFalsely : Prop := strongGaugeRow.holds Tryz.pinned (OpenSpec.ofChange strongGaugeWrong)

/-- 'semblancelaw9.StrongRelates': WHATEVER THE INPUT: true; the input reads as it did. -/
def strongRelatesSpec : ChangeSpec := { name := "strongRelates", fn := fun _ => fun
  | [d] => { results := [.lit (.bool true)], args := [d] }
  | _ => none }
def strongRelatesRow : OpenClaim := { program := "ytkiapldehlnndaagreatdoor", sum := "39084ffb49b8d43ea7b4d4fd6c4297838667ac3b0c2c12d7d7fdfd6d3f28289a", func := "semblance/semblancelaw9.StrongRelates", spec := "strongRelates", inPlace := ["internal/reflectlite.ValueOf", "(internal/reflectlite.Value).Type", "(internal/reflectlite.Value).IsNil", "internal/reflectlite.TypeOf", "(internal/reflectlite.Value).Elem", "(internal/reflectlite.Value).Set"], unfollowed := true, recurses := true, named := ["semblance/api.ErrSystem", "semblance/api.ErrArg", "errors.errorType", "semblance/api.ErrIndex", "semblance/api.ErrClasses"], plainKeys := false, apart := false, laid := [("errors.errorType", laid_errors_errorType), ("semblance/api.ErrArg", laid_semblance_api_ErrArg), ("semblance/api.ErrIndex", laid_semblance_api_ErrIndex), ("semblance/api.ErrSystem", laid_semblance_api_ErrSystem), ("semblance/api.ErrClasses", laid_semblance_api_ErrClasses)] }
def StrongRelatesSaid : Prop := strongRelatesRow.holds Tryz.pinned (OpenSpec.ofChange strongRelatesSpec)

/-- ITS FALSE NEIGHBOUR: 'it returns false'. Refute it at one input. -/
def strongRelatesWrong : ChangeSpec := { name := "strongRelates", fn := fun _ => fun
  | [d] => { results := [.lit (.bool false)], args := [d] }
  | _ => none }
def StrongRelatesWrongFalsely : Prop := strongRelatesRow.holds Tryz.pinned (OpenSpec.ofChange strongRelatesWrong)

/-- 'semblancelaw9.StrongApart': WHATEVER THE INPUT: true; the input reads as it did. -/
def strongApartSpec : ChangeSpec := { name := "strongApart", fn := fun _ => fun
  | [d] => { results := [.lit (.bool true)], args := [d] }
  | _ => none }
def strongApartRow : OpenClaim := { program := "ytkiapldehlnndaagreatdoor", sum := "39084ffb49b8d43ea7b4d4fd6c4297838667ac3b0c2c12d7d7fdfd6d3f28289a", func := "semblance/semblancelaw9.StrongApart", spec := "strongApart", inPlace := ["internal/reflectlite.ValueOf", "(internal/reflectlite.Value).Type", "(internal/reflectlite.Value).IsNil", "internal/reflectlite.TypeOf", "(internal/reflectlite.Value).Elem", "(internal/reflectlite.Value).Set"], unfollowed := true, recurses := true, named := ["semblance/api.ErrSystem", "semblance/api.ErrArg", "errors.errorType", "semblance/api.ErrIndex", "semblance/api.ErrClasses"], plainKeys := false, apart := false, laid := [("errors.errorType", laid_errors_errorType), ("semblance/api.ErrArg", laid_semblance_api_ErrArg), ("semblance/api.ErrIndex", laid_semblance_api_ErrIndex), ("semblance/api.ErrSystem", laid_semblance_api_ErrSystem), ("semblance/api.ErrClasses", laid_semblance_api_ErrClasses)] }
def StrongApartSaid : Prop := strongApartRow.holds Tryz.pinned (OpenSpec.ofChange strongApartSpec)

/-- ITS FALSE NEIGHBOUR: 'it returns false'. Refute it at one input. -/
def strongApartWrong : ChangeSpec := { name := "strongApart", fn := fun _ => fun
  | [d] => { results := [.lit (.bool false)], args := [d] }
  | _ => none }
def StrongApartWrongFalsely : Prop := strongApartRow.holds Tryz.pinned (OpenSpec.ofChange strongApartWrong)

/- THE SECOND FORM. 'bulk': how many values and letters a reading holds, each counted each time it is reached (what is shared counts as often as it is met; a slice's spare places count too). A statement '..UptoSaid' is the law's where the arguments, and the package variables that the reading takes, are together of bulk at most 1048576: NARROWER than '..Said'. Prove '..Said' where nothing that the law and all that it calls make is longer than what came in: it says more and counts as full. Else prove '..UptoSaid'. A law counts once. -/
mutual
def uptoBulk {H : Type} : DataW H → Nat
  | .lit (.string bytes) => bytes.length + 1
  | .lit _ => 1
  | .nil => 1
  | .ptr d => uptoBulk d + 1
  | .slice elems spare => uptoBulkAll elems + uptoBulkAll spare + 1
  | .agg parts => uptoBulkAll parts + 1
  | .iface _ d => uptoBulk d + 1
  | .map entries => uptoBulkEntries entries + 1
  | .held _ => 1
def uptoBulkAll {H : Type} : List (DataW H) → Nat
  | [] => 0
  | d :: r => uptoBulk d + uptoBulkAll r
def uptoBulkEntries {H : Type} : List (Lit × DataW H) → Nat
  | [] => 0
  | x :: r => uptoBulkEntry x + uptoBulkEntries r
def uptoBulkEntry {H : Type} : Lit × DataW H → Nat
  | (.string bytes, d) => bytes.length + uptoBulk d + 1
  | (_, d) => uptoBulk d + 1
 end
def uptoSmall : (H : Type) → List (DataW H) → Bool := fun _ ds => decide (uptoBulkAll ds ≤ 1048576)
def OpenSpec.upto (s : _root_.Go.ChangeSpec) : _root_.Go.OpenSpec := { _root_.Go.OpenSpec.ofChange s with cond := some uptoSmall }

/-- 'semblancelaw9.StrongClasses', WHERE WHAT IT READS IS OF BULK AT MOST 1048576: true; the input reads as it did. -/
def strongClassesUptoRow : OpenClaim := { program := "ytkiapldehlnndaagreatdoor", sum := "39084ffb49b8d43ea7b4d4fd6c4297838667ac3b0c2c12d7d7fdfd6d3f28289a", func := "semblance/semblancelaw9.StrongClasses", spec := "strongClasses", inPlace := ["internal/reflectlite.ValueOf", "(internal/reflectlite.Value).Type", "(internal/reflectlite.Value).IsNil", "internal/reflectlite.TypeOf", "(internal/reflectlite.Value).Elem", "(internal/reflectlite.Value).Set"], unfollowed := true, recurses := true, named := ["semblance/api.ErrSystem", "semblance/api.ErrArg", "errors.errorType", "semblance/api.ErrIndex", "semblance/api.ErrClasses", "semblance/api.ErrLong", "semblance/api.ErrWord", "semblance/api.ErrSyntax", "semblance/api.ErrDeep", "semblance/api.ErrTwice", "semblance/api.ErrUnknown", "semblance/api.ErrSilent", "semblance/api.ErrUnguarded", "semblance/api.ErrSteps", "semblance/api.ErrStates", "semblance/api.ErrEdges", "semblance/api.ErrFormula", "semblance/api.ErrLimit", "semblance/api.ErrNone", "semblance/api.ErrScript"], plainKeys := false, apart := false, laid := [("errors.errorType", laid_errors_errorType), ("semblance/api.ErrArg", laid_semblance_api_ErrArg), ("semblance/api.ErrLong", laid_semblance_api_ErrLong), ("semblance/api.ErrIndex", laid_semblance_api_ErrIndex), ("semblance/api.ErrWord", laid_semblance_api_ErrWord), ("semblance/api.ErrSyntax", laid_semblance_api_ErrSyntax), ("semblance/api.ErrDeep", laid_semblance_api_ErrDeep), ("semblance/api.ErrTwice", laid_semblance_api_ErrTwice), ("semblance/api.ErrUnknown", laid_semblance_api_ErrUnknown), ("semblance/api.ErrSilent", laid_semblance_api_ErrSilent), ("semblance/api.ErrUnguarded", laid_semblance_api_ErrUnguarded), ("semblance/api.ErrSteps", laid_semblance_api_ErrSteps), ("semblance/api.ErrStates", laid_semblance_api_ErrStates), ("semblance/api.ErrEdges", laid_semblance_api_ErrEdges), ("semblance/api.ErrSystem", laid_semblance_api_ErrSystem), ("semblance/api.ErrClasses", laid_semblance_api_ErrClasses), ("semblance/api.ErrFormula", laid_semblance_api_ErrFormula), ("semblance/api.ErrLimit", laid_semblance_api_ErrLimit), ("semblance/api.ErrNone", laid_semblance_api_ErrNone), ("semblance/api.ErrScript", laid_semblance_api_ErrScript)], narrowed := true }
def StrongClassesUptoSaid : Prop := strongClassesUptoRow.holds Tryz.pinned (OpenSpec.upto strongClassesSpec)

/-- 'semblancelaw9.StrongReplays', WHERE WHAT IT READS IS OF BULK AT MOST 1048576: true; the input reads as it did. -/
def strongReplaysUptoRow : OpenClaim := { program := "ytkiapldehlnndaagreatdoor", sum := "39084ffb49b8d43ea7b4d4fd6c4297838667ac3b0c2c12d7d7fdfd6d3f28289a", func := "semblance/semblancelaw9.StrongReplays", spec := "strongReplays", inPlace := ["internal/reflectlite.ValueOf", "(internal/reflectlite.Value).Type", "(internal/reflectlite.Value).IsNil", "internal/reflectlite.TypeOf", "(internal/reflectlite.Value).Elem", "(internal/reflectlite.Value).Set"], unfollowed := true, recurses := true, named := ["semblance/api.ErrSystem", "semblance/api.ErrArg", "errors.errorType", "semblance/api.ErrIndex", "semblance/api.ErrClasses", "semblance/api.ErrLong", "semblance/api.ErrWord", "semblance/api.ErrSyntax", "semblance/api.ErrDeep", "semblance/api.ErrTwice", "semblance/api.ErrUnknown", "semblance/api.ErrSilent", "semblance/api.ErrUnguarded", "semblance/api.ErrSteps", "semblance/api.ErrStates", "semblance/api.ErrEdges", "semblance/api.ErrFormula", "semblance/api.ErrLimit", "semblance/api.ErrNone", "semblance/api.ErrScript"], plainKeys := false, apart := false, laid := [("errors.errorType", laid_errors_errorType), ("semblance/api.ErrArg", laid_semblance_api_ErrArg), ("semblance/api.ErrLong", laid_semblance_api_ErrLong), ("semblance/api.ErrIndex", laid_semblance_api_ErrIndex), ("semblance/api.ErrWord", laid_semblance_api_ErrWord), ("semblance/api.ErrSyntax", laid_semblance_api_ErrSyntax), ("semblance/api.ErrDeep", laid_semblance_api_ErrDeep), ("semblance/api.ErrTwice", laid_semblance_api_ErrTwice), ("semblance/api.ErrUnknown", laid_semblance_api_ErrUnknown), ("semblance/api.ErrSilent", laid_semblance_api_ErrSilent), ("semblance/api.ErrUnguarded", laid_semblance_api_ErrUnguarded), ("semblance/api.ErrSteps", laid_semblance_api_ErrSteps), ("semblance/api.ErrStates", laid_semblance_api_ErrStates), ("semblance/api.ErrEdges", laid_semblance_api_ErrEdges), ("semblance/api.ErrSystem", laid_semblance_api_ErrSystem), ("semblance/api.ErrClasses", laid_semblance_api_ErrClasses), ("semblance/api.ErrFormula", laid_semblance_api_ErrFormula), ("semblance/api.ErrLimit", laid_semblance_api_ErrLimit), ("semblance/api.ErrNone", laid_semblance_api_ErrNone), ("semblance/api.ErrScript", laid_semblance_api_ErrScript)], narrowed := true }
def StrongReplaysUptoSaid : Prop := strongReplaysUptoRow.holds Tryz.pinned (OpenSpec.upto strongReplaysSpec)

/-- 'semblancelaw9.StrongRuns', WHERE WHAT IT READS IS OF BULK AT MOST 1048576: true; the input reads as it did. -/
def strongRunsUptoRow : OpenClaim := { program := "ytkiapldehlnndaagreatdoor", sum := "39084ffb49b8d43ea7b4d4fd6c4297838667ac3b0c2c12d7d7fdfd6d3f28289a", func := "semblance/semblancelaw9.StrongRuns", spec := "strongRuns", inPlace := ["internal/reflectlite.ValueOf", "(internal/reflectlite.Value).Type", "(internal/reflectlite.Value).IsNil", "internal/reflectlite.TypeOf", "(internal/reflectlite.Value).Elem", "(internal/reflectlite.Value).Set"], unfollowed := true, recurses := true, named := ["semblance/api.ErrSystem", "semblance/api.ErrArg", "errors.errorType", "semblance/api.ErrIndex", "semblance/api.ErrClasses", "semblance/api.ErrLong", "semblance/api.ErrWord", "semblance/api.ErrSyntax", "semblance/api.ErrDeep", "semblance/api.ErrTwice", "semblance/api.ErrUnknown", "semblance/api.ErrSilent", "semblance/api.ErrUnguarded", "semblance/api.ErrSteps", "semblance/api.ErrStates", "semblance/api.ErrEdges", "semblance/api.ErrFormula", "semblance/api.ErrLimit", "semblance/api.ErrNone", "semblance/api.ErrScript"], plainKeys := false, apart := false, laid := [("errors.errorType", laid_errors_errorType), ("semblance/api.ErrArg", laid_semblance_api_ErrArg), ("semblance/api.ErrLong", laid_semblance_api_ErrLong), ("semblance/api.ErrIndex", laid_semblance_api_ErrIndex), ("semblance/api.ErrWord", laid_semblance_api_ErrWord), ("semblance/api.ErrSyntax", laid_semblance_api_ErrSyntax), ("semblance/api.ErrDeep", laid_semblance_api_ErrDeep), ("semblance/api.ErrTwice", laid_semblance_api_ErrTwice), ("semblance/api.ErrUnknown", laid_semblance_api_ErrUnknown), ("semblance/api.ErrSilent", laid_semblance_api_ErrSilent), ("semblance/api.ErrUnguarded", laid_semblance_api_ErrUnguarded), ("semblance/api.ErrSteps", laid_semblance_api_ErrSteps), ("semblance/api.ErrStates", laid_semblance_api_ErrStates), ("semblance/api.ErrEdges", laid_semblance_api_ErrEdges), ("semblance/api.ErrSystem", laid_semblance_api_ErrSystem), ("semblance/api.ErrClasses", laid_semblance_api_ErrClasses), ("semblance/api.ErrFormula", laid_semblance_api_ErrFormula), ("semblance/api.ErrLimit", laid_semblance_api_ErrLimit), ("semblance/api.ErrNone", laid_semblance_api_ErrNone), ("semblance/api.ErrScript", laid_semblance_api_ErrScript)], narrowed := true }
def StrongRunsUptoSaid : Prop := strongRunsUptoRow.holds Tryz.pinned (OpenSpec.upto strongRunsSpec)

/-- 'semblancelaw9.StrongGauge', WHERE WHAT IT READS IS OF BULK AT MOST 1048576: true; the input reads as it did. -/
def strongGaugeUptoRow : OpenClaim := { program := "ytkiapldehlnndaagreatdoor", sum := "39084ffb49b8d43ea7b4d4fd6c4297838667ac3b0c2c12d7d7fdfd6d3f28289a", func := "semblance/semblancelaw9.StrongGauge", spec := "strongGauge", inPlace := ["internal/reflectlite.ValueOf", "(internal/reflectlite.Value).Type", "(internal/reflectlite.Value).IsNil", "internal/reflectlite.TypeOf", "(internal/reflectlite.Value).Elem", "(internal/reflectlite.Value).Set"], unfollowed := true, recurses := true, named := ["semblance/api.ErrSystem", "semblance/api.ErrArg", "errors.errorType", "semblance/api.ErrIndex", "semblance/api.ErrClasses"], plainKeys := false, apart := false, laid := [("errors.errorType", laid_errors_errorType), ("semblance/api.ErrArg", laid_semblance_api_ErrArg), ("semblance/api.ErrIndex", laid_semblance_api_ErrIndex), ("semblance/api.ErrSystem", laid_semblance_api_ErrSystem), ("semblance/api.ErrClasses", laid_semblance_api_ErrClasses)], narrowed := true }
def StrongGaugeUptoSaid : Prop := strongGaugeUptoRow.holds Tryz.pinned (OpenSpec.upto strongGaugeSpec)

/-- 'semblancelaw9.StrongRelates', WHERE WHAT IT READS IS OF BULK AT MOST 1048576: true; the input reads as it did. -/
def strongRelatesUptoRow : OpenClaim := { program := "ytkiapldehlnndaagreatdoor", sum := "39084ffb49b8d43ea7b4d4fd6c4297838667ac3b0c2c12d7d7fdfd6d3f28289a", func := "semblance/semblancelaw9.StrongRelates", spec := "strongRelates", inPlace := ["internal/reflectlite.ValueOf", "(internal/reflectlite.Value).Type", "(internal/reflectlite.Value).IsNil", "internal/reflectlite.TypeOf", "(internal/reflectlite.Value).Elem", "(internal/reflectlite.Value).Set"], unfollowed := true, recurses := true, named := ["semblance/api.ErrSystem", "semblance/api.ErrArg", "errors.errorType", "semblance/api.ErrIndex", "semblance/api.ErrClasses"], plainKeys := false, apart := false, laid := [("errors.errorType", laid_errors_errorType), ("semblance/api.ErrArg", laid_semblance_api_ErrArg), ("semblance/api.ErrIndex", laid_semblance_api_ErrIndex), ("semblance/api.ErrSystem", laid_semblance_api_ErrSystem), ("semblance/api.ErrClasses", laid_semblance_api_ErrClasses)], narrowed := true }
def StrongRelatesUptoSaid : Prop := strongRelatesUptoRow.holds Tryz.pinned (OpenSpec.upto strongRelatesSpec)

/-- 'semblancelaw9.StrongApart', WHERE WHAT IT READS IS OF BULK AT MOST 1048576: true; the input reads as it did. -/
def strongApartUptoRow : OpenClaim := { program := "ytkiapldehlnndaagreatdoor", sum := "39084ffb49b8d43ea7b4d4fd6c4297838667ac3b0c2c12d7d7fdfd6d3f28289a", func := "semblance/semblancelaw9.StrongApart", spec := "strongApart", inPlace := ["internal/reflectlite.ValueOf", "(internal/reflectlite.Value).Type", "(internal/reflectlite.Value).IsNil", "internal/reflectlite.TypeOf", "(internal/reflectlite.Value).Elem", "(internal/reflectlite.Value).Set"], unfollowed := true, recurses := true, named := ["semblance/api.ErrSystem", "semblance/api.ErrArg", "errors.errorType", "semblance/api.ErrIndex", "semblance/api.ErrClasses"], plainKeys := false, apart := false, laid := [("errors.errorType", laid_errors_errorType), ("semblance/api.ErrArg", laid_semblance_api_ErrArg), ("semblance/api.ErrIndex", laid_semblance_api_ErrIndex), ("semblance/api.ErrSystem", laid_semblance_api_ErrSystem), ("semblance/api.ErrClasses", laid_semblance_api_ErrClasses)], narrowed := true }
def StrongApartUptoSaid : Prop := strongApartUptoRow.holds Tryz.pinned (OpenSpec.upto strongApartSpec)

end Rows
end Go.Proofs.YtkiapldehlnndaaGreatDoor
