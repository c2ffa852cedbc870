/-
  NARROWER THAN 'FOR EVERY INPUT', by the rows' own cells (each row's printed sentence says how): FnExactRunCircuit: laid · FnExactGateValues: laid · FnExactCountGates: laid · FnExactDepthOf: laid · FnExactNeededGates: laid · FnExactFlipGate: laid · FnExactAlikeCircuits: laid · FnExactTrimCircuit: laid · FnExactPlusCircuit: laid · FnExactTimesCircuit: laid · FnExactShortTimes: laid · FnExactHalfTimes: laid.
  DERIVED. THE GIVEN ROWS OF THIS SEAT. 12 by the template 'for every input the law returns true; each argument reads behind the call as it read before'; 0 by the template 'total and deterministic' (their statements: YtngaelifkhelbaaDoorTotals.lean).
  GIVEN WITH THE SEED: the statements are not yours to turn. If you find one false, say at which input.
  Laid BY PROGRAM, IN A SANDBOX (cutbox-rows.mjs): the forced cells as the released guide's own fill.sh prints them over the translation 1afe3f9572326b31… (all of the seat's roots in one cut). By AI agents, Wed Nov 11 2026. No macro, syntax, notation, axiom, sorry.
-/
import Derived.Test.YtngaelifkhelbaaDoorChecked
import GoSem.Claim
import GoSem.ClaimJoined
import GoSem.ClaimMapViews
import Derived.JoinedTies
import Derived.KernelRfl
namespace Go.Proofs.YtngaelifkhelbaaDoor
/- THE CELL 'sum', in the pinned program and in every row, IS THE sha256 OF THE DUMP (.gsa) THAT YtngaelifkhelbaaDoorProg.lean LOADS. Nothing in Lean hashes anything: it is a label: what it is worth is what the hold of that sum in a sandbox is worth. -/
noncomputable def Tryd.pinned : Pinned := { name := "ytngaelifkhelbaadoor", sum := "1afe3f9572326b313335448dbc578751c46bd5e8c7e83ec8af05322b80f59842", checked := Tryd.checked }
namespace Rows
def none {H : Type} : Left H := { results := [], args := [] }

/- WHAT THE LISTED PACKAGE-LEVEL VARIABLES READ AS WHEN THE CALL BEGINS. Each datum BY PROGRAM (the guide's laid-datum.mjs) off the statement by which the dump's own 'gosem.cut.vars' lays the variable. In a bare row this is a premise. The card (YtngaelifkhelbaaDoorCards.lean) ties it to the program's text. -/
def laid_errors_errorType {H : Type} : DataW H := .iface "internal/reflectlite.rtype" (.agg [.ptr (.lit (.string [101, 114, 114, 111, 114]))])

/-- 'laws.FnExactRunCircuit': WHATEVER THE INPUT: true; the input reads as it did. -/
def fnExactRunCircuitSpec : ChangeSpec := { name := "fnExactRunCircuit", fn := fun _ => fun
  | [d1, d2] => { results := [.lit (.bool true)], args := [d1, d2] }
  | _ => none }
def fnExactRunCircuitRow : OpenClaim := { program := "ytngaelifkhelbaadoor", sum := "1afe3f9572326b313335448dbc578751c46bd5e8c7e83ec8af05322b80f59842", func := "loop.example/g01307/laws.FnExactRunCircuit", spec := "fnExactRunCircuit", inPlace := ["internal/reflectlite.ValueOf", "(internal/reflectlite.Value).Type", "(internal/reflectlite.Value).IsNil", "internal/reflectlite.TypeOf", "(internal/reflectlite.Value).Elem", "(internal/reflectlite.Value).Set"], unfollowed := true, recurses := true, named := ["errors.errorType"], apart := false, laid := [("errors.errorType", laid_errors_errorType)] }
def FnExactRunCircuitSaid : Prop := fnExactRunCircuitRow.holds Tryd.pinned (OpenSpec.ofChange fnExactRunCircuitSpec)

/-- ITS FALSE NEIGHBOUR: 'it returns false'. Refute it at one input. -/
def fnExactRunCircuitWrong : ChangeSpec := { name := "fnExactRunCircuit", fn := fun _ => fun
  | [d1, d2] => { results := [.lit (.bool false)], args := [d1, d2] }
  | _ => none }
def FnExactRunCircuitWrongFalsely : Prop := fnExactRunCircuitRow.holds Tryd.pinned (OpenSpec.ofChange fnExactRunCircuitWrong)

/-- 'laws.FnExactGateValues': WHATEVER THE INPUT: true; the input reads as it did. -/
def fnExactGateValuesSpec : ChangeSpec := { name := "fnExactGateValues", fn := fun _ => fun
  | [d1, d2] => { results := [.lit (.bool true)], args := [d1, d2] }
  | _ => none }
def fnExactGateValuesRow : OpenClaim := { program := "ytngaelifkhelbaadoor", sum := "1afe3f9572326b313335448dbc578751c46bd5e8c7e83ec8af05322b80f59842", func := "loop.example/g01307/laws.FnExactGateValues", spec := "fnExactGateValues", inPlace := ["internal/reflectlite.ValueOf", "(internal/reflectlite.Value).Type", "(internal/reflectlite.Value).IsNil", "internal/reflectlite.TypeOf", "(internal/reflectlite.Value).Elem", "(internal/reflectlite.Value).Set"], unfollowed := true, recurses := true, named := ["errors.errorType"], apart := false, laid := [("errors.errorType", laid_errors_errorType)] }
def FnExactGateValuesSaid : Prop := fnExactGateValuesRow.holds Tryd.pinned (OpenSpec.ofChange fnExactGateValuesSpec)

/-- ITS FALSE NEIGHBOUR: 'it returns false'. Refute it at one input. -/
def fnExactGateValuesWrong : ChangeSpec := { name := "fnExactGateValues", fn := fun _ => fun
  | [d1, d2] => { results := [.lit (.bool false)], args := [d1, d2] }
  | _ => none }
def FnExactGateValuesWrongFalsely : Prop := fnExactGateValuesRow.holds Tryd.pinned (OpenSpec.ofChange fnExactGateValuesWrong)

/-- 'laws.FnExactCountGates': WHATEVER THE INPUT: true; the input reads as it did. -/
def fnExactCountGatesSpec : ChangeSpec := { name := "fnExactCountGates", fn := fun _ => fun
  | [d] => { results := [.lit (.bool true)], args := [d] }
  | _ => none }
def fnExactCountGatesRow : OpenClaim := { program := "ytngaelifkhelbaadoor", sum := "1afe3f9572326b313335448dbc578751c46bd5e8c7e83ec8af05322b80f59842", func := "loop.example/g01307/laws.FnExactCountGates", spec := "fnExactCountGates", inPlace := ["internal/reflectlite.ValueOf", "(internal/reflectlite.Value).Type", "(internal/reflectlite.Value).IsNil", "internal/reflectlite.TypeOf", "(internal/reflectlite.Value).Elem", "(internal/reflectlite.Value).Set"], unfollowed := true, recurses := true, named := ["errors.errorType"], apart := false, laid := [("errors.errorType", laid_errors_errorType)] }
def FnExactCountGatesSaid : Prop := fnExactCountGatesRow.holds Tryd.pinned (OpenSpec.ofChange fnExactCountGatesSpec)

/-- ITS FALSE NEIGHBOUR: 'it returns false'. Refute it at one input. -/
def fnExactCountGatesWrong : ChangeSpec := { name := "fnExactCountGates", fn := fun _ => fun
  | [d] => { results := [.lit (.bool false)], args := [d] }
  | _ => none }
def FnExactCountGatesWrongFalsely : Prop := fnExactCountGatesRow.holds Tryd.pinned (OpenSpec.ofChange fnExactCountGatesWrong)

/-- 'laws.FnExactDepthOf': WHATEVER THE INPUT: true; the input reads as it did. -/
def fnExactDepthOfSpec : ChangeSpec := { name := "fnExactDepthOf", fn := fun _ => fun
  | [d] => { results := [.lit (.bool true)], args := [d] }
  | _ => none }
def fnExactDepthOfRow : OpenClaim := { program := "ytngaelifkhelbaadoor", sum := "1afe3f9572326b313335448dbc578751c46bd5e8c7e83ec8af05322b80f59842", func := "loop.example/g01307/laws.FnExactDepthOf", spec := "fnExactDepthOf", inPlace := ["internal/reflectlite.ValueOf", "(internal/reflectlite.Value).Type", "(internal/reflectlite.Value).IsNil", "internal/reflectlite.TypeOf", "(internal/reflectlite.Value).Elem", "(internal/reflectlite.Value).Set"], unfollowed := true, recurses := true, named := ["errors.errorType"], apart := false, laid := [("errors.errorType", laid_errors_errorType)] }
def FnExactDepthOfSaid : Prop := fnExactDepthOfRow.holds Tryd.pinned (OpenSpec.ofChange fnExactDepthOfSpec)

/-- ITS FALSE NEIGHBOUR: 'it returns false'. Refute it at one input. -/
def fnExactDepthOfWrong : ChangeSpec := { name := "fnExactDepthOf", fn := fun _ => fun
  | [d] => { results := [.lit (.bool false)], args := [d] }
  | _ => none }
def FnExactDepthOfWrongFalsely : Prop := fnExactDepthOfRow.holds Tryd.pinned (OpenSpec.ofChange fnExactDepthOfWrong)

/-- 'laws.FnExactNeededGates': WHATEVER THE INPUT: true; the input reads as it did. -/
def fnExactNeededGatesSpec : ChangeSpec := { name := "fnExactNeededGates", fn := fun _ => fun
  | [d] => { results := [.lit (.bool true)], args := [d] }
  | _ => none }
def fnExactNeededGatesRow : OpenClaim := { program := "ytngaelifkhelbaadoor", sum := "1afe3f9572326b313335448dbc578751c46bd5e8c7e83ec8af05322b80f59842", func := "loop.example/g01307/laws.FnExactNeededGates", spec := "fnExactNeededGates", inPlace := ["internal/reflectlite.ValueOf", "(internal/reflectlite.Value).Type", "(internal/reflectlite.Value).IsNil", "internal/reflectlite.TypeOf", "(internal/reflectlite.Value).Elem", "(internal/reflectlite.Value).Set"], unfollowed := true, recurses := true, named := ["errors.errorType"], apart := false, laid := [("errors.errorType", laid_errors_errorType)] }
def FnExactNeededGatesSaid : Prop := fnExactNeededGatesRow.holds Tryd.pinned (OpenSpec.ofChange fnExactNeededGatesSpec)

/-- ITS FALSE NEIGHBOUR: 'it returns false'. Refute it at one input. -/
def fnExactNeededGatesWrong : ChangeSpec := { name := "fnExactNeededGates", fn := fun _ => fun
  | [d] => { results := [.lit (.bool false)], args := [d] }
  | _ => none }
def FnExactNeededGatesWrongFalsely : Prop := fnExactNeededGatesRow.holds Tryd.pinned (OpenSpec.ofChange fnExactNeededGatesWrong)

/-- 'laws.FnExactFlipGate': WHATEVER THE INPUT: true; the input reads as it did. -/
def fnExactFlipGateSpec : ChangeSpec := { name := "fnExactFlipGate", fn := fun _ => fun
  | [d1, d2] => { results := [.lit (.bool true)], args := [d1, d2] }
  | _ => none }
def fnExactFlipGateRow : OpenClaim := { program := "ytngaelifkhelbaadoor", sum := "1afe3f9572326b313335448dbc578751c46bd5e8c7e83ec8af05322b80f59842", func := "loop.example/g01307/laws.FnExactFlipGate", spec := "fnExactFlipGate", inPlace := ["internal/reflectlite.ValueOf", "(internal/reflectlite.Value).Type", "(internal/reflectlite.Value).IsNil", "internal/reflectlite.TypeOf", "(internal/reflectlite.Value).Elem", "(internal/reflectlite.Value).Set"], unfollowed := true, recurses := true, named := ["errors.errorType"], apart := false, laid := [("errors.errorType", laid_errors_errorType)] }
def FnExactFlipGateSaid : Prop := fnExactFlipGateRow.holds Tryd.pinned (OpenSpec.ofChange fnExactFlipGateSpec)

/-- ITS FALSE NEIGHBOUR: 'it returns false'. Refute it at one input. -/
def fnExactFlipGateWrong : ChangeSpec := { name := "fnExactFlipGate", fn := fun _ => fun
  | [d1, d2] => { results := [.lit (.bool false)], args := [d1, d2] }
  | _ => none }
def FnExactFlipGateWrongFalsely : Prop := fnExactFlipGateRow.holds Tryd.pinned (OpenSpec.ofChange fnExactFlipGateWrong)

/-- 'laws.FnExactAlikeCircuits': WHATEVER THE INPUT: true; the input reads as it did. -/
def fnExactAlikeCircuitsSpec : ChangeSpec := { name := "fnExactAlikeCircuits", fn := fun _ => fun
  | [d1, d2] => { results := [.lit (.bool true)], args := [d1, d2] }
  | _ => none }
def fnExactAlikeCircuitsRow : OpenClaim := { program := "ytngaelifkhelbaadoor", sum := "1afe3f9572326b313335448dbc578751c46bd5e8c7e83ec8af05322b80f59842", func := "loop.example/g01307/laws.FnExactAlikeCircuits", spec := "fnExactAlikeCircuits", inPlace := ["internal/reflectlite.ValueOf", "(internal/reflectlite.Value).Type", "(internal/reflectlite.Value).IsNil", "internal/reflectlite.TypeOf", "(internal/reflectlite.Value).Elem", "(internal/reflectlite.Value).Set"], unfollowed := true, recurses := true, named := ["errors.errorType"], apart := false, laid := [("errors.errorType", laid_errors_errorType)] }
def FnExactAlikeCircuitsSaid : Prop := fnExactAlikeCircuitsRow.holds Tryd.pinned (OpenSpec.ofChange fnExactAlikeCircuitsSpec)

/-- ITS FALSE NEIGHBOUR: 'it returns false'. Refute it at one input. -/
def fnExactAlikeCircuitsWrong : ChangeSpec := { name := "fnExactAlikeCircuits", fn := fun _ => fun
  | [d1, d2] => { results := [.lit (.bool false)], args := [d1, d2] }
  | _ => none }
def FnExactAlikeCircuitsWrongFalsely : Prop := fnExactAlikeCircuitsRow.holds Tryd.pinned (OpenSpec.ofChange fnExactAlikeCircuitsWrong)

/-- 'laws.FnExactTrimCircuit': WHATEVER THE INPUT: true; the input reads as it did. -/
def fnExactTrimCircuitSpec : ChangeSpec := { name := "fnExactTrimCircuit", fn := fun _ => fun
  | [d] => { results := [.lit (.bool true)], args := [d] }
  | _ => none }
def fnExactTrimCircuitRow : OpenClaim := { program := "ytngaelifkhelbaadoor", sum := "1afe3f9572326b313335448dbc578751c46bd5e8c7e83ec8af05322b80f59842", func := "loop.example/g01307/laws.FnExactTrimCircuit", spec := "fnExactTrimCircuit", inPlace := ["internal/reflectlite.ValueOf", "(internal/reflectlite.Value).Type", "(internal/reflectlite.Value).IsNil", "internal/reflectlite.TypeOf", "(internal/reflectlite.Value).Elem", "(internal/reflectlite.Value).Set"], unfollowed := true, recurses := true, named := ["errors.errorType"], apart := false, laid := [("errors.errorType", laid_errors_errorType)] }
def FnExactTrimCircuitSaid : Prop := fnExactTrimCircuitRow.holds Tryd.pinned (OpenSpec.ofChange fnExactTrimCircuitSpec)

/-- ITS FALSE NEIGHBOUR: 'it returns false'. Refute it at one input. -/
def fnExactTrimCircuitWrong : ChangeSpec := { name := "fnExactTrimCircuit", fn := fun _ => fun
  | [d] => { results := [.lit (.bool false)], args := [d] }
  | _ => none }
def FnExactTrimCircuitWrongFalsely : Prop := fnExactTrimCircuitRow.holds Tryd.pinned (OpenSpec.ofChange fnExactTrimCircuitWrong)

/-- 'laws.FnExactPlusCircuit': WHATEVER THE INPUT: true; the input reads as it did. -/
def fnExactPlusCircuitSpec : ChangeSpec := { name := "fnExactPlusCircuit", fn := fun _ => fun
  | [d] => { results := [.lit (.bool true)], args := [d] }
  | _ => none }
def fnExactPlusCircuitRow : OpenClaim := { program := "ytngaelifkhelbaadoor", sum := "1afe3f9572326b313335448dbc578751c46bd5e8c7e83ec8af05322b80f59842", func := "loop.example/g01307/laws.FnExactPlusCircuit", spec := "fnExactPlusCircuit", inPlace := ["internal/reflectlite.ValueOf", "(internal/reflectlite.Value).Type", "(internal/reflectlite.Value).IsNil", "internal/reflectlite.TypeOf", "(internal/reflectlite.Value).Elem", "(internal/reflectlite.Value).Set"], unfollowed := true, recurses := true, named := ["errors.errorType"], apart := false, laid := [("errors.errorType", laid_errors_errorType)] }
def FnExactPlusCircuitSaid : Prop := fnExactPlusCircuitRow.holds Tryd.pinned (OpenSpec.ofChange fnExactPlusCircuitSpec)

/-- ITS FALSE NEIGHBOUR: 'it returns false'. Refute it at one input. -/
def fnExactPlusCircuitWrong : ChangeSpec := { name := "fnExactPlusCircuit", fn := fun _ => fun
  | [d] => { results := [.lit (.bool false)], args := [d] }
  | _ => none }
def FnExactPlusCircuitWrongFalsely : Prop := fnExactPlusCircuitRow.holds Tryd.pinned (OpenSpec.ofChange fnExactPlusCircuitWrong)

/-- 'laws.FnExactTimesCircuit': WHATEVER THE INPUT: true; the input reads as it did. -/
def fnExactTimesCircuitSpec : ChangeSpec := { name := "fnExactTimesCircuit", fn := fun _ => fun
  | [d] => { results := [.lit (.bool true)], args := [d] }
  | _ => none }
def fnExactTimesCircuitRow : OpenClaim := { program := "ytngaelifkhelbaadoor", sum := "1afe3f9572326b313335448dbc578751c46bd5e8c7e83ec8af05322b80f59842", func := "loop.example/g01307/laws.FnExactTimesCircuit", spec := "fnExactTimesCircuit", inPlace := ["internal/reflectlite.ValueOf", "(internal/reflectlite.Value).Type", "(internal/reflectlite.Value).IsNil", "internal/reflectlite.TypeOf", "(internal/reflectlite.Value).Elem", "(internal/reflectlite.Value).Set"], unfollowed := true, recurses := true, named := ["errors.errorType"], apart := false, laid := [("errors.errorType", laid_errors_errorType)] }
def FnExactTimesCircuitSaid : Prop := fnExactTimesCircuitRow.holds Tryd.pinned (OpenSpec.ofChange fnExactTimesCircuitSpec)

/-- ITS FALSE NEIGHBOUR: 'it returns false'. Refute it at one input. -/
def fnExactTimesCircuitWrong : ChangeSpec := { name := "fnExactTimesCircuit", fn := fun _ => fun
  | [d] => { results := [.lit (.bool false)], args := [d] }
  | _ => none }
def FnExactTimesCircuitWrongFalsely : Prop := fnExactTimesCircuitRow.holds Tryd.pinned (OpenSpec.ofChange fnExactTimesCircuitWrong)

/-- 'laws.FnExactShortTimes': WHATEVER THE INPUT: true; the input reads as it did. -/
def fnExactShortTimesSpec : ChangeSpec := { name := "fnExactShortTimes", fn := fun _ => fun
  | [d] => { results := [.lit (.bool true)], args := [d] }
  | _ => none }
def fnExactShortTimesRow : OpenClaim := { program := "ytngaelifkhelbaadoor", sum := "1afe3f9572326b313335448dbc578751c46bd5e8c7e83ec8af05322b80f59842", func := "loop.example/g01307/laws.FnExactShortTimes", spec := "fnExactShortTimes", inPlace := ["internal/reflectlite.ValueOf", "(internal/reflectlite.Value).Type", "(internal/reflectlite.Value).IsNil", "internal/reflectlite.TypeOf", "(internal/reflectlite.Value).Elem", "(internal/reflectlite.Value).Set"], unfollowed := true, recurses := true, named := ["errors.errorType"], apart := false, laid := [("errors.errorType", laid_errors_errorType)] }
def FnExactShortTimesSaid : Prop := fnExactShortTimesRow.holds Tryd.pinned (OpenSpec.ofChange fnExactShortTimesSpec)

/-- ITS FALSE NEIGHBOUR: 'it returns false'. Refute it at one input. -/
def fnExactShortTimesWrong : ChangeSpec := { name := "fnExactShortTimes", fn := fun _ => fun
  | [d] => { results := [.lit (.bool false)], args := [d] }
  | _ => none }
def FnExactShortTimesWrongFalsely : Prop := fnExactShortTimesRow.holds Tryd.pinned (OpenSpec.ofChange fnExactShortTimesWrong)

/-- 'laws.FnExactHalfTimes': WHATEVER THE INPUT: true; the input reads as it did. -/
def fnExactHalfTimesSpec : ChangeSpec := { name := "fnExactHalfTimes", fn := fun _ => fun
  | [d] => { results := [.lit (.bool true)], args := [d] }
  | _ => none }
def fnExactHalfTimesRow : OpenClaim := { program := "ytngaelifkhelbaadoor", sum := "1afe3f9572326b313335448dbc578751c46bd5e8c7e83ec8af05322b80f59842", func := "loop.example/g01307/laws.FnExactHalfTimes", spec := "fnExactHalfTimes", inPlace := ["internal/reflectlite.ValueOf", "(internal/reflectlite.Value).Type", "(internal/reflectlite.Value).IsNil", "internal/reflectlite.TypeOf", "(internal/reflectlite.Value).Elem", "(internal/reflectlite.Value).Set"], unfollowed := true, recurses := true, named := ["errors.errorType"], apart := false, laid := [("errors.errorType", laid_errors_errorType)] }
def FnExactHalfTimesSaid : Prop := fnExactHalfTimesRow.holds Tryd.pinned (OpenSpec.ofChange fnExactHalfTimesSpec)

/-- ITS FALSE NEIGHBOUR: 'it returns false'. Refute it at one input. -/
def fnExactHalfTimesWrong : ChangeSpec := { name := "fnExactHalfTimes", fn := fun _ => fun
  | [d] => { results := [.lit (.bool false)], args := [d] }
  | _ => none }
def FnExactHalfTimesWrongFalsely : Prop := fnExactHalfTimesRow.holds Tryd.pinned (OpenSpec.ofChange fnExactHalfTimesWrong)

/- THE SECOND FORM. 'bulk': how many values and letters a reading holds, each counted each time it is reached (what is shared counts as often as it is met; a slice's spare places count too). A statement '..UptoSaid' is the law's where the arguments, and the package variables that the reading takes, are together of bulk at most 1048576: NARROWER than '..Said'. Prove '..Said' where nothing that the law and all that it calls make is longer than what came in: it says more and counts as full. Else prove '..UptoSaid'. A law counts once. -/
mutual
def uptoBulk {H : Type} : DataW H → Nat
  | .lit (.string bytes) => bytes.length + 1
  | .lit _ => 1
  | .nil => 1
  | .ptr d => uptoBulk d + 1
  | .slice elems spare => uptoBulkAll elems + uptoBulkAll spare + 1
  | .agg parts => uptoBulkAll parts + 1
  | .iface _ d => uptoBulk d + 1
  | .map entries => uptoBulkEntries entries + 1
  | .held _ => 1
def uptoBulkAll {H : Type} : List (DataW H) → Nat
  | [] => 0
  | d :: r => uptoBulk d + uptoBulkAll r
def uptoBulkEntries {H : Type} : List (Lit × DataW H) → Nat
  | [] => 0
  | x :: r => uptoBulkEntry x + uptoBulkEntries r
def uptoBulkEntry {H : Type} : Lit × DataW H → Nat
  | (.string bytes, d) => bytes.length + uptoBulk d + 1
  | (_, d) => uptoBulk d + 1
 end
def uptoSmall : (H : Type) → List (DataW H) → Bool := fun _ ds => decide (uptoBulkAll ds ≤ 1048576)
def OpenSpec.upto (s : _root_.Go.ChangeSpec) : _root_.Go.OpenSpec := { _root_.Go.OpenSpec.ofChange s with cond := some uptoSmall }

/-- 'laws.FnExactRunCircuit', WHERE WHAT IT READS IS OF BULK AT MOST 1048576: true; the input reads as it did. -/
def fnExactRunCircuitUptoRow : OpenClaim := { program := "ytngaelifkhelbaadoor", sum := "1afe3f9572326b313335448dbc578751c46bd5e8c7e83ec8af05322b80f59842", func := "loop.example/g01307/laws.FnExactRunCircuit", spec := "fnExactRunCircuit", inPlace := ["internal/reflectlite.ValueOf", "(internal/reflectlite.Value).Type", "(internal/reflectlite.Value).IsNil", "internal/reflectlite.TypeOf", "(internal/reflectlite.Value).Elem", "(internal/reflectlite.Value).Set"], unfollowed := true, recurses := true, named := ["errors.errorType"], apart := false, laid := [("errors.errorType", laid_errors_errorType)], narrowed := true }
def FnExactRunCircuitUptoSaid : Prop := fnExactRunCircuitUptoRow.holds Tryd.pinned (OpenSpec.upto fnExactRunCircuitSpec)

/-- 'laws.FnExactGateValues', WHERE WHAT IT READS IS OF BULK AT MOST 1048576: true; the input reads as it did. -/
def fnExactGateValuesUptoRow : OpenClaim := { program := "ytngaelifkhelbaadoor", sum := "1afe3f9572326b313335448dbc578751c46bd5e8c7e83ec8af05322b80f59842", func := "loop.example/g01307/laws.FnExactGateValues", spec := "fnExactGateValues", inPlace := ["internal/reflectlite.ValueOf", "(internal/reflectlite.Value).Type", "(internal/reflectlite.Value).IsNil", "internal/reflectlite.TypeOf", "(internal/reflectlite.Value).Elem", "(internal/reflectlite.Value).Set"], unfollowed := true, recurses := true, named := ["errors.errorType"], apart := false, laid := [("errors.errorType", laid_errors_errorType)], narrowed := true }
def FnExactGateValuesUptoSaid : Prop := fnExactGateValuesUptoRow.holds Tryd.pinned (OpenSpec.upto fnExactGateValuesSpec)

/-- 'laws.FnExactCountGates', WHERE WHAT IT READS IS OF BULK AT MOST 1048576: true; the input reads as it did. -/
def fnExactCountGatesUptoRow : OpenClaim := { program := "ytngaelifkhelbaadoor", sum := "1afe3f9572326b313335448dbc578751c46bd5e8c7e83ec8af05322b80f59842", func := "loop.example/g01307/laws.FnExactCountGates", spec := "fnExactCountGates", inPlace := ["internal/reflectlite.ValueOf", "(internal/reflectlite.Value).Type", "(internal/reflectlite.Value).IsNil", "internal/reflectlite.TypeOf", "(internal/reflectlite.Value).Elem", "(internal/reflectlite.Value).Set"], unfollowed := true, recurses := true, named := ["errors.errorType"], apart := false, laid := [("errors.errorType", laid_errors_errorType)], narrowed := true }
def FnExactCountGatesUptoSaid : Prop := fnExactCountGatesUptoRow.holds Tryd.pinned (OpenSpec.upto fnExactCountGatesSpec)

/-- 'laws.FnExactDepthOf', WHERE WHAT IT READS IS OF BULK AT MOST 1048576: true; the input reads as it did. -/
def fnExactDepthOfUptoRow : OpenClaim := { program := "ytngaelifkhelbaadoor", sum := "1afe3f9572326b313335448dbc578751c46bd5e8c7e83ec8af05322b80f59842", func := "loop.example/g01307/laws.FnExactDepthOf", spec := "fnExactDepthOf", inPlace := ["internal/reflectlite.ValueOf", "(internal/reflectlite.Value).Type", "(internal/reflectlite.Value).IsNil", "internal/reflectlite.TypeOf", "(internal/reflectlite.Value).Elem", "(internal/reflectlite.Value).Set"], unfollowed := true, recurses := true, named := ["errors.errorType"], apart := false, laid := [("errors.errorType", laid_errors_errorType)], narrowed := true }
def FnExactDepthOfUptoSaid : Prop := fnExactDepthOfUptoRow.holds Tryd.pinned (OpenSpec.upto fnExactDepthOfSpec)

/-- 'laws.FnExactNeededGates', WHERE WHAT IT READS IS OF BULK AT MOST 1048576: true; the input reads as it did. -/
def fnExactNeededGatesUptoRow : OpenClaim := { program := "ytngaelifkhelbaadoor", sum := "1afe3f9572326b313335448dbc578751c46bd5e8c7e83ec8af05322b80f59842", func := "loop.example/g01307/laws.FnExactNeededGates", spec := "fnExactNeededGates", inPlace := ["internal/reflectlite.ValueOf", "(internal/reflectlite.Value).Type", "(internal/reflectlite.Value).IsNil", "internal/reflectlite.TypeOf", "(internal/reflectlite.Value).Elem", "(internal/reflectlite.Value).Set"], unfollowed := true, recurses := true, named := ["errors.errorType"], apart := false, laid := [("errors.errorType", laid_errors_errorType)], narrowed := true }
def FnExactNeededGatesUptoSaid : Prop := fnExactNeededGatesUptoRow.holds Tryd.pinned (OpenSpec.upto fnExactNeededGatesSpec)

/-- 'laws.FnExactFlipGate', WHERE WHAT IT READS IS OF BULK AT MOST 1048576: true; the input reads as it did. -/
def fnExactFlipGateUptoRow : OpenClaim := { program := "ytngaelifkhelbaadoor", sum := "1afe3f9572326b313335448dbc578751c46bd5e8c7e83ec8af05322b80f59842", func := "loop.example/g01307/laws.FnExactFlipGate", spec := "fnExactFlipGate", inPlace := ["internal/reflectlite.ValueOf", "(internal/reflectlite.Value).Type", "(internal/reflectlite.Value).IsNil", "internal/reflectlite.TypeOf", "(internal/reflectlite.Value).Elem", "(internal/reflectlite.Value).Set"], unfollowed := true, recurses := true, named := ["errors.errorType"], apart := false, laid := [("errors.errorType", laid_errors_errorType)], narrowed := true }
def FnExactFlipGateUptoSaid : Prop := fnExactFlipGateUptoRow.holds Tryd.pinned (OpenSpec.upto fnExactFlipGateSpec)

/-- 'laws.FnExactAlikeCircuits', WHERE WHAT IT READS IS OF BULK AT MOST 1048576: true; the input reads as it did. -/
def fnExactAlikeCircuitsUptoRow : OpenClaim := { program := "ytngaelifkhelbaadoor", sum := "1afe3f9572326b313335448dbc578751c46bd5e8c7e83ec8af05322b80f59842", func := "loop.example/g01307/laws.FnExactAlikeCircuits", spec := "fnExactAlikeCircuits", inPlace := ["internal/reflectlite.ValueOf", "(internal/reflectlite.Value).Type", "(internal/reflectlite.Value).IsNil", "internal/reflectlite.TypeOf", "(internal/reflectlite.Value).Elem", "(internal/reflectlite.Value).Set"], unfollowed := true, recurses := true, named := ["errors.errorType"], apart := false, laid := [("errors.errorType", laid_errors_errorType)], narrowed := true }
def FnExactAlikeCircuitsUptoSaid : Prop := fnExactAlikeCircuitsUptoRow.holds Tryd.pinned (OpenSpec.upto fnExactAlikeCircuitsSpec)

/-- 'laws.FnExactTrimCircuit', WHERE WHAT IT READS IS OF BULK AT MOST 1048576: true; the input reads as it did. -/
def fnExactTrimCircuitUptoRow : OpenClaim := { program := "ytngaelifkhelbaadoor", sum := "1afe3f9572326b313335448dbc578751c46bd5e8c7e83ec8af05322b80f59842", func := "loop.example/g01307/laws.FnExactTrimCircuit", spec := "fnExactTrimCircuit", inPlace := ["internal/reflectlite.ValueOf", "(internal/reflectlite.Value).Type", "(internal/reflectlite.Value).IsNil", "internal/reflectlite.TypeOf", "(internal/reflectlite.Value).Elem", "(internal/reflectlite.Value).Set"], unfollowed := true, recurses := true, named := ["errors.errorType"], apart := false, laid := [("errors.errorType", laid_errors_errorType)], narrowed := true }
def FnExactTrimCircuitUptoSaid : Prop := fnExactTrimCircuitUptoRow.holds Tryd.pinned (OpenSpec.upto fnExactTrimCircuitSpec)

/-- 'laws.FnExactPlusCircuit', WHERE WHAT IT READS IS OF BULK AT MOST 1048576: true; the input reads as it did. -/
def fnExactPlusCircuitUptoRow : OpenClaim := { program := "ytngaelifkhelbaadoor", sum := "1afe3f9572326b313335448dbc578751c46bd5e8c7e83ec8af05322b80f59842", func := "loop.example/g01307/laws.FnExactPlusCircuit", spec := "fnExactPlusCircuit", inPlace := ["internal/reflectlite.ValueOf", "(internal/reflectlite.Value).Type", "(internal/reflectlite.Value).IsNil", "internal/reflectlite.TypeOf", "(internal/reflectlite.Value).Elem", "(internal/reflectlite.Value).Set"], unfollowed := true, recurses := true, named := ["errors.errorType"], apart := false, laid := [("errors.errorType", laid_errors_errorType)], narrowed := true }
def FnExactPlusCircuitUptoSaid : Prop := fnExactPlusCircuitUptoRow.holds Tryd.pinned (OpenSpec.upto fnExactPlusCircuitSpec)

/-- 'laws.FnExactTimesCircuit', WHERE WHAT IT READS IS OF BULK AT MOST 1048576: true; the input reads as it did. -/
def fnExactTimesCircuitUptoRow : OpenClaim := { program := "ytngaelifkhelbaadoor", sum := "1afe3f9572326b313335448dbc578751c46bd5e8c7e83ec8af05322b80f59842", func := "loop.example/g01307/laws.FnExactTimesCircuit", spec := "fnExactTimesCircuit", inPlace := ["internal/reflectlite.ValueOf", "(internal/reflectlite.Value).Type", "(internal/reflectlite.Value).IsNil", "internal/reflectlite.TypeOf", "(internal/reflectlite.Value).Elem", "(internal/reflectlite.Value).Set"], unfollowed := true, recurses := true, named := ["errors.errorType"], apart := false, laid := [("errors.errorType", laid_errors_errorType)], narrowed := true }
def FnExactTimesCircuitUptoSaid : Prop := fnExactTimesCircuitUptoRow.holds Tryd.pinned (OpenSpec.upto fnExactTimesCircuitSpec)

/-- 'laws.FnExactShortTimes', WHERE WHAT IT READS IS OF BULK AT MOST 1048576: true; the input reads as it did. -/
def fnExactShortTimesUptoRow : OpenClaim := { program := "ytngaelifkhelbaadoor", sum := "1afe3f9572326b313335448dbc578751c46bd5e8c7e83ec8af05322b80f59842", func := "loop.example/g01307/laws.FnExactShortTimes", spec := "fnExactShortTimes", inPlace := ["internal/reflectlite.ValueOf", "(internal/reflectlite.Value).Type", "(internal/reflectlite.Value).IsNil", "internal/reflectlite.TypeOf", "(internal/reflectlite.Value).Elem", "(internal/reflectlite.Value).Set"], unfollowed := true, recurses := true, named := ["errors.errorType"], apart := false, laid := [("errors.errorType", laid_errors_errorType)], narrowed := true }
def FnExactShortTimesUptoSaid : Prop := fnExactShortTimesUptoRow.holds Tryd.pinned (OpenSpec.upto fnExactShortTimesSpec)

/-- 'laws.FnExactHalfTimes', WHERE WHAT IT READS IS OF BULK AT MOST 1048576: true; the input reads as it did. -/
def fnExactHalfTimesUptoRow : OpenClaim := { program := "ytngaelifkhelbaadoor", sum := "1afe3f9572326b313335448dbc578751c46bd5e8c7e83ec8af05322b80f59842", func := "loop.example/g01307/laws.FnExactHalfTimes", spec := "fnExactHalfTimes", inPlace := ["internal/reflectlite.ValueOf", "(internal/reflectlite.Value).Type", "(internal/reflectlite.Value).IsNil", "internal/reflectlite.TypeOf", "(internal/reflectlite.Value).Elem", "(internal/reflectlite.Value).Set"], unfollowed := true, recurses := true, named := ["errors.errorType"], apart := false, laid := [("errors.errorType", laid_errors_errorType)], narrowed := true }
def FnExactHalfTimesUptoSaid : Prop := fnExactHalfTimesUptoRow.holds Tryd.pinned (OpenSpec.upto fnExactHalfTimesSpec)

end Rows
end Go.Proofs.YtngaelifkhelbaaDoor
