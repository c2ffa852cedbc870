/-
  No cell of these rows narrows 'for every input' (looked for: loops, veiled, ifaces, maps, wideKeys, modest, calm, conditions, laid).
  DERIVED. THE GIVEN ROWS OF THIS SEAT. 25 by the template 'for every input the law returns true; each argument reads behind the call as it read before'; 0 by the template 'total and deterministic' (their statements: YtjbaeomjinnlhaaTotals.lean).
  GIVEN WITH THE SEED: the statements are not yours to turn. If you find one false, say at which input.
  Laid BY PROGRAM, IN A SANDBOX (cutbox-rows.mjs): the forced cells as the released guide's own fill.sh prints them over the translation 379daa07aef168f1… (all of the seat's roots in one cut). By AI agents, Wed Nov 11 2026. No macro, syntax, notation, axiom, sorry.
-/
import Derived.Test.YtjbaeomjinnlhaaChecked
import GoSem.Claim
import GoSem.ClaimJoined
import GoSem.ClaimMapViews
import Derived.JoinedTies
import Derived.KernelRfl
namespace Go.Proofs.Ytjbaeomjinnlhaa
/- THE CELL 'sum', in the pinned program and in every row, IS THE sha256 OF THE DUMP (.gsa) THAT YtjbaeomjinnlhaaProg.lean LOADS. Nothing in Lean hashes anything: it is a label: what it is worth is what the hold of that sum in a sandbox is worth. -/
noncomputable def Try.pinned : Pinned := { name := "ytjbaeomjinnlhaa", sum := "379daa07aef168f1cd27caf2e32db8a5da777adc0f1dfe2cb2f8745348b8a7b8", checked := Try.checked }
namespace Rows
def none {H : Type} : Left H := { results := [], args := [] }

/-- 'laws.FnExactValidMatrix': WHATEVER THE INPUT: true; the input reads as it did. -/
def fnExactValidMatrixSpec : ChangeSpec := { name := "fnExactValidMatrix", fn := fun _ => fun
  | [d] => { results := [.lit (.bool true)], args := [d] }
  | _ => none }
def fnExactValidMatrixRow : OpenClaim := { program := "ytjbaeomjinnlhaa", sum := "379daa07aef168f1cd27caf2e32db8a5da777adc0f1dfe2cb2f8745348b8a7b8", func := "loop.example/g01307/laws.FnExactValidMatrix", spec := "fnExactValidMatrix", plainKeys := false, apart := false }
def FnExactValidMatrixSaid : Prop := fnExactValidMatrixRow.holds Try.pinned (OpenSpec.ofChange fnExactValidMatrixSpec)

/-- ITS FALSE NEIGHBOUR: 'it returns false'. Refute it at one input. -/
def fnExactValidMatrixWrong : ChangeSpec := { name := "fnExactValidMatrix", fn := fun _ => fun
  | [d] => { results := [.lit (.bool false)], args := [d] }
  | _ => none }
def FnExactValidMatrixWrongFalsely : Prop := fnExactValidMatrixRow.holds Try.pinned (OpenSpec.ofChange fnExactValidMatrixWrong)

/-- 'laws.FnExactOneMatrix': WHATEVER THE INPUT: true; the input reads as it did. -/
def fnExactOneMatrixSpec : ChangeSpec := { name := "fnExactOneMatrix", fn := fun _ => fun
  | [d] => { results := [.lit (.bool true)], args := [d] }
  | _ => none }
def fnExactOneMatrixRow : OpenClaim := { program := "ytjbaeomjinnlhaa", sum := "379daa07aef168f1cd27caf2e32db8a5da777adc0f1dfe2cb2f8745348b8a7b8", func := "loop.example/g01307/laws.FnExactOneMatrix", spec := "fnExactOneMatrix", plainKeys := false, apart := false }
def FnExactOneMatrixSaid : Prop := fnExactOneMatrixRow.holds Try.pinned (OpenSpec.ofChange fnExactOneMatrixSpec)

/-- ITS FALSE NEIGHBOUR: 'it returns false'. Refute it at one input. -/
def fnExactOneMatrixWrong : ChangeSpec := { name := "fnExactOneMatrix", fn := fun _ => fun
  | [d] => { results := [.lit (.bool false)], args := [d] }
  | _ => none }
def FnExactOneMatrixWrongFalsely : Prop := fnExactOneMatrixRow.holds Try.pinned (OpenSpec.ofChange fnExactOneMatrixWrong)

/-- 'laws.FnExactPlusMatrix': WHATEVER THE INPUT: true; the input reads as it did. -/
def fnExactPlusMatrixSpec : ChangeSpec := { name := "fnExactPlusMatrix", fn := fun _ => fun
  | [d1, d2] => { results := [.lit (.bool true)], args := [d1, d2] }
  | _ => none }
def fnExactPlusMatrixRow : OpenClaim := { program := "ytjbaeomjinnlhaa", sum := "379daa07aef168f1cd27caf2e32db8a5da777adc0f1dfe2cb2f8745348b8a7b8", func := "loop.example/g01307/laws.FnExactPlusMatrix", spec := "fnExactPlusMatrix", plainKeys := false, apart := false }
def FnExactPlusMatrixSaid : Prop := fnExactPlusMatrixRow.holds Try.pinned (OpenSpec.ofChange fnExactPlusMatrixSpec)

/-- ITS FALSE NEIGHBOUR: 'it returns false'. Refute it at one input. -/
def fnExactPlusMatrixWrong : ChangeSpec := { name := "fnExactPlusMatrix", fn := fun _ => fun
  | [d1, d2] => { results := [.lit (.bool false)], args := [d1, d2] }
  | _ => none }
def FnExactPlusMatrixWrongFalsely : Prop := fnExactPlusMatrixRow.holds Try.pinned (OpenSpec.ofChange fnExactPlusMatrixWrong)

/-- 'laws.FnExactTimesMatrix': WHATEVER THE INPUT: true; the input reads as it did. -/
def fnExactTimesMatrixSpec : ChangeSpec := { name := "fnExactTimesMatrix", fn := fun _ => fun
  | [d1, d2] => { results := [.lit (.bool true)], args := [d1, d2] }
  | _ => none }
def fnExactTimesMatrixRow : OpenClaim := { program := "ytjbaeomjinnlhaa", sum := "379daa07aef168f1cd27caf2e32db8a5da777adc0f1dfe2cb2f8745348b8a7b8", func := "loop.example/g01307/laws.FnExactTimesMatrix", spec := "fnExactTimesMatrix", unfollowed := true, recurses := true, plainKeys := false, leaving := true, apart := false }
def FnExactTimesMatrixSaid : Prop := fnExactTimesMatrixRow.holds Try.pinned (OpenSpec.ofChange fnExactTimesMatrixSpec)

/-- ITS FALSE NEIGHBOUR: 'it returns false'. Refute it at one input. -/
def fnExactTimesMatrixWrong : ChangeSpec := { name := "fnExactTimesMatrix", fn := fun _ => fun
  | [d1, d2] => { results := [.lit (.bool false)], args := [d1, d2] }
  | _ => none }
def FnExactTimesMatrixWrongFalsely : Prop := fnExactTimesMatrixRow.holds Try.pinned (OpenSpec.ofChange fnExactTimesMatrixWrong)

/-- 'laws.FnExactScaleMatrix': WHATEVER THE INPUT: true; the input reads as it did. -/
def fnExactScaleMatrixSpec : ChangeSpec := { name := "fnExactScaleMatrix", fn := fun _ => fun
  | [d1, d2] => { results := [.lit (.bool true)], args := [d1, d2] }
  | _ => none }
def fnExactScaleMatrixRow : OpenClaim := { program := "ytjbaeomjinnlhaa", sum := "379daa07aef168f1cd27caf2e32db8a5da777adc0f1dfe2cb2f8745348b8a7b8", func := "loop.example/g01307/laws.FnExactScaleMatrix", spec := "fnExactScaleMatrix", recurses := true, plainKeys := false, apart := false }
def FnExactScaleMatrixSaid : Prop := fnExactScaleMatrixRow.holds Try.pinned (OpenSpec.ofChange fnExactScaleMatrixSpec)

/-- ITS FALSE NEIGHBOUR: 'it returns false'. Refute it at one input. -/
def fnExactScaleMatrixWrong : ChangeSpec := { name := "fnExactScaleMatrix", fn := fun _ => fun
  | [d1, d2] => { results := [.lit (.bool false)], args := [d1, d2] }
  | _ => none }
def FnExactScaleMatrixWrongFalsely : Prop := fnExactScaleMatrixRow.holds Try.pinned (OpenSpec.ofChange fnExactScaleMatrixWrong)

/-- 'laws.FnExactTurnMatrix': WHATEVER THE INPUT: true; the input reads as it did. -/
def fnExactTurnMatrixSpec : ChangeSpec := { name := "fnExactTurnMatrix", fn := fun _ => fun
  | [d] => { results := [.lit (.bool true)], args := [d] }
  | _ => none }
def fnExactTurnMatrixRow : OpenClaim := { program := "ytjbaeomjinnlhaa", sum := "379daa07aef168f1cd27caf2e32db8a5da777adc0f1dfe2cb2f8745348b8a7b8", func := "loop.example/g01307/laws.FnExactTurnMatrix", spec := "fnExactTurnMatrix", plainKeys := false, apart := false }
def FnExactTurnMatrixSaid : Prop := fnExactTurnMatrixRow.holds Try.pinned (OpenSpec.ofChange fnExactTurnMatrixSpec)

/-- ITS FALSE NEIGHBOUR: 'it returns false'. Refute it at one input. -/
def fnExactTurnMatrixWrong : ChangeSpec := { name := "fnExactTurnMatrix", fn := fun _ => fun
  | [d] => { results := [.lit (.bool false)], args := [d] }
  | _ => none }
def FnExactTurnMatrixWrongFalsely : Prop := fnExactTurnMatrixRow.holds Try.pinned (OpenSpec.ofChange fnExactTurnMatrixWrong)

/-- 'laws.FnExactApplyMatrix': WHATEVER THE INPUT: true; the input reads as it did. -/
def fnExactApplyMatrixSpec : ChangeSpec := { name := "fnExactApplyMatrix", fn := fun _ => fun
  | [d1, d2] => { results := [.lit (.bool true)], args := [d1, d2] }
  | _ => none }
def fnExactApplyMatrixRow : OpenClaim := { program := "ytjbaeomjinnlhaa", sum := "379daa07aef168f1cd27caf2e32db8a5da777adc0f1dfe2cb2f8745348b8a7b8", func := "loop.example/g01307/laws.FnExactApplyMatrix", spec := "fnExactApplyMatrix", unfollowed := true, recurses := true, plainKeys := false, leaving := true, apart := false }
def FnExactApplyMatrixSaid : Prop := fnExactApplyMatrixRow.holds Try.pinned (OpenSpec.ofChange fnExactApplyMatrixSpec)

/-- ITS FALSE NEIGHBOUR: 'it returns false'. Refute it at one input. -/
def fnExactApplyMatrixWrong : ChangeSpec := { name := "fnExactApplyMatrix", fn := fun _ => fun
  | [d1, d2] => { results := [.lit (.bool false)], args := [d1, d2] }
  | _ => none }
def FnExactApplyMatrixWrongFalsely : Prop := fnExactApplyMatrixRow.holds Try.pinned (OpenSpec.ofChange fnExactApplyMatrixWrong)

/-- 'laws.FnExactPowerMatrix': WHATEVER THE INPUT: true; the input reads as it did. -/
def fnExactPowerMatrixSpec : ChangeSpec := { name := "fnExactPowerMatrix", fn := fun _ => fun
  | [d1, d2] => { results := [.lit (.bool true)], args := [d1, d2] }
  | _ => none }
def fnExactPowerMatrixRow : OpenClaim := { program := "ytjbaeomjinnlhaa", sum := "379daa07aef168f1cd27caf2e32db8a5da777adc0f1dfe2cb2f8745348b8a7b8", func := "loop.example/g01307/laws.FnExactPowerMatrix", spec := "fnExactPowerMatrix", unfollowed := true, recurses := true, plainKeys := false, leaving := true, apart := false }
def FnExactPowerMatrixSaid : Prop := fnExactPowerMatrixRow.holds Try.pinned (OpenSpec.ofChange fnExactPowerMatrixSpec)

/-- ITS FALSE NEIGHBOUR: 'it returns false'. Refute it at one input. -/
def fnExactPowerMatrixWrong : ChangeSpec := { name := "fnExactPowerMatrix", fn := fun _ => fun
  | [d1, d2] => { results := [.lit (.bool false)], args := [d1, d2] }
  | _ => none }
def FnExactPowerMatrixWrongFalsely : Prop := fnExactPowerMatrixRow.holds Try.pinned (OpenSpec.ofChange fnExactPowerMatrixWrong)

/-- 'laws.FnExactReduceMatrix': WHATEVER THE INPUT: true; the input reads as it did. -/
def fnExactReduceMatrixSpec : ChangeSpec := { name := "fnExactReduceMatrix", fn := fun _ => fun
  | [d] => { results := [.lit (.bool true)], args := [d] }
  | _ => none }
def fnExactReduceMatrixRow : OpenClaim := { program := "ytjbaeomjinnlhaa", sum := "379daa07aef168f1cd27caf2e32db8a5da777adc0f1dfe2cb2f8745348b8a7b8", func := "loop.example/g01307/laws.FnExactReduceMatrix", spec := "fnExactReduceMatrix", recurses := true, plainKeys := false, apart := false }
def FnExactReduceMatrixSaid : Prop := fnExactReduceMatrixRow.holds Try.pinned (OpenSpec.ofChange fnExactReduceMatrixSpec)

/-- ITS FALSE NEIGHBOUR: 'it returns false'. Refute it at one input. -/
def fnExactReduceMatrixWrong : ChangeSpec := { name := "fnExactReduceMatrix", fn := fun _ => fun
  | [d] => { results := [.lit (.bool false)], args := [d] }
  | _ => none }
def FnExactReduceMatrixWrongFalsely : Prop := fnExactReduceMatrixRow.holds Try.pinned (OpenSpec.ofChange fnExactReduceMatrixWrong)

/-- 'laws.FnExactIsReduced': WHATEVER THE INPUT: true; the input reads as it did. -/
def fnExactIsReducedSpec : ChangeSpec := { name := "fnExactIsReduced", fn := fun _ => fun
  | [d] => { results := [.lit (.bool true)], args := [d] }
  | _ => none }
def fnExactIsReducedRow : OpenClaim := { program := "ytjbaeomjinnlhaa", sum := "379daa07aef168f1cd27caf2e32db8a5da777adc0f1dfe2cb2f8745348b8a7b8", func := "loop.example/g01307/laws.FnExactIsReduced", spec := "fnExactIsReduced", recurses := true, plainKeys := false, apart := false }
def FnExactIsReducedSaid : Prop := fnExactIsReducedRow.holds Try.pinned (OpenSpec.ofChange fnExactIsReducedSpec)

/-- ITS FALSE NEIGHBOUR: 'it returns false'. Refute it at one input. -/
def fnExactIsReducedWrong : ChangeSpec := { name := "fnExactIsReduced", fn := fun _ => fun
  | [d] => { results := [.lit (.bool false)], args := [d] }
  | _ => none }
def FnExactIsReducedWrongFalsely : Prop := fnExactIsReducedRow.holds Try.pinned (OpenSpec.ofChange fnExactIsReducedWrong)

/-- 'laws.FnExactRankOf': WHATEVER THE INPUT: true; the input reads as it did. -/
def fnExactRankOfSpec : ChangeSpec := { name := "fnExactRankOf", fn := fun _ => fun
  | [d] => { results := [.lit (.bool true)], args := [d] }
  | _ => none }
def fnExactRankOfRow : OpenClaim := { program := "ytjbaeomjinnlhaa", sum := "379daa07aef168f1cd27caf2e32db8a5da777adc0f1dfe2cb2f8745348b8a7b8", func := "loop.example/g01307/laws.FnExactRankOf", spec := "fnExactRankOf", recurses := true, plainKeys := false, apart := false }
def FnExactRankOfSaid : Prop := fnExactRankOfRow.holds Try.pinned (OpenSpec.ofChange fnExactRankOfSpec)

/-- ITS FALSE NEIGHBOUR: 'it returns false'. Refute it at one input. -/
def fnExactRankOfWrong : ChangeSpec := { name := "fnExactRankOf", fn := fun _ => fun
  | [d] => { results := [.lit (.bool false)], args := [d] }
  | _ => none }
def FnExactRankOfWrongFalsely : Prop := fnExactRankOfRow.holds Try.pinned (OpenSpec.ofChange fnExactRankOfWrong)

/-- 'laws.FnExactDeterminantOf': WHATEVER THE INPUT: true; the input reads as it did. -/
def fnExactDeterminantOfSpec : ChangeSpec := { name := "fnExactDeterminantOf", fn := fun _ => fun
  | [d] => { results := [.lit (.bool true)], args := [d] }
  | _ => none }
def fnExactDeterminantOfRow : OpenClaim := { program := "ytjbaeomjinnlhaa", sum := "379daa07aef168f1cd27caf2e32db8a5da777adc0f1dfe2cb2f8745348b8a7b8", func := "loop.example/g01307/laws.FnExactDeterminantOf", spec := "fnExactDeterminantOf", recurses := true, plainKeys := false, apart := false }
def FnExactDeterminantOfSaid : Prop := fnExactDeterminantOfRow.holds Try.pinned (OpenSpec.ofChange fnExactDeterminantOfSpec)

/-- ITS FALSE NEIGHBOUR: 'it returns false'. Refute it at one input. -/
def fnExactDeterminantOfWrong : ChangeSpec := { name := "fnExactDeterminantOf", fn := fun _ => fun
  | [d] => { results := [.lit (.bool false)], args := [d] }
  | _ => none }
def FnExactDeterminantOfWrongFalsely : Prop := fnExactDeterminantOfRow.holds Try.pinned (OpenSpec.ofChange fnExactDeterminantOfWrong)

/-- 'laws.FnExactInverseMatrix': WHATEVER THE INPUT: true; the input reads as it did. -/
def fnExactInverseMatrixSpec : ChangeSpec := { name := "fnExactInverseMatrix", fn := fun _ => fun
  | [d] => { results := [.lit (.bool true)], args := [d] }
  | _ => none }
def fnExactInverseMatrixRow : OpenClaim := { program := "ytjbaeomjinnlhaa", sum := "379daa07aef168f1cd27caf2e32db8a5da777adc0f1dfe2cb2f8745348b8a7b8", func := "loop.example/g01307/laws.FnExactInverseMatrix", spec := "fnExactInverseMatrix", recurses := true, plainKeys := false, apart := false }
def FnExactInverseMatrixSaid : Prop := fnExactInverseMatrixRow.holds Try.pinned (OpenSpec.ofChange fnExactInverseMatrixSpec)

/-- ITS FALSE NEIGHBOUR: 'it returns false'. Refute it at one input. -/
def fnExactInverseMatrixWrong : ChangeSpec := { name := "fnExactInverseMatrix", fn := fun _ => fun
  | [d] => { results := [.lit (.bool false)], args := [d] }
  | _ => none }
def FnExactInverseMatrixWrongFalsely : Prop := fnExactInverseMatrixRow.holds Try.pinned (OpenSpec.ofChange fnExactInverseMatrixWrong)

/-- 'laws.FnExactSolveMatrix': WHATEVER THE INPUT: true; the input reads as it did. -/
def fnExactSolveMatrixSpec : ChangeSpec := { name := "fnExactSolveMatrix", fn := fun _ => fun
  | [d1, d2] => { results := [.lit (.bool true)], args := [d1, d2] }
  | _ => none }
def fnExactSolveMatrixRow : OpenClaim := { program := "ytjbaeomjinnlhaa", sum := "379daa07aef168f1cd27caf2e32db8a5da777adc0f1dfe2cb2f8745348b8a7b8", func := "loop.example/g01307/laws.FnExactSolveMatrix", spec := "fnExactSolveMatrix", unfollowed := true, recurses := true, plainKeys := false, leaving := true, apart := false }
def FnExactSolveMatrixSaid : Prop := fnExactSolveMatrixRow.holds Try.pinned (OpenSpec.ofChange fnExactSolveMatrixSpec)

/-- ITS FALSE NEIGHBOUR: 'it returns false'. Refute it at one input. -/
def fnExactSolveMatrixWrong : ChangeSpec := { name := "fnExactSolveMatrix", fn := fun _ => fun
  | [d1, d2] => { results := [.lit (.bool false)], args := [d1, d2] }
  | _ => none }
def FnExactSolveMatrixWrongFalsely : Prop := fnExactSolveMatrixRow.holds Try.pinned (OpenSpec.ofChange fnExactSolveMatrixWrong)

/-- 'laws.FnExactCheckSolution': WHATEVER THE INPUT: true; the input reads as it did. -/
def fnExactCheckSolutionSpec : ChangeSpec := { name := "fnExactCheckSolution", fn := fun _ => fun
  | [d1, d2, d3] => { results := [.lit (.bool true)], args := [d1, d2, d3] }
  | _ => none }
def fnExactCheckSolutionRow : OpenClaim := { program := "ytjbaeomjinnlhaa", sum := "379daa07aef168f1cd27caf2e32db8a5da777adc0f1dfe2cb2f8745348b8a7b8", func := "loop.example/g01307/laws.FnExactCheckSolution", spec := "fnExactCheckSolution", unfollowed := true, recurses := true, plainKeys := false, leaving := true, apart := false }
def FnExactCheckSolutionSaid : Prop := fnExactCheckSolutionRow.holds Try.pinned (OpenSpec.ofChange fnExactCheckSolutionSpec)

/-- ITS FALSE NEIGHBOUR: 'it returns false'. Refute it at one input. -/
def fnExactCheckSolutionWrong : ChangeSpec := { name := "fnExactCheckSolution", fn := fun _ => fun
  | [d1, d2, d3] => { results := [.lit (.bool false)], args := [d1, d2, d3] }
  | _ => none }
def FnExactCheckSolutionWrongFalsely : Prop := fnExactCheckSolutionRow.holds Try.pinned (OpenSpec.ofChange fnExactCheckSolutionWrong)

/-- 'laws.FnExactKernelOf': WHATEVER THE INPUT: true; the input reads as it did. -/
def fnExactKernelOfSpec : ChangeSpec := { name := "fnExactKernelOf", fn := fun _ => fun
  | [d] => { results := [.lit (.bool true)], args := [d] }
  | _ => none }
def fnExactKernelOfRow : OpenClaim := { program := "ytjbaeomjinnlhaa", sum := "379daa07aef168f1cd27caf2e32db8a5da777adc0f1dfe2cb2f8745348b8a7b8", func := "loop.example/g01307/laws.FnExactKernelOf", spec := "fnExactKernelOf", recurses := true, plainKeys := false, apart := false }
def FnExactKernelOfSaid : Prop := fnExactKernelOfRow.holds Try.pinned (OpenSpec.ofChange fnExactKernelOfSpec)

/-- ITS FALSE NEIGHBOUR: 'it returns false'. Refute it at one input. -/
def fnExactKernelOfWrong : ChangeSpec := { name := "fnExactKernelOf", fn := fun _ => fun
  | [d] => { results := [.lit (.bool false)], args := [d] }
  | _ => none }
def FnExactKernelOfWrongFalsely : Prop := fnExactKernelOfRow.holds Try.pinned (OpenSpec.ofChange fnExactKernelOfWrong)

/-- 'laws.FnExactAddRow': WHATEVER THE INPUT: true; the input reads as it did. -/
def fnExactAddRowSpec : ChangeSpec := { name := "fnExactAddRow", fn := fun _ => fun
  | [d1, d2, d3, d4] => { results := [.lit (.bool true)], args := [d1, d2, d3, d4] }
  | _ => none }
def fnExactAddRowRow : OpenClaim := { program := "ytjbaeomjinnlhaa", sum := "379daa07aef168f1cd27caf2e32db8a5da777adc0f1dfe2cb2f8745348b8a7b8", func := "loop.example/g01307/laws.FnExactAddRow", spec := "fnExactAddRow", recurses := true, plainKeys := false, apart := false }
def FnExactAddRowSaid : Prop := fnExactAddRowRow.holds Try.pinned (OpenSpec.ofChange fnExactAddRowSpec)

/-- ITS FALSE NEIGHBOUR: 'it returns false'. Refute it at one input. -/
def fnExactAddRowWrong : ChangeSpec := { name := "fnExactAddRow", fn := fun _ => fun
  | [d1, d2, d3, d4] => { results := [.lit (.bool false)], args := [d1, d2, d3, d4] }
  | _ => none }
def FnExactAddRowWrongFalsely : Prop := fnExactAddRowRow.holds Try.pinned (OpenSpec.ofChange fnExactAddRowWrong)

/-- 'laws.FnExactSwapRows': WHATEVER THE INPUT: true; the input reads as it did. -/
def fnExactSwapRowsSpec : ChangeSpec := { name := "fnExactSwapRows", fn := fun _ => fun
  | [d1, d2, d3] => { results := [.lit (.bool true)], args := [d1, d2, d3] }
  | _ => none }
def fnExactSwapRowsRow : OpenClaim := { program := "ytjbaeomjinnlhaa", sum := "379daa07aef168f1cd27caf2e32db8a5da777adc0f1dfe2cb2f8745348b8a7b8", func := "loop.example/g01307/laws.FnExactSwapRows", spec := "fnExactSwapRows", plainKeys := false, apart := false }
def FnExactSwapRowsSaid : Prop := fnExactSwapRowsRow.holds Try.pinned (OpenSpec.ofChange fnExactSwapRowsSpec)

/-- ITS FALSE NEIGHBOUR: 'it returns false'. Refute it at one input. -/
def fnExactSwapRowsWrong : ChangeSpec := { name := "fnExactSwapRows", fn := fun _ => fun
  | [d1, d2, d3] => { results := [.lit (.bool false)], args := [d1, d2, d3] }
  | _ => none }
def FnExactSwapRowsWrongFalsely : Prop := fnExactSwapRowsRow.holds Try.pinned (OpenSpec.ofChange fnExactSwapRowsWrong)

/-- 'laws.FnExactPowersMatrix': WHATEVER THE INPUT: true; the input reads as it did. -/
def fnExactPowersMatrixSpec : ChangeSpec := { name := "fnExactPowersMatrix", fn := fun _ => fun
  | [d1, d2] => { results := [.lit (.bool true)], args := [d1, d2] }
  | _ => none }
def fnExactPowersMatrixRow : OpenClaim := { program := "ytjbaeomjinnlhaa", sum := "379daa07aef168f1cd27caf2e32db8a5da777adc0f1dfe2cb2f8745348b8a7b8", func := "loop.example/g01307/laws.FnExactPowersMatrix", spec := "fnExactPowersMatrix", recurses := true, plainKeys := false, apart := false }
def FnExactPowersMatrixSaid : Prop := fnExactPowersMatrixRow.holds Try.pinned (OpenSpec.ofChange fnExactPowersMatrixSpec)

/-- ITS FALSE NEIGHBOUR: 'it returns false'. Refute it at one input. -/
def fnExactPowersMatrixWrong : ChangeSpec := { name := "fnExactPowersMatrix", fn := fun _ => fun
  | [d1, d2] => { results := [.lit (.bool false)], args := [d1, d2] }
  | _ => none }
def FnExactPowersMatrixWrongFalsely : Prop := fnExactPowersMatrixRow.holds Try.pinned (OpenSpec.ofChange fnExactPowersMatrixWrong)

/-- 'laws.FnExactTraceMatrix': WHATEVER THE INPUT: true; the input reads as it did. -/
def fnExactTraceMatrixSpec : ChangeSpec := { name := "fnExactTraceMatrix", fn := fun _ => fun
  | [d] => { results := [.lit (.bool true)], args := [d] }
  | _ => none }
def fnExactTraceMatrixRow : OpenClaim := { program := "ytjbaeomjinnlhaa", sum := "379daa07aef168f1cd27caf2e32db8a5da777adc0f1dfe2cb2f8745348b8a7b8", func := "loop.example/g01307/laws.FnExactTraceMatrix", spec := "fnExactTraceMatrix", plainKeys := false, apart := false }
def FnExactTraceMatrixSaid : Prop := fnExactTraceMatrixRow.holds Try.pinned (OpenSpec.ofChange fnExactTraceMatrixSpec)

/-- ITS FALSE NEIGHBOUR: 'it returns false'. Refute it at one input. -/
def fnExactTraceMatrixWrong : ChangeSpec := { name := "fnExactTraceMatrix", fn := fun _ => fun
  | [d] => { results := [.lit (.bool false)], args := [d] }
  | _ => none }
def FnExactTraceMatrixWrongFalsely : Prop := fnExactTraceMatrixRow.holds Try.pinned (OpenSpec.ofChange fnExactTraceMatrixWrong)

/-- 'laws.FnExactHalfRoot': WHATEVER THE INPUT: true; the input reads as it did. -/
def fnExactHalfRootSpec : ChangeSpec := { name := "fnExactHalfRoot", fn := fun _ => fun
  | [d] => { results := [.lit (.bool true)], args := [d] }
  | _ => none }
def fnExactHalfRootRow : OpenClaim := { program := "ytjbaeomjinnlhaa", sum := "379daa07aef168f1cd27caf2e32db8a5da777adc0f1dfe2cb2f8745348b8a7b8", func := "loop.example/g01307/laws.FnExactHalfRoot", spec := "fnExactHalfRoot", unfollowed := true, recurses := true, plainKeys := false, leaving := true, apart := false }
def FnExactHalfRootSaid : Prop := fnExactHalfRootRow.holds Try.pinned (OpenSpec.ofChange fnExactHalfRootSpec)

/-- ITS FALSE NEIGHBOUR: 'it returns false'. Refute it at one input. -/
def fnExactHalfRootWrong : ChangeSpec := { name := "fnExactHalfRoot", fn := fun _ => fun
  | [d] => { results := [.lit (.bool false)], args := [d] }
  | _ => none }
def FnExactHalfRootWrongFalsely : Prop := fnExactHalfRootRow.holds Try.pinned (OpenSpec.ofChange fnExactHalfRootWrong)

/-- 'laws.FnExactQuadraticRoots': WHATEVER THE INPUT: true; the input reads as it did. -/
def fnExactQuadraticRootsSpec : ChangeSpec := { name := "fnExactQuadraticRoots", fn := fun _ => fun
  | [d1, d2] => { results := [.lit (.bool true)], args := [d1, d2] }
  | _ => none }
def fnExactQuadraticRootsRow : OpenClaim := { program := "ytjbaeomjinnlhaa", sum := "379daa07aef168f1cd27caf2e32db8a5da777adc0f1dfe2cb2f8745348b8a7b8", func := "loop.example/g01307/laws.FnExactQuadraticRoots", spec := "fnExactQuadraticRoots", unfollowed := true, recurses := true, plainKeys := false, leaving := true, apart := false }
def FnExactQuadraticRootsSaid : Prop := fnExactQuadraticRootsRow.holds Try.pinned (OpenSpec.ofChange fnExactQuadraticRootsSpec)

/-- ITS FALSE NEIGHBOUR: 'it returns false'. Refute it at one input. -/
def fnExactQuadraticRootsWrong : ChangeSpec := { name := "fnExactQuadraticRoots", fn := fun _ => fun
  | [d1, d2] => { results := [.lit (.bool false)], args := [d1, d2] }
  | _ => none }
def FnExactQuadraticRootsWrongFalsely : Prop := fnExactQuadraticRootsRow.holds Try.pinned (OpenSpec.ofChange fnExactQuadraticRootsWrong)

/-- 'laws.FnExactConjugatesOf': WHATEVER THE INPUT: true; the input reads as it did. -/
def fnExactConjugatesOfSpec : ChangeSpec := { name := "fnExactConjugatesOf", fn := fun _ => fun
  | [d] => { results := [.lit (.bool true)], args := [d] }
  | _ => none }
def fnExactConjugatesOfRow : OpenClaim := { program := "ytjbaeomjinnlhaa", sum := "379daa07aef168f1cd27caf2e32db8a5da777adc0f1dfe2cb2f8745348b8a7b8", func := "loop.example/g01307/laws.FnExactConjugatesOf", spec := "fnExactConjugatesOf", unfollowed := true, recurses := true, plainKeys := false, leaving := true, apart := false }
def FnExactConjugatesOfSaid : Prop := fnExactConjugatesOfRow.holds Try.pinned (OpenSpec.ofChange fnExactConjugatesOfSpec)

/-- ITS FALSE NEIGHBOUR: 'it returns false'. Refute it at one input. -/
def fnExactConjugatesOfWrong : ChangeSpec := { name := "fnExactConjugatesOf", fn := fun _ => fun
  | [d] => { results := [.lit (.bool false)], args := [d] }
  | _ => none }
def FnExactConjugatesOfWrongFalsely : Prop := fnExactConjugatesOfRow.holds Try.pinned (OpenSpec.ofChange fnExactConjugatesOfWrong)

/-- 'laws.FnSolved': WHATEVER THE INPUT: true; the input reads as it did. -/
def fnSolvedSpec : ChangeSpec := { name := "fnSolved", fn := fun _ => fun
  | [d1, d2] => { results := [.lit (.bool true)], args := [d1, d2] }
  | _ => none }
def fnSolvedRow : OpenClaim := { program := "ytjbaeomjinnlhaa", sum := "379daa07aef168f1cd27caf2e32db8a5da777adc0f1dfe2cb2f8745348b8a7b8", func := "loop.example/g01307/laws.FnSolved", spec := "fnSolved", unfollowed := true, recurses := true, plainKeys := false, leaving := true, apart := false }
def FnSolvedSaid : Prop := fnSolvedRow.holds Try.pinned (OpenSpec.ofChange fnSolvedSpec)

/-- ITS FALSE NEIGHBOUR: 'it returns false'. Refute it at one input. -/
def fnSolvedWrong : ChangeSpec := { name := "fnSolved", fn := fun _ => fun
  | [d1, d2] => { results := [.lit (.bool false)], args := [d1, d2] }
  | _ => none }
def FnSolvedWrongFalsely : Prop := fnSolvedRow.holds Try.pinned (OpenSpec.ofChange fnSolvedWrong)

/-- 'laws.FnEquations': WHATEVER THE INPUT: true; the input reads as it did. -/
def fnEquationsSpec : ChangeSpec := { name := "fnEquations", fn := fun _ => fun
  | [d1, d2] => { results := [.lit (.bool true)], args := [d1, d2] }
  | _ => none }
def fnEquationsRow : OpenClaim := { program := "ytjbaeomjinnlhaa", sum := "379daa07aef168f1cd27caf2e32db8a5da777adc0f1dfe2cb2f8745348b8a7b8", func := "loop.example/g01307/laws.FnEquations", spec := "fnEquations", unfollowed := true, recurses := true, plainKeys := false, leaving := true, apart := false }
def FnEquationsSaid : Prop := fnEquationsRow.holds Try.pinned (OpenSpec.ofChange fnEquationsSpec)

/-- ITS FALSE NEIGHBOUR: 'it returns false'. Refute it at one input. -/
def fnEquationsWrong : ChangeSpec := { name := "fnEquations", fn := fun _ => fun
  | [d1, d2] => { results := [.lit (.bool false)], args := [d1, d2] }
  | _ => none }
def FnEquationsWrongFalsely : Prop := fnEquationsRow.holds Try.pinned (OpenSpec.ofChange fnEquationsWrong)

/- THE SECOND FORM. 'bulk': how many values and letters a reading holds, each counted each time it is reached (what is shared counts as often as it is met; a slice's spare places count too). A statement '..UptoSaid' is the law's where the arguments, and the package variables that the reading takes, are together of bulk at most 1048576: NARROWER than '..Said'. Prove '..Said' where nothing that the law and all that it calls make is longer than what came in: it says more and counts as full. Else prove '..UptoSaid'. A law counts once. -/
mutual
def uptoBulk {H : Type} : DataW H → Nat
  | .lit (.string bytes) => bytes.length + 1
  | .lit _ => 1
  | .nil => 1
  | .ptr d => uptoBulk d + 1
  | .slice elems spare => uptoBulkAll elems + uptoBulkAll spare + 1
  | .agg parts => uptoBulkAll parts + 1
  | .iface _ d => uptoBulk d + 1
  | .map entries => uptoBulkEntries entries + 1
  | .held _ => 1
def uptoBulkAll {H : Type} : List (DataW H) → Nat
  | [] => 0
  | d :: r => uptoBulk d + uptoBulkAll r
def uptoBulkEntries {H : Type} : List (Lit × DataW H) → Nat
  | [] => 0
  | x :: r => uptoBulkEntry x + uptoBulkEntries r
def uptoBulkEntry {H : Type} : Lit × DataW H → Nat
  | (.string bytes, d) => bytes.length + uptoBulk d + 1
  | (_, d) => uptoBulk d + 1
 end
def uptoSmall : (H : Type) → List (DataW H) → Bool := fun _ ds => decide (uptoBulkAll ds ≤ 1048576)
def OpenSpec.upto (s : _root_.Go.ChangeSpec) : _root_.Go.OpenSpec := { _root_.Go.OpenSpec.ofChange s with cond := some uptoSmall }

/-- 'laws.FnExactValidMatrix', WHERE WHAT IT READS IS OF BULK AT MOST 1048576: true; the input reads as it did. -/
def fnExactValidMatrixUptoRow : OpenClaim := { program := "ytjbaeomjinnlhaa", sum := "379daa07aef168f1cd27caf2e32db8a5da777adc0f1dfe2cb2f8745348b8a7b8", func := "loop.example/g01307/laws.FnExactValidMatrix", spec := "fnExactValidMatrix", plainKeys := false, apart := false, narrowed := true }
def FnExactValidMatrixUptoSaid : Prop := fnExactValidMatrixUptoRow.holds Try.pinned (OpenSpec.upto fnExactValidMatrixSpec)

/-- 'laws.FnExactOneMatrix', WHERE WHAT IT READS IS OF BULK AT MOST 1048576: true; the input reads as it did. -/
def fnExactOneMatrixUptoRow : OpenClaim := { program := "ytjbaeomjinnlhaa", sum := "379daa07aef168f1cd27caf2e32db8a5da777adc0f1dfe2cb2f8745348b8a7b8", func := "loop.example/g01307/laws.FnExactOneMatrix", spec := "fnExactOneMatrix", plainKeys := false, apart := false, narrowed := true }
def FnExactOneMatrixUptoSaid : Prop := fnExactOneMatrixUptoRow.holds Try.pinned (OpenSpec.upto fnExactOneMatrixSpec)

/-- 'laws.FnExactPlusMatrix', WHERE WHAT IT READS IS OF BULK AT MOST 1048576: true; the input reads as it did. -/
def fnExactPlusMatrixUptoRow : OpenClaim := { program := "ytjbaeomjinnlhaa", sum := "379daa07aef168f1cd27caf2e32db8a5da777adc0f1dfe2cb2f8745348b8a7b8", func := "loop.example/g01307/laws.FnExactPlusMatrix", spec := "fnExactPlusMatrix", plainKeys := false, apart := false, narrowed := true }
def FnExactPlusMatrixUptoSaid : Prop := fnExactPlusMatrixUptoRow.holds Try.pinned (OpenSpec.upto fnExactPlusMatrixSpec)

/-- 'laws.FnExactTimesMatrix', WHERE WHAT IT READS IS OF BULK AT MOST 1048576: true; the input reads as it did. -/
def fnExactTimesMatrixUptoRow : OpenClaim := { program := "ytjbaeomjinnlhaa", sum := "379daa07aef168f1cd27caf2e32db8a5da777adc0f1dfe2cb2f8745348b8a7b8", func := "loop.example/g01307/laws.FnExactTimesMatrix", spec := "fnExactTimesMatrix", unfollowed := true, recurses := true, plainKeys := false, leaving := true, apart := false, narrowed := true }
def FnExactTimesMatrixUptoSaid : Prop := fnExactTimesMatrixUptoRow.holds Try.pinned (OpenSpec.upto fnExactTimesMatrixSpec)

/-- 'laws.FnExactScaleMatrix', WHERE WHAT IT READS IS OF BULK AT MOST 1048576: true; the input reads as it did. -/
def fnExactScaleMatrixUptoRow : OpenClaim := { program := "ytjbaeomjinnlhaa", sum := "379daa07aef168f1cd27caf2e32db8a5da777adc0f1dfe2cb2f8745348b8a7b8", func := "loop.example/g01307/laws.FnExactScaleMatrix", spec := "fnExactScaleMatrix", recurses := true, plainKeys := false, apart := false, narrowed := true }
def FnExactScaleMatrixUptoSaid : Prop := fnExactScaleMatrixUptoRow.holds Try.pinned (OpenSpec.upto fnExactScaleMatrixSpec)

/-- 'laws.FnExactTurnMatrix', WHERE WHAT IT READS IS OF BULK AT MOST 1048576: true; the input reads as it did. -/
def fnExactTurnMatrixUptoRow : OpenClaim := { program := "ytjbaeomjinnlhaa", sum := "379daa07aef168f1cd27caf2e32db8a5da777adc0f1dfe2cb2f8745348b8a7b8", func := "loop.example/g01307/laws.FnExactTurnMatrix", spec := "fnExactTurnMatrix", plainKeys := false, apart := false, narrowed := true }
def FnExactTurnMatrixUptoSaid : Prop := fnExactTurnMatrixUptoRow.holds Try.pinned (OpenSpec.upto fnExactTurnMatrixSpec)

/-- 'laws.FnExactApplyMatrix', WHERE WHAT IT READS IS OF BULK AT MOST 1048576: true; the input reads as it did. -/
def fnExactApplyMatrixUptoRow : OpenClaim := { program := "ytjbaeomjinnlhaa", sum := "379daa07aef168f1cd27caf2e32db8a5da777adc0f1dfe2cb2f8745348b8a7b8", func := "loop.example/g01307/laws.FnExactApplyMatrix", spec := "fnExactApplyMatrix", unfollowed := true, recurses := true, plainKeys := false, leaving := true, apart := false, narrowed := true }
def FnExactApplyMatrixUptoSaid : Prop := fnExactApplyMatrixUptoRow.holds Try.pinned (OpenSpec.upto fnExactApplyMatrixSpec)

/-- 'laws.FnExactPowerMatrix', WHERE WHAT IT READS IS OF BULK AT MOST 1048576: true; the input reads as it did. -/
def fnExactPowerMatrixUptoRow : OpenClaim := { program := "ytjbaeomjinnlhaa", sum := "379daa07aef168f1cd27caf2e32db8a5da777adc0f1dfe2cb2f8745348b8a7b8", func := "loop.example/g01307/laws.FnExactPowerMatrix", spec := "fnExactPowerMatrix", unfollowed := true, recurses := true, plainKeys := false, leaving := true, apart := false, narrowed := true }
def FnExactPowerMatrixUptoSaid : Prop := fnExactPowerMatrixUptoRow.holds Try.pinned (OpenSpec.upto fnExactPowerMatrixSpec)

/-- 'laws.FnExactReduceMatrix', WHERE WHAT IT READS IS OF BULK AT MOST 1048576: true; the input reads as it did. -/
def fnExactReduceMatrixUptoRow : OpenClaim := { program := "ytjbaeomjinnlhaa", sum := "379daa07aef168f1cd27caf2e32db8a5da777adc0f1dfe2cb2f8745348b8a7b8", func := "loop.example/g01307/laws.FnExactReduceMatrix", spec := "fnExactReduceMatrix", recurses := true, plainKeys := false, apart := false, narrowed := true }
def FnExactReduceMatrixUptoSaid : Prop := fnExactReduceMatrixUptoRow.holds Try.pinned (OpenSpec.upto fnExactReduceMatrixSpec)

/-- 'laws.FnExactIsReduced', WHERE WHAT IT READS IS OF BULK AT MOST 1048576: true; the input reads as it did. -/
def fnExactIsReducedUptoRow : OpenClaim := { program := "ytjbaeomjinnlhaa", sum := "379daa07aef168f1cd27caf2e32db8a5da777adc0f1dfe2cb2f8745348b8a7b8", func := "loop.example/g01307/laws.FnExactIsReduced", spec := "fnExactIsReduced", recurses := true, plainKeys := false, apart := false, narrowed := true }
def FnExactIsReducedUptoSaid : Prop := fnExactIsReducedUptoRow.holds Try.pinned (OpenSpec.upto fnExactIsReducedSpec)

/-- 'laws.FnExactRankOf', WHERE WHAT IT READS IS OF BULK AT MOST 1048576: true; the input reads as it did. -/
def fnExactRankOfUptoRow : OpenClaim := { program := "ytjbaeomjinnlhaa", sum := "379daa07aef168f1cd27caf2e32db8a5da777adc0f1dfe2cb2f8745348b8a7b8", func := "loop.example/g01307/laws.FnExactRankOf", spec := "fnExactRankOf", recurses := true, plainKeys := false, apart := false, narrowed := true }
def FnExactRankOfUptoSaid : Prop := fnExactRankOfUptoRow.holds Try.pinned (OpenSpec.upto fnExactRankOfSpec)

/-- 'laws.FnExactDeterminantOf', WHERE WHAT IT READS IS OF BULK AT MOST 1048576: true; the input reads as it did. -/
def fnExactDeterminantOfUptoRow : OpenClaim := { program := "ytjbaeomjinnlhaa", sum := "379daa07aef168f1cd27caf2e32db8a5da777adc0f1dfe2cb2f8745348b8a7b8", func := "loop.example/g01307/laws.FnExactDeterminantOf", spec := "fnExactDeterminantOf", recurses := true, plainKeys := false, apart := false, narrowed := true }
def FnExactDeterminantOfUptoSaid : Prop := fnExactDeterminantOfUptoRow.holds Try.pinned (OpenSpec.upto fnExactDeterminantOfSpec)

/-- 'laws.FnExactInverseMatrix', WHERE WHAT IT READS IS OF BULK AT MOST 1048576: true; the input reads as it did. -/
def fnExactInverseMatrixUptoRow : OpenClaim := { program := "ytjbaeomjinnlhaa", sum := "379daa07aef168f1cd27caf2e32db8a5da777adc0f1dfe2cb2f8745348b8a7b8", func := "loop.example/g01307/laws.FnExactInverseMatrix", spec := "fnExactInverseMatrix", recurses := true, plainKeys := false, apart := false, narrowed := true }
def FnExactInverseMatrixUptoSaid : Prop := fnExactInverseMatrixUptoRow.holds Try.pinned (OpenSpec.upto fnExactInverseMatrixSpec)

/-- 'laws.FnExactSolveMatrix', WHERE WHAT IT READS IS OF BULK AT MOST 1048576: true; the input reads as it did. -/
def fnExactSolveMatrixUptoRow : OpenClaim := { program := "ytjbaeomjinnlhaa", sum := "379daa07aef168f1cd27caf2e32db8a5da777adc0f1dfe2cb2f8745348b8a7b8", func := "loop.example/g01307/laws.FnExactSolveMatrix", spec := "fnExactSolveMatrix", unfollowed := true, recurses := true, plainKeys := false, leaving := true, apart := false, narrowed := true }
def FnExactSolveMatrixUptoSaid : Prop := fnExactSolveMatrixUptoRow.holds Try.pinned (OpenSpec.upto fnExactSolveMatrixSpec)

/-- 'laws.FnExactCheckSolution', WHERE WHAT IT READS IS OF BULK AT MOST 1048576: true; the input reads as it did. -/
def fnExactCheckSolutionUptoRow : OpenClaim := { program := "ytjbaeomjinnlhaa", sum := "379daa07aef168f1cd27caf2e32db8a5da777adc0f1dfe2cb2f8745348b8a7b8", func := "loop.example/g01307/laws.FnExactCheckSolution", spec := "fnExactCheckSolution", unfollowed := true, recurses := true, plainKeys := false, leaving := true, apart := false, narrowed := true }
def FnExactCheckSolutionUptoSaid : Prop := fnExactCheckSolutionUptoRow.holds Try.pinned (OpenSpec.upto fnExactCheckSolutionSpec)

/-- 'laws.FnExactKernelOf', WHERE WHAT IT READS IS OF BULK AT MOST 1048576: true; the input reads as it did. -/
def fnExactKernelOfUptoRow : OpenClaim := { program := "ytjbaeomjinnlhaa", sum := "379daa07aef168f1cd27caf2e32db8a5da777adc0f1dfe2cb2f8745348b8a7b8", func := "loop.example/g01307/laws.FnExactKernelOf", spec := "fnExactKernelOf", recurses := true, plainKeys := false, apart := false, narrowed := true }
def FnExactKernelOfUptoSaid : Prop := fnExactKernelOfUptoRow.holds Try.pinned (OpenSpec.upto fnExactKernelOfSpec)

/-- 'laws.FnExactAddRow', WHERE WHAT IT READS IS OF BULK AT MOST 1048576: true; the input reads as it did. -/
def fnExactAddRowUptoRow : OpenClaim := { program := "ytjbaeomjinnlhaa", sum := "379daa07aef168f1cd27caf2e32db8a5da777adc0f1dfe2cb2f8745348b8a7b8", func := "loop.example/g01307/laws.FnExactAddRow", spec := "fnExactAddRow", recurses := true, plainKeys := false, apart := false, narrowed := true }
def FnExactAddRowUptoSaid : Prop := fnExactAddRowUptoRow.holds Try.pinned (OpenSpec.upto fnExactAddRowSpec)

/-- 'laws.FnExactSwapRows', WHERE WHAT IT READS IS OF BULK AT MOST 1048576: true; the input reads as it did. -/
def fnExactSwapRowsUptoRow : OpenClaim := { program := "ytjbaeomjinnlhaa", sum := "379daa07aef168f1cd27caf2e32db8a5da777adc0f1dfe2cb2f8745348b8a7b8", func := "loop.example/g01307/laws.FnExactSwapRows", spec := "fnExactSwapRows", plainKeys := false, apart := false, narrowed := true }
def FnExactSwapRowsUptoSaid : Prop := fnExactSwapRowsUptoRow.holds Try.pinned (OpenSpec.upto fnExactSwapRowsSpec)

/-- 'laws.FnExactPowersMatrix', WHERE WHAT IT READS IS OF BULK AT MOST 1048576: true; the input reads as it did. -/
def fnExactPowersMatrixUptoRow : OpenClaim := { program := "ytjbaeomjinnlhaa", sum := "379daa07aef168f1cd27caf2e32db8a5da777adc0f1dfe2cb2f8745348b8a7b8", func := "loop.example/g01307/laws.FnExactPowersMatrix", spec := "fnExactPowersMatrix", recurses := true, plainKeys := false, apart := false, narrowed := true }
def FnExactPowersMatrixUptoSaid : Prop := fnExactPowersMatrixUptoRow.holds Try.pinned (OpenSpec.upto fnExactPowersMatrixSpec)

/-- 'laws.FnExactTraceMatrix', WHERE WHAT IT READS IS OF BULK AT MOST 1048576: true; the input reads as it did. -/
def fnExactTraceMatrixUptoRow : OpenClaim := { program := "ytjbaeomjinnlhaa", sum := "379daa07aef168f1cd27caf2e32db8a5da777adc0f1dfe2cb2f8745348b8a7b8", func := "loop.example/g01307/laws.FnExactTraceMatrix", spec := "fnExactTraceMatrix", plainKeys := false, apart := false, narrowed := true }
def FnExactTraceMatrixUptoSaid : Prop := fnExactTraceMatrixUptoRow.holds Try.pinned (OpenSpec.upto fnExactTraceMatrixSpec)

/-- 'laws.FnExactHalfRoot', WHERE WHAT IT READS IS OF BULK AT MOST 1048576: true; the input reads as it did. -/
def fnExactHalfRootUptoRow : OpenClaim := { program := "ytjbaeomjinnlhaa", sum := "379daa07aef168f1cd27caf2e32db8a5da777adc0f1dfe2cb2f8745348b8a7b8", func := "loop.example/g01307/laws.FnExactHalfRoot", spec := "fnExactHalfRoot", unfollowed := true, recurses := true, plainKeys := false, leaving := true, apart := false, narrowed := true }
def FnExactHalfRootUptoSaid : Prop := fnExactHalfRootUptoRow.holds Try.pinned (OpenSpec.upto fnExactHalfRootSpec)

/-- 'laws.FnExactQuadraticRoots', WHERE WHAT IT READS IS OF BULK AT MOST 1048576: true; the input reads as it did. -/
def fnExactQuadraticRootsUptoRow : OpenClaim := { program := "ytjbaeomjinnlhaa", sum := "379daa07aef168f1cd27caf2e32db8a5da777adc0f1dfe2cb2f8745348b8a7b8", func := "loop.example/g01307/laws.FnExactQuadraticRoots", spec := "fnExactQuadraticRoots", unfollowed := true, recurses := true, plainKeys := false, leaving := true, apart := false, narrowed := true }
def FnExactQuadraticRootsUptoSaid : Prop := fnExactQuadraticRootsUptoRow.holds Try.pinned (OpenSpec.upto fnExactQuadraticRootsSpec)

/-- 'laws.FnExactConjugatesOf', WHERE WHAT IT READS IS OF BULK AT MOST 1048576: true; the input reads as it did. -/
def fnExactConjugatesOfUptoRow : OpenClaim := { program := "ytjbaeomjinnlhaa", sum := "379daa07aef168f1cd27caf2e32db8a5da777adc0f1dfe2cb2f8745348b8a7b8", func := "loop.example/g01307/laws.FnExactConjugatesOf", spec := "fnExactConjugatesOf", unfollowed := true, recurses := true, plainKeys := false, leaving := true, apart := false, narrowed := true }
def FnExactConjugatesOfUptoSaid : Prop := fnExactConjugatesOfUptoRow.holds Try.pinned (OpenSpec.upto fnExactConjugatesOfSpec)

/-- 'laws.FnSolved', WHERE WHAT IT READS IS OF BULK AT MOST 1048576: true; the input reads as it did. -/
def fnSolvedUptoRow : OpenClaim := { program := "ytjbaeomjinnlhaa", sum := "379daa07aef168f1cd27caf2e32db8a5da777adc0f1dfe2cb2f8745348b8a7b8", func := "loop.example/g01307/laws.FnSolved", spec := "fnSolved", unfollowed := true, recurses := true, plainKeys := false, leaving := true, apart := false, narrowed := true }
def FnSolvedUptoSaid : Prop := fnSolvedUptoRow.holds Try.pinned (OpenSpec.upto fnSolvedSpec)

/-- 'laws.FnEquations', WHERE WHAT IT READS IS OF BULK AT MOST 1048576: true; the input reads as it did. -/
def fnEquationsUptoRow : OpenClaim := { program := "ytjbaeomjinnlhaa", sum := "379daa07aef168f1cd27caf2e32db8a5da777adc0f1dfe2cb2f8745348b8a7b8", func := "loop.example/g01307/laws.FnEquations", spec := "fnEquations", unfollowed := true, recurses := true, plainKeys := false, leaving := true, apart := false, narrowed := true }
def FnEquationsUptoSaid : Prop := fnEquationsUptoRow.holds Try.pinned (OpenSpec.upto fnEquationsSpec)

end Rows
end Go.Proofs.Ytjbaeomjinnlhaa
