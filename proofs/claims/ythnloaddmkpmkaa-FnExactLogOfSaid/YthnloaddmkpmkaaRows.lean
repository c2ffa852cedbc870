/-
  No cell of these rows narrows 'for every input' (looked for: loops, veiled, ifaces, maps, wideKeys, modest, calm, conditions, laid).
  DERIVED. THE GIVEN ROWS OF THIS SEAT. 21 by the template 'for every input the law returns true; each argument reads behind the call as it read before'; 0 by the template 'total and deterministic' (their statements: YthnloaddmkpmkaaTotals.lean).
  GIVEN WITH THE SEED: the statements are not yours to turn. If you find one false, say at which input.
  Laid BY PROGRAM, IN A SANDBOX (cutbox-rows.mjs): the forced cells as the released guide's own fill.sh prints them over the translation c6eaba62e08de45e… (all of the seat's roots in one cut). By AI agents, Wed Nov 11 2026. No macro, syntax, notation, axiom, sorry.
-/
import Derived.Test.YthnloaddmkpmkaaChecked
import GoSem.Claim
import GoSem.ClaimJoined
import GoSem.ClaimMapViews
import Derived.JoinedTies
import Derived.KernelRfl
namespace Go.Proofs.Ythnloaddmkpmkaa
/- THE CELL 'sum', in the pinned program and in every row, IS THE sha256 OF THE DUMP (.gsa) THAT YthnloaddmkpmkaaProg.lean LOADS. Nothing in Lean hashes anything: it is a label: what it is worth is what the hold of that sum in a sandbox is worth. -/
noncomputable def Try.pinned : Pinned := { name := "ythnloaddmkpmkaa", sum := "c6eaba62e08de45e2d91d790f4f4acede7a97e20f4aa34001d267e2e2ebb7111", checked := Try.checked }
namespace Rows
def none {H : Type} : Left H := { results := [], args := [] }

/-- 'laws.FnExactCodeName': WHATEVER THE INPUT: true; the input reads as it did. -/
def fnExactCodeNameSpec : ChangeSpec := { name := "fnExactCodeName", fn := fun _ => fun
  | [d] => { results := [.lit (.bool true)], args := [d] }
  | _ => none }
def fnExactCodeNameRow : OpenClaim := { program := "ythnloaddmkpmkaa", sum := "c6eaba62e08de45e2d91d790f4f4acede7a97e20f4aa34001d267e2e2ebb7111", func := "loop.example/g01307/laws.FnExactCodeName", spec := "fnExactCodeName", apart := false }
def FnExactCodeNameSaid : Prop := fnExactCodeNameRow.holds Try.pinned (OpenSpec.ofChange fnExactCodeNameSpec)

/-- ITS FALSE NEIGHBOUR: 'it returns false'. Refute it at one input. -/
def fnExactCodeNameWrong : ChangeSpec := { name := "fnExactCodeName", fn := fun _ => fun
  | [d] => { results := [.lit (.bool false)], args := [d] }
  | _ => none }
def FnExactCodeNameWrongFalsely : Prop := fnExactCodeNameRow.holds Try.pinned (OpenSpec.ofChange fnExactCodeNameWrong)

/-- 'laws.FnExactPlusNim': WHATEVER THE INPUT: true; the input reads as it did. -/
def fnExactPlusNimSpec : ChangeSpec := { name := "fnExactPlusNim", fn := fun _ => fun
  | [d1, d2] => { results := [.lit (.bool true)], args := [d1, d2] }
  | _ => none }
def fnExactPlusNimRow : OpenClaim := { program := "ythnloaddmkpmkaa", sum := "c6eaba62e08de45e2d91d790f4f4acede7a97e20f4aa34001d267e2e2ebb7111", func := "loop.example/g01307/laws.FnExactPlusNim", spec := "fnExactPlusNim", apart := false }
def FnExactPlusNimSaid : Prop := fnExactPlusNimRow.holds Try.pinned (OpenSpec.ofChange fnExactPlusNimSpec)

/-- ITS FALSE NEIGHBOUR: 'it returns false'. Refute it at one input. -/
def fnExactPlusNimWrong : ChangeSpec := { name := "fnExactPlusNim", fn := fun _ => fun
  | [d1, d2] => { results := [.lit (.bool false)], args := [d1, d2] }
  | _ => none }
def FnExactPlusNimWrongFalsely : Prop := fnExactPlusNimRow.holds Try.pinned (OpenSpec.ofChange fnExactPlusNimWrong)

/-- 'laws.FnExactTimesNim': WHATEVER THE INPUT: true; the input reads as it did. -/
def fnExactTimesNimSpec : ChangeSpec := { name := "fnExactTimesNim", fn := fun _ => fun
  | [d1, d2] => { results := [.lit (.bool true)], args := [d1, d2] }
  | _ => none }
def fnExactTimesNimRow : OpenClaim := { program := "ythnloaddmkpmkaa", sum := "c6eaba62e08de45e2d91d790f4f4acede7a97e20f4aa34001d267e2e2ebb7111", func := "loop.example/g01307/laws.FnExactTimesNim", spec := "fnExactTimesNim", recurses := true, apart := false }
def FnExactTimesNimSaid : Prop := fnExactTimesNimRow.holds Try.pinned (OpenSpec.ofChange fnExactTimesNimSpec)

/-- ITS FALSE NEIGHBOUR: 'it returns false'. Refute it at one input. -/
def fnExactTimesNimWrong : ChangeSpec := { name := "fnExactTimesNim", fn := fun _ => fun
  | [d1, d2] => { results := [.lit (.bool false)], args := [d1, d2] }
  | _ => none }
def FnExactTimesNimWrongFalsely : Prop := fnExactTimesNimRow.holds Try.pinned (OpenSpec.ofChange fnExactTimesNimWrong)

/-- 'laws.FnExactLevelOf': WHATEVER THE INPUT: true; the input reads as it did. -/
def fnExactLevelOfSpec : ChangeSpec := { name := "fnExactLevelOf", fn := fun _ => fun
  | [d] => { results := [.lit (.bool true)], args := [d] }
  | _ => none }
def fnExactLevelOfRow : OpenClaim := { program := "ythnloaddmkpmkaa", sum := "c6eaba62e08de45e2d91d790f4f4acede7a97e20f4aa34001d267e2e2ebb7111", func := "loop.example/g01307/laws.FnExactLevelOf", spec := "fnExactLevelOf", apart := false }
def FnExactLevelOfSaid : Prop := fnExactLevelOfRow.holds Try.pinned (OpenSpec.ofChange fnExactLevelOfSpec)

/-- ITS FALSE NEIGHBOUR: 'it returns false'. Refute it at one input. -/
def fnExactLevelOfWrong : ChangeSpec := { name := "fnExactLevelOf", fn := fun _ => fun
  | [d] => { results := [.lit (.bool false)], args := [d] }
  | _ => none }
def FnExactLevelOfWrongFalsely : Prop := fnExactLevelOfRow.holds Try.pinned (OpenSpec.ofChange fnExactLevelOfWrong)

/-- 'laws.FnExactSquareOf': WHATEVER THE INPUT: true; the input reads as it did. -/
def fnExactSquareOfSpec : ChangeSpec := { name := "fnExactSquareOf", fn := fun _ => fun
  | [d] => { results := [.lit (.bool true)], args := [d] }
  | _ => none }
def fnExactSquareOfRow : OpenClaim := { program := "ythnloaddmkpmkaa", sum := "c6eaba62e08de45e2d91d790f4f4acede7a97e20f4aa34001d267e2e2ebb7111", func := "loop.example/g01307/laws.FnExactSquareOf", spec := "fnExactSquareOf", recurses := true, apart := false }
def FnExactSquareOfSaid : Prop := fnExactSquareOfRow.holds Try.pinned (OpenSpec.ofChange fnExactSquareOfSpec)

/-- ITS FALSE NEIGHBOUR: 'it returns false'. Refute it at one input. -/
def fnExactSquareOfWrong : ChangeSpec := { name := "fnExactSquareOf", fn := fun _ => fun
  | [d] => { results := [.lit (.bool false)], args := [d] }
  | _ => none }
def FnExactSquareOfWrongFalsely : Prop := fnExactSquareOfRow.holds Try.pinned (OpenSpec.ofChange fnExactSquareOfWrong)

/-- 'laws.FnExactRootOf': WHATEVER THE INPUT: true; the input reads as it did. -/
def fnExactRootOfSpec : ChangeSpec := { name := "fnExactRootOf", fn := fun _ => fun
  | [d] => { results := [.lit (.bool true)], args := [d] }
  | _ => none }
def fnExactRootOfRow : OpenClaim := { program := "ythnloaddmkpmkaa", sum := "c6eaba62e08de45e2d91d790f4f4acede7a97e20f4aa34001d267e2e2ebb7111", func := "loop.example/g01307/laws.FnExactRootOf", spec := "fnExactRootOf", recurses := true, apart := false }
def FnExactRootOfSaid : Prop := fnExactRootOfRow.holds Try.pinned (OpenSpec.ofChange fnExactRootOfSpec)

/-- ITS FALSE NEIGHBOUR: 'it returns false'. Refute it at one input. -/
def fnExactRootOfWrong : ChangeSpec := { name := "fnExactRootOf", fn := fun _ => fun
  | [d] => { results := [.lit (.bool false)], args := [d] }
  | _ => none }
def FnExactRootOfWrongFalsely : Prop := fnExactRootOfRow.holds Try.pinned (OpenSpec.ofChange fnExactRootOfWrong)

/-- 'laws.FnExactInverseOf': WHATEVER THE INPUT: true; the input reads as it did. -/
def fnExactInverseOfSpec : ChangeSpec := { name := "fnExactInverseOf", fn := fun _ => fun
  | [d] => { results := [.lit (.bool true)], args := [d] }
  | _ => none }
def fnExactInverseOfRow : OpenClaim := { program := "ythnloaddmkpmkaa", sum := "c6eaba62e08de45e2d91d790f4f4acede7a97e20f4aa34001d267e2e2ebb7111", func := "loop.example/g01307/laws.FnExactInverseOf", spec := "fnExactInverseOf", recurses := true, apart := false }
def FnExactInverseOfSaid : Prop := fnExactInverseOfRow.holds Try.pinned (OpenSpec.ofChange fnExactInverseOfSpec)

/-- ITS FALSE NEIGHBOUR: 'it returns false'. Refute it at one input. -/
def fnExactInverseOfWrong : ChangeSpec := { name := "fnExactInverseOf", fn := fun _ => fun
  | [d] => { results := [.lit (.bool false)], args := [d] }
  | _ => none }
def FnExactInverseOfWrongFalsely : Prop := fnExactInverseOfRow.holds Try.pinned (OpenSpec.ofChange fnExactInverseOfWrong)

/-- 'laws.FnExactOverNim': WHATEVER THE INPUT: true; the input reads as it did. -/
def fnExactOverNimSpec : ChangeSpec := { name := "fnExactOverNim", fn := fun _ => fun
  | [d1, d2] => { results := [.lit (.bool true)], args := [d1, d2] }
  | _ => none }
def fnExactOverNimRow : OpenClaim := { program := "ythnloaddmkpmkaa", sum := "c6eaba62e08de45e2d91d790f4f4acede7a97e20f4aa34001d267e2e2ebb7111", func := "loop.example/g01307/laws.FnExactOverNim", spec := "fnExactOverNim", recurses := true, apart := false }
def FnExactOverNimSaid : Prop := fnExactOverNimRow.holds Try.pinned (OpenSpec.ofChange fnExactOverNimSpec)

/-- ITS FALSE NEIGHBOUR: 'it returns false'. Refute it at one input. -/
def fnExactOverNimWrong : ChangeSpec := { name := "fnExactOverNim", fn := fun _ => fun
  | [d1, d2] => { results := [.lit (.bool false)], args := [d1, d2] }
  | _ => none }
def FnExactOverNimWrongFalsely : Prop := fnExactOverNimRow.holds Try.pinned (OpenSpec.ofChange fnExactOverNimWrong)

/-- 'laws.FnExactPowerOf': WHATEVER THE INPUT: true; the input reads as it did. -/
def fnExactPowerOfSpec : ChangeSpec := { name := "fnExactPowerOf", fn := fun _ => fun
  | [d1, d2] => { results := [.lit (.bool true)], args := [d1, d2] }
  | _ => none }
def fnExactPowerOfRow : OpenClaim := { program := "ythnloaddmkpmkaa", sum := "c6eaba62e08de45e2d91d790f4f4acede7a97e20f4aa34001d267e2e2ebb7111", func := "loop.example/g01307/laws.FnExactPowerOf", spec := "fnExactPowerOf", recurses := true, apart := false }
def FnExactPowerOfSaid : Prop := fnExactPowerOfRow.holds Try.pinned (OpenSpec.ofChange fnExactPowerOfSpec)

/-- ITS FALSE NEIGHBOUR: 'it returns false'. Refute it at one input. -/
def fnExactPowerOfWrong : ChangeSpec := { name := "fnExactPowerOf", fn := fun _ => fun
  | [d1, d2] => { results := [.lit (.bool false)], args := [d1, d2] }
  | _ => none }
def FnExactPowerOfWrongFalsely : Prop := fnExactPowerOfRow.holds Try.pinned (OpenSpec.ofChange fnExactPowerOfWrong)

/-- 'laws.FnExactOrderOf': WHATEVER THE INPUT: true; the input reads as it did. -/
def fnExactOrderOfSpec : ChangeSpec := { name := "fnExactOrderOf", fn := fun _ => fun
  | [d] => { results := [.lit (.bool true)], args := [d] }
  | _ => none }
def fnExactOrderOfRow : OpenClaim := { program := "ythnloaddmkpmkaa", sum := "c6eaba62e08de45e2d91d790f4f4acede7a97e20f4aa34001d267e2e2ebb7111", func := "loop.example/g01307/laws.FnExactOrderOf", spec := "fnExactOrderOf", recurses := true, apart := false }
def FnExactOrderOfSaid : Prop := fnExactOrderOfRow.holds Try.pinned (OpenSpec.ofChange fnExactOrderOfSpec)

/-- ITS FALSE NEIGHBOUR: 'it returns false'. Refute it at one input. -/
def fnExactOrderOfWrong : ChangeSpec := { name := "fnExactOrderOf", fn := fun _ => fun
  | [d] => { results := [.lit (.bool false)], args := [d] }
  | _ => none }
def FnExactOrderOfWrongFalsely : Prop := fnExactOrderOfRow.holds Try.pinned (OpenSpec.ofChange fnExactOrderOfWrong)

/-- 'laws.FnExactTraceOf': WHATEVER THE INPUT: true; the input reads as it did. -/
def fnExactTraceOfSpec : ChangeSpec := { name := "fnExactTraceOf", fn := fun _ => fun
  | [d] => { results := [.lit (.bool true)], args := [d] }
  | _ => none }
def fnExactTraceOfRow : OpenClaim := { program := "ythnloaddmkpmkaa", sum := "c6eaba62e08de45e2d91d790f4f4acede7a97e20f4aa34001d267e2e2ebb7111", func := "loop.example/g01307/laws.FnExactTraceOf", spec := "fnExactTraceOf", recurses := true, apart := false }
def FnExactTraceOfSaid : Prop := fnExactTraceOfRow.holds Try.pinned (OpenSpec.ofChange fnExactTraceOfSpec)

/-- ITS FALSE NEIGHBOUR: 'it returns false'. Refute it at one input. -/
def fnExactTraceOfWrong : ChangeSpec := { name := "fnExactTraceOf", fn := fun _ => fun
  | [d] => { results := [.lit (.bool false)], args := [d] }
  | _ => none }
def FnExactTraceOfWrongFalsely : Prop := fnExactTraceOfRow.holds Try.pinned (OpenSpec.ofChange fnExactTraceOfWrong)

/-- 'laws.FnExactLeastGenerator': WHATEVER THE INPUT: true; the input reads as it did. -/
def fnExactLeastGeneratorSpec : ChangeSpec := { name := "fnExactLeastGenerator", fn := fun _ => fun
  | [d] => { results := [.lit (.bool true)], args := [d] }
  | _ => none }
def fnExactLeastGeneratorRow : OpenClaim := { program := "ythnloaddmkpmkaa", sum := "c6eaba62e08de45e2d91d790f4f4acede7a97e20f4aa34001d267e2e2ebb7111", func := "loop.example/g01307/laws.FnExactLeastGenerator", spec := "fnExactLeastGenerator", recurses := true, apart := false }
def FnExactLeastGeneratorSaid : Prop := fnExactLeastGeneratorRow.holds Try.pinned (OpenSpec.ofChange fnExactLeastGeneratorSpec)

/-- ITS FALSE NEIGHBOUR: 'it returns false'. Refute it at one input. -/
def fnExactLeastGeneratorWrong : ChangeSpec := { name := "fnExactLeastGenerator", fn := fun _ => fun
  | [d] => { results := [.lit (.bool false)], args := [d] }
  | _ => none }
def FnExactLeastGeneratorWrongFalsely : Prop := fnExactLeastGeneratorRow.holds Try.pinned (OpenSpec.ofChange fnExactLeastGeneratorWrong)

/-- 'laws.FnExactLogOf': WHATEVER THE INPUT: true; the input reads as it did. -/
def fnExactLogOfSpec : ChangeSpec := { name := "fnExactLogOf", fn := fun _ => fun
  | [d1, d2] => { results := [.lit (.bool true)], args := [d1, d2] }
  | _ => none }
def fnExactLogOfRow : OpenClaim := { program := "ythnloaddmkpmkaa", sum := "c6eaba62e08de45e2d91d790f4f4acede7a97e20f4aa34001d267e2e2ebb7111", func := "loop.example/g01307/laws.FnExactLogOf", spec := "fnExactLogOf", recurses := true, apart := false }
def FnExactLogOfSaid : Prop := fnExactLogOfRow.holds Try.pinned (OpenSpec.ofChange fnExactLogOfSpec)

/-- ITS FALSE NEIGHBOUR: 'it returns false'. Refute it at one input. -/
def fnExactLogOfWrong : ChangeSpec := { name := "fnExactLogOf", fn := fun _ => fun
  | [d1, d2] => { results := [.lit (.bool false)], args := [d1, d2] }
  | _ => none }
def FnExactLogOfWrongFalsely : Prop := fnExactLogOfRow.holds Try.pinned (OpenSpec.ofChange fnExactLogOfWrong)

/-- 'laws.FnExactSumOf': WHATEVER THE INPUT: true; the input reads as it did. -/
def fnExactSumOfSpec : ChangeSpec := { name := "fnExactSumOf", fn := fun _ => fun
  | [d] => { results := [.lit (.bool true)], args := [d] }
  | _ => none }
def fnExactSumOfRow : OpenClaim := { program := "ythnloaddmkpmkaa", sum := "c6eaba62e08de45e2d91d790f4f4acede7a97e20f4aa34001d267e2e2ebb7111", func := "loop.example/g01307/laws.FnExactSumOf", spec := "fnExactSumOf", unfollowed := true, recurses := true, apart := false }
def FnExactSumOfSaid : Prop := fnExactSumOfRow.holds Try.pinned (OpenSpec.ofChange fnExactSumOfSpec)

/-- ITS FALSE NEIGHBOUR: 'it returns false'. Refute it at one input. -/
def fnExactSumOfWrong : ChangeSpec := { name := "fnExactSumOf", fn := fun _ => fun
  | [d] => { results := [.lit (.bool false)], args := [d] }
  | _ => none }
def FnExactSumOfWrongFalsely : Prop := fnExactSumOfRow.holds Try.pinned (OpenSpec.ofChange fnExactSumOfWrong)

/-- 'laws.FnExactProductOf': WHATEVER THE INPUT: true; the input reads as it did. -/
def fnExactProductOfSpec : ChangeSpec := { name := "fnExactProductOf", fn := fun _ => fun
  | [d] => { results := [.lit (.bool true)], args := [d] }
  | _ => none }
def fnExactProductOfRow : OpenClaim := { program := "ythnloaddmkpmkaa", sum := "c6eaba62e08de45e2d91d790f4f4acede7a97e20f4aa34001d267e2e2ebb7111", func := "loop.example/g01307/laws.FnExactProductOf", spec := "fnExactProductOf", unfollowed := true, recurses := true, apart := false }
def FnExactProductOfSaid : Prop := fnExactProductOfRow.holds Try.pinned (OpenSpec.ofChange fnExactProductOfSpec)

/-- ITS FALSE NEIGHBOUR: 'it returns false'. Refute it at one input. -/
def fnExactProductOfWrong : ChangeSpec := { name := "fnExactProductOf", fn := fun _ => fun
  | [d] => { results := [.lit (.bool false)], args := [d] }
  | _ => none }
def FnExactProductOfWrongFalsely : Prop := fnExactProductOfRow.holds Try.pinned (OpenSpec.ofChange fnExactProductOfWrong)

/-- 'laws.FnExactLeadingMove': WHATEVER THE INPUT: true; the input reads as it did. -/
def fnExactLeadingMoveSpec : ChangeSpec := { name := "fnExactLeadingMove", fn := fun _ => fun
  | [d] => { results := [.lit (.bool true)], args := [d] }
  | _ => none }
def fnExactLeadingMoveRow : OpenClaim := { program := "ythnloaddmkpmkaa", sum := "c6eaba62e08de45e2d91d790f4f4acede7a97e20f4aa34001d267e2e2ebb7111", func := "loop.example/g01307/laws.FnExactLeadingMove", spec := "fnExactLeadingMove", unfollowed := true, recurses := true, apart := false }
def FnExactLeadingMoveSaid : Prop := fnExactLeadingMoveRow.holds Try.pinned (OpenSpec.ofChange fnExactLeadingMoveSpec)

/-- ITS FALSE NEIGHBOUR: 'it returns false'. Refute it at one input. -/
def fnExactLeadingMoveWrong : ChangeSpec := { name := "fnExactLeadingMove", fn := fun _ => fun
  | [d] => { results := [.lit (.bool false)], args := [d] }
  | _ => none }
def FnExactLeadingMoveWrongFalsely : Prop := fnExactLeadingMoveRow.holds Try.pinned (OpenSpec.ofChange fnExactLeadingMoveWrong)

/-- 'laws.FnExactExcludedBy': WHATEVER THE INPUT: true; the input reads as it did. -/
def fnExactExcludedBySpec : ChangeSpec := { name := "fnExactExcludedBy", fn := fun _ => fun
  | [d] => { results := [.lit (.bool true)], args := [d] }
  | _ => none }
def fnExactExcludedByRow : OpenClaim := { program := "ythnloaddmkpmkaa", sum := "c6eaba62e08de45e2d91d790f4f4acede7a97e20f4aa34001d267e2e2ebb7111", func := "loop.example/g01307/laws.FnExactExcludedBy", spec := "fnExactExcludedBy", apart := false }
def FnExactExcludedBySaid : Prop := fnExactExcludedByRow.holds Try.pinned (OpenSpec.ofChange fnExactExcludedBySpec)

/-- ITS FALSE NEIGHBOUR: 'it returns false'. Refute it at one input. -/
def fnExactExcludedByWrong : ChangeSpec := { name := "fnExactExcludedBy", fn := fun _ => fun
  | [d] => { results := [.lit (.bool false)], args := [d] }
  | _ => none }
def FnExactExcludedByWrongFalsely : Prop := fnExactExcludedByRow.holds Try.pinned (OpenSpec.ofChange fnExactExcludedByWrong)

/-- 'laws.FnExactTimesByExclusion': WHATEVER THE INPUT: true; the input reads as it did. -/
def fnExactTimesByExclusionSpec : ChangeSpec := { name := "fnExactTimesByExclusion", fn := fun _ => fun
  | [d1, d2] => { results := [.lit (.bool true)], args := [d1, d2] }
  | _ => none }
def fnExactTimesByExclusionRow : OpenClaim := { program := "ythnloaddmkpmkaa", sum := "c6eaba62e08de45e2d91d790f4f4acede7a97e20f4aa34001d267e2e2ebb7111", func := "loop.example/g01307/laws.FnExactTimesByExclusion", spec := "fnExactTimesByExclusion", apart := false }
def FnExactTimesByExclusionSaid : Prop := fnExactTimesByExclusionRow.holds Try.pinned (OpenSpec.ofChange fnExactTimesByExclusionSpec)

/-- ITS FALSE NEIGHBOUR: 'it returns false'. Refute it at one input. -/
def fnExactTimesByExclusionWrong : ChangeSpec := { name := "fnExactTimesByExclusion", fn := fun _ => fun
  | [d1, d2] => { results := [.lit (.bool false)], args := [d1, d2] }
  | _ => none }
def FnExactTimesByExclusionWrongFalsely : Prop := fnExactTimesByExclusionRow.holds Try.pinned (OpenSpec.ofChange fnExactTimesByExclusionWrong)

/-- 'laws.FnExactConjugatesOf': WHATEVER THE INPUT: true; the input reads as it did. -/
def fnExactConjugatesOfSpec : ChangeSpec := { name := "fnExactConjugatesOf", fn := fun _ => fun
  | [d] => { results := [.lit (.bool true)], args := [d] }
  | _ => none }
def fnExactConjugatesOfRow : OpenClaim := { program := "ythnloaddmkpmkaa", sum := "c6eaba62e08de45e2d91d790f4f4acede7a97e20f4aa34001d267e2e2ebb7111", func := "loop.example/g01307/laws.FnExactConjugatesOf", spec := "fnExactConjugatesOf", unfollowed := true, recurses := true, apart := false }
def FnExactConjugatesOfSaid : Prop := fnExactConjugatesOfRow.holds Try.pinned (OpenSpec.ofChange fnExactConjugatesOfSpec)

/-- ITS FALSE NEIGHBOUR: 'it returns false'. Refute it at one input. -/
def fnExactConjugatesOfWrong : ChangeSpec := { name := "fnExactConjugatesOf", fn := fun _ => fun
  | [d] => { results := [.lit (.bool false)], args := [d] }
  | _ => none }
def FnExactConjugatesOfWrongFalsely : Prop := fnExactConjugatesOfRow.holds Try.pinned (OpenSpec.ofChange fnExactConjugatesOfWrong)

/-- 'laws.FnExactHalfRoot': WHATEVER THE INPUT: true; the input reads as it did. -/
def fnExactHalfRootSpec : ChangeSpec := { name := "fnExactHalfRoot", fn := fun _ => fun
  | [d] => { results := [.lit (.bool true)], args := [d] }
  | _ => none }
def fnExactHalfRootRow : OpenClaim := { program := "ythnloaddmkpmkaa", sum := "c6eaba62e08de45e2d91d790f4f4acede7a97e20f4aa34001d267e2e2ebb7111", func := "loop.example/g01307/laws.FnExactHalfRoot", spec := "fnExactHalfRoot", unfollowed := true, recurses := true, apart := false }
def FnExactHalfRootSaid : Prop := fnExactHalfRootRow.holds Try.pinned (OpenSpec.ofChange fnExactHalfRootSpec)

/-- ITS FALSE NEIGHBOUR: 'it returns false'. Refute it at one input. -/
def fnExactHalfRootWrong : ChangeSpec := { name := "fnExactHalfRoot", fn := fun _ => fun
  | [d] => { results := [.lit (.bool false)], args := [d] }
  | _ => none }
def FnExactHalfRootWrongFalsely : Prop := fnExactHalfRootRow.holds Try.pinned (OpenSpec.ofChange fnExactHalfRootWrong)

/-- 'laws.FnExactQuadraticRoots': WHATEVER THE INPUT: true; the input reads as it did. -/
def fnExactQuadraticRootsSpec : ChangeSpec := { name := "fnExactQuadraticRoots", fn := fun _ => fun
  | [d1, d2] => { results := [.lit (.bool true)], args := [d1, d2] }
  | _ => none }
def fnExactQuadraticRootsRow : OpenClaim := { program := "ythnloaddmkpmkaa", sum := "c6eaba62e08de45e2d91d790f4f4acede7a97e20f4aa34001d267e2e2ebb7111", func := "loop.example/g01307/laws.FnExactQuadraticRoots", spec := "fnExactQuadraticRoots", unfollowed := true, recurses := true, apart := false }
def FnExactQuadraticRootsSaid : Prop := fnExactQuadraticRootsRow.holds Try.pinned (OpenSpec.ofChange fnExactQuadraticRootsSpec)

/-- ITS FALSE NEIGHBOUR: 'it returns false'. Refute it at one input. -/
def fnExactQuadraticRootsWrong : ChangeSpec := { name := "fnExactQuadraticRoots", fn := fun _ => fun
  | [d1, d2] => { results := [.lit (.bool false)], args := [d1, d2] }
  | _ => none }
def FnExactQuadraticRootsWrongFalsely : Prop := fnExactQuadraticRootsRow.holds Try.pinned (OpenSpec.ofChange fnExactQuadraticRootsWrong)

/- THE SECOND FORM. 'bulk': how many values and letters a reading holds, each counted each time it is reached (what is shared counts as often as it is met; a slice's spare places count too). A statement '..UptoSaid' is the law's where the arguments, and the package variables that the reading takes, are together of bulk at most 1048576: NARROWER than '..Said'. Prove '..Said' where nothing that the law and all that it calls make is longer than what came in: it says more and counts as full. Else prove '..UptoSaid'. A law counts once. -/
mutual
def uptoBulk {H : Type} : DataW H → Nat
  | .lit (.string bytes) => bytes.length + 1
  | .lit _ => 1
  | .nil => 1
  | .ptr d => uptoBulk d + 1
  | .slice elems spare => uptoBulkAll elems + uptoBulkAll spare + 1
  | .agg parts => uptoBulkAll parts + 1
  | .iface _ d => uptoBulk d + 1
  | .map entries => uptoBulkEntries entries + 1
  | .held _ => 1
def uptoBulkAll {H : Type} : List (DataW H) → Nat
  | [] => 0
  | d :: r => uptoBulk d + uptoBulkAll r
def uptoBulkEntries {H : Type} : List (Lit × DataW H) → Nat
  | [] => 0
  | x :: r => uptoBulkEntry x + uptoBulkEntries r
def uptoBulkEntry {H : Type} : Lit × DataW H → Nat
  | (.string bytes, d) => bytes.length + uptoBulk d + 1
  | (_, d) => uptoBulk d + 1
 end
def uptoSmall : (H : Type) → List (DataW H) → Bool := fun _ ds => decide (uptoBulkAll ds ≤ 1048576)
def OpenSpec.upto (s : _root_.Go.ChangeSpec) : _root_.Go.OpenSpec := { _root_.Go.OpenSpec.ofChange s with cond := some uptoSmall }

/-- 'laws.FnExactCodeName', WHERE WHAT IT READS IS OF BULK AT MOST 1048576: true; the input reads as it did. -/
def fnExactCodeNameUptoRow : OpenClaim := { program := "ythnloaddmkpmkaa", sum := "c6eaba62e08de45e2d91d790f4f4acede7a97e20f4aa34001d267e2e2ebb7111", func := "loop.example/g01307/laws.FnExactCodeName", spec := "fnExactCodeName", apart := false, narrowed := true }
def FnExactCodeNameUptoSaid : Prop := fnExactCodeNameUptoRow.holds Try.pinned (OpenSpec.upto fnExactCodeNameSpec)

/-- 'laws.FnExactPlusNim', WHERE WHAT IT READS IS OF BULK AT MOST 1048576: true; the input reads as it did. -/
def fnExactPlusNimUptoRow : OpenClaim := { program := "ythnloaddmkpmkaa", sum := "c6eaba62e08de45e2d91d790f4f4acede7a97e20f4aa34001d267e2e2ebb7111", func := "loop.example/g01307/laws.FnExactPlusNim", spec := "fnExactPlusNim", apart := false, narrowed := true }
def FnExactPlusNimUptoSaid : Prop := fnExactPlusNimUptoRow.holds Try.pinned (OpenSpec.upto fnExactPlusNimSpec)

/-- 'laws.FnExactTimesNim', WHERE WHAT IT READS IS OF BULK AT MOST 1048576: true; the input reads as it did. -/
def fnExactTimesNimUptoRow : OpenClaim := { program := "ythnloaddmkpmkaa", sum := "c6eaba62e08de45e2d91d790f4f4acede7a97e20f4aa34001d267e2e2ebb7111", func := "loop.example/g01307/laws.FnExactTimesNim", spec := "fnExactTimesNim", recurses := true, apart := false, narrowed := true }
def FnExactTimesNimUptoSaid : Prop := fnExactTimesNimUptoRow.holds Try.pinned (OpenSpec.upto fnExactTimesNimSpec)

/-- 'laws.FnExactLevelOf', WHERE WHAT IT READS IS OF BULK AT MOST 1048576: true; the input reads as it did. -/
def fnExactLevelOfUptoRow : OpenClaim := { program := "ythnloaddmkpmkaa", sum := "c6eaba62e08de45e2d91d790f4f4acede7a97e20f4aa34001d267e2e2ebb7111", func := "loop.example/g01307/laws.FnExactLevelOf", spec := "fnExactLevelOf", apart := false, narrowed := true }
def FnExactLevelOfUptoSaid : Prop := fnExactLevelOfUptoRow.holds Try.pinned (OpenSpec.upto fnExactLevelOfSpec)

/-- 'laws.FnExactSquareOf', WHERE WHAT IT READS IS OF BULK AT MOST 1048576: true; the input reads as it did. -/
def fnExactSquareOfUptoRow : OpenClaim := { program := "ythnloaddmkpmkaa", sum := "c6eaba62e08de45e2d91d790f4f4acede7a97e20f4aa34001d267e2e2ebb7111", func := "loop.example/g01307/laws.FnExactSquareOf", spec := "fnExactSquareOf", recurses := true, apart := false, narrowed := true }
def FnExactSquareOfUptoSaid : Prop := fnExactSquareOfUptoRow.holds Try.pinned (OpenSpec.upto fnExactSquareOfSpec)

/-- 'laws.FnExactRootOf', WHERE WHAT IT READS IS OF BULK AT MOST 1048576: true; the input reads as it did. -/
def fnExactRootOfUptoRow : OpenClaim := { program := "ythnloaddmkpmkaa", sum := "c6eaba62e08de45e2d91d790f4f4acede7a97e20f4aa34001d267e2e2ebb7111", func := "loop.example/g01307/laws.FnExactRootOf", spec := "fnExactRootOf", recurses := true, apart := false, narrowed := true }
def FnExactRootOfUptoSaid : Prop := fnExactRootOfUptoRow.holds Try.pinned (OpenSpec.upto fnExactRootOfSpec)

/-- 'laws.FnExactInverseOf', WHERE WHAT IT READS IS OF BULK AT MOST 1048576: true; the input reads as it did. -/
def fnExactInverseOfUptoRow : OpenClaim := { program := "ythnloaddmkpmkaa", sum := "c6eaba62e08de45e2d91d790f4f4acede7a97e20f4aa34001d267e2e2ebb7111", func := "loop.example/g01307/laws.FnExactInverseOf", spec := "fnExactInverseOf", recurses := true, apart := false, narrowed := true }
def FnExactInverseOfUptoSaid : Prop := fnExactInverseOfUptoRow.holds Try.pinned (OpenSpec.upto fnExactInverseOfSpec)

/-- 'laws.FnExactOverNim', WHERE WHAT IT READS IS OF BULK AT MOST 1048576: true; the input reads as it did. -/
def fnExactOverNimUptoRow : OpenClaim := { program := "ythnloaddmkpmkaa", sum := "c6eaba62e08de45e2d91d790f4f4acede7a97e20f4aa34001d267e2e2ebb7111", func := "loop.example/g01307/laws.FnExactOverNim", spec := "fnExactOverNim", recurses := true, apart := false, narrowed := true }
def FnExactOverNimUptoSaid : Prop := fnExactOverNimUptoRow.holds Try.pinned (OpenSpec.upto fnExactOverNimSpec)

/-- 'laws.FnExactPowerOf', WHERE WHAT IT READS IS OF BULK AT MOST 1048576: true; the input reads as it did. -/
def fnExactPowerOfUptoRow : OpenClaim := { program := "ythnloaddmkpmkaa", sum := "c6eaba62e08de45e2d91d790f4f4acede7a97e20f4aa34001d267e2e2ebb7111", func := "loop.example/g01307/laws.FnExactPowerOf", spec := "fnExactPowerOf", recurses := true, apart := false, narrowed := true }
def FnExactPowerOfUptoSaid : Prop := fnExactPowerOfUptoRow.holds Try.pinned (OpenSpec.upto fnExactPowerOfSpec)

/-- 'laws.FnExactOrderOf', WHERE WHAT IT READS IS OF BULK AT MOST 1048576: true; the input reads as it did. -/
def fnExactOrderOfUptoRow : OpenClaim := { program := "ythnloaddmkpmkaa", sum := "c6eaba62e08de45e2d91d790f4f4acede7a97e20f4aa34001d267e2e2ebb7111", func := "loop.example/g01307/laws.FnExactOrderOf", spec := "fnExactOrderOf", recurses := true, apart := false, narrowed := true }
def FnExactOrderOfUptoSaid : Prop := fnExactOrderOfUptoRow.holds Try.pinned (OpenSpec.upto fnExactOrderOfSpec)

/-- 'laws.FnExactTraceOf', WHERE WHAT IT READS IS OF BULK AT MOST 1048576: true; the input reads as it did. -/
def fnExactTraceOfUptoRow : OpenClaim := { program := "ythnloaddmkpmkaa", sum := "c6eaba62e08de45e2d91d790f4f4acede7a97e20f4aa34001d267e2e2ebb7111", func := "loop.example/g01307/laws.FnExactTraceOf", spec := "fnExactTraceOf", recurses := true, apart := false, narrowed := true }
def FnExactTraceOfUptoSaid : Prop := fnExactTraceOfUptoRow.holds Try.pinned (OpenSpec.upto fnExactTraceOfSpec)

/-- 'laws.FnExactLeastGenerator', WHERE WHAT IT READS IS OF BULK AT MOST 1048576: true; the input reads as it did. -/
def fnExactLeastGeneratorUptoRow : OpenClaim := { program := "ythnloaddmkpmkaa", sum := "c6eaba62e08de45e2d91d790f4f4acede7a97e20f4aa34001d267e2e2ebb7111", func := "loop.example/g01307/laws.FnExactLeastGenerator", spec := "fnExactLeastGenerator", recurses := true, apart := false, narrowed := true }
def FnExactLeastGeneratorUptoSaid : Prop := fnExactLeastGeneratorUptoRow.holds Try.pinned (OpenSpec.upto fnExactLeastGeneratorSpec)

/-- 'laws.FnExactLogOf', WHERE WHAT IT READS IS OF BULK AT MOST 1048576: true; the input reads as it did. -/
def fnExactLogOfUptoRow : OpenClaim := { program := "ythnloaddmkpmkaa", sum := "c6eaba62e08de45e2d91d790f4f4acede7a97e20f4aa34001d267e2e2ebb7111", func := "loop.example/g01307/laws.FnExactLogOf", spec := "fnExactLogOf", recurses := true, apart := false, narrowed := true }
def FnExactLogOfUptoSaid : Prop := fnExactLogOfUptoRow.holds Try.pinned (OpenSpec.upto fnExactLogOfSpec)

/-- 'laws.FnExactSumOf', WHERE WHAT IT READS IS OF BULK AT MOST 1048576: true; the input reads as it did. -/
def fnExactSumOfUptoRow : OpenClaim := { program := "ythnloaddmkpmkaa", sum := "c6eaba62e08de45e2d91d790f4f4acede7a97e20f4aa34001d267e2e2ebb7111", func := "loop.example/g01307/laws.FnExactSumOf", spec := "fnExactSumOf", unfollowed := true, recurses := true, apart := false, narrowed := true }
def FnExactSumOfUptoSaid : Prop := fnExactSumOfUptoRow.holds Try.pinned (OpenSpec.upto fnExactSumOfSpec)

/-- 'laws.FnExactProductOf', WHERE WHAT IT READS IS OF BULK AT MOST 1048576: true; the input reads as it did. -/
def fnExactProductOfUptoRow : OpenClaim := { program := "ythnloaddmkpmkaa", sum := "c6eaba62e08de45e2d91d790f4f4acede7a97e20f4aa34001d267e2e2ebb7111", func := "loop.example/g01307/laws.FnExactProductOf", spec := "fnExactProductOf", unfollowed := true, recurses := true, apart := false, narrowed := true }
def FnExactProductOfUptoSaid : Prop := fnExactProductOfUptoRow.holds Try.pinned (OpenSpec.upto fnExactProductOfSpec)

/-- 'laws.FnExactLeadingMove', WHERE WHAT IT READS IS OF BULK AT MOST 1048576: true; the input reads as it did. -/
def fnExactLeadingMoveUptoRow : OpenClaim := { program := "ythnloaddmkpmkaa", sum := "c6eaba62e08de45e2d91d790f4f4acede7a97e20f4aa34001d267e2e2ebb7111", func := "loop.example/g01307/laws.FnExactLeadingMove", spec := "fnExactLeadingMove", unfollowed := true, recurses := true, apart := false, narrowed := true }
def FnExactLeadingMoveUptoSaid : Prop := fnExactLeadingMoveUptoRow.holds Try.pinned (OpenSpec.upto fnExactLeadingMoveSpec)

/-- 'laws.FnExactExcludedBy', WHERE WHAT IT READS IS OF BULK AT MOST 1048576: true; the input reads as it did. -/
def fnExactExcludedByUptoRow : OpenClaim := { program := "ythnloaddmkpmkaa", sum := "c6eaba62e08de45e2d91d790f4f4acede7a97e20f4aa34001d267e2e2ebb7111", func := "loop.example/g01307/laws.FnExactExcludedBy", spec := "fnExactExcludedBy", apart := false, narrowed := true }
def FnExactExcludedByUptoSaid : Prop := fnExactExcludedByUptoRow.holds Try.pinned (OpenSpec.upto fnExactExcludedBySpec)

/-- 'laws.FnExactTimesByExclusion', WHERE WHAT IT READS IS OF BULK AT MOST 1048576: true; the input reads as it did. -/
def fnExactTimesByExclusionUptoRow : OpenClaim := { program := "ythnloaddmkpmkaa", sum := "c6eaba62e08de45e2d91d790f4f4acede7a97e20f4aa34001d267e2e2ebb7111", func := "loop.example/g01307/laws.FnExactTimesByExclusion", spec := "fnExactTimesByExclusion", apart := false, narrowed := true }
def FnExactTimesByExclusionUptoSaid : Prop := fnExactTimesByExclusionUptoRow.holds Try.pinned (OpenSpec.upto fnExactTimesByExclusionSpec)

/-- 'laws.FnExactConjugatesOf', WHERE WHAT IT READS IS OF BULK AT MOST 1048576: true; the input reads as it did. -/
def fnExactConjugatesOfUptoRow : OpenClaim := { program := "ythnloaddmkpmkaa", sum := "c6eaba62e08de45e2d91d790f4f4acede7a97e20f4aa34001d267e2e2ebb7111", func := "loop.example/g01307/laws.FnExactConjugatesOf", spec := "fnExactConjugatesOf", unfollowed := true, recurses := true, apart := false, narrowed := true }
def FnExactConjugatesOfUptoSaid : Prop := fnExactConjugatesOfUptoRow.holds Try.pinned (OpenSpec.upto fnExactConjugatesOfSpec)

/-- 'laws.FnExactHalfRoot', WHERE WHAT IT READS IS OF BULK AT MOST 1048576: true; the input reads as it did. -/
def fnExactHalfRootUptoRow : OpenClaim := { program := "ythnloaddmkpmkaa", sum := "c6eaba62e08de45e2d91d790f4f4acede7a97e20f4aa34001d267e2e2ebb7111", func := "loop.example/g01307/laws.FnExactHalfRoot", spec := "fnExactHalfRoot", unfollowed := true, recurses := true, apart := false, narrowed := true }
def FnExactHalfRootUptoSaid : Prop := fnExactHalfRootUptoRow.holds Try.pinned (OpenSpec.upto fnExactHalfRootSpec)

/-- 'laws.FnExactQuadraticRoots', WHERE WHAT IT READS IS OF BULK AT MOST 1048576: true; the input reads as it did. -/
def fnExactQuadraticRootsUptoRow : OpenClaim := { program := "ythnloaddmkpmkaa", sum := "c6eaba62e08de45e2d91d790f4f4acede7a97e20f4aa34001d267e2e2ebb7111", func := "loop.example/g01307/laws.FnExactQuadraticRoots", spec := "fnExactQuadraticRoots", unfollowed := true, recurses := true, apart := false, narrowed := true }
def FnExactQuadraticRootsUptoSaid : Prop := fnExactQuadraticRootsUptoRow.holds Try.pinned (OpenSpec.upto fnExactQuadraticRootsSpec)

end Rows
end Go.Proofs.Ythnloaddmkpmkaa
