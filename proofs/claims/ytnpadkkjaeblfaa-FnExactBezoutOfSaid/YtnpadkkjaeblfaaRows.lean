/-
  No cell of these rows narrows 'for every input' (looked for: loops, veiled, ifaces, maps, wideKeys, modest, calm, conditions, laid).
  DERIVED. THE GIVEN ROWS OF THIS SEAT. 22 by the template 'for every input the law returns true; each argument reads behind the call as it read before'; 0 by the template 'total and deterministic' (their statements: YtnpadkkjaeblfaaTotals.lean).
  GIVEN WITH THE SEED: the statements are not yours to turn. If you find one false, say at which input.
  Laid BY PROGRAM, IN A SANDBOX (cutbox-rows.mjs): the forced cells as the released guide's own fill.sh prints them over the translation 77d2e94f1995f161… (all of the seat's roots in one cut). By AI agents, Wed Nov 11 2026. No macro, syntax, notation, axiom, sorry.
-/
import Derived.Test.YtnpadkkjaeblfaaChecked
import GoSem.Claim
import GoSem.ClaimJoined
import GoSem.ClaimMapViews
import Derived.JoinedTies
import Derived.KernelRfl
namespace Go.Proofs.Ytnpadkkjaeblfaa
/- THE CELL 'sum', in the pinned program and in every row, IS THE sha256 OF THE DUMP (.gsa) THAT YtnpadkkjaeblfaaProg.lean LOADS. Nothing in Lean hashes anything: it is a label: what it is worth is what the hold of that sum in a sandbox is worth. -/
noncomputable def Try.pinned : Pinned := { name := "ytnpadkkjaeblfaa", sum := "77d2e94f1995f16149f1f8ef047999c885e956161069272ee69c8c4deff5cd68", checked := Try.checked }
namespace Rows
def none {H : Type} : Left H := { results := [], args := [] }

/-- 'laws.FnExactValidPoly': WHATEVER THE INPUT: true; the input reads as it did. -/
def fnExactValidPolySpec : ChangeSpec := { name := "fnExactValidPoly", fn := fun _ => fun
  | [d] => { results := [.lit (.bool true)], args := [d] }
  | _ => none }
def fnExactValidPolyRow : OpenClaim := { program := "ytnpadkkjaeblfaa", sum := "77d2e94f1995f16149f1f8ef047999c885e956161069272ee69c8c4deff5cd68", func := "loop.example/g01307/laws.FnExactValidPoly", spec := "fnExactValidPoly", apart := false }
def FnExactValidPolySaid : Prop := fnExactValidPolyRow.holds Try.pinned (OpenSpec.ofChange fnExactValidPolySpec)

/-- ITS FALSE NEIGHBOUR: 'it returns false'. Refute it at one input. -/
def fnExactValidPolyWrong : ChangeSpec := { name := "fnExactValidPoly", fn := fun _ => fun
  | [d] => { results := [.lit (.bool false)], args := [d] }
  | _ => none }
def FnExactValidPolyWrongFalsely : Prop := fnExactValidPolyRow.holds Try.pinned (OpenSpec.ofChange fnExactValidPolyWrong)

/-- 'laws.FnExactSamePoly': WHATEVER THE INPUT: true; the input reads as it did. -/
def fnExactSamePolySpec : ChangeSpec := { name := "fnExactSamePoly", fn := fun _ => fun
  | [d1, d2] => { results := [.lit (.bool true)], args := [d1, d2] }
  | _ => none }
def fnExactSamePolyRow : OpenClaim := { program := "ytnpadkkjaeblfaa", sum := "77d2e94f1995f16149f1f8ef047999c885e956161069272ee69c8c4deff5cd68", func := "loop.example/g01307/laws.FnExactSamePoly", spec := "fnExactSamePoly", apart := false }
def FnExactSamePolySaid : Prop := fnExactSamePolyRow.holds Try.pinned (OpenSpec.ofChange fnExactSamePolySpec)

/-- ITS FALSE NEIGHBOUR: 'it returns false'. Refute it at one input. -/
def fnExactSamePolyWrong : ChangeSpec := { name := "fnExactSamePoly", fn := fun _ => fun
  | [d1, d2] => { results := [.lit (.bool false)], args := [d1, d2] }
  | _ => none }
def FnExactSamePolyWrongFalsely : Prop := fnExactSamePolyRow.holds Try.pinned (OpenSpec.ofChange fnExactSamePolyWrong)

/-- 'laws.FnExactDegreeOf': WHATEVER THE INPUT: true; the input reads as it did. -/
def fnExactDegreeOfSpec : ChangeSpec := { name := "fnExactDegreeOf", fn := fun _ => fun
  | [d] => { results := [.lit (.bool true)], args := [d] }
  | _ => none }
def fnExactDegreeOfRow : OpenClaim := { program := "ytnpadkkjaeblfaa", sum := "77d2e94f1995f16149f1f8ef047999c885e956161069272ee69c8c4deff5cd68", func := "loop.example/g01307/laws.FnExactDegreeOf", spec := "fnExactDegreeOf", apart := false }
def FnExactDegreeOfSaid : Prop := fnExactDegreeOfRow.holds Try.pinned (OpenSpec.ofChange fnExactDegreeOfSpec)

/-- ITS FALSE NEIGHBOUR: 'it returns false'. Refute it at one input. -/
def fnExactDegreeOfWrong : ChangeSpec := { name := "fnExactDegreeOf", fn := fun _ => fun
  | [d] => { results := [.lit (.bool false)], args := [d] }
  | _ => none }
def FnExactDegreeOfWrongFalsely : Prop := fnExactDegreeOfRow.holds Try.pinned (OpenSpec.ofChange fnExactDegreeOfWrong)

/-- 'laws.FnExactTrimPoly': WHATEVER THE INPUT: true; the input reads as it did. -/
def fnExactTrimPolySpec : ChangeSpec := { name := "fnExactTrimPoly", fn := fun _ => fun
  | [d] => { results := [.lit (.bool true)], args := [d] }
  | _ => none }
def fnExactTrimPolyRow : OpenClaim := { program := "ytnpadkkjaeblfaa", sum := "77d2e94f1995f16149f1f8ef047999c885e956161069272ee69c8c4deff5cd68", func := "loop.example/g01307/laws.FnExactTrimPoly", spec := "fnExactTrimPoly", apart := false }
def FnExactTrimPolySaid : Prop := fnExactTrimPolyRow.holds Try.pinned (OpenSpec.ofChange fnExactTrimPolySpec)

/-- ITS FALSE NEIGHBOUR: 'it returns false'. Refute it at one input. -/
def fnExactTrimPolyWrong : ChangeSpec := { name := "fnExactTrimPoly", fn := fun _ => fun
  | [d] => { results := [.lit (.bool false)], args := [d] }
  | _ => none }
def FnExactTrimPolyWrongFalsely : Prop := fnExactTrimPolyRow.holds Try.pinned (OpenSpec.ofChange fnExactTrimPolyWrong)

/-- 'laws.FnExactPlusPoly': WHATEVER THE INPUT: true; the input reads as it did. -/
def fnExactPlusPolySpec : ChangeSpec := { name := "fnExactPlusPoly", fn := fun _ => fun
  | [d1, d2] => { results := [.lit (.bool true)], args := [d1, d2] }
  | _ => none }
def fnExactPlusPolyRow : OpenClaim := { program := "ytnpadkkjaeblfaa", sum := "77d2e94f1995f16149f1f8ef047999c885e956161069272ee69c8c4deff5cd68", func := "loop.example/g01307/laws.FnExactPlusPoly", spec := "fnExactPlusPoly", apart := false }
def FnExactPlusPolySaid : Prop := fnExactPlusPolyRow.holds Try.pinned (OpenSpec.ofChange fnExactPlusPolySpec)

/-- ITS FALSE NEIGHBOUR: 'it returns false'. Refute it at one input. -/
def fnExactPlusPolyWrong : ChangeSpec := { name := "fnExactPlusPoly", fn := fun _ => fun
  | [d1, d2] => { results := [.lit (.bool false)], args := [d1, d2] }
  | _ => none }
def FnExactPlusPolyWrongFalsely : Prop := fnExactPlusPolyRow.holds Try.pinned (OpenSpec.ofChange fnExactPlusPolyWrong)

/-- 'laws.FnExactTimesPoly': WHATEVER THE INPUT: true; the input reads as it did. -/
def fnExactTimesPolySpec : ChangeSpec := { name := "fnExactTimesPoly", fn := fun _ => fun
  | [d1, d2] => { results := [.lit (.bool true)], args := [d1, d2] }
  | _ => none }
def fnExactTimesPolyRow : OpenClaim := { program := "ytnpadkkjaeblfaa", sum := "77d2e94f1995f16149f1f8ef047999c885e956161069272ee69c8c4deff5cd68", func := "loop.example/g01307/laws.FnExactTimesPoly", spec := "fnExactTimesPoly", recurses := true, apart := false }
def FnExactTimesPolySaid : Prop := fnExactTimesPolyRow.holds Try.pinned (OpenSpec.ofChange fnExactTimesPolySpec)

/-- ITS FALSE NEIGHBOUR: 'it returns false'. Refute it at one input. -/
def fnExactTimesPolyWrong : ChangeSpec := { name := "fnExactTimesPoly", fn := fun _ => fun
  | [d1, d2] => { results := [.lit (.bool false)], args := [d1, d2] }
  | _ => none }
def FnExactTimesPolyWrongFalsely : Prop := fnExactTimesPolyRow.holds Try.pinned (OpenSpec.ofChange fnExactTimesPolyWrong)

/-- 'laws.FnExactScalePoly': WHATEVER THE INPUT: true; the input reads as it did. -/
def fnExactScalePolySpec : ChangeSpec := { name := "fnExactScalePoly", fn := fun _ => fun
  | [d1, d2] => { results := [.lit (.bool true)], args := [d1, d2] }
  | _ => none }
def fnExactScalePolyRow : OpenClaim := { program := "ytnpadkkjaeblfaa", sum := "77d2e94f1995f16149f1f8ef047999c885e956161069272ee69c8c4deff5cd68", func := "loop.example/g01307/laws.FnExactScalePoly", spec := "fnExactScalePoly", recurses := true, apart := false }
def FnExactScalePolySaid : Prop := fnExactScalePolyRow.holds Try.pinned (OpenSpec.ofChange fnExactScalePolySpec)

/-- ITS FALSE NEIGHBOUR: 'it returns false'. Refute it at one input. -/
def fnExactScalePolyWrong : ChangeSpec := { name := "fnExactScalePoly", fn := fun _ => fun
  | [d1, d2] => { results := [.lit (.bool false)], args := [d1, d2] }
  | _ => none }
def FnExactScalePolyWrongFalsely : Prop := fnExactScalePolyRow.holds Try.pinned (OpenSpec.ofChange fnExactScalePolyWrong)

/-- 'laws.FnExactDividePoly': WHATEVER THE INPUT: true; the input reads as it did. -/
def fnExactDividePolySpec : ChangeSpec := { name := "fnExactDividePoly", fn := fun _ => fun
  | [d1, d2] => { results := [.lit (.bool true)], args := [d1, d2] }
  | _ => none }
def fnExactDividePolyRow : OpenClaim := { program := "ytnpadkkjaeblfaa", sum := "77d2e94f1995f16149f1f8ef047999c885e956161069272ee69c8c4deff5cd68", func := "loop.example/g01307/laws.FnExactDividePoly", spec := "fnExactDividePoly", unfollowed := true, recurses := true, apart := false }
def FnExactDividePolySaid : Prop := fnExactDividePolyRow.holds Try.pinned (OpenSpec.ofChange fnExactDividePolySpec)

/-- ITS FALSE NEIGHBOUR: 'it returns false'. Refute it at one input. -/
def fnExactDividePolyWrong : ChangeSpec := { name := "fnExactDividePoly", fn := fun _ => fun
  | [d1, d2] => { results := [.lit (.bool false)], args := [d1, d2] }
  | _ => none }
def FnExactDividePolyWrongFalsely : Prop := fnExactDividePolyRow.holds Try.pinned (OpenSpec.ofChange fnExactDividePolyWrong)

/-- 'laws.FnExactCommonPoly': WHATEVER THE INPUT: true; the input reads as it did. -/
def fnExactCommonPolySpec : ChangeSpec := { name := "fnExactCommonPoly", fn := fun _ => fun
  | [d1, d2] => { results := [.lit (.bool true)], args := [d1, d2] }
  | _ => none }
def fnExactCommonPolyRow : OpenClaim := { program := "ytnpadkkjaeblfaa", sum := "77d2e94f1995f16149f1f8ef047999c885e956161069272ee69c8c4deff5cd68", func := "loop.example/g01307/laws.FnExactCommonPoly", spec := "fnExactCommonPoly", unfollowed := true, recurses := true, apart := false }
def FnExactCommonPolySaid : Prop := fnExactCommonPolyRow.holds Try.pinned (OpenSpec.ofChange fnExactCommonPolySpec)

/-- ITS FALSE NEIGHBOUR: 'it returns false'. Refute it at one input. -/
def fnExactCommonPolyWrong : ChangeSpec := { name := "fnExactCommonPoly", fn := fun _ => fun
  | [d1, d2] => { results := [.lit (.bool false)], args := [d1, d2] }
  | _ => none }
def FnExactCommonPolyWrongFalsely : Prop := fnExactCommonPolyRow.holds Try.pinned (OpenSpec.ofChange fnExactCommonPolyWrong)

/-- 'laws.FnExactBezoutOf': WHATEVER THE INPUT: true; the input reads as it did. -/
def fnExactBezoutOfSpec : ChangeSpec := { name := "fnExactBezoutOf", fn := fun _ => fun
  | [d1, d2] => { results := [.lit (.bool true)], args := [d1, d2] }
  | _ => none }
def fnExactBezoutOfRow : OpenClaim := { program := "ytnpadkkjaeblfaa", sum := "77d2e94f1995f16149f1f8ef047999c885e956161069272ee69c8c4deff5cd68", func := "loop.example/g01307/laws.FnExactBezoutOf", spec := "fnExactBezoutOf", unfollowed := true, recurses := true, apart := false }
def FnExactBezoutOfSaid : Prop := fnExactBezoutOfRow.holds Try.pinned (OpenSpec.ofChange fnExactBezoutOfSpec)

/-- ITS FALSE NEIGHBOUR: 'it returns false'. Refute it at one input. -/
def fnExactBezoutOfWrong : ChangeSpec := { name := "fnExactBezoutOf", fn := fun _ => fun
  | [d1, d2] => { results := [.lit (.bool false)], args := [d1, d2] }
  | _ => none }
def FnExactBezoutOfWrongFalsely : Prop := fnExactBezoutOfRow.holds Try.pinned (OpenSpec.ofChange fnExactBezoutOfWrong)

/-- 'laws.FnExactPolyAt': WHATEVER THE INPUT: true; the input reads as it did. -/
def fnExactPolyAtSpec : ChangeSpec := { name := "fnExactPolyAt", fn := fun _ => fun
  | [d1, d2] => { results := [.lit (.bool true)], args := [d1, d2] }
  | _ => none }
def fnExactPolyAtRow : OpenClaim := { program := "ytnpadkkjaeblfaa", sum := "77d2e94f1995f16149f1f8ef047999c885e956161069272ee69c8c4deff5cd68", func := "loop.example/g01307/laws.FnExactPolyAt", spec := "fnExactPolyAt", unfollowed := true, recurses := true, apart := false }
def FnExactPolyAtSaid : Prop := fnExactPolyAtRow.holds Try.pinned (OpenSpec.ofChange fnExactPolyAtSpec)

/-- ITS FALSE NEIGHBOUR: 'it returns false'. Refute it at one input. -/
def fnExactPolyAtWrong : ChangeSpec := { name := "fnExactPolyAt", fn := fun _ => fun
  | [d1, d2] => { results := [.lit (.bool false)], args := [d1, d2] }
  | _ => none }
def FnExactPolyAtWrongFalsely : Prop := fnExactPolyAtRow.holds Try.pinned (OpenSpec.ofChange fnExactPolyAtWrong)

/-- 'laws.FnExactPolyIn': WHATEVER THE INPUT: true; the input reads as it did. -/
def fnExactPolyInSpec : ChangeSpec := { name := "fnExactPolyIn", fn := fun _ => fun
  | [d1, d2] => { results := [.lit (.bool true)], args := [d1, d2] }
  | _ => none }
def fnExactPolyInRow : OpenClaim := { program := "ytnpadkkjaeblfaa", sum := "77d2e94f1995f16149f1f8ef047999c885e956161069272ee69c8c4deff5cd68", func := "loop.example/g01307/laws.FnExactPolyIn", spec := "fnExactPolyIn", unfollowed := true, recurses := true, apart := false }
def FnExactPolyInSaid : Prop := fnExactPolyInRow.holds Try.pinned (OpenSpec.ofChange fnExactPolyInSpec)

/-- ITS FALSE NEIGHBOUR: 'it returns false'. Refute it at one input. -/
def fnExactPolyInWrong : ChangeSpec := { name := "fnExactPolyIn", fn := fun _ => fun
  | [d1, d2] => { results := [.lit (.bool false)], args := [d1, d2] }
  | _ => none }
def FnExactPolyInWrongFalsely : Prop := fnExactPolyInRow.holds Try.pinned (OpenSpec.ofChange fnExactPolyInWrong)

/-- 'laws.FnExactSlopeOf': WHATEVER THE INPUT: true; the input reads as it did. -/
def fnExactSlopeOfSpec : ChangeSpec := { name := "fnExactSlopeOf", fn := fun _ => fun
  | [d] => { results := [.lit (.bool true)], args := [d] }
  | _ => none }
def fnExactSlopeOfRow : OpenClaim := { program := "ytnpadkkjaeblfaa", sum := "77d2e94f1995f16149f1f8ef047999c885e956161069272ee69c8c4deff5cd68", func := "loop.example/g01307/laws.FnExactSlopeOf", spec := "fnExactSlopeOf", apart := false }
def FnExactSlopeOfSaid : Prop := fnExactSlopeOfRow.holds Try.pinned (OpenSpec.ofChange fnExactSlopeOfSpec)

/-- ITS FALSE NEIGHBOUR: 'it returns false'. Refute it at one input. -/
def fnExactSlopeOfWrong : ChangeSpec := { name := "fnExactSlopeOf", fn := fun _ => fun
  | [d] => { results := [.lit (.bool false)], args := [d] }
  | _ => none }
def FnExactSlopeOfWrongFalsely : Prop := fnExactSlopeOfRow.holds Try.pinned (OpenSpec.ofChange fnExactSlopeOfWrong)

/-- 'laws.FnExactMonicOf': WHATEVER THE INPUT: true; the input reads as it did. -/
def fnExactMonicOfSpec : ChangeSpec := { name := "fnExactMonicOf", fn := fun _ => fun
  | [d] => { results := [.lit (.bool true)], args := [d] }
  | _ => none }
def fnExactMonicOfRow : OpenClaim := { program := "ytnpadkkjaeblfaa", sum := "77d2e94f1995f16149f1f8ef047999c885e956161069272ee69c8c4deff5cd68", func := "loop.example/g01307/laws.FnExactMonicOf", spec := "fnExactMonicOf", recurses := true, apart := false }
def FnExactMonicOfSaid : Prop := fnExactMonicOfRow.holds Try.pinned (OpenSpec.ofChange fnExactMonicOfSpec)

/-- ITS FALSE NEIGHBOUR: 'it returns false'. Refute it at one input. -/
def fnExactMonicOfWrong : ChangeSpec := { name := "fnExactMonicOf", fn := fun _ => fun
  | [d] => { results := [.lit (.bool false)], args := [d] }
  | _ => none }
def FnExactMonicOfWrongFalsely : Prop := fnExactMonicOfRow.holds Try.pinned (OpenSpec.ofChange fnExactMonicOfWrong)

/-- 'laws.FnExactFromRoots': WHATEVER THE INPUT: true; the input reads as it did. -/
def fnExactFromRootsSpec : ChangeSpec := { name := "fnExactFromRoots", fn := fun _ => fun
  | [d] => { results := [.lit (.bool true)], args := [d] }
  | _ => none }
def fnExactFromRootsRow : OpenClaim := { program := "ytnpadkkjaeblfaa", sum := "77d2e94f1995f16149f1f8ef047999c885e956161069272ee69c8c4deff5cd68", func := "loop.example/g01307/laws.FnExactFromRoots", spec := "fnExactFromRoots", unfollowed := true, recurses := true, apart := false }
def FnExactFromRootsSaid : Prop := fnExactFromRootsRow.holds Try.pinned (OpenSpec.ofChange fnExactFromRootsSpec)

/-- ITS FALSE NEIGHBOUR: 'it returns false'. Refute it at one input. -/
def fnExactFromRootsWrong : ChangeSpec := { name := "fnExactFromRoots", fn := fun _ => fun
  | [d] => { results := [.lit (.bool false)], args := [d] }
  | _ => none }
def FnExactFromRootsWrongFalsely : Prop := fnExactFromRootsRow.holds Try.pinned (OpenSpec.ofChange fnExactFromRootsWrong)

/-- 'laws.FnExactRootsIn': WHATEVER THE INPUT: true; the input reads as it did. -/
def fnExactRootsInSpec : ChangeSpec := { name := "fnExactRootsIn", fn := fun _ => fun
  | [d1, d2] => { results := [.lit (.bool true)], args := [d1, d2] }
  | _ => none }
def fnExactRootsInRow : OpenClaim := { program := "ytnpadkkjaeblfaa", sum := "77d2e94f1995f16149f1f8ef047999c885e956161069272ee69c8c4deff5cd68", func := "loop.example/g01307/laws.FnExactRootsIn", spec := "fnExactRootsIn", unfollowed := true, recurses := true, apart := false }
def FnExactRootsInSaid : Prop := fnExactRootsInRow.holds Try.pinned (OpenSpec.ofChange fnExactRootsInSpec)

/-- ITS FALSE NEIGHBOUR: 'it returns false'. Refute it at one input. -/
def fnExactRootsInWrong : ChangeSpec := { name := "fnExactRootsIn", fn := fun _ => fun
  | [d1, d2] => { results := [.lit (.bool false)], args := [d1, d2] }
  | _ => none }
def FnExactRootsInWrongFalsely : Prop := fnExactRootsInRow.holds Try.pinned (OpenSpec.ofChange fnExactRootsInWrong)

/-- 'laws.FnExactTimesRoot': WHATEVER THE INPUT: true; the input reads as it did. -/
def fnExactTimesRootSpec : ChangeSpec := { name := "fnExactTimesRoot", fn := fun _ => fun
  | [d1, d2] => { results := [.lit (.bool true)], args := [d1, d2] }
  | _ => none }
def fnExactTimesRootRow : OpenClaim := { program := "ytnpadkkjaeblfaa", sum := "77d2e94f1995f16149f1f8ef047999c885e956161069272ee69c8c4deff5cd68", func := "loop.example/g01307/laws.FnExactTimesRoot", spec := "fnExactTimesRoot", unfollowed := true, recurses := true, apart := false }
def FnExactTimesRootSaid : Prop := fnExactTimesRootRow.holds Try.pinned (OpenSpec.ofChange fnExactTimesRootSpec)

/-- ITS FALSE NEIGHBOUR: 'it returns false'. Refute it at one input. -/
def fnExactTimesRootWrong : ChangeSpec := { name := "fnExactTimesRoot", fn := fun _ => fun
  | [d1, d2] => { results := [.lit (.bool false)], args := [d1, d2] }
  | _ => none }
def FnExactTimesRootWrongFalsely : Prop := fnExactTimesRootRow.holds Try.pinned (OpenSpec.ofChange fnExactTimesRootWrong)

/-- 'laws.FnExactPolyThrough': WHATEVER THE INPUT: true; the input reads as it did. -/
def fnExactPolyThroughSpec : ChangeSpec := { name := "fnExactPolyThrough", fn := fun _ => fun
  | [d] => { results := [.lit (.bool true)], args := [d] }
  | _ => none }
def fnExactPolyThroughRow : OpenClaim := { program := "ytnpadkkjaeblfaa", sum := "77d2e94f1995f16149f1f8ef047999c885e956161069272ee69c8c4deff5cd68", func := "loop.example/g01307/laws.FnExactPolyThrough", spec := "fnExactPolyThrough", unfollowed := true, recurses := true, apart := false }
def FnExactPolyThroughSaid : Prop := fnExactPolyThroughRow.holds Try.pinned (OpenSpec.ofChange fnExactPolyThroughSpec)

/-- ITS FALSE NEIGHBOUR: 'it returns false'. Refute it at one input. -/
def fnExactPolyThroughWrong : ChangeSpec := { name := "fnExactPolyThrough", fn := fun _ => fun
  | [d] => { results := [.lit (.bool false)], args := [d] }
  | _ => none }
def FnExactPolyThroughWrongFalsely : Prop := fnExactPolyThroughRow.holds Try.pinned (OpenSpec.ofChange fnExactPolyThroughWrong)

/-- 'laws.FnExactMinimalPoly': WHATEVER THE INPUT: true; the input reads as it did. -/
def fnExactMinimalPolySpec : ChangeSpec := { name := "fnExactMinimalPoly", fn := fun _ => fun
  | [d] => { results := [.lit (.bool true)], args := [d] }
  | _ => none }
def fnExactMinimalPolyRow : OpenClaim := { program := "ytnpadkkjaeblfaa", sum := "77d2e94f1995f16149f1f8ef047999c885e956161069272ee69c8c4deff5cd68", func := "loop.example/g01307/laws.FnExactMinimalPoly", spec := "fnExactMinimalPoly", unfollowed := true, recurses := true, apart := false }
def FnExactMinimalPolySaid : Prop := fnExactMinimalPolyRow.holds Try.pinned (OpenSpec.ofChange fnExactMinimalPolySpec)

/-- ITS FALSE NEIGHBOUR: 'it returns false'. Refute it at one input. -/
def fnExactMinimalPolyWrong : ChangeSpec := { name := "fnExactMinimalPoly", fn := fun _ => fun
  | [d] => { results := [.lit (.bool false)], args := [d] }
  | _ => none }
def FnExactMinimalPolyWrongFalsely : Prop := fnExactMinimalPolyRow.holds Try.pinned (OpenSpec.ofChange fnExactMinimalPolyWrong)

/-- 'laws.FnExactIsSimple': WHATEVER THE INPUT: true; the input reads as it did. -/
def fnExactIsSimpleSpec : ChangeSpec := { name := "fnExactIsSimple", fn := fun _ => fun
  | [d] => { results := [.lit (.bool true)], args := [d] }
  | _ => none }
def fnExactIsSimpleRow : OpenClaim := { program := "ytnpadkkjaeblfaa", sum := "77d2e94f1995f16149f1f8ef047999c885e956161069272ee69c8c4deff5cd68", func := "loop.example/g01307/laws.FnExactIsSimple", spec := "fnExactIsSimple", unfollowed := true, recurses := true, apart := false }
def FnExactIsSimpleSaid : Prop := fnExactIsSimpleRow.holds Try.pinned (OpenSpec.ofChange fnExactIsSimpleSpec)

/-- ITS FALSE NEIGHBOUR: 'it returns false'. Refute it at one input. -/
def fnExactIsSimpleWrong : ChangeSpec := { name := "fnExactIsSimple", fn := fun _ => fun
  | [d] => { results := [.lit (.bool false)], args := [d] }
  | _ => none }
def FnExactIsSimpleWrongFalsely : Prop := fnExactIsSimpleRow.holds Try.pinned (OpenSpec.ofChange fnExactIsSimpleWrong)

/-- 'laws.FnExactRootOfPoly': WHATEVER THE INPUT: true; the input reads as it did. -/
def fnExactRootOfPolySpec : ChangeSpec := { name := "fnExactRootOfPoly", fn := fun _ => fun
  | [d] => { results := [.lit (.bool true)], args := [d] }
  | _ => none }
def fnExactRootOfPolyRow : OpenClaim := { program := "ytnpadkkjaeblfaa", sum := "77d2e94f1995f16149f1f8ef047999c885e956161069272ee69c8c4deff5cd68", func := "loop.example/g01307/laws.FnExactRootOfPoly", spec := "fnExactRootOfPoly", recurses := true, apart := false }
def FnExactRootOfPolySaid : Prop := fnExactRootOfPolyRow.holds Try.pinned (OpenSpec.ofChange fnExactRootOfPolySpec)

/-- ITS FALSE NEIGHBOUR: 'it returns false'. Refute it at one input. -/
def fnExactRootOfPolyWrong : ChangeSpec := { name := "fnExactRootOfPoly", fn := fun _ => fun
  | [d] => { results := [.lit (.bool false)], args := [d] }
  | _ => none }
def FnExactRootOfPolyWrongFalsely : Prop := fnExactRootOfPolyRow.holds Try.pinned (OpenSpec.ofChange fnExactRootOfPolyWrong)

/-- 'laws.FnThrough': WHATEVER THE INPUT: true; the input reads as it did. -/
def fnThroughSpec : ChangeSpec := { name := "fnThrough", fn := fun _ => fun
  | [d1, d2] => { results := [.lit (.bool true)], args := [d1, d2] }
  | _ => none }
def fnThroughRow : OpenClaim := { program := "ytnpadkkjaeblfaa", sum := "77d2e94f1995f16149f1f8ef047999c885e956161069272ee69c8c4deff5cd68", func := "loop.example/g01307/laws.FnThrough", spec := "fnThrough", unfollowed := true, recurses := true, apart := false }
def FnThroughSaid : Prop := fnThroughRow.holds Try.pinned (OpenSpec.ofChange fnThroughSpec)

/-- ITS FALSE NEIGHBOUR: 'it returns false'. Refute it at one input. -/
def fnThroughWrong : ChangeSpec := { name := "fnThrough", fn := fun _ => fun
  | [d1, d2] => { results := [.lit (.bool false)], args := [d1, d2] }
  | _ => none }
def FnThroughWrongFalsely : Prop := fnThroughRow.holds Try.pinned (OpenSpec.ofChange fnThroughWrong)

/- THE SECOND FORM. 'bulk': how many values and letters a reading holds, each counted each time it is reached (what is shared counts as often as it is met; a slice's spare places count too). A statement '..UptoSaid' is the law's where the arguments, and the package variables that the reading takes, are together of bulk at most 1048576: NARROWER than '..Said'. Prove '..Said' where nothing that the law and all that it calls make is longer than what came in: it says more and counts as full. Else prove '..UptoSaid'. A law counts once. -/
mutual
def uptoBulk {H : Type} : DataW H → Nat
  | .lit (.string bytes) => bytes.length + 1
  | .lit _ => 1
  | .nil => 1
  | .ptr d => uptoBulk d + 1
  | .slice elems spare => uptoBulkAll elems + uptoBulkAll spare + 1
  | .agg parts => uptoBulkAll parts + 1
  | .iface _ d => uptoBulk d + 1
  | .map entries => uptoBulkEntries entries + 1
  | .held _ => 1
def uptoBulkAll {H : Type} : List (DataW H) → Nat
  | [] => 0
  | d :: r => uptoBulk d + uptoBulkAll r
def uptoBulkEntries {H : Type} : List (Lit × DataW H) → Nat
  | [] => 0
  | x :: r => uptoBulkEntry x + uptoBulkEntries r
def uptoBulkEntry {H : Type} : Lit × DataW H → Nat
  | (.string bytes, d) => bytes.length + uptoBulk d + 1
  | (_, d) => uptoBulk d + 1
 end
def uptoSmall : (H : Type) → List (DataW H) → Bool := fun _ ds => decide (uptoBulkAll ds ≤ 1048576)
def OpenSpec.upto (s : _root_.Go.ChangeSpec) : _root_.Go.OpenSpec := { _root_.Go.OpenSpec.ofChange s with cond := some uptoSmall }

/-- 'laws.FnExactValidPoly', WHERE WHAT IT READS IS OF BULK AT MOST 1048576: true; the input reads as it did. -/
def fnExactValidPolyUptoRow : OpenClaim := { program := "ytnpadkkjaeblfaa", sum := "77d2e94f1995f16149f1f8ef047999c885e956161069272ee69c8c4deff5cd68", func := "loop.example/g01307/laws.FnExactValidPoly", spec := "fnExactValidPoly", apart := false, narrowed := true }
def FnExactValidPolyUptoSaid : Prop := fnExactValidPolyUptoRow.holds Try.pinned (OpenSpec.upto fnExactValidPolySpec)

/-- 'laws.FnExactSamePoly', WHERE WHAT IT READS IS OF BULK AT MOST 1048576: true; the input reads as it did. -/
def fnExactSamePolyUptoRow : OpenClaim := { program := "ytnpadkkjaeblfaa", sum := "77d2e94f1995f16149f1f8ef047999c885e956161069272ee69c8c4deff5cd68", func := "loop.example/g01307/laws.FnExactSamePoly", spec := "fnExactSamePoly", apart := false, narrowed := true }
def FnExactSamePolyUptoSaid : Prop := fnExactSamePolyUptoRow.holds Try.pinned (OpenSpec.upto fnExactSamePolySpec)

/-- 'laws.FnExactDegreeOf', WHERE WHAT IT READS IS OF BULK AT MOST 1048576: true; the input reads as it did. -/
def fnExactDegreeOfUptoRow : OpenClaim := { program := "ytnpadkkjaeblfaa", sum := "77d2e94f1995f16149f1f8ef047999c885e956161069272ee69c8c4deff5cd68", func := "loop.example/g01307/laws.FnExactDegreeOf", spec := "fnExactDegreeOf", apart := false, narrowed := true }
def FnExactDegreeOfUptoSaid : Prop := fnExactDegreeOfUptoRow.holds Try.pinned (OpenSpec.upto fnExactDegreeOfSpec)

/-- 'laws.FnExactTrimPoly', WHERE WHAT IT READS IS OF BULK AT MOST 1048576: true; the input reads as it did. -/
def fnExactTrimPolyUptoRow : OpenClaim := { program := "ytnpadkkjaeblfaa", sum := "77d2e94f1995f16149f1f8ef047999c885e956161069272ee69c8c4deff5cd68", func := "loop.example/g01307/laws.FnExactTrimPoly", spec := "fnExactTrimPoly", apart := false, narrowed := true }
def FnExactTrimPolyUptoSaid : Prop := fnExactTrimPolyUptoRow.holds Try.pinned (OpenSpec.upto fnExactTrimPolySpec)

/-- 'laws.FnExactPlusPoly', WHERE WHAT IT READS IS OF BULK AT MOST 1048576: true; the input reads as it did. -/
def fnExactPlusPolyUptoRow : OpenClaim := { program := "ytnpadkkjaeblfaa", sum := "77d2e94f1995f16149f1f8ef047999c885e956161069272ee69c8c4deff5cd68", func := "loop.example/g01307/laws.FnExactPlusPoly", spec := "fnExactPlusPoly", apart := false, narrowed := true }
def FnExactPlusPolyUptoSaid : Prop := fnExactPlusPolyUptoRow.holds Try.pinned (OpenSpec.upto fnExactPlusPolySpec)

/-- 'laws.FnExactTimesPoly', WHERE WHAT IT READS IS OF BULK AT MOST 1048576: true; the input reads as it did. -/
def fnExactTimesPolyUptoRow : OpenClaim := { program := "ytnpadkkjaeblfaa", sum := "77d2e94f1995f16149f1f8ef047999c885e956161069272ee69c8c4deff5cd68", func := "loop.example/g01307/laws.FnExactTimesPoly", spec := "fnExactTimesPoly", recurses := true, apart := false, narrowed := true }
def FnExactTimesPolyUptoSaid : Prop := fnExactTimesPolyUptoRow.holds Try.pinned (OpenSpec.upto fnExactTimesPolySpec)

/-- 'laws.FnExactScalePoly', WHERE WHAT IT READS IS OF BULK AT MOST 1048576: true; the input reads as it did. -/
def fnExactScalePolyUptoRow : OpenClaim := { program := "ytnpadkkjaeblfaa", sum := "77d2e94f1995f16149f1f8ef047999c885e956161069272ee69c8c4deff5cd68", func := "loop.example/g01307/laws.FnExactScalePoly", spec := "fnExactScalePoly", recurses := true, apart := false, narrowed := true }
def FnExactScalePolyUptoSaid : Prop := fnExactScalePolyUptoRow.holds Try.pinned (OpenSpec.upto fnExactScalePolySpec)

/-- 'laws.FnExactDividePoly', WHERE WHAT IT READS IS OF BULK AT MOST 1048576: true; the input reads as it did. -/
def fnExactDividePolyUptoRow : OpenClaim := { program := "ytnpadkkjaeblfaa", sum := "77d2e94f1995f16149f1f8ef047999c885e956161069272ee69c8c4deff5cd68", func := "loop.example/g01307/laws.FnExactDividePoly", spec := "fnExactDividePoly", unfollowed := true, recurses := true, apart := false, narrowed := true }
def FnExactDividePolyUptoSaid : Prop := fnExactDividePolyUptoRow.holds Try.pinned (OpenSpec.upto fnExactDividePolySpec)

/-- 'laws.FnExactCommonPoly', WHERE WHAT IT READS IS OF BULK AT MOST 1048576: true; the input reads as it did. -/
def fnExactCommonPolyUptoRow : OpenClaim := { program := "ytnpadkkjaeblfaa", sum := "77d2e94f1995f16149f1f8ef047999c885e956161069272ee69c8c4deff5cd68", func := "loop.example/g01307/laws.FnExactCommonPoly", spec := "fnExactCommonPoly", unfollowed := true, recurses := true, apart := false, narrowed := true }
def FnExactCommonPolyUptoSaid : Prop := fnExactCommonPolyUptoRow.holds Try.pinned (OpenSpec.upto fnExactCommonPolySpec)

/-- 'laws.FnExactBezoutOf', WHERE WHAT IT READS IS OF BULK AT MOST 1048576: true; the input reads as it did. -/
def fnExactBezoutOfUptoRow : OpenClaim := { program := "ytnpadkkjaeblfaa", sum := "77d2e94f1995f16149f1f8ef047999c885e956161069272ee69c8c4deff5cd68", func := "loop.example/g01307/laws.FnExactBezoutOf", spec := "fnExactBezoutOf", unfollowed := true, recurses := true, apart := false, narrowed := true }
def FnExactBezoutOfUptoSaid : Prop := fnExactBezoutOfUptoRow.holds Try.pinned (OpenSpec.upto fnExactBezoutOfSpec)

/-- 'laws.FnExactPolyAt', WHERE WHAT IT READS IS OF BULK AT MOST 1048576: true; the input reads as it did. -/
def fnExactPolyAtUptoRow : OpenClaim := { program := "ytnpadkkjaeblfaa", sum := "77d2e94f1995f16149f1f8ef047999c885e956161069272ee69c8c4deff5cd68", func := "loop.example/g01307/laws.FnExactPolyAt", spec := "fnExactPolyAt", unfollowed := true, recurses := true, apart := false, narrowed := true }
def FnExactPolyAtUptoSaid : Prop := fnExactPolyAtUptoRow.holds Try.pinned (OpenSpec.upto fnExactPolyAtSpec)

/-- 'laws.FnExactPolyIn', WHERE WHAT IT READS IS OF BULK AT MOST 1048576: true; the input reads as it did. -/
def fnExactPolyInUptoRow : OpenClaim := { program := "ytnpadkkjaeblfaa", sum := "77d2e94f1995f16149f1f8ef047999c885e956161069272ee69c8c4deff5cd68", func := "loop.example/g01307/laws.FnExactPolyIn", spec := "fnExactPolyIn", unfollowed := true, recurses := true, apart := false, narrowed := true }
def FnExactPolyInUptoSaid : Prop := fnExactPolyInUptoRow.holds Try.pinned (OpenSpec.upto fnExactPolyInSpec)

/-- 'laws.FnExactSlopeOf', WHERE WHAT IT READS IS OF BULK AT MOST 1048576: true; the input reads as it did. -/
def fnExactSlopeOfUptoRow : OpenClaim := { program := "ytnpadkkjaeblfaa", sum := "77d2e94f1995f16149f1f8ef047999c885e956161069272ee69c8c4deff5cd68", func := "loop.example/g01307/laws.FnExactSlopeOf", spec := "fnExactSlopeOf", apart := false, narrowed := true }
def FnExactSlopeOfUptoSaid : Prop := fnExactSlopeOfUptoRow.holds Try.pinned (OpenSpec.upto fnExactSlopeOfSpec)

/-- 'laws.FnExactMonicOf', WHERE WHAT IT READS IS OF BULK AT MOST 1048576: true; the input reads as it did. -/
def fnExactMonicOfUptoRow : OpenClaim := { program := "ytnpadkkjaeblfaa", sum := "77d2e94f1995f16149f1f8ef047999c885e956161069272ee69c8c4deff5cd68", func := "loop.example/g01307/laws.FnExactMonicOf", spec := "fnExactMonicOf", recurses := true, apart := false, narrowed := true }
def FnExactMonicOfUptoSaid : Prop := fnExactMonicOfUptoRow.holds Try.pinned (OpenSpec.upto fnExactMonicOfSpec)

/-- 'laws.FnExactFromRoots', WHERE WHAT IT READS IS OF BULK AT MOST 1048576: true; the input reads as it did. -/
def fnExactFromRootsUptoRow : OpenClaim := { program := "ytnpadkkjaeblfaa", sum := "77d2e94f1995f16149f1f8ef047999c885e956161069272ee69c8c4deff5cd68", func := "loop.example/g01307/laws.FnExactFromRoots", spec := "fnExactFromRoots", unfollowed := true, recurses := true, apart := false, narrowed := true }
def FnExactFromRootsUptoSaid : Prop := fnExactFromRootsUptoRow.holds Try.pinned (OpenSpec.upto fnExactFromRootsSpec)

/-- 'laws.FnExactRootsIn', WHERE WHAT IT READS IS OF BULK AT MOST 1048576: true; the input reads as it did. -/
def fnExactRootsInUptoRow : OpenClaim := { program := "ytnpadkkjaeblfaa", sum := "77d2e94f1995f16149f1f8ef047999c885e956161069272ee69c8c4deff5cd68", func := "loop.example/g01307/laws.FnExactRootsIn", spec := "fnExactRootsIn", unfollowed := true, recurses := true, apart := false, narrowed := true }
def FnExactRootsInUptoSaid : Prop := fnExactRootsInUptoRow.holds Try.pinned (OpenSpec.upto fnExactRootsInSpec)

/-- 'laws.FnExactTimesRoot', WHERE WHAT IT READS IS OF BULK AT MOST 1048576: true; the input reads as it did. -/
def fnExactTimesRootUptoRow : OpenClaim := { program := "ytnpadkkjaeblfaa", sum := "77d2e94f1995f16149f1f8ef047999c885e956161069272ee69c8c4deff5cd68", func := "loop.example/g01307/laws.FnExactTimesRoot", spec := "fnExactTimesRoot", unfollowed := true, recurses := true, apart := false, narrowed := true }
def FnExactTimesRootUptoSaid : Prop := fnExactTimesRootUptoRow.holds Try.pinned (OpenSpec.upto fnExactTimesRootSpec)

/-- 'laws.FnExactPolyThrough', WHERE WHAT IT READS IS OF BULK AT MOST 1048576: true; the input reads as it did. -/
def fnExactPolyThroughUptoRow : OpenClaim := { program := "ytnpadkkjaeblfaa", sum := "77d2e94f1995f16149f1f8ef047999c885e956161069272ee69c8c4deff5cd68", func := "loop.example/g01307/laws.FnExactPolyThrough", spec := "fnExactPolyThrough", unfollowed := true, recurses := true, apart := false, narrowed := true }
def FnExactPolyThroughUptoSaid : Prop := fnExactPolyThroughUptoRow.holds Try.pinned (OpenSpec.upto fnExactPolyThroughSpec)

/-- 'laws.FnExactMinimalPoly', WHERE WHAT IT READS IS OF BULK AT MOST 1048576: true; the input reads as it did. -/
def fnExactMinimalPolyUptoRow : OpenClaim := { program := "ytnpadkkjaeblfaa", sum := "77d2e94f1995f16149f1f8ef047999c885e956161069272ee69c8c4deff5cd68", func := "loop.example/g01307/laws.FnExactMinimalPoly", spec := "fnExactMinimalPoly", unfollowed := true, recurses := true, apart := false, narrowed := true }
def FnExactMinimalPolyUptoSaid : Prop := fnExactMinimalPolyUptoRow.holds Try.pinned (OpenSpec.upto fnExactMinimalPolySpec)

/-- 'laws.FnExactIsSimple', WHERE WHAT IT READS IS OF BULK AT MOST 1048576: true; the input reads as it did. -/
def fnExactIsSimpleUptoRow : OpenClaim := { program := "ytnpadkkjaeblfaa", sum := "77d2e94f1995f16149f1f8ef047999c885e956161069272ee69c8c4deff5cd68", func := "loop.example/g01307/laws.FnExactIsSimple", spec := "fnExactIsSimple", unfollowed := true, recurses := true, apart := false, narrowed := true }
def FnExactIsSimpleUptoSaid : Prop := fnExactIsSimpleUptoRow.holds Try.pinned (OpenSpec.upto fnExactIsSimpleSpec)

/-- 'laws.FnExactRootOfPoly', WHERE WHAT IT READS IS OF BULK AT MOST 1048576: true; the input reads as it did. -/
def fnExactRootOfPolyUptoRow : OpenClaim := { program := "ytnpadkkjaeblfaa", sum := "77d2e94f1995f16149f1f8ef047999c885e956161069272ee69c8c4deff5cd68", func := "loop.example/g01307/laws.FnExactRootOfPoly", spec := "fnExactRootOfPoly", recurses := true, apart := false, narrowed := true }
def FnExactRootOfPolyUptoSaid : Prop := fnExactRootOfPolyUptoRow.holds Try.pinned (OpenSpec.upto fnExactRootOfPolySpec)

/-- 'laws.FnThrough', WHERE WHAT IT READS IS OF BULK AT MOST 1048576: true; the input reads as it did. -/
def fnThroughUptoRow : OpenClaim := { program := "ytnpadkkjaeblfaa", sum := "77d2e94f1995f16149f1f8ef047999c885e956161069272ee69c8c4deff5cd68", func := "loop.example/g01307/laws.FnThrough", spec := "fnThrough", unfollowed := true, recurses := true, apart := false, narrowed := true }
def FnThroughUptoSaid : Prop := fnThroughUptoRow.holds Try.pinned (OpenSpec.upto fnThroughSpec)

end Rows
end Go.Proofs.Ytnpadkkjaeblfaa
