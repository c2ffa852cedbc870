/-
  No cell of these rows narrows 'for every input' (looked for: loops, veiled, ifaces, maps, wideKeys, modest, calm, conditions, laid).
  DERIVED. THE GIVEN ROWS OF THIS SEAT. 20 by the template 'for every input the law returns true; each argument reads behind the call as it read before'; 0 by the template 'total and deterministic' (their statements: YthhjhfkcgokffaaTotals.lean).
  GIVEN WITH THE SEED: the statements are not yours to turn. If you find one false, say at which input.
  Laid BY PROGRAM, IN A SANDBOX (cutbox-rows.mjs): the forced cells as the released guide's own fill.sh prints them over the translation b71ab83a72042249… (all of the seat's roots in one cut). By AI agents, Wed Nov 11 2026. No macro, syntax, notation, axiom, sorry.
-/
import Derived.Test.YthhjhfkcgokffaaChecked
import GoSem.Claim
import GoSem.ClaimJoined
import GoSem.ClaimMapViews
import Derived.JoinedTies
import Derived.KernelRfl
namespace Go.Proofs.Ythhjhfkcgokffaa
/- THE CELL 'sum', in the pinned program and in every row, IS THE sha256 OF THE DUMP (.gsa) THAT YthhjhfkcgokffaaProg.lean LOADS. Nothing in Lean hashes anything: it is a label: what it is worth is what the hold of that sum in a sandbox is worth. -/
noncomputable def Try.pinned : Pinned := { name := "ythhjhfkcgokffaa", sum := "b71ab83a72042249b817ee1223c37f757bab5c8def0cb042eab22d5a16005f83", checked := Try.checked }
namespace Rows
def none {H : Type} : Left H := { results := [], args := [] }

/-- 'laws.FnExactValidWord': WHATEVER THE INPUT: true; the input reads as it did. -/
def fnExactValidWordSpec : ChangeSpec := { name := "fnExactValidWord", fn := fun _ => fun
  | [d1, d2] => { results := [.lit (.bool true)], args := [d1, d2] }
  | _ => none }
def fnExactValidWordRow : OpenClaim := { program := "ythhjhfkcgokffaa", sum := "b71ab83a72042249b817ee1223c37f757bab5c8def0cb042eab22d5a16005f83", func := "loop.example/g01307/laws.FnExactValidWord", spec := "fnExactValidWord", unfollowed := true, recurses := true, apart := false }
def FnExactValidWordSaid : Prop := fnExactValidWordRow.holds Try.pinned (OpenSpec.ofChange fnExactValidWordSpec)

/-- ITS FALSE NEIGHBOUR: 'it returns false'. Refute it at one input. -/
def fnExactValidWordWrong : ChangeSpec := { name := "fnExactValidWord", fn := fun _ => fun
  | [d1, d2] => { results := [.lit (.bool false)], args := [d1, d2] }
  | _ => none }
def FnExactValidWordWrongFalsely : Prop := fnExactValidWordRow.holds Try.pinned (OpenSpec.ofChange fnExactValidWordWrong)

/-- 'laws.FnExactSameWord': WHATEVER THE INPUT: true; the input reads as it did. -/
def fnExactSameWordSpec : ChangeSpec := { name := "fnExactSameWord", fn := fun _ => fun
  | [d1, d2] => { results := [.lit (.bool true)], args := [d1, d2] }
  | _ => none }
def fnExactSameWordRow : OpenClaim := { program := "ythhjhfkcgokffaa", sum := "b71ab83a72042249b817ee1223c37f757bab5c8def0cb042eab22d5a16005f83", func := "loop.example/g01307/laws.FnExactSameWord", spec := "fnExactSameWord", apart := false }
def FnExactSameWordSaid : Prop := fnExactSameWordRow.holds Try.pinned (OpenSpec.ofChange fnExactSameWordSpec)

/-- ITS FALSE NEIGHBOUR: 'it returns false'. Refute it at one input. -/
def fnExactSameWordWrong : ChangeSpec := { name := "fnExactSameWord", fn := fun _ => fun
  | [d1, d2] => { results := [.lit (.bool false)], args := [d1, d2] }
  | _ => none }
def FnExactSameWordWrongFalsely : Prop := fnExactSameWordRow.holds Try.pinned (OpenSpec.ofChange fnExactSameWordWrong)

/-- 'laws.FnExactWeightOf': WHATEVER THE INPUT: true; the input reads as it did. -/
def fnExactWeightOfSpec : ChangeSpec := { name := "fnExactWeightOf", fn := fun _ => fun
  | [d] => { results := [.lit (.bool true)], args := [d] }
  | _ => none }
def fnExactWeightOfRow : OpenClaim := { program := "ythhjhfkcgokffaa", sum := "b71ab83a72042249b817ee1223c37f757bab5c8def0cb042eab22d5a16005f83", func := "loop.example/g01307/laws.FnExactWeightOf", spec := "fnExactWeightOf", apart := false }
def FnExactWeightOfSaid : Prop := fnExactWeightOfRow.holds Try.pinned (OpenSpec.ofChange fnExactWeightOfSpec)

/-- ITS FALSE NEIGHBOUR: 'it returns false'. Refute it at one input. -/
def fnExactWeightOfWrong : ChangeSpec := { name := "fnExactWeightOf", fn := fun _ => fun
  | [d] => { results := [.lit (.bool false)], args := [d] }
  | _ => none }
def FnExactWeightOfWrongFalsely : Prop := fnExactWeightOfRow.holds Try.pinned (OpenSpec.ofChange fnExactWeightOfWrong)

/-- 'laws.FnExactApartOf': WHATEVER THE INPUT: true; the input reads as it did. -/
def fnExactApartOfSpec : ChangeSpec := { name := "fnExactApartOf", fn := fun _ => fun
  | [d1, d2] => { results := [.lit (.bool true)], args := [d1, d2] }
  | _ => none }
def fnExactApartOfRow : OpenClaim := { program := "ythhjhfkcgokffaa", sum := "b71ab83a72042249b817ee1223c37f757bab5c8def0cb042eab22d5a16005f83", func := "loop.example/g01307/laws.FnExactApartOf", spec := "fnExactApartOf", unfollowed := true, recurses := true, apart := false }
def FnExactApartOfSaid : Prop := fnExactApartOfRow.holds Try.pinned (OpenSpec.ofChange fnExactApartOfSpec)

/-- ITS FALSE NEIGHBOUR: 'it returns false'. Refute it at one input. -/
def fnExactApartOfWrong : ChangeSpec := { name := "fnExactApartOf", fn := fun _ => fun
  | [d1, d2] => { results := [.lit (.bool false)], args := [d1, d2] }
  | _ => none }
def FnExactApartOfWrongFalsely : Prop := fnExactApartOfRow.holds Try.pinned (OpenSpec.ofChange fnExactApartOfWrong)

/-- 'laws.FnExactPlusWord': WHATEVER THE INPUT: true; the input reads as it did. -/
def fnExactPlusWordSpec : ChangeSpec := { name := "fnExactPlusWord", fn := fun _ => fun
  | [d1, d2] => { results := [.lit (.bool true)], args := [d1, d2] }
  | _ => none }
def fnExactPlusWordRow : OpenClaim := { program := "ythhjhfkcgokffaa", sum := "b71ab83a72042249b817ee1223c37f757bab5c8def0cb042eab22d5a16005f83", func := "loop.example/g01307/laws.FnExactPlusWord", spec := "fnExactPlusWord", unfollowed := true, recurses := true, apart := false }
def FnExactPlusWordSaid : Prop := fnExactPlusWordRow.holds Try.pinned (OpenSpec.ofChange fnExactPlusWordSpec)

/-- ITS FALSE NEIGHBOUR: 'it returns false'. Refute it at one input. -/
def fnExactPlusWordWrong : ChangeSpec := { name := "fnExactPlusWord", fn := fun _ => fun
  | [d1, d2] => { results := [.lit (.bool false)], args := [d1, d2] }
  | _ => none }
def FnExactPlusWordWrongFalsely : Prop := fnExactPlusWordRow.holds Try.pinned (OpenSpec.ofChange fnExactPlusWordWrong)

/-- 'laws.FnExactScaleWord': WHATEVER THE INPUT: true; the input reads as it did. -/
def fnExactScaleWordSpec : ChangeSpec := { name := "fnExactScaleWord", fn := fun _ => fun
  | [d1, d2] => { results := [.lit (.bool true)], args := [d1, d2] }
  | _ => none }
def fnExactScaleWordRow : OpenClaim := { program := "ythhjhfkcgokffaa", sum := "b71ab83a72042249b817ee1223c37f757bab5c8def0cb042eab22d5a16005f83", func := "loop.example/g01307/laws.FnExactScaleWord", spec := "fnExactScaleWord", unfollowed := true, recurses := true, apart := false }
def FnExactScaleWordSaid : Prop := fnExactScaleWordRow.holds Try.pinned (OpenSpec.ofChange fnExactScaleWordSpec)

/-- ITS FALSE NEIGHBOUR: 'it returns false'. Refute it at one input. -/
def fnExactScaleWordWrong : ChangeSpec := { name := "fnExactScaleWord", fn := fun _ => fun
  | [d1, d2] => { results := [.lit (.bool false)], args := [d1, d2] }
  | _ => none }
def FnExactScaleWordWrongFalsely : Prop := fnExactScaleWordRow.holds Try.pinned (OpenSpec.ofChange fnExactScaleWordWrong)

/-- 'laws.FnExactPlaceOfWord': WHATEVER THE INPUT: true; the input reads as it did. -/
def fnExactPlaceOfWordSpec : ChangeSpec := { name := "fnExactPlaceOfWord", fn := fun _ => fun
  | [d1, d2] => { results := [.lit (.bool true)], args := [d1, d2] }
  | _ => none }
def fnExactPlaceOfWordRow : OpenClaim := { program := "ythhjhfkcgokffaa", sum := "b71ab83a72042249b817ee1223c37f757bab5c8def0cb042eab22d5a16005f83", func := "loop.example/g01307/laws.FnExactPlaceOfWord", spec := "fnExactPlaceOfWord", unfollowed := true, recurses := true, apart := false }
def FnExactPlaceOfWordSaid : Prop := fnExactPlaceOfWordRow.holds Try.pinned (OpenSpec.ofChange fnExactPlaceOfWordSpec)

/-- ITS FALSE NEIGHBOUR: 'it returns false'. Refute it at one input. -/
def fnExactPlaceOfWordWrong : ChangeSpec := { name := "fnExactPlaceOfWord", fn := fun _ => fun
  | [d1, d2] => { results := [.lit (.bool false)], args := [d1, d2] }
  | _ => none }
def FnExactPlaceOfWordWrongFalsely : Prop := fnExactPlaceOfWordRow.holds Try.pinned (OpenSpec.ofChange fnExactPlaceOfWordWrong)

/-- 'laws.FnExactWordAtPlace': WHATEVER THE INPUT: true; the input reads as it did. -/
def fnExactWordAtPlaceSpec : ChangeSpec := { name := "fnExactWordAtPlace", fn := fun _ => fun
  | [d1, d2, d3] => { results := [.lit (.bool true)], args := [d1, d2, d3] }
  | _ => none }
def fnExactWordAtPlaceRow : OpenClaim := { program := "ythhjhfkcgokffaa", sum := "b71ab83a72042249b817ee1223c37f757bab5c8def0cb042eab22d5a16005f83", func := "loop.example/g01307/laws.FnExactWordAtPlace", spec := "fnExactWordAtPlace", unfollowed := true, recurses := true, apart := false }
def FnExactWordAtPlaceSaid : Prop := fnExactWordAtPlaceRow.holds Try.pinned (OpenSpec.ofChange fnExactWordAtPlaceSpec)

/-- ITS FALSE NEIGHBOUR: 'it returns false'. Refute it at one input. -/
def fnExactWordAtPlaceWrong : ChangeSpec := { name := "fnExactWordAtPlace", fn := fun _ => fun
  | [d1, d2, d3] => { results := [.lit (.bool false)], args := [d1, d2, d3] }
  | _ => none }
def FnExactWordAtPlaceWrongFalsely : Prop := fnExactWordAtPlaceRow.holds Try.pinned (OpenSpec.ofChange fnExactWordAtPlaceWrong)

/-- 'laws.FnExactGreedyCode': WHATEVER THE INPUT: true; the input reads as it did. -/
def fnExactGreedyCodeSpec : ChangeSpec := { name := "fnExactGreedyCode", fn := fun _ => fun
  | [d1, d2, d3] => { results := [.lit (.bool true)], args := [d1, d2, d3] }
  | _ => none }
def fnExactGreedyCodeRow : OpenClaim := { program := "ythhjhfkcgokffaa", sum := "b71ab83a72042249b817ee1223c37f757bab5c8def0cb042eab22d5a16005f83", func := "loop.example/g01307/laws.FnExactGreedyCode", spec := "fnExactGreedyCode", unfollowed := true, recurses := true, apart := false }
def FnExactGreedyCodeSaid : Prop := fnExactGreedyCodeRow.holds Try.pinned (OpenSpec.ofChange fnExactGreedyCodeSpec)

/-- ITS FALSE NEIGHBOUR: 'it returns false'. Refute it at one input. -/
def fnExactGreedyCodeWrong : ChangeSpec := { name := "fnExactGreedyCode", fn := fun _ => fun
  | [d1, d2, d3] => { results := [.lit (.bool false)], args := [d1, d2, d3] }
  | _ => none }
def FnExactGreedyCodeWrongFalsely : Prop := fnExactGreedyCodeRow.holds Try.pinned (OpenSpec.ofChange fnExactGreedyCodeWrong)

/-- 'laws.FnExactGreedyBasis': WHATEVER THE INPUT: true; the input reads as it did. -/
def fnExactGreedyBasisSpec : ChangeSpec := { name := "fnExactGreedyBasis", fn := fun _ => fun
  | [d1, d2, d3] => { results := [.lit (.bool true)], args := [d1, d2, d3] }
  | _ => none }
def fnExactGreedyBasisRow : OpenClaim := { program := "ythhjhfkcgokffaa", sum := "b71ab83a72042249b817ee1223c37f757bab5c8def0cb042eab22d5a16005f83", func := "loop.example/g01307/laws.FnExactGreedyBasis", spec := "fnExactGreedyBasis", unfollowed := true, recurses := true, apart := false }
def FnExactGreedyBasisSaid : Prop := fnExactGreedyBasisRow.holds Try.pinned (OpenSpec.ofChange fnExactGreedyBasisSpec)

/-- ITS FALSE NEIGHBOUR: 'it returns false'. Refute it at one input. -/
def fnExactGreedyBasisWrong : ChangeSpec := { name := "fnExactGreedyBasis", fn := fun _ => fun
  | [d1, d2, d3] => { results := [.lit (.bool false)], args := [d1, d2, d3] }
  | _ => none }
def FnExactGreedyBasisWrongFalsely : Prop := fnExactGreedyBasisRow.holds Try.pinned (OpenSpec.ofChange fnExactGreedyBasisWrong)

/-- 'laws.FnExactSpannedBy': WHATEVER THE INPUT: true; the input reads as it did. -/
def fnExactSpannedBySpec : ChangeSpec := { name := "fnExactSpannedBy", fn := fun _ => fun
  | [d1, d2] => { results := [.lit (.bool true)], args := [d1, d2] }
  | _ => none }
def fnExactSpannedByRow : OpenClaim := { program := "ythhjhfkcgokffaa", sum := "b71ab83a72042249b817ee1223c37f757bab5c8def0cb042eab22d5a16005f83", func := "loop.example/g01307/laws.FnExactSpannedBy", spec := "fnExactSpannedBy", unfollowed := true, recurses := true, apart := false }
def FnExactSpannedBySaid : Prop := fnExactSpannedByRow.holds Try.pinned (OpenSpec.ofChange fnExactSpannedBySpec)

/-- ITS FALSE NEIGHBOUR: 'it returns false'. Refute it at one input. -/
def fnExactSpannedByWrong : ChangeSpec := { name := "fnExactSpannedBy", fn := fun _ => fun
  | [d1, d2] => { results := [.lit (.bool false)], args := [d1, d2] }
  | _ => none }
def FnExactSpannedByWrongFalsely : Prop := fnExactSpannedByRow.holds Try.pinned (OpenSpec.ofChange fnExactSpannedByWrong)

/-- 'laws.FnExactClosedUnderSums': WHATEVER THE INPUT: true; the input reads as it did. -/
def fnExactClosedUnderSumsSpec : ChangeSpec := { name := "fnExactClosedUnderSums", fn := fun _ => fun
  | [d1, d2] => { results := [.lit (.bool true)], args := [d1, d2] }
  | _ => none }
def fnExactClosedUnderSumsRow : OpenClaim := { program := "ythhjhfkcgokffaa", sum := "b71ab83a72042249b817ee1223c37f757bab5c8def0cb042eab22d5a16005f83", func := "loop.example/g01307/laws.FnExactClosedUnderSums", spec := "fnExactClosedUnderSums", unfollowed := true, recurses := true, apart := false }
def FnExactClosedUnderSumsSaid : Prop := fnExactClosedUnderSumsRow.holds Try.pinned (OpenSpec.ofChange fnExactClosedUnderSumsSpec)

/-- ITS FALSE NEIGHBOUR: 'it returns false'. Refute it at one input. -/
def fnExactClosedUnderSumsWrong : ChangeSpec := { name := "fnExactClosedUnderSums", fn := fun _ => fun
  | [d1, d2] => { results := [.lit (.bool false)], args := [d1, d2] }
  | _ => none }
def FnExactClosedUnderSumsWrongFalsely : Prop := fnExactClosedUnderSumsRow.holds Try.pinned (OpenSpec.ofChange fnExactClosedUnderSumsWrong)

/-- 'laws.FnExactClosedUnderProducts': WHATEVER THE INPUT: true; the input reads as it did. -/
def fnExactClosedUnderProductsSpec : ChangeSpec := { name := "fnExactClosedUnderProducts", fn := fun _ => fun
  | [d1, d2] => { results := [.lit (.bool true)], args := [d1, d2] }
  | _ => none }
def fnExactClosedUnderProductsRow : OpenClaim := { program := "ythhjhfkcgokffaa", sum := "b71ab83a72042249b817ee1223c37f757bab5c8def0cb042eab22d5a16005f83", func := "loop.example/g01307/laws.FnExactClosedUnderProducts", spec := "fnExactClosedUnderProducts", unfollowed := true, recurses := true, apart := false }
def FnExactClosedUnderProductsSaid : Prop := fnExactClosedUnderProductsRow.holds Try.pinned (OpenSpec.ofChange fnExactClosedUnderProductsSpec)

/-- ITS FALSE NEIGHBOUR: 'it returns false'. Refute it at one input. -/
def fnExactClosedUnderProductsWrong : ChangeSpec := { name := "fnExactClosedUnderProducts", fn := fun _ => fun
  | [d1, d2] => { results := [.lit (.bool false)], args := [d1, d2] }
  | _ => none }
def FnExactClosedUnderProductsWrongFalsely : Prop := fnExactClosedUnderProductsRow.holds Try.pinned (OpenSpec.ofChange fnExactClosedUnderProductsWrong)

/-- 'laws.FnExactLeastApartOf': WHATEVER THE INPUT: true; the input reads as it did. -/
def fnExactLeastApartOfSpec : ChangeSpec := { name := "fnExactLeastApartOf", fn := fun _ => fun
  | [d1, d2] => { results := [.lit (.bool true)], args := [d1, d2] }
  | _ => none }
def fnExactLeastApartOfRow : OpenClaim := { program := "ythhjhfkcgokffaa", sum := "b71ab83a72042249b817ee1223c37f757bab5c8def0cb042eab22d5a16005f83", func := "loop.example/g01307/laws.FnExactLeastApartOf", spec := "fnExactLeastApartOf", unfollowed := true, recurses := true, apart := false }
def FnExactLeastApartOfSaid : Prop := fnExactLeastApartOfRow.holds Try.pinned (OpenSpec.ofChange fnExactLeastApartOfSpec)

/-- ITS FALSE NEIGHBOUR: 'it returns false'. Refute it at one input. -/
def fnExactLeastApartOfWrong : ChangeSpec := { name := "fnExactLeastApartOf", fn := fun _ => fun
  | [d1, d2] => { results := [.lit (.bool false)], args := [d1, d2] }
  | _ => none }
def FnExactLeastApartOfWrongFalsely : Prop := fnExactLeastApartOfRow.holds Try.pinned (OpenSpec.ofChange fnExactLeastApartOfWrong)

/-- 'laws.FnExactNearestOf': WHATEVER THE INPUT: true; the input reads as it did. -/
def fnExactNearestOfSpec : ChangeSpec := { name := "fnExactNearestOf", fn := fun _ => fun
  | [d1, d2, d3] => { results := [.lit (.bool true)], args := [d1, d2, d3] }
  | _ => none }
def fnExactNearestOfRow : OpenClaim := { program := "ythhjhfkcgokffaa", sum := "b71ab83a72042249b817ee1223c37f757bab5c8def0cb042eab22d5a16005f83", func := "loop.example/g01307/laws.FnExactNearestOf", spec := "fnExactNearestOf", unfollowed := true, recurses := true, apart := false }
def FnExactNearestOfSaid : Prop := fnExactNearestOfRow.holds Try.pinned (OpenSpec.ofChange fnExactNearestOfSpec)

/-- ITS FALSE NEIGHBOUR: 'it returns false'. Refute it at one input. -/
def fnExactNearestOfWrong : ChangeSpec := { name := "fnExactNearestOf", fn := fun _ => fun
  | [d1, d2, d3] => { results := [.lit (.bool false)], args := [d1, d2, d3] }
  | _ => none }
def FnExactNearestOfWrongFalsely : Prop := fnExactNearestOfRow.holds Try.pinned (OpenSpec.ofChange fnExactNearestOfWrong)

/-- 'laws.FnExactRepairWith': WHATEVER THE INPUT: true; the input reads as it did. -/
def fnExactRepairWithSpec : ChangeSpec := { name := "fnExactRepairWith", fn := fun _ => fun
  | [d1, d2, d3, d4] => { results := [.lit (.bool true)], args := [d1, d2, d3, d4] }
  | _ => none }
def fnExactRepairWithRow : OpenClaim := { program := "ythhjhfkcgokffaa", sum := "b71ab83a72042249b817ee1223c37f757bab5c8def0cb042eab22d5a16005f83", func := "loop.example/g01307/laws.FnExactRepairWith", spec := "fnExactRepairWith", unfollowed := true, recurses := true, apart := false }
def FnExactRepairWithSaid : Prop := fnExactRepairWithRow.holds Try.pinned (OpenSpec.ofChange fnExactRepairWithSpec)

/-- ITS FALSE NEIGHBOUR: 'it returns false'. Refute it at one input. -/
def fnExactRepairWithWrong : ChangeSpec := { name := "fnExactRepairWith", fn := fun _ => fun
  | [d1, d2, d3, d4] => { results := [.lit (.bool false)], args := [d1, d2, d3, d4] }
  | _ => none }
def FnExactRepairWithWrongFalsely : Prop := fnExactRepairWithRow.holds Try.pinned (OpenSpec.ofChange fnExactRepairWithWrong)

/-- 'laws.FnExactWeightsIn': WHATEVER THE INPUT: true; the input reads as it did. -/
def fnExactWeightsInSpec : ChangeSpec := { name := "fnExactWeightsIn", fn := fun _ => fun
  | [d1, d2] => { results := [.lit (.bool true)], args := [d1, d2] }
  | _ => none }
def fnExactWeightsInRow : OpenClaim := { program := "ythhjhfkcgokffaa", sum := "b71ab83a72042249b817ee1223c37f757bab5c8def0cb042eab22d5a16005f83", func := "loop.example/g01307/laws.FnExactWeightsIn", spec := "fnExactWeightsIn", unfollowed := true, recurses := true, apart := false }
def FnExactWeightsInSaid : Prop := fnExactWeightsInRow.holds Try.pinned (OpenSpec.ofChange fnExactWeightsInSpec)

/-- ITS FALSE NEIGHBOUR: 'it returns false'. Refute it at one input. -/
def fnExactWeightsInWrong : ChangeSpec := { name := "fnExactWeightsIn", fn := fun _ => fun
  | [d1, d2] => { results := [.lit (.bool false)], args := [d1, d2] }
  | _ => none }
def FnExactWeightsInWrongFalsely : Prop := fnExactWeightsInRow.holds Try.pinned (OpenSpec.ofChange fnExactWeightsInWrong)

/-- 'laws.FnExactCheckSum': WHATEVER THE INPUT: true; the input reads as it did. -/
def fnExactCheckSumSpec : ChangeSpec := { name := "fnExactCheckSum", fn := fun _ => fun
  | [d] => { results := [.lit (.bool true)], args := [d] }
  | _ => none }
def fnExactCheckSumRow : OpenClaim := { program := "ythhjhfkcgokffaa", sum := "b71ab83a72042249b817ee1223c37f757bab5c8def0cb042eab22d5a16005f83", func := "loop.example/g01307/laws.FnExactCheckSum", spec := "fnExactCheckSum", unfollowed := true, recurses := true, apart := false }
def FnExactCheckSumSaid : Prop := fnExactCheckSumRow.holds Try.pinned (OpenSpec.ofChange fnExactCheckSumSpec)

/-- ITS FALSE NEIGHBOUR: 'it returns false'. Refute it at one input. -/
def fnExactCheckSumWrong : ChangeSpec := { name := "fnExactCheckSum", fn := fun _ => fun
  | [d] => { results := [.lit (.bool false)], args := [d] }
  | _ => none }
def FnExactCheckSumWrongFalsely : Prop := fnExactCheckSumRow.holds Try.pinned (OpenSpec.ofChange fnExactCheckSumWrong)

/-- 'laws.FnExactWithCheckSums': WHATEVER THE INPUT: true; the input reads as it did. -/
def fnExactWithCheckSumsSpec : ChangeSpec := { name := "fnExactWithCheckSums", fn := fun _ => fun
  | [d1, d2] => { results := [.lit (.bool true)], args := [d1, d2] }
  | _ => none }
def fnExactWithCheckSumsRow : OpenClaim := { program := "ythhjhfkcgokffaa", sum := "b71ab83a72042249b817ee1223c37f757bab5c8def0cb042eab22d5a16005f83", func := "loop.example/g01307/laws.FnExactWithCheckSums", spec := "fnExactWithCheckSums", unfollowed := true, recurses := true, apart := false }
def FnExactWithCheckSumsSaid : Prop := fnExactWithCheckSumsRow.holds Try.pinned (OpenSpec.ofChange fnExactWithCheckSumsSpec)

/-- ITS FALSE NEIGHBOUR: 'it returns false'. Refute it at one input. -/
def fnExactWithCheckSumsWrong : ChangeSpec := { name := "fnExactWithCheckSums", fn := fun _ => fun
  | [d1, d2] => { results := [.lit (.bool false)], args := [d1, d2] }
  | _ => none }
def FnExactWithCheckSumsWrongFalsely : Prop := fnExactWithCheckSumsRow.holds Try.pinned (OpenSpec.ofChange fnExactWithCheckSumsWrong)

/-- 'laws.FnExactRepairBySums': WHATEVER THE INPUT: true; the input reads as it did. -/
def fnExactRepairBySumsSpec : ChangeSpec := { name := "fnExactRepairBySums", fn := fun _ => fun
  | [d1, d2] => { results := [.lit (.bool true)], args := [d1, d2] }
  | _ => none }
def fnExactRepairBySumsRow : OpenClaim := { program := "ythhjhfkcgokffaa", sum := "b71ab83a72042249b817ee1223c37f757bab5c8def0cb042eab22d5a16005f83", func := "loop.example/g01307/laws.FnExactRepairBySums", spec := "fnExactRepairBySums", unfollowed := true, recurses := true, apart := false }
def FnExactRepairBySumsSaid : Prop := fnExactRepairBySumsRow.holds Try.pinned (OpenSpec.ofChange fnExactRepairBySumsSpec)

/-- ITS FALSE NEIGHBOUR: 'it returns false'. Refute it at one input. -/
def fnExactRepairBySumsWrong : ChangeSpec := { name := "fnExactRepairBySums", fn := fun _ => fun
  | [d1, d2] => { results := [.lit (.bool false)], args := [d1, d2] }
  | _ => none }
def FnExactRepairBySumsWrongFalsely : Prop := fnExactRepairBySumsRow.holds Try.pinned (OpenSpec.ofChange fnExactRepairBySumsWrong)

/- THE SECOND FORM. 'bulk': how many values and letters a reading holds, each counted each time it is reached (what is shared counts as often as it is met; a slice's spare places count too). A statement '..UptoSaid' is the law's where the arguments, and the package variables that the reading takes, are together of bulk at most 1048576: NARROWER than '..Said'. Prove '..Said' where nothing that the law and all that it calls make is longer than what came in: it says more and counts as full. Else prove '..UptoSaid'. A law counts once. -/
mutual
def uptoBulk {H : Type} : DataW H → Nat
  | .lit (.string bytes) => bytes.length + 1
  | .lit _ => 1
  | .nil => 1
  | .ptr d => uptoBulk d + 1
  | .slice elems spare => uptoBulkAll elems + uptoBulkAll spare + 1
  | .agg parts => uptoBulkAll parts + 1
  | .iface _ d => uptoBulk d + 1
  | .map entries => uptoBulkEntries entries + 1
  | .held _ => 1
def uptoBulkAll {H : Type} : List (DataW H) → Nat
  | [] => 0
  | d :: r => uptoBulk d + uptoBulkAll r
def uptoBulkEntries {H : Type} : List (Lit × DataW H) → Nat
  | [] => 0
  | x :: r => uptoBulkEntry x + uptoBulkEntries r
def uptoBulkEntry {H : Type} : Lit × DataW H → Nat
  | (.string bytes, d) => bytes.length + uptoBulk d + 1
  | (_, d) => uptoBulk d + 1
 end
def uptoSmall : (H : Type) → List (DataW H) → Bool := fun _ ds => decide (uptoBulkAll ds ≤ 1048576)
def OpenSpec.upto (s : _root_.Go.ChangeSpec) : _root_.Go.OpenSpec := { _root_.Go.OpenSpec.ofChange s with cond := some uptoSmall }

/-- 'laws.FnExactValidWord', WHERE WHAT IT READS IS OF BULK AT MOST 1048576: true; the input reads as it did. -/
def fnExactValidWordUptoRow : OpenClaim := { program := "ythhjhfkcgokffaa", sum := "b71ab83a72042249b817ee1223c37f757bab5c8def0cb042eab22d5a16005f83", func := "loop.example/g01307/laws.FnExactValidWord", spec := "fnExactValidWord", unfollowed := true, recurses := true, apart := false, narrowed := true }
def FnExactValidWordUptoSaid : Prop := fnExactValidWordUptoRow.holds Try.pinned (OpenSpec.upto fnExactValidWordSpec)

/-- 'laws.FnExactSameWord', WHERE WHAT IT READS IS OF BULK AT MOST 1048576: true; the input reads as it did. -/
def fnExactSameWordUptoRow : OpenClaim := { program := "ythhjhfkcgokffaa", sum := "b71ab83a72042249b817ee1223c37f757bab5c8def0cb042eab22d5a16005f83", func := "loop.example/g01307/laws.FnExactSameWord", spec := "fnExactSameWord", apart := false, narrowed := true }
def FnExactSameWordUptoSaid : Prop := fnExactSameWordUptoRow.holds Try.pinned (OpenSpec.upto fnExactSameWordSpec)

/-- 'laws.FnExactWeightOf', WHERE WHAT IT READS IS OF BULK AT MOST 1048576: true; the input reads as it did. -/
def fnExactWeightOfUptoRow : OpenClaim := { program := "ythhjhfkcgokffaa", sum := "b71ab83a72042249b817ee1223c37f757bab5c8def0cb042eab22d5a16005f83", func := "loop.example/g01307/laws.FnExactWeightOf", spec := "fnExactWeightOf", apart := false, narrowed := true }
def FnExactWeightOfUptoSaid : Prop := fnExactWeightOfUptoRow.holds Try.pinned (OpenSpec.upto fnExactWeightOfSpec)

/-- 'laws.FnExactApartOf', WHERE WHAT IT READS IS OF BULK AT MOST 1048576: true; the input reads as it did. -/
def fnExactApartOfUptoRow : OpenClaim := { program := "ythhjhfkcgokffaa", sum := "b71ab83a72042249b817ee1223c37f757bab5c8def0cb042eab22d5a16005f83", func := "loop.example/g01307/laws.FnExactApartOf", spec := "fnExactApartOf", unfollowed := true, recurses := true, apart := false, narrowed := true }
def FnExactApartOfUptoSaid : Prop := fnExactApartOfUptoRow.holds Try.pinned (OpenSpec.upto fnExactApartOfSpec)

/-- 'laws.FnExactPlusWord', WHERE WHAT IT READS IS OF BULK AT MOST 1048576: true; the input reads as it did. -/
def fnExactPlusWordUptoRow : OpenClaim := { program := "ythhjhfkcgokffaa", sum := "b71ab83a72042249b817ee1223c37f757bab5c8def0cb042eab22d5a16005f83", func := "loop.example/g01307/laws.FnExactPlusWord", spec := "fnExactPlusWord", unfollowed := true, recurses := true, apart := false, narrowed := true }
def FnExactPlusWordUptoSaid : Prop := fnExactPlusWordUptoRow.holds Try.pinned (OpenSpec.upto fnExactPlusWordSpec)

/-- 'laws.FnExactScaleWord', WHERE WHAT IT READS IS OF BULK AT MOST 1048576: true; the input reads as it did. -/
def fnExactScaleWordUptoRow : OpenClaim := { program := "ythhjhfkcgokffaa", sum := "b71ab83a72042249b817ee1223c37f757bab5c8def0cb042eab22d5a16005f83", func := "loop.example/g01307/laws.FnExactScaleWord", spec := "fnExactScaleWord", unfollowed := true, recurses := true, apart := false, narrowed := true }
def FnExactScaleWordUptoSaid : Prop := fnExactScaleWordUptoRow.holds Try.pinned (OpenSpec.upto fnExactScaleWordSpec)

/-- 'laws.FnExactPlaceOfWord', WHERE WHAT IT READS IS OF BULK AT MOST 1048576: true; the input reads as it did. -/
def fnExactPlaceOfWordUptoRow : OpenClaim := { program := "ythhjhfkcgokffaa", sum := "b71ab83a72042249b817ee1223c37f757bab5c8def0cb042eab22d5a16005f83", func := "loop.example/g01307/laws.FnExactPlaceOfWord", spec := "fnExactPlaceOfWord", unfollowed := true, recurses := true, apart := false, narrowed := true }
def FnExactPlaceOfWordUptoSaid : Prop := fnExactPlaceOfWordUptoRow.holds Try.pinned (OpenSpec.upto fnExactPlaceOfWordSpec)

/-- 'laws.FnExactWordAtPlace', WHERE WHAT IT READS IS OF BULK AT MOST 1048576: true; the input reads as it did. -/
def fnExactWordAtPlaceUptoRow : OpenClaim := { program := "ythhjhfkcgokffaa", sum := "b71ab83a72042249b817ee1223c37f757bab5c8def0cb042eab22d5a16005f83", func := "loop.example/g01307/laws.FnExactWordAtPlace", spec := "fnExactWordAtPlace", unfollowed := true, recurses := true, apart := false, narrowed := true }
def FnExactWordAtPlaceUptoSaid : Prop := fnExactWordAtPlaceUptoRow.holds Try.pinned (OpenSpec.upto fnExactWordAtPlaceSpec)

/-- 'laws.FnExactGreedyCode', WHERE WHAT IT READS IS OF BULK AT MOST 1048576: true; the input reads as it did. -/
def fnExactGreedyCodeUptoRow : OpenClaim := { program := "ythhjhfkcgokffaa", sum := "b71ab83a72042249b817ee1223c37f757bab5c8def0cb042eab22d5a16005f83", func := "loop.example/g01307/laws.FnExactGreedyCode", spec := "fnExactGreedyCode", unfollowed := true, recurses := true, apart := false, narrowed := true }
def FnExactGreedyCodeUptoSaid : Prop := fnExactGreedyCodeUptoRow.holds Try.pinned (OpenSpec.upto fnExactGreedyCodeSpec)

/-- 'laws.FnExactGreedyBasis', WHERE WHAT IT READS IS OF BULK AT MOST 1048576: true; the input reads as it did. -/
def fnExactGreedyBasisUptoRow : OpenClaim := { program := "ythhjhfkcgokffaa", sum := "b71ab83a72042249b817ee1223c37f757bab5c8def0cb042eab22d5a16005f83", func := "loop.example/g01307/laws.FnExactGreedyBasis", spec := "fnExactGreedyBasis", unfollowed := true, recurses := true, apart := false, narrowed := true }
def FnExactGreedyBasisUptoSaid : Prop := fnExactGreedyBasisUptoRow.holds Try.pinned (OpenSpec.upto fnExactGreedyBasisSpec)

/-- 'laws.FnExactSpannedBy', WHERE WHAT IT READS IS OF BULK AT MOST 1048576: true; the input reads as it did. -/
def fnExactSpannedByUptoRow : OpenClaim := { program := "ythhjhfkcgokffaa", sum := "b71ab83a72042249b817ee1223c37f757bab5c8def0cb042eab22d5a16005f83", func := "loop.example/g01307/laws.FnExactSpannedBy", spec := "fnExactSpannedBy", unfollowed := true, recurses := true, apart := false, narrowed := true }
def FnExactSpannedByUptoSaid : Prop := fnExactSpannedByUptoRow.holds Try.pinned (OpenSpec.upto fnExactSpannedBySpec)

/-- 'laws.FnExactClosedUnderSums', WHERE WHAT IT READS IS OF BULK AT MOST 1048576: true; the input reads as it did. -/
def fnExactClosedUnderSumsUptoRow : OpenClaim := { program := "ythhjhfkcgokffaa", sum := "b71ab83a72042249b817ee1223c37f757bab5c8def0cb042eab22d5a16005f83", func := "loop.example/g01307/laws.FnExactClosedUnderSums", spec := "fnExactClosedUnderSums", unfollowed := true, recurses := true, apart := false, narrowed := true }
def FnExactClosedUnderSumsUptoSaid : Prop := fnExactClosedUnderSumsUptoRow.holds Try.pinned (OpenSpec.upto fnExactClosedUnderSumsSpec)

/-- 'laws.FnExactClosedUnderProducts', WHERE WHAT IT READS IS OF BULK AT MOST 1048576: true; the input reads as it did. -/
def fnExactClosedUnderProductsUptoRow : OpenClaim := { program := "ythhjhfkcgokffaa", sum := "b71ab83a72042249b817ee1223c37f757bab5c8def0cb042eab22d5a16005f83", func := "loop.example/g01307/laws.FnExactClosedUnderProducts", spec := "fnExactClosedUnderProducts", unfollowed := true, recurses := true, apart := false, narrowed := true }
def FnExactClosedUnderProductsUptoSaid : Prop := fnExactClosedUnderProductsUptoRow.holds Try.pinned (OpenSpec.upto fnExactClosedUnderProductsSpec)

/-- 'laws.FnExactLeastApartOf', WHERE WHAT IT READS IS OF BULK AT MOST 1048576: true; the input reads as it did. -/
def fnExactLeastApartOfUptoRow : OpenClaim := { program := "ythhjhfkcgokffaa", sum := "b71ab83a72042249b817ee1223c37f757bab5c8def0cb042eab22d5a16005f83", func := "loop.example/g01307/laws.FnExactLeastApartOf", spec := "fnExactLeastApartOf", unfollowed := true, recurses := true, apart := false, narrowed := true }
def FnExactLeastApartOfUptoSaid : Prop := fnExactLeastApartOfUptoRow.holds Try.pinned (OpenSpec.upto fnExactLeastApartOfSpec)

/-- 'laws.FnExactNearestOf', WHERE WHAT IT READS IS OF BULK AT MOST 1048576: true; the input reads as it did. -/
def fnExactNearestOfUptoRow : OpenClaim := { program := "ythhjhfkcgokffaa", sum := "b71ab83a72042249b817ee1223c37f757bab5c8def0cb042eab22d5a16005f83", func := "loop.example/g01307/laws.FnExactNearestOf", spec := "fnExactNearestOf", unfollowed := true, recurses := true, apart := false, narrowed := true }
def FnExactNearestOfUptoSaid : Prop := fnExactNearestOfUptoRow.holds Try.pinned (OpenSpec.upto fnExactNearestOfSpec)

/-- 'laws.FnExactRepairWith', WHERE WHAT IT READS IS OF BULK AT MOST 1048576: true; the input reads as it did. -/
def fnExactRepairWithUptoRow : OpenClaim := { program := "ythhjhfkcgokffaa", sum := "b71ab83a72042249b817ee1223c37f757bab5c8def0cb042eab22d5a16005f83", func := "loop.example/g01307/laws.FnExactRepairWith", spec := "fnExactRepairWith", unfollowed := true, recurses := true, apart := false, narrowed := true }
def FnExactRepairWithUptoSaid : Prop := fnExactRepairWithUptoRow.holds Try.pinned (OpenSpec.upto fnExactRepairWithSpec)

/-- 'laws.FnExactWeightsIn', WHERE WHAT IT READS IS OF BULK AT MOST 1048576: true; the input reads as it did. -/
def fnExactWeightsInUptoRow : OpenClaim := { program := "ythhjhfkcgokffaa", sum := "b71ab83a72042249b817ee1223c37f757bab5c8def0cb042eab22d5a16005f83", func := "loop.example/g01307/laws.FnExactWeightsIn", spec := "fnExactWeightsIn", unfollowed := true, recurses := true, apart := false, narrowed := true }
def FnExactWeightsInUptoSaid : Prop := fnExactWeightsInUptoRow.holds Try.pinned (OpenSpec.upto fnExactWeightsInSpec)

/-- 'laws.FnExactCheckSum', WHERE WHAT IT READS IS OF BULK AT MOST 1048576: true; the input reads as it did. -/
def fnExactCheckSumUptoRow : OpenClaim := { program := "ythhjhfkcgokffaa", sum := "b71ab83a72042249b817ee1223c37f757bab5c8def0cb042eab22d5a16005f83", func := "loop.example/g01307/laws.FnExactCheckSum", spec := "fnExactCheckSum", unfollowed := true, recurses := true, apart := false, narrowed := true }
def FnExactCheckSumUptoSaid : Prop := fnExactCheckSumUptoRow.holds Try.pinned (OpenSpec.upto fnExactCheckSumSpec)

/-- 'laws.FnExactWithCheckSums', WHERE WHAT IT READS IS OF BULK AT MOST 1048576: true; the input reads as it did. -/
def fnExactWithCheckSumsUptoRow : OpenClaim := { program := "ythhjhfkcgokffaa", sum := "b71ab83a72042249b817ee1223c37f757bab5c8def0cb042eab22d5a16005f83", func := "loop.example/g01307/laws.FnExactWithCheckSums", spec := "fnExactWithCheckSums", unfollowed := true, recurses := true, apart := false, narrowed := true }
def FnExactWithCheckSumsUptoSaid : Prop := fnExactWithCheckSumsUptoRow.holds Try.pinned (OpenSpec.upto fnExactWithCheckSumsSpec)

/-- 'laws.FnExactRepairBySums', WHERE WHAT IT READS IS OF BULK AT MOST 1048576: true; the input reads as it did. -/
def fnExactRepairBySumsUptoRow : OpenClaim := { program := "ythhjhfkcgokffaa", sum := "b71ab83a72042249b817ee1223c37f757bab5c8def0cb042eab22d5a16005f83", func := "loop.example/g01307/laws.FnExactRepairBySums", spec := "fnExactRepairBySums", unfollowed := true, recurses := true, apart := false, narrowed := true }
def FnExactRepairBySumsUptoSaid : Prop := fnExactRepairBySumsUptoRow.holds Try.pinned (OpenSpec.upto fnExactRepairBySumsSpec)

end Rows
end Go.Proofs.Ythhjhfkcgokffaa
