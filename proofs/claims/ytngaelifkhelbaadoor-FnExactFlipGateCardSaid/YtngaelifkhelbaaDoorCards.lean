/-
  DERIVED. GIVEN WITH THE SEED: THE CARDS: each row of YtngaelifkhelbaaDoorRows.lean that lists a variable, with what it lists TIED to the program's text (the seventh form; the later family's looks); each row that meets fmt, with fmt's text TOLD by the authors' own Lean function (tested against real Go, not proved from fmt's source: count such statements apart). THE CARD IS WHAT COUNTS. Prove the row's statement (the work); the ties are given (YtngaelifkhelbaaDoorTie.lean); close each card by the builder's one call (the guide's Derived/Test/ToyasCard.lean, 'card_holds'). Laid BY PROGRAM, IN A SANDBOX (cutbox-door.mjs). By AI agents, Wed Nov 11 2026. No macro, syntax, notation, axiom, sorry.
-/
import Derived.Test.YtngaelifkhelbaaDoorRows
import GoSem.ClaimSeven
namespace Go.Proofs.YtngaelifkhelbaaDoor
namespace Rows

/-- THE TIED CARD OF 'laws.FnExactRunCircuit'. -/
def fnExactRunCircuitCard : Claim7 := { stood := { row := fnExactRunCircuitRow, standIns := [], harness := (true, "c6fc56939207693e2f9fa1330dc8b7113433b2fbc50fc7af69271ea081f816ea"), looks := true }, kinds := [], alts := [], laidByText := true, laidKinds := [.handle], laidTests := true, laidLooks := .later }
def FnExactRunCircuitCardSaid : Prop := Claim7.holds Tryd.pinned (.plain (OpenSpec.ofChange fnExactRunCircuitSpec)) fnExactRunCircuitCard

/-- THE TIED CARD OF 'laws.FnExactGateValues'. -/
def fnExactGateValuesCard : Claim7 := { stood := { row := fnExactGateValuesRow, standIns := [], harness := (true, "c6fc56939207693e2f9fa1330dc8b7113433b2fbc50fc7af69271ea081f816ea"), looks := true }, kinds := [], alts := [], laidByText := true, laidKinds := [.handle], laidTests := true, laidLooks := .later }
def FnExactGateValuesCardSaid : Prop := Claim7.holds Tryd.pinned (.plain (OpenSpec.ofChange fnExactGateValuesSpec)) fnExactGateValuesCard

/-- THE TIED CARD OF 'laws.FnExactCountGates'. -/
def fnExactCountGatesCard : Claim7 := { stood := { row := fnExactCountGatesRow, standIns := [], harness := (true, "c6fc56939207693e2f9fa1330dc8b7113433b2fbc50fc7af69271ea081f816ea"), looks := true }, kinds := [], alts := [], laidByText := true, laidKinds := [.handle], laidTests := true, laidLooks := .later }
def FnExactCountGatesCardSaid : Prop := Claim7.holds Tryd.pinned (.plain (OpenSpec.ofChange fnExactCountGatesSpec)) fnExactCountGatesCard

/-- THE TIED CARD OF 'laws.FnExactDepthOf'. -/
def fnExactDepthOfCard : Claim7 := { stood := { row := fnExactDepthOfRow, standIns := [], harness := (true, "c6fc56939207693e2f9fa1330dc8b7113433b2fbc50fc7af69271ea081f816ea"), looks := true }, kinds := [], alts := [], laidByText := true, laidKinds := [.handle], laidTests := true, laidLooks := .later }
def FnExactDepthOfCardSaid : Prop := Claim7.holds Tryd.pinned (.plain (OpenSpec.ofChange fnExactDepthOfSpec)) fnExactDepthOfCard

/-- THE TIED CARD OF 'laws.FnExactNeededGates'. -/
def fnExactNeededGatesCard : Claim7 := { stood := { row := fnExactNeededGatesRow, standIns := [], harness := (true, "c6fc56939207693e2f9fa1330dc8b7113433b2fbc50fc7af69271ea081f816ea"), looks := true }, kinds := [], alts := [], laidByText := true, laidKinds := [.handle], laidTests := true, laidLooks := .later }
def FnExactNeededGatesCardSaid : Prop := Claim7.holds Tryd.pinned (.plain (OpenSpec.ofChange fnExactNeededGatesSpec)) fnExactNeededGatesCard

/-- THE TIED CARD OF 'laws.FnExactFlipGate'. -/
def fnExactFlipGateCard : Claim7 := { stood := { row := fnExactFlipGateRow, standIns := [], harness := (true, "c6fc56939207693e2f9fa1330dc8b7113433b2fbc50fc7af69271ea081f816ea"), looks := true }, kinds := [], alts := [], laidByText := true, laidKinds := [.handle], laidTests := true, laidLooks := .later }
def FnExactFlipGateCardSaid : Prop := Claim7.holds Tryd.pinned (.plain (OpenSpec.ofChange fnExactFlipGateSpec)) fnExactFlipGateCard

/-- THE TIED CARD OF 'laws.FnExactAlikeCircuits'. -/
def fnExactAlikeCircuitsCard : Claim7 := { stood := { row := fnExactAlikeCircuitsRow, standIns := [], harness := (true, "c6fc56939207693e2f9fa1330dc8b7113433b2fbc50fc7af69271ea081f816ea"), looks := true }, kinds := [], alts := [], laidByText := true, laidKinds := [.handle], laidTests := true, laidLooks := .later }
def FnExactAlikeCircuitsCardSaid : Prop := Claim7.holds Tryd.pinned (.plain (OpenSpec.ofChange fnExactAlikeCircuitsSpec)) fnExactAlikeCircuitsCard

/-- THE TIED CARD OF 'laws.FnExactTrimCircuit'. -/
def fnExactTrimCircuitCard : Claim7 := { stood := { row := fnExactTrimCircuitRow, standIns := [], harness := (true, "c6fc56939207693e2f9fa1330dc8b7113433b2fbc50fc7af69271ea081f816ea"), looks := true }, kinds := [], alts := [], laidByText := true, laidKinds := [.handle], laidTests := true, laidLooks := .later }
def FnExactTrimCircuitCardSaid : Prop := Claim7.holds Tryd.pinned (.plain (OpenSpec.ofChange fnExactTrimCircuitSpec)) fnExactTrimCircuitCard

/-- THE TIED CARD OF 'laws.FnExactPlusCircuit'. -/
def fnExactPlusCircuitCard : Claim7 := { stood := { row := fnExactPlusCircuitRow, standIns := [], harness := (true, "c6fc56939207693e2f9fa1330dc8b7113433b2fbc50fc7af69271ea081f816ea"), looks := true }, kinds := [], alts := [], laidByText := true, laidKinds := [.handle], laidTests := true, laidLooks := .later }
def FnExactPlusCircuitCardSaid : Prop := Claim7.holds Tryd.pinned (.plain (OpenSpec.ofChange fnExactPlusCircuitSpec)) fnExactPlusCircuitCard

/-- THE TIED CARD OF 'laws.FnExactTimesCircuit'. -/
def fnExactTimesCircuitCard : Claim7 := { stood := { row := fnExactTimesCircuitRow, standIns := [], harness := (true, "c6fc56939207693e2f9fa1330dc8b7113433b2fbc50fc7af69271ea081f816ea"), looks := true }, kinds := [], alts := [], laidByText := true, laidKinds := [.handle], laidTests := true, laidLooks := .later }
def FnExactTimesCircuitCardSaid : Prop := Claim7.holds Tryd.pinned (.plain (OpenSpec.ofChange fnExactTimesCircuitSpec)) fnExactTimesCircuitCard

/-- THE TIED CARD OF 'laws.FnExactShortTimes'. -/
def fnExactShortTimesCard : Claim7 := { stood := { row := fnExactShortTimesRow, standIns := [], harness := (true, "c6fc56939207693e2f9fa1330dc8b7113433b2fbc50fc7af69271ea081f816ea"), looks := true }, kinds := [], alts := [], laidByText := true, laidKinds := [.handle], laidTests := true, laidLooks := .later }
def FnExactShortTimesCardSaid : Prop := Claim7.holds Tryd.pinned (.plain (OpenSpec.ofChange fnExactShortTimesSpec)) fnExactShortTimesCard

/-- THE TIED CARD OF 'laws.FnExactHalfTimes'. -/
def fnExactHalfTimesCard : Claim7 := { stood := { row := fnExactHalfTimesRow, standIns := [], harness := (true, "c6fc56939207693e2f9fa1330dc8b7113433b2fbc50fc7af69271ea081f816ea"), looks := true }, kinds := [], alts := [], laidByText := true, laidKinds := [.handle], laidTests := true, laidLooks := .later }
def FnExactHalfTimesCardSaid : Prop := Claim7.holds Tryd.pinned (.plain (OpenSpec.ofChange fnExactHalfTimesSpec)) fnExactHalfTimesCard

/-- THE SECOND FORM's CARD OF 'laws.FnExactRunCircuit'. -/
def fnExactRunCircuitUptoCard : Claim7 := { stood := { row := fnExactRunCircuitUptoRow, standIns := [], harness := (true, "c6fc56939207693e2f9fa1330dc8b7113433b2fbc50fc7af69271ea081f816ea"), looks := true }, kinds := [], alts := [], laidByText := true, laidKinds := [.handle], laidTests := true, laidLooks := .later }
def FnExactRunCircuitUptoCardSaid : Prop := Claim7.holds Tryd.pinned (.plain (OpenSpec.upto fnExactRunCircuitSpec)) fnExactRunCircuitUptoCard

/-- THE SECOND FORM's CARD OF 'laws.FnExactGateValues'. -/
def fnExactGateValuesUptoCard : Claim7 := { stood := { row := fnExactGateValuesUptoRow, standIns := [], harness := (true, "c6fc56939207693e2f9fa1330dc8b7113433b2fbc50fc7af69271ea081f816ea"), looks := true }, kinds := [], alts := [], laidByText := true, laidKinds := [.handle], laidTests := true, laidLooks := .later }
def FnExactGateValuesUptoCardSaid : Prop := Claim7.holds Tryd.pinned (.plain (OpenSpec.upto fnExactGateValuesSpec)) fnExactGateValuesUptoCard

/-- THE SECOND FORM's CARD OF 'laws.FnExactCountGates'. -/
def fnExactCountGatesUptoCard : Claim7 := { stood := { row := fnExactCountGatesUptoRow, standIns := [], harness := (true, "c6fc56939207693e2f9fa1330dc8b7113433b2fbc50fc7af69271ea081f816ea"), looks := true }, kinds := [], alts := [], laidByText := true, laidKinds := [.handle], laidTests := true, laidLooks := .later }
def FnExactCountGatesUptoCardSaid : Prop := Claim7.holds Tryd.pinned (.plain (OpenSpec.upto fnExactCountGatesSpec)) fnExactCountGatesUptoCard

/-- THE SECOND FORM's CARD OF 'laws.FnExactDepthOf'. -/
def fnExactDepthOfUptoCard : Claim7 := { stood := { row := fnExactDepthOfUptoRow, standIns := [], harness := (true, "c6fc56939207693e2f9fa1330dc8b7113433b2fbc50fc7af69271ea081f816ea"), looks := true }, kinds := [], alts := [], laidByText := true, laidKinds := [.handle], laidTests := true, laidLooks := .later }
def FnExactDepthOfUptoCardSaid : Prop := Claim7.holds Tryd.pinned (.plain (OpenSpec.upto fnExactDepthOfSpec)) fnExactDepthOfUptoCard

/-- THE SECOND FORM's CARD OF 'laws.FnExactNeededGates'. -/
def fnExactNeededGatesUptoCard : Claim7 := { stood := { row := fnExactNeededGatesUptoRow, standIns := [], harness := (true, "c6fc56939207693e2f9fa1330dc8b7113433b2fbc50fc7af69271ea081f816ea"), looks := true }, kinds := [], alts := [], laidByText := true, laidKinds := [.handle], laidTests := true, laidLooks := .later }
def FnExactNeededGatesUptoCardSaid : Prop := Claim7.holds Tryd.pinned (.plain (OpenSpec.upto fnExactNeededGatesSpec)) fnExactNeededGatesUptoCard

/-- THE SECOND FORM's CARD OF 'laws.FnExactFlipGate'. -/
def fnExactFlipGateUptoCard : Claim7 := { stood := { row := fnExactFlipGateUptoRow, standIns := [], harness := (true, "c6fc56939207693e2f9fa1330dc8b7113433b2fbc50fc7af69271ea081f816ea"), looks := true }, kinds := [], alts := [], laidByText := true, laidKinds := [.handle], laidTests := true, laidLooks := .later }
def FnExactFlipGateUptoCardSaid : Prop := Claim7.holds Tryd.pinned (.plain (OpenSpec.upto fnExactFlipGateSpec)) fnExactFlipGateUptoCard

/-- THE SECOND FORM's CARD OF 'laws.FnExactAlikeCircuits'. -/
def fnExactAlikeCircuitsUptoCard : Claim7 := { stood := { row := fnExactAlikeCircuitsUptoRow, standIns := [], harness := (true, "c6fc56939207693e2f9fa1330dc8b7113433b2fbc50fc7af69271ea081f816ea"), looks := true }, kinds := [], alts := [], laidByText := true, laidKinds := [.handle], laidTests := true, laidLooks := .later }
def FnExactAlikeCircuitsUptoCardSaid : Prop := Claim7.holds Tryd.pinned (.plain (OpenSpec.upto fnExactAlikeCircuitsSpec)) fnExactAlikeCircuitsUptoCard

/-- THE SECOND FORM's CARD OF 'laws.FnExactTrimCircuit'. -/
def fnExactTrimCircuitUptoCard : Claim7 := { stood := { row := fnExactTrimCircuitUptoRow, standIns := [], harness := (true, "c6fc56939207693e2f9fa1330dc8b7113433b2fbc50fc7af69271ea081f816ea"), looks := true }, kinds := [], alts := [], laidByText := true, laidKinds := [.handle], laidTests := true, laidLooks := .later }
def FnExactTrimCircuitUptoCardSaid : Prop := Claim7.holds Tryd.pinned (.plain (OpenSpec.upto fnExactTrimCircuitSpec)) fnExactTrimCircuitUptoCard

/-- THE SECOND FORM's CARD OF 'laws.FnExactPlusCircuit'. -/
def fnExactPlusCircuitUptoCard : Claim7 := { stood := { row := fnExactPlusCircuitUptoRow, standIns := [], harness := (true, "c6fc56939207693e2f9fa1330dc8b7113433b2fbc50fc7af69271ea081f816ea"), looks := true }, kinds := [], alts := [], laidByText := true, laidKinds := [.handle], laidTests := true, laidLooks := .later }
def FnExactPlusCircuitUptoCardSaid : Prop := Claim7.holds Tryd.pinned (.plain (OpenSpec.upto fnExactPlusCircuitSpec)) fnExactPlusCircuitUptoCard

/-- THE SECOND FORM's CARD OF 'laws.FnExactTimesCircuit'. -/
def fnExactTimesCircuitUptoCard : Claim7 := { stood := { row := fnExactTimesCircuitUptoRow, standIns := [], harness := (true, "c6fc56939207693e2f9fa1330dc8b7113433b2fbc50fc7af69271ea081f816ea"), looks := true }, kinds := [], alts := [], laidByText := true, laidKinds := [.handle], laidTests := true, laidLooks := .later }
def FnExactTimesCircuitUptoCardSaid : Prop := Claim7.holds Tryd.pinned (.plain (OpenSpec.upto fnExactTimesCircuitSpec)) fnExactTimesCircuitUptoCard

/-- THE SECOND FORM's CARD OF 'laws.FnExactShortTimes'. -/
def fnExactShortTimesUptoCard : Claim7 := { stood := { row := fnExactShortTimesUptoRow, standIns := [], harness := (true, "c6fc56939207693e2f9fa1330dc8b7113433b2fbc50fc7af69271ea081f816ea"), looks := true }, kinds := [], alts := [], laidByText := true, laidKinds := [.handle], laidTests := true, laidLooks := .later }
def FnExactShortTimesUptoCardSaid : Prop := Claim7.holds Tryd.pinned (.plain (OpenSpec.upto fnExactShortTimesSpec)) fnExactShortTimesUptoCard

/-- THE SECOND FORM's CARD OF 'laws.FnExactHalfTimes'. -/
def fnExactHalfTimesUptoCard : Claim7 := { stood := { row := fnExactHalfTimesUptoRow, standIns := [], harness := (true, "c6fc56939207693e2f9fa1330dc8b7113433b2fbc50fc7af69271ea081f816ea"), looks := true }, kinds := [], alts := [], laidByText := true, laidKinds := [.handle], laidTests := true, laidLooks := .later }
def FnExactHalfTimesUptoCardSaid : Prop := Claim7.holds Tryd.pinned (.plain (OpenSpec.upto fnExactHalfTimesSpec)) fnExactHalfTimesUptoCard
end Rows
end Go.Proofs.YtngaelifkhelbaaDoor
