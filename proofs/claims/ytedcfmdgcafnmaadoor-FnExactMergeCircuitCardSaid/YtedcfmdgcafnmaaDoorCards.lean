/-
  DERIVED. GIVEN WITH THE SEED: THE CARDS: each row of YtedcfmdgcafnmaaDoorRows.lean that lists a variable, with what it lists TIED to the program's text (the seventh form; the later family's looks); each row that meets fmt, with fmt's text TOLD by the authors' own Lean function (tested against real Go, not proved from fmt's source: count such statements apart). THE CARD IS WHAT COUNTS. Prove the row's statement (the work); the ties are given (YtedcfmdgcafnmaaDoorTie.lean); close each card by the builder's one call (the guide's Derived/Test/ToyasCard.lean, 'card_holds'). Laid BY PROGRAM, IN A SANDBOX (cutbox-door.mjs). By AI agents, Wed Nov 11 2026. No macro, syntax, notation, axiom, sorry.
-/
import Derived.Test.YtedcfmdgcafnmaaDoorRows
import GoSem.ClaimSeven
namespace Go.Proofs.YtedcfmdgcafnmaaDoor
namespace Rows

/-- THE TIED CARD OF 'laws.FnExactMergeCircuit'. -/
def fnExactMergeCircuitCard : Claim7 := { stood := { row := fnExactMergeCircuitRow, standIns := [], harness := (true, "7ffc0cc08baea1ca18703eae9b7e17db7c1df789dc4f311e8ca786ca86ab6654"), looks := true }, kinds := [], alts := [], laidByText := true, laidKinds := [.handle], laidTests := true, laidLooks := .later }
def FnExactMergeCircuitCardSaid : Prop := Claim7.holds Tryd.pinned (.plain (OpenSpec.ofChange fnExactMergeCircuitSpec)) fnExactMergeCircuitCard

/-- THE TIED CARD OF 'laws.FnExactCheckCircuit'. -/
def fnExactCheckCircuitCard : Claim7 := { stood := { row := fnExactCheckCircuitRow, standIns := [], harness := (true, "7ffc0cc08baea1ca18703eae9b7e17db7c1df789dc4f311e8ca786ca86ab6654"), looks := true }, kinds := [], alts := [], laidByText := true, laidKinds := [.handle], laidTests := true, laidLooks := .later }
def FnExactCheckCircuitCardSaid : Prop := Claim7.holds Tryd.pinned (.plain (OpenSpec.ofChange fnExactCheckCircuitSpec)) fnExactCheckCircuitCard

/-- THE TIED CARD OF 'laws.FnExactFirstWrong'. -/
def fnExactFirstWrongCard : Claim7 := { stood := { row := fnExactFirstWrongRow, standIns := [], harness := (true, "7ffc0cc08baea1ca18703eae9b7e17db7c1df789dc4f311e8ca786ca86ab6654"), looks := true }, kinds := [], alts := [], laidByText := true, laidKinds := [.handle], laidTests := true, laidLooks := .later }
def FnExactFirstWrongCardSaid : Prop := Claim7.holds Tryd.pinned (.plain (OpenSpec.ofChange fnExactFirstWrongSpec)) fnExactFirstWrongCard

/-- THE TIED CARD OF 'laws.FnExactCircuitText'. -/
def fnExactCircuitTextCard : Claim7 := { stood := { row := fnExactCircuitTextRow, standIns := [], harness := (true, "7ffc0cc08baea1ca18703eae9b7e17db7c1df789dc4f311e8ca786ca86ab6654"), looks := true }, kinds := [], alts := [], laidByText := true, laidKinds := [.data, .data, .data], laidTests := true, laidLooks := .later }
def FnExactCircuitTextCardSaid : Prop := Claim7.holds Tryd.pinned (.plain (OpenSpec.ofChange fnExactCircuitTextSpec)) fnExactCircuitTextCard

/-- THE TIED CARD OF 'laws.FnExactReadCircuit'. -/
def fnExactReadCircuitCard : Claim7 := { stood := { row := fnExactReadCircuitRow, standIns := [], harness := (true, "7ffc0cc08baea1ca18703eae9b7e17db7c1df789dc4f311e8ca786ca86ab6654"), looks := true }, kinds := [], alts := [], laidByText := true, laidKinds := [.data, .data, .data, .data, .sentinel, .sentinel, .pinned], laidTests := true, laidLooks := .later }
def FnExactReadCircuitCardSaid : Prop := Claim7.holds Tryd.pinned (.plain (OpenSpec.ofChange fnExactReadCircuitSpec)) fnExactReadCircuitCard

/-- THE TIED CARD OF 'laws.FnCircuits'. -/
def fnCircuitsCard : Claim7 := { stood := { row := fnCircuitsRow, standIns := [], harness := (true, "7ffc0cc08baea1ca18703eae9b7e17db7c1df789dc4f311e8ca786ca86ab6654"), looks := true }, kinds := [], alts := [], laidByText := true, laidKinds := [.handle], laidTests := true, laidLooks := .later }
def FnCircuitsCardSaid : Prop := Claim7.holds Tryd.pinned (.plain (OpenSpec.ofChange fnCircuitsSpec)) fnCircuitsCard

/-- THE SECOND FORM's CARD OF 'laws.FnExactMergeCircuit'. -/
def fnExactMergeCircuitUptoCard : Claim7 := { stood := { row := fnExactMergeCircuitUptoRow, standIns := [], harness := (true, "7ffc0cc08baea1ca18703eae9b7e17db7c1df789dc4f311e8ca786ca86ab6654"), looks := true }, kinds := [], alts := [], laidByText := true, laidKinds := [.handle], laidTests := true, laidLooks := .later }
def FnExactMergeCircuitUptoCardSaid : Prop := Claim7.holds Tryd.pinned (.plain (OpenSpec.upto fnExactMergeCircuitSpec)) fnExactMergeCircuitUptoCard

/-- THE SECOND FORM's CARD OF 'laws.FnExactCheckCircuit'. -/
def fnExactCheckCircuitUptoCard : Claim7 := { stood := { row := fnExactCheckCircuitUptoRow, standIns := [], harness := (true, "7ffc0cc08baea1ca18703eae9b7e17db7c1df789dc4f311e8ca786ca86ab6654"), looks := true }, kinds := [], alts := [], laidByText := true, laidKinds := [.handle], laidTests := true, laidLooks := .later }
def FnExactCheckCircuitUptoCardSaid : Prop := Claim7.holds Tryd.pinned (.plain (OpenSpec.upto fnExactCheckCircuitSpec)) fnExactCheckCircuitUptoCard

/-- THE SECOND FORM's CARD OF 'laws.FnExactFirstWrong'. -/
def fnExactFirstWrongUptoCard : Claim7 := { stood := { row := fnExactFirstWrongUptoRow, standIns := [], harness := (true, "7ffc0cc08baea1ca18703eae9b7e17db7c1df789dc4f311e8ca786ca86ab6654"), looks := true }, kinds := [], alts := [], laidByText := true, laidKinds := [.handle], laidTests := true, laidLooks := .later }
def FnExactFirstWrongUptoCardSaid : Prop := Claim7.holds Tryd.pinned (.plain (OpenSpec.upto fnExactFirstWrongSpec)) fnExactFirstWrongUptoCard

/-- THE SECOND FORM's CARD OF 'laws.FnExactCircuitText'. -/
def fnExactCircuitTextUptoCard : Claim7 := { stood := { row := fnExactCircuitTextUptoRow, standIns := [], harness := (true, "7ffc0cc08baea1ca18703eae9b7e17db7c1df789dc4f311e8ca786ca86ab6654"), looks := true }, kinds := [], alts := [], laidByText := true, laidKinds := [.data, .data, .data], laidTests := true, laidLooks := .later }
def FnExactCircuitTextUptoCardSaid : Prop := Claim7.holds Tryd.pinned (.plain (OpenSpec.upto fnExactCircuitTextSpec)) fnExactCircuitTextUptoCard

/-- THE SECOND FORM's CARD OF 'laws.FnExactReadCircuit'. -/
def fnExactReadCircuitUptoCard : Claim7 := { stood := { row := fnExactReadCircuitUptoRow, standIns := [], harness := (true, "7ffc0cc08baea1ca18703eae9b7e17db7c1df789dc4f311e8ca786ca86ab6654"), looks := true }, kinds := [], alts := [], laidByText := true, laidKinds := [.data, .data, .data, .data, .sentinel, .sentinel, .pinned], laidTests := true, laidLooks := .later }
def FnExactReadCircuitUptoCardSaid : Prop := Claim7.holds Tryd.pinned (.plain (OpenSpec.upto fnExactReadCircuitSpec)) fnExactReadCircuitUptoCard

/-- THE SECOND FORM's CARD OF 'laws.FnCircuits'. -/
def fnCircuitsUptoCard : Claim7 := { stood := { row := fnCircuitsUptoRow, standIns := [], harness := (true, "7ffc0cc08baea1ca18703eae9b7e17db7c1df789dc4f311e8ca786ca86ab6654"), looks := true }, kinds := [], alts := [], laidByText := true, laidKinds := [.handle], laidTests := true, laidLooks := .later }
def FnCircuitsUptoCardSaid : Prop := Claim7.holds Tryd.pinned (.plain (OpenSpec.upto fnCircuitsSpec)) fnCircuitsUptoCard
end Rows
end Go.Proofs.YtedcfmdgcafnmaaDoor
