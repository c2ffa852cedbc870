/-
  DERIVED. GIVEN WITH THE SEED: THE CARDS: each row of YtklddmmbbaaliaaDoorRows.lean that lists a variable, with what it lists TIED to the program's text (the seventh form; the later family's looks); each row that meets fmt, with fmt's text TOLD by the authors' own Lean function (tested against real Go, not proved from fmt's source: count such statements apart). THE CARD IS WHAT COUNTS. Prove the row's statement (the work); the ties are given (YtklddmmbbaaliaaDoorTie.lean); close each card by the builder's one call (the guide's Derived/Test/ToyasCard.lean, 'card_holds'). Laid BY PROGRAM, IN A SANDBOX (cutbox-door.mjs). By AI agents, Wed Nov 11 2026. No macro, syntax, notation, axiom, sorry.
-/
import Derived.Test.YtklddmmbbaaliaaDoorRows
import GoSem.ClaimSeven
namespace Go.Proofs.YtklddmmbbaaliaaDoor
namespace Rows

/-- THE TIED CARD OF 'laws.FnExactNimText'. -/
def fnExactNimTextCard : Claim7 := { stood := { row := fnExactNimTextRow, standIns := [], harness := (true, "c543b37fbccc467cc8084a48a07c1237361c59837c6c8b939cf9a745f5fff814"), looks := true }, kinds := [], alts := [], laidByText := true, laidKinds := [.data, .data, .data], laidTests := true, laidLooks := .later }
def FnExactNimTextCardSaid : Prop := Claim7.holds Tryd.pinned (.plain (OpenSpec.ofChange fnExactNimTextSpec)) fnExactNimTextCard

/-- THE TIED CARD OF 'laws.FnExactReadNim'. -/
def fnExactReadNimCard : Claim7 := { stood := { row := fnExactReadNimRow, standIns := [], harness := (true, "c543b37fbccc467cc8084a48a07c1237361c59837c6c8b939cf9a745f5fff814"), looks := true }, kinds := [], alts := [], laidByText := true, laidKinds := [.data, .data, .data, .sentinel, .sentinel], laidTests := true, laidLooks := .later }
def FnExactReadNimCardSaid : Prop := Claim7.holds Tryd.pinned (.plain (OpenSpec.ofChange fnExactReadNimSpec)) fnExactReadNimCard

/-- THE TIED CARD OF 'laws.FnExactNimsText'. -/
def fnExactNimsTextCard : Claim7 := { stood := { row := fnExactNimsTextRow, standIns := [], harness := (true, "c543b37fbccc467cc8084a48a07c1237361c59837c6c8b939cf9a745f5fff814"), looks := true }, kinds := [], alts := [], laidByText := true, laidKinds := [.data, .data, .data], laidTests := true, laidLooks := .later }
def FnExactNimsTextCardSaid : Prop := Claim7.holds Tryd.pinned (.plain (OpenSpec.ofChange fnExactNimsTextSpec)) fnExactNimsTextCard

/-- THE TIED CARD OF 'laws.FnExactReadNims'. -/
def fnExactReadNimsCard : Claim7 := { stood := { row := fnExactReadNimsRow, standIns := [], harness := (true, "c543b37fbccc467cc8084a48a07c1237361c59837c6c8b939cf9a745f5fff814"), looks := true }, kinds := [], alts := [], laidByText := true, laidKinds := [.data, .data, .data, .data, .sentinel, .sentinel, .pinned], laidTests := true, laidLooks := .later }
def FnExactReadNimsCardSaid : Prop := Claim7.holds Tryd.pinned (.plain (OpenSpec.ofChange fnExactReadNimsSpec)) fnExactReadNimsCard

/-- THE TIED CARD OF 'laws.FnField'. -/
def fnFieldCard : Claim7 := { stood := { row := fnFieldRow, standIns := [], harness := (true, "c543b37fbccc467cc8084a48a07c1237361c59837c6c8b939cf9a745f5fff814"), looks := true }, kinds := [], alts := [], laidByText := true, laidKinds := [.data, .data, .data, .sentinel, .sentinel], laidTests := true, laidLooks := .later }
def FnFieldCardSaid : Prop := Claim7.holds Tryd.pinned (.plain (OpenSpec.ofChange fnFieldSpec)) fnFieldCard

/-- THE TIED CARD OF 'laws.FnExcluded'. -/
def fnExcludedCard : Claim7 := { stood := { row := fnExcludedRow, standIns := [], harness := (true, "c543b37fbccc467cc8084a48a07c1237361c59837c6c8b939cf9a745f5fff814"), looks := true }, kinds := [], alts := [], laidByText := true, laidKinds := [.data, .data, .data, .data, .sentinel, .sentinel, .pinned], laidTests := true, laidLooks := .later }
def FnExcludedCardSaid : Prop := Claim7.holds Tryd.pinned (.plain (OpenSpec.ofChange fnExcludedSpec)) fnExcludedCard

/-- THE TIED CARD OF 'laws.FnExactMatrixText'. -/
def fnExactMatrixTextCard : Claim7 := { stood := { row := fnExactMatrixTextRow, standIns := [], harness := (true, "c543b37fbccc467cc8084a48a07c1237361c59837c6c8b939cf9a745f5fff814"), looks := true }, kinds := [], alts := [], laidByText := true, laidKinds := [.data, .data, .data], laidTests := true, laidLooks := .later }
def FnExactMatrixTextCardSaid : Prop := Claim7.holds Tryd.pinned (.plain (OpenSpec.ofChange fnExactMatrixTextSpec)) fnExactMatrixTextCard

/-- THE TIED CARD OF 'laws.FnExactReadMatrix'. -/
def fnExactReadMatrixCard : Claim7 := { stood := { row := fnExactReadMatrixRow, standIns := [], harness := (true, "c543b37fbccc467cc8084a48a07c1237361c59837c6c8b939cf9a745f5fff814"), looks := true }, kinds := [], alts := [], laidByText := true, laidKinds := [.data, .data, .data, .data, .sentinel, .sentinel, .pinned], laidTests := true, laidLooks := .later }
def FnExactReadMatrixCardSaid : Prop := Claim7.holds Tryd.pinned (.plain (OpenSpec.ofChange fnExactReadMatrixSpec)) fnExactReadMatrixCard

/-- THE TIED CARD OF 'laws.FnExactGameText'. -/
def fnExactGameTextCard : Claim7 := { stood := { row := fnExactGameTextRow, standIns := [], harness := (true, "c543b37fbccc467cc8084a48a07c1237361c59837c6c8b939cf9a745f5fff814"), looks := true }, kinds := [], alts := [], laidByText := true, laidKinds := [.data, .data, .data], laidTests := true, laidLooks := .later }
def FnExactGameTextCardSaid : Prop := Claim7.holds Tryd.pinned (.plain (OpenSpec.ofChange fnExactGameTextSpec)) fnExactGameTextCard

/-- THE TIED CARD OF 'laws.FnExactReadGame'. -/
def fnExactReadGameCard : Claim7 := { stood := { row := fnExactReadGameRow, standIns := [], harness := (true, "c543b37fbccc467cc8084a48a07c1237361c59837c6c8b939cf9a745f5fff814"), looks := true }, kinds := [], alts := [], laidByText := true, laidKinds := [.data, .data, .data, .data, .sentinel, .sentinel, .pinned], laidTests := true, laidLooks := .later }
def FnExactReadGameCardSaid : Prop := Claim7.holds Tryd.pinned (.plain (OpenSpec.ofChange fnExactReadGameSpec)) fnExactReadGameCard

/-- THE SECOND FORM's CARD OF 'laws.FnExactNimText'. -/
def fnExactNimTextUptoCard : Claim7 := { stood := { row := fnExactNimTextUptoRow, standIns := [], harness := (true, "c543b37fbccc467cc8084a48a07c1237361c59837c6c8b939cf9a745f5fff814"), looks := true }, kinds := [], alts := [], laidByText := true, laidKinds := [.data, .data, .data], laidTests := true, laidLooks := .later }
def FnExactNimTextUptoCardSaid : Prop := Claim7.holds Tryd.pinned (.plain (OpenSpec.upto fnExactNimTextSpec)) fnExactNimTextUptoCard

/-- THE SECOND FORM's CARD OF 'laws.FnExactReadNim'. -/
def fnExactReadNimUptoCard : Claim7 := { stood := { row := fnExactReadNimUptoRow, standIns := [], harness := (true, "c543b37fbccc467cc8084a48a07c1237361c59837c6c8b939cf9a745f5fff814"), looks := true }, kinds := [], alts := [], laidByText := true, laidKinds := [.data, .data, .data, .sentinel, .sentinel], laidTests := true, laidLooks := .later }
def FnExactReadNimUptoCardSaid : Prop := Claim7.holds Tryd.pinned (.plain (OpenSpec.upto fnExactReadNimSpec)) fnExactReadNimUptoCard

/-- THE SECOND FORM's CARD OF 'laws.FnExactNimsText'. -/
def fnExactNimsTextUptoCard : Claim7 := { stood := { row := fnExactNimsTextUptoRow, standIns := [], harness := (true, "c543b37fbccc467cc8084a48a07c1237361c59837c6c8b939cf9a745f5fff814"), looks := true }, kinds := [], alts := [], laidByText := true, laidKinds := [.data, .data, .data], laidTests := true, laidLooks := .later }
def FnExactNimsTextUptoCardSaid : Prop := Claim7.holds Tryd.pinned (.plain (OpenSpec.upto fnExactNimsTextSpec)) fnExactNimsTextUptoCard

/-- THE SECOND FORM's CARD OF 'laws.FnExactReadNims'. -/
def fnExactReadNimsUptoCard : Claim7 := { stood := { row := fnExactReadNimsUptoRow, standIns := [], harness := (true, "c543b37fbccc467cc8084a48a07c1237361c59837c6c8b939cf9a745f5fff814"), looks := true }, kinds := [], alts := [], laidByText := true, laidKinds := [.data, .data, .data, .data, .sentinel, .sentinel, .pinned], laidTests := true, laidLooks := .later }
def FnExactReadNimsUptoCardSaid : Prop := Claim7.holds Tryd.pinned (.plain (OpenSpec.upto fnExactReadNimsSpec)) fnExactReadNimsUptoCard

/-- THE SECOND FORM's CARD OF 'laws.FnField'. -/
def fnFieldUptoCard : Claim7 := { stood := { row := fnFieldUptoRow, standIns := [], harness := (true, "c543b37fbccc467cc8084a48a07c1237361c59837c6c8b939cf9a745f5fff814"), looks := true }, kinds := [], alts := [], laidByText := true, laidKinds := [.data, .data, .data, .sentinel, .sentinel], laidTests := true, laidLooks := .later }
def FnFieldUptoCardSaid : Prop := Claim7.holds Tryd.pinned (.plain (OpenSpec.upto fnFieldSpec)) fnFieldUptoCard

/-- THE SECOND FORM's CARD OF 'laws.FnExcluded'. -/
def fnExcludedUptoCard : Claim7 := { stood := { row := fnExcludedUptoRow, standIns := [], harness := (true, "c543b37fbccc467cc8084a48a07c1237361c59837c6c8b939cf9a745f5fff814"), looks := true }, kinds := [], alts := [], laidByText := true, laidKinds := [.data, .data, .data, .data, .sentinel, .sentinel, .pinned], laidTests := true, laidLooks := .later }
def FnExcludedUptoCardSaid : Prop := Claim7.holds Tryd.pinned (.plain (OpenSpec.upto fnExcludedSpec)) fnExcludedUptoCard

/-- THE SECOND FORM's CARD OF 'laws.FnExactMatrixText'. -/
def fnExactMatrixTextUptoCard : Claim7 := { stood := { row := fnExactMatrixTextUptoRow, standIns := [], harness := (true, "c543b37fbccc467cc8084a48a07c1237361c59837c6c8b939cf9a745f5fff814"), looks := true }, kinds := [], alts := [], laidByText := true, laidKinds := [.data, .data, .data], laidTests := true, laidLooks := .later }
def FnExactMatrixTextUptoCardSaid : Prop := Claim7.holds Tryd.pinned (.plain (OpenSpec.upto fnExactMatrixTextSpec)) fnExactMatrixTextUptoCard

/-- THE SECOND FORM's CARD OF 'laws.FnExactReadMatrix'. -/
def fnExactReadMatrixUptoCard : Claim7 := { stood := { row := fnExactReadMatrixUptoRow, standIns := [], harness := (true, "c543b37fbccc467cc8084a48a07c1237361c59837c6c8b939cf9a745f5fff814"), looks := true }, kinds := [], alts := [], laidByText := true, laidKinds := [.data, .data, .data, .data, .sentinel, .sentinel, .pinned], laidTests := true, laidLooks := .later }
def FnExactReadMatrixUptoCardSaid : Prop := Claim7.holds Tryd.pinned (.plain (OpenSpec.upto fnExactReadMatrixSpec)) fnExactReadMatrixUptoCard

/-- THE SECOND FORM's CARD OF 'laws.FnExactGameText'. -/
def fnExactGameTextUptoCard : Claim7 := { stood := { row := fnExactGameTextUptoRow, standIns := [], harness := (true, "c543b37fbccc467cc8084a48a07c1237361c59837c6c8b939cf9a745f5fff814"), looks := true }, kinds := [], alts := [], laidByText := true, laidKinds := [.data, .data, .data], laidTests := true, laidLooks := .later }
def FnExactGameTextUptoCardSaid : Prop := Claim7.holds Tryd.pinned (.plain (OpenSpec.upto fnExactGameTextSpec)) fnExactGameTextUptoCard

/-- THE SECOND FORM's CARD OF 'laws.FnExactReadGame'. -/
def fnExactReadGameUptoCard : Claim7 := { stood := { row := fnExactReadGameUptoRow, standIns := [], harness := (true, "c543b37fbccc467cc8084a48a07c1237361c59837c6c8b939cf9a745f5fff814"), looks := true }, kinds := [], alts := [], laidByText := true, laidKinds := [.data, .data, .data, .data, .sentinel, .sentinel, .pinned], laidTests := true, laidLooks := .later }
def FnExactReadGameUptoCardSaid : Prop := Claim7.holds Tryd.pinned (.plain (OpenSpec.upto fnExactReadGameSpec)) fnExactReadGameUptoCard
end Rows
end Go.Proofs.YtklddmmbbaaliaaDoor
