/-
  No cell of these rows narrows 'for every input' (looked for: loops, veiled, ifaces, maps, wideKeys, modest, calm, conditions, laid).
  DERIVED. THE GIVEN ROWS OF THIS SEAT. 5 by the template 'for every input the law returns true; each argument reads behind the call as it read before'; 0 by the template 'total and deterministic' (their statements: YtkeliojgldfkkaaTotals.lean).
  GIVEN WITH THE SEED: the statements are not yours to turn. If you find one false, say at which input.
  Laid BY PROGRAM, IN A SANDBOX (cutbox-rows.mjs): the forced cells as the released guide's own fill.sh prints them over the translation df2174b1c7f266fe… (all of the seat's roots in one cut). By AI agents, Wed Nov 11 2026. No macro, syntax, notation, axiom, sorry.
-/
import Derived.Test.YtkeliojgldfkkaaChecked
import GoSem.Claim
import GoSem.ClaimJoined
import GoSem.ClaimMapViews
import Derived.JoinedTies
import Derived.KernelRfl
namespace Go.Proofs.Ytkeliojgldfkkaa
/- THE CELL 'sum', in the pinned program and in every row, IS THE sha256 OF THE DUMP (.gsa) THAT YtkeliojgldfkkaaProg.lean LOADS. Nothing in Lean hashes anything: it is a label: what it is worth is what the hold of that sum in a sandbox is worth. -/
noncomputable def Try.pinned : Pinned := { name := "ytkeliojgldfkkaa", sum := "df2174b1c7f266fef4a0fe5dfb6816c8c788b1a6fc156d4ed68136c6bf77ecc1", checked := Try.checked }
namespace Rows
def none {H : Type} : Left H := { results := [], args := [] }

/-- 'laws.FnExactValidGame': WHATEVER THE INPUT: true; the input reads as it did. -/
def fnExactValidGameSpec : ChangeSpec := { name := "fnExactValidGame", fn := fun _ => fun
  | [d] => { results := [.lit (.bool true)], args := [d] }
  | _ => none }
def fnExactValidGameRow : OpenClaim := { program := "ytkeliojgldfkkaa", sum := "df2174b1c7f266fef4a0fe5dfb6816c8c788b1a6fc156d4ed68136c6bf77ecc1", func := "loop.example/g01307/laws.FnExactValidGame", spec := "fnExactValidGame", apart := false }
def FnExactValidGameSaid : Prop := fnExactValidGameRow.holds Try.pinned (OpenSpec.ofChange fnExactValidGameSpec)

/-- ITS FALSE NEIGHBOUR: 'it returns false'. Refute it at one input. -/
def fnExactValidGameWrong : ChangeSpec := { name := "fnExactValidGame", fn := fun _ => fun
  | [d] => { results := [.lit (.bool false)], args := [d] }
  | _ => none }
def FnExactValidGameWrongFalsely : Prop := fnExactValidGameRow.holds Try.pinned (OpenSpec.ofChange fnExactValidGameWrong)

/-- 'laws.FnExactSameGame': WHATEVER THE INPUT: true; the input reads as it did. -/
def fnExactSameGameSpec : ChangeSpec := { name := "fnExactSameGame", fn := fun _ => fun
  | [d1, d2] => { results := [.lit (.bool true)], args := [d1, d2] }
  | _ => none }
def fnExactSameGameRow : OpenClaim := { program := "ytkeliojgldfkkaa", sum := "df2174b1c7f266fef4a0fe5dfb6816c8c788b1a6fc156d4ed68136c6bf77ecc1", func := "loop.example/g01307/laws.FnExactSameGame", spec := "fnExactSameGame", unfollowed := true, recurses := true, apart := false }
def FnExactSameGameSaid : Prop := fnExactSameGameRow.holds Try.pinned (OpenSpec.ofChange fnExactSameGameSpec)

/-- ITS FALSE NEIGHBOUR: 'it returns false'. Refute it at one input. -/
def fnExactSameGameWrong : ChangeSpec := { name := "fnExactSameGame", fn := fun _ => fun
  | [d1, d2] => { results := [.lit (.bool false)], args := [d1, d2] }
  | _ => none }
def FnExactSameGameWrongFalsely : Prop := fnExactSameGameRow.holds Try.pinned (OpenSpec.ofChange fnExactSameGameWrong)

/-- 'laws.FnExactHeapGame': WHATEVER THE INPUT: true; the input reads as it did. -/
def fnExactHeapGameSpec : ChangeSpec := { name := "fnExactHeapGame", fn := fun _ => fun
  | [d] => { results := [.lit (.bool true)], args := [d] }
  | _ => none }
def fnExactHeapGameRow : OpenClaim := { program := "ytkeliojgldfkkaa", sum := "df2174b1c7f266fef4a0fe5dfb6816c8c788b1a6fc156d4ed68136c6bf77ecc1", func := "loop.example/g01307/laws.FnExactHeapGame", spec := "fnExactHeapGame", apart := false }
def FnExactHeapGameSaid : Prop := fnExactHeapGameRow.holds Try.pinned (OpenSpec.ofChange fnExactHeapGameSpec)

/-- ITS FALSE NEIGHBOUR: 'it returns false'. Refute it at one input. -/
def fnExactHeapGameWrong : ChangeSpec := { name := "fnExactHeapGame", fn := fun _ => fun
  | [d] => { results := [.lit (.bool false)], args := [d] }
  | _ => none }
def FnExactHeapGameWrongFalsely : Prop := fnExactHeapGameRow.holds Try.pinned (OpenSpec.ofChange fnExactHeapGameWrong)

/-- 'laws.FnExactAddGames': WHATEVER THE INPUT: true; the input reads as it did. -/
def fnExactAddGamesSpec : ChangeSpec := { name := "fnExactAddGames", fn := fun _ => fun
  | [d1, d2] => { results := [.lit (.bool true)], args := [d1, d2] }
  | _ => none }
def fnExactAddGamesRow : OpenClaim := { program := "ytkeliojgldfkkaa", sum := "df2174b1c7f266fef4a0fe5dfb6816c8c788b1a6fc156d4ed68136c6bf77ecc1", func := "loop.example/g01307/laws.FnExactAddGames", spec := "fnExactAddGames", unfollowed := true, recurses := true, apart := false }
def FnExactAddGamesSaid : Prop := fnExactAddGamesRow.holds Try.pinned (OpenSpec.ofChange fnExactAddGamesSpec)

/-- ITS FALSE NEIGHBOUR: 'it returns false'. Refute it at one input. -/
def fnExactAddGamesWrong : ChangeSpec := { name := "fnExactAddGames", fn := fun _ => fun
  | [d1, d2] => { results := [.lit (.bool false)], args := [d1, d2] }
  | _ => none }
def FnExactAddGamesWrongFalsely : Prop := fnExactAddGamesRow.holds Try.pinned (OpenSpec.ofChange fnExactAddGamesWrong)

/-- 'laws.FnExactRepeatsFrom': WHATEVER THE INPUT: true; the input reads as it did. -/
def fnExactRepeatsFromSpec : ChangeSpec := { name := "fnExactRepeatsFrom", fn := fun _ => fun
  | [d1, d2, d3] => { results := [.lit (.bool true)], args := [d1, d2, d3] }
  | _ => none }
def fnExactRepeatsFromRow : OpenClaim := { program := "ytkeliojgldfkkaa", sum := "df2174b1c7f266fef4a0fe5dfb6816c8c788b1a6fc156d4ed68136c6bf77ecc1", func := "loop.example/g01307/laws.FnExactRepeatsFrom", spec := "fnExactRepeatsFrom", apart := false }
def FnExactRepeatsFromSaid : Prop := fnExactRepeatsFromRow.holds Try.pinned (OpenSpec.ofChange fnExactRepeatsFromSpec)

/-- ITS FALSE NEIGHBOUR: 'it returns false'. Refute it at one input. -/
def fnExactRepeatsFromWrong : ChangeSpec := { name := "fnExactRepeatsFrom", fn := fun _ => fun
  | [d1, d2, d3] => { results := [.lit (.bool false)], args := [d1, d2, d3] }
  | _ => none }
def FnExactRepeatsFromWrongFalsely : Prop := fnExactRepeatsFromRow.holds Try.pinned (OpenSpec.ofChange fnExactRepeatsFromWrong)

/- THE SECOND FORM. 'bulk': how many values and letters a reading holds, each counted each time it is reached (what is shared counts as often as it is met; a slice's spare places count too). A statement '..UptoSaid' is the law's where the arguments, and the package variables that the reading takes, are together of bulk at most 1048576: NARROWER than '..Said'. Prove '..Said' where nothing that the law and all that it calls make is longer than what came in: it says more and counts as full. Else prove '..UptoSaid'. A law counts once. -/
mutual
def uptoBulk {H : Type} : DataW H → Nat
  | .lit (.string bytes) => bytes.length + 1
  | .lit _ => 1
  | .nil => 1
  | .ptr d => uptoBulk d + 1
  | .slice elems spare => uptoBulkAll elems + uptoBulkAll spare + 1
  | .agg parts => uptoBulkAll parts + 1
  | .iface _ d => uptoBulk d + 1
  | .map entries => uptoBulkEntries entries + 1
  | .held _ => 1
def uptoBulkAll {H : Type} : List (DataW H) → Nat
  | [] => 0
  | d :: r => uptoBulk d + uptoBulkAll r
def uptoBulkEntries {H : Type} : List (Lit × DataW H) → Nat
  | [] => 0
  | x :: r => uptoBulkEntry x + uptoBulkEntries r
def uptoBulkEntry {H : Type} : Lit × DataW H → Nat
  | (.string bytes, d) => bytes.length + uptoBulk d + 1
  | (_, d) => uptoBulk d + 1
 end
def uptoSmall : (H : Type) → List (DataW H) → Bool := fun _ ds => decide (uptoBulkAll ds ≤ 1048576)
def OpenSpec.upto (s : _root_.Go.ChangeSpec) : _root_.Go.OpenSpec := { _root_.Go.OpenSpec.ofChange s with cond := some uptoSmall }

/-- 'laws.FnExactValidGame', WHERE WHAT IT READS IS OF BULK AT MOST 1048576: true; the input reads as it did. -/
def fnExactValidGameUptoRow : OpenClaim := { program := "ytkeliojgldfkkaa", sum := "df2174b1c7f266fef4a0fe5dfb6816c8c788b1a6fc156d4ed68136c6bf77ecc1", func := "loop.example/g01307/laws.FnExactValidGame", spec := "fnExactValidGame", apart := false, narrowed := true }
def FnExactValidGameUptoSaid : Prop := fnExactValidGameUptoRow.holds Try.pinned (OpenSpec.upto fnExactValidGameSpec)

/-- 'laws.FnExactSameGame', WHERE WHAT IT READS IS OF BULK AT MOST 1048576: true; the input reads as it did. -/
def fnExactSameGameUptoRow : OpenClaim := { program := "ytkeliojgldfkkaa", sum := "df2174b1c7f266fef4a0fe5dfb6816c8c788b1a6fc156d4ed68136c6bf77ecc1", func := "loop.example/g01307/laws.FnExactSameGame", spec := "fnExactSameGame", unfollowed := true, recurses := true, apart := false, narrowed := true }
def FnExactSameGameUptoSaid : Prop := fnExactSameGameUptoRow.holds Try.pinned (OpenSpec.upto fnExactSameGameSpec)

/-- 'laws.FnExactHeapGame', WHERE WHAT IT READS IS OF BULK AT MOST 1048576: true; the input reads as it did. -/
def fnExactHeapGameUptoRow : OpenClaim := { program := "ytkeliojgldfkkaa", sum := "df2174b1c7f266fef4a0fe5dfb6816c8c788b1a6fc156d4ed68136c6bf77ecc1", func := "loop.example/g01307/laws.FnExactHeapGame", spec := "fnExactHeapGame", apart := false, narrowed := true }
def FnExactHeapGameUptoSaid : Prop := fnExactHeapGameUptoRow.holds Try.pinned (OpenSpec.upto fnExactHeapGameSpec)

/-- 'laws.FnExactAddGames', WHERE WHAT IT READS IS OF BULK AT MOST 1048576: true; the input reads as it did. -/
def fnExactAddGamesUptoRow : OpenClaim := { program := "ytkeliojgldfkkaa", sum := "df2174b1c7f266fef4a0fe5dfb6816c8c788b1a6fc156d4ed68136c6bf77ecc1", func := "loop.example/g01307/laws.FnExactAddGames", spec := "fnExactAddGames", unfollowed := true, recurses := true, apart := false, narrowed := true }
def FnExactAddGamesUptoSaid : Prop := fnExactAddGamesUptoRow.holds Try.pinned (OpenSpec.upto fnExactAddGamesSpec)

/-- 'laws.FnExactRepeatsFrom', WHERE WHAT IT READS IS OF BULK AT MOST 1048576: true; the input reads as it did. -/
def fnExactRepeatsFromUptoRow : OpenClaim := { program := "ytkeliojgldfkkaa", sum := "df2174b1c7f266fef4a0fe5dfb6816c8c788b1a6fc156d4ed68136c6bf77ecc1", func := "loop.example/g01307/laws.FnExactRepeatsFrom", spec := "fnExactRepeatsFrom", apart := false, narrowed := true }
def FnExactRepeatsFromUptoSaid : Prop := fnExactRepeatsFromUptoRow.holds Try.pinned (OpenSpec.upto fnExactRepeatsFromSpec)

end Rows
end Go.Proofs.Ytkeliojgldfkkaa
