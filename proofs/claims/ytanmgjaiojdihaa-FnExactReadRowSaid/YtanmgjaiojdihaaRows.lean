/-
  No cell of these rows narrows 'for every input' (looked for: loops, veiled, ifaces, maps, wideKeys, modest, calm, conditions, laid).
  DERIVED. THE GIVEN ROWS OF THIS SEAT. 5 by the template 'for every input the law returns true; each argument reads behind the call as it read before'; 0 by the template 'total and deterministic' (their statements: YtanmgjaiojdihaaTotals.lean).
  GIVEN WITH THE SEED: the statements are not yours to turn. If you find one false, say at which input.
  Laid BY PROGRAM, IN A SANDBOX (cutbox-rows.mjs): the forced cells as the released guide's own fill.sh prints them over the translation 873b6171c3fc9e37… (all of the seat's roots in one cut). By AI agents, Wed Nov 11 2026. No macro, syntax, notation, axiom, sorry.
-/
import Derived.Test.YtanmgjaiojdihaaChecked
import GoSem.Claim
import GoSem.ClaimJoined
import GoSem.ClaimMapViews
import Derived.JoinedTies
import Derived.KernelRfl
namespace Go.Proofs.Ytanmgjaiojdihaa
/- THE CELL 'sum', in the pinned program and in every row, IS THE sha256 OF THE DUMP (.gsa) THAT YtanmgjaiojdihaaProg.lean LOADS. Nothing in Lean hashes anything: it is a label: what it is worth is what the hold of that sum in a sandbox is worth. -/
noncomputable def Try.pinned : Pinned := { name := "ytanmgjaiojdihaa", sum := "873b6171c3fc9e37e48f242afddb391e100b6f45e70cfd724de1de2081a74e85", checked := Try.checked }
namespace Rows
def none {H : Type} : Left H := { results := [], args := [] }

/-- 'laws.FnExactMayTurn': WHATEVER THE INPUT: true; the input reads as it did. -/
def fnExactMayTurnSpec : ChangeSpec := { name := "fnExactMayTurn", fn := fun _ => fun
  | [d1, d2] => { results := [.lit (.bool true)], args := [d1, d2] }
  | _ => none }
def fnExactMayTurnRow : OpenClaim := { program := "ytanmgjaiojdihaa", sum := "873b6171c3fc9e37e48f242afddb391e100b6f45e70cfd724de1de2081a74e85", func := "loop.example/g01307/laws.FnExactMayTurn", spec := "fnExactMayTurn", unfollowed := true, recurses := true, apart := false }
def FnExactMayTurnSaid : Prop := fnExactMayTurnRow.holds Try.pinned (OpenSpec.ofChange fnExactMayTurnSpec)

/-- ITS FALSE NEIGHBOUR: 'it returns false'. Refute it at one input. -/
def fnExactMayTurnWrong : ChangeSpec := { name := "fnExactMayTurn", fn := fun _ => fun
  | [d1, d2] => { results := [.lit (.bool false)], args := [d1, d2] }
  | _ => none }
def FnExactMayTurnWrongFalsely : Prop := fnExactMayTurnRow.holds Try.pinned (OpenSpec.ofChange fnExactMayTurnWrong)

/-- 'laws.FnExactTurnsAt': WHATEVER THE INPUT: true; the input reads as it did. -/
def fnExactTurnsAtSpec : ChangeSpec := { name := "fnExactTurnsAt", fn := fun _ => fun
  | [d1, d2] => { results := [.lit (.bool true)], args := [d1, d2] }
  | _ => none }
def fnExactTurnsAtRow : OpenClaim := { program := "ytanmgjaiojdihaa", sum := "873b6171c3fc9e37e48f242afddb391e100b6f45e70cfd724de1de2081a74e85", func := "loop.example/g01307/laws.FnExactTurnsAt", spec := "fnExactTurnsAt", unfollowed := true, recurses := true, apart := false }
def FnExactTurnsAtSaid : Prop := fnExactTurnsAtRow.holds Try.pinned (OpenSpec.ofChange fnExactTurnsAtSpec)

/-- ITS FALSE NEIGHBOUR: 'it returns false'. Refute it at one input. -/
def fnExactTurnsAtWrong : ChangeSpec := { name := "fnExactTurnsAt", fn := fun _ => fun
  | [d1, d2] => { results := [.lit (.bool false)], args := [d1, d2] }
  | _ => none }
def FnExactTurnsAtWrongFalsely : Prop := fnExactTurnsAtRow.holds Try.pinned (OpenSpec.ofChange fnExactTurnsAtWrong)

/-- 'laws.FnExactTurnRow': WHATEVER THE INPUT: true; the input reads as it did. -/
def fnExactTurnRowSpec : ChangeSpec := { name := "fnExactTurnRow", fn := fun _ => fun
  | [d1, d2, d3] => { results := [.lit (.bool true)], args := [d1, d2, d3] }
  | _ => none }
def fnExactTurnRowRow : OpenClaim := { program := "ytanmgjaiojdihaa", sum := "873b6171c3fc9e37e48f242afddb391e100b6f45e70cfd724de1de2081a74e85", func := "loop.example/g01307/laws.FnExactTurnRow", spec := "fnExactTurnRow", unfollowed := true, recurses := true, apart := false }
def FnExactTurnRowSaid : Prop := fnExactTurnRowRow.holds Try.pinned (OpenSpec.ofChange fnExactTurnRowSpec)

/-- ITS FALSE NEIGHBOUR: 'it returns false'. Refute it at one input. -/
def fnExactTurnRowWrong : ChangeSpec := { name := "fnExactTurnRow", fn := fun _ => fun
  | [d1, d2, d3] => { results := [.lit (.bool false)], args := [d1, d2, d3] }
  | _ => none }
def FnExactTurnRowWrongFalsely : Prop := fnExactTurnRowRow.holds Try.pinned (OpenSpec.ofChange fnExactTurnRowWrong)

/-- 'laws.FnExactOddBits': WHATEVER THE INPUT: true; the input reads as it did. -/
def fnExactOddBitsSpec : ChangeSpec := { name := "fnExactOddBits", fn := fun _ => fun
  | [d] => { results := [.lit (.bool true)], args := [d] }
  | _ => none }
def fnExactOddBitsRow : OpenClaim := { program := "ytanmgjaiojdihaa", sum := "873b6171c3fc9e37e48f242afddb391e100b6f45e70cfd724de1de2081a74e85", func := "loop.example/g01307/laws.FnExactOddBits", spec := "fnExactOddBits", apart := false }
def FnExactOddBitsSaid : Prop := fnExactOddBitsRow.holds Try.pinned (OpenSpec.ofChange fnExactOddBitsSpec)

/-- ITS FALSE NEIGHBOUR: 'it returns false'. Refute it at one input. -/
def fnExactOddBitsWrong : ChangeSpec := { name := "fnExactOddBits", fn := fun _ => fun
  | [d] => { results := [.lit (.bool false)], args := [d] }
  | _ => none }
def FnExactOddBitsWrongFalsely : Prop := fnExactOddBitsRow.holds Try.pinned (OpenSpec.ofChange fnExactOddBitsWrong)

/-- 'laws.FnExactReadRow': WHATEVER THE INPUT: true; the input reads as it did. -/
def fnExactReadRowSpec : ChangeSpec := { name := "fnExactReadRow", fn := fun _ => fun
  | [d] => { results := [.lit (.bool true)], args := [d] }
  | _ => none }
def fnExactReadRowRow : OpenClaim := { program := "ytanmgjaiojdihaa", sum := "873b6171c3fc9e37e48f242afddb391e100b6f45e70cfd724de1de2081a74e85", func := "loop.example/g01307/laws.FnExactReadRow", spec := "fnExactReadRow", apart := false }
def FnExactReadRowSaid : Prop := fnExactReadRowRow.holds Try.pinned (OpenSpec.ofChange fnExactReadRowSpec)

/-- ITS FALSE NEIGHBOUR: 'it returns false'. Refute it at one input. -/
def fnExactReadRowWrong : ChangeSpec := { name := "fnExactReadRow", fn := fun _ => fun
  | [d] => { results := [.lit (.bool false)], args := [d] }
  | _ => none }
def FnExactReadRowWrongFalsely : Prop := fnExactReadRowRow.holds Try.pinned (OpenSpec.ofChange fnExactReadRowWrong)

/- THE SECOND FORM. 'bulk': how many values and letters a reading holds, each counted each time it is reached (what is shared counts as often as it is met; a slice's spare places count too). A statement '..UptoSaid' is the law's where the arguments, and the package variables that the reading takes, are together of bulk at most 1048576: NARROWER than '..Said'. Prove '..Said' where nothing that the law and all that it calls make is longer than what came in: it says more and counts as full. Else prove '..UptoSaid'. A law counts once. -/
mutual
def uptoBulk {H : Type} : DataW H → Nat
  | .lit (.string bytes) => bytes.length + 1
  | .lit _ => 1
  | .nil => 1
  | .ptr d => uptoBulk d + 1
  | .slice elems spare => uptoBulkAll elems + uptoBulkAll spare + 1
  | .agg parts => uptoBulkAll parts + 1
  | .iface _ d => uptoBulk d + 1
  | .map entries => uptoBulkEntries entries + 1
  | .held _ => 1
def uptoBulkAll {H : Type} : List (DataW H) → Nat
  | [] => 0
  | d :: r => uptoBulk d + uptoBulkAll r
def uptoBulkEntries {H : Type} : List (Lit × DataW H) → Nat
  | [] => 0
  | x :: r => uptoBulkEntry x + uptoBulkEntries r
def uptoBulkEntry {H : Type} : Lit × DataW H → Nat
  | (.string bytes, d) => bytes.length + uptoBulk d + 1
  | (_, d) => uptoBulk d + 1
 end
def uptoSmall : (H : Type) → List (DataW H) → Bool := fun _ ds => decide (uptoBulkAll ds ≤ 1048576)
def OpenSpec.upto (s : _root_.Go.ChangeSpec) : _root_.Go.OpenSpec := { _root_.Go.OpenSpec.ofChange s with cond := some uptoSmall }

/-- 'laws.FnExactMayTurn', WHERE WHAT IT READS IS OF BULK AT MOST 1048576: true; the input reads as it did. -/
def fnExactMayTurnUptoRow : OpenClaim := { program := "ytanmgjaiojdihaa", sum := "873b6171c3fc9e37e48f242afddb391e100b6f45e70cfd724de1de2081a74e85", func := "loop.example/g01307/laws.FnExactMayTurn", spec := "fnExactMayTurn", unfollowed := true, recurses := true, apart := false, narrowed := true }
def FnExactMayTurnUptoSaid : Prop := fnExactMayTurnUptoRow.holds Try.pinned (OpenSpec.upto fnExactMayTurnSpec)

/-- 'laws.FnExactTurnsAt', WHERE WHAT IT READS IS OF BULK AT MOST 1048576: true; the input reads as it did. -/
def fnExactTurnsAtUptoRow : OpenClaim := { program := "ytanmgjaiojdihaa", sum := "873b6171c3fc9e37e48f242afddb391e100b6f45e70cfd724de1de2081a74e85", func := "loop.example/g01307/laws.FnExactTurnsAt", spec := "fnExactTurnsAt", unfollowed := true, recurses := true, apart := false, narrowed := true }
def FnExactTurnsAtUptoSaid : Prop := fnExactTurnsAtUptoRow.holds Try.pinned (OpenSpec.upto fnExactTurnsAtSpec)

/-- 'laws.FnExactTurnRow', WHERE WHAT IT READS IS OF BULK AT MOST 1048576: true; the input reads as it did. -/
def fnExactTurnRowUptoRow : OpenClaim := { program := "ytanmgjaiojdihaa", sum := "873b6171c3fc9e37e48f242afddb391e100b6f45e70cfd724de1de2081a74e85", func := "loop.example/g01307/laws.FnExactTurnRow", spec := "fnExactTurnRow", unfollowed := true, recurses := true, apart := false, narrowed := true }
def FnExactTurnRowUptoSaid : Prop := fnExactTurnRowUptoRow.holds Try.pinned (OpenSpec.upto fnExactTurnRowSpec)

/-- 'laws.FnExactOddBits', WHERE WHAT IT READS IS OF BULK AT MOST 1048576: true; the input reads as it did. -/
def fnExactOddBitsUptoRow : OpenClaim := { program := "ytanmgjaiojdihaa", sum := "873b6171c3fc9e37e48f242afddb391e100b6f45e70cfd724de1de2081a74e85", func := "loop.example/g01307/laws.FnExactOddBits", spec := "fnExactOddBits", apart := false, narrowed := true }
def FnExactOddBitsUptoSaid : Prop := fnExactOddBitsUptoRow.holds Try.pinned (OpenSpec.upto fnExactOddBitsSpec)

/-- 'laws.FnExactReadRow', WHERE WHAT IT READS IS OF BULK AT MOST 1048576: true; the input reads as it did. -/
def fnExactReadRowUptoRow : OpenClaim := { program := "ytanmgjaiojdihaa", sum := "873b6171c3fc9e37e48f242afddb391e100b6f45e70cfd724de1de2081a74e85", func := "loop.example/g01307/laws.FnExactReadRow", spec := "fnExactReadRow", apart := false, narrowed := true }
def FnExactReadRowUptoSaid : Prop := fnExactReadRowUptoRow.holds Try.pinned (OpenSpec.upto fnExactReadRowSpec)

end Rows
end Go.Proofs.Ytanmgjaiojdihaa
