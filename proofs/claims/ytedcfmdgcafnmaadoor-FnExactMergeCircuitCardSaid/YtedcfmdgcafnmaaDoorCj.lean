/-
  Small things for the laws of circuits.
-/
import Derived.Test.YtedcfmdgcafnmaaDoorCg
namespace Go.Proofs.YtedcfmdgcafnmaaDoor
set_option linter.unusedVariables false
open Go.ChangeShapes Go.WideShapes Go.ChangeAt Go.RowKit Go.Deep
theorem bdrew1 (w : World) : Below w.heap.size w w.drew := ⟨rfl, rfl, rfl, Nat.le_refl _, fun _ _ => rfl⟩
theorem keep6 {W : World} {g h : Nat} {a b c d e f : Value} {p : Prop} (h1 : BX W g a b c) (h2 : BX W h d e f) (hp : Hid p) :
    W.cell? ⟨g, 0, none⟩ = some a ∧ W.cell? ⟨g, 1, none⟩ = some b ∧ W.cell? ⟨g, 2, none⟩ = some c ∧ W.cell? ⟨h, 0, none⟩ = some d ∧ W.cell? ⟨h, 1, none⟩ = some e ∧ W.cell? ⟨h, 2, none⟩ = some f ∧ Hid p :=
  ⟨h1.c0, h1.c1, h1.c2, h2.c0, h2.c1, h2.c2, hp⟩
end Go.Proofs.YtedcfmdgcafnmaaDoor
