/-
  Laws on two matrices: a region that draws its order, walked once and left by one door.
-/
import Derived.Test.YtjbaeomjinnlhaaPlus
namespace Go.Proofs.Ytjbaeomjinnlhaa
set_option linter.unusedVariables false
set_option linter.unusedSimpArgs false
open Go.ChangeShapes Go.WideShapes Go.ChangeAt Go.RowKit
/-- a region is walked for a post of its own (the frame that it leaves, by the number of a block), and left by that -/
theorem region_post {P : Program} {c : Code} {a : Act} {w : World} {Q : Exit → Act → World → Prop} {A : Nat → Act} (R : Nat → World → Prop)
    (h1 : c.wp P (fun x a' w' => x = .normal ∧ ∃ n, a' = A n ∧ R n w') a w) (h2 : ∀ n w', R n w' → Q .normal (A n) w') : c.wp P Q a w :=
  Code.wp_mono (fun x a' w' ⟨hx, n, ha, hr⟩ => by subst hx; subst ha; exact h2 n w' hr) h1
theorem MB.whole {w : World} {g : Nat} {t : TypeId} {r c : Int} {f : Nat → Int} (h : MB w g t r c f) : w.rangeAt g 0 (CL r c f) := fun j v hv => by
  rw [Nat.zero_add, cell_of_row _ _ _ _ _ _ h, List.getElem?_toArray]; exact hv
end Go.Proofs.Ytjbaeomjinnlhaa
