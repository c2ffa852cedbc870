/-
  NeededGates.
-/
import Derived.Test.YtedcfmdgcafnmaaDoorCx
namespace Go.Proofs.YtedcfmdgcafnmaaDoor
set_option linter.unusedVariables false
set_option linter.unusedSimpArgs false
open Go.ChangeShapes Go.WideShapes Go.ChangeAt Go.RowKit Go.Deep
/-- the places below k that are on -/
def idL (l : List Bool) : Nat → List Int
  | 0 => []
  | k + 1 => if l.getD k false then idL l k ++ [(k : Int)] else idL l k
theorem idL_len (l : List Bool) : ∀ k, (idL l k).length ≤ k
  | 0 => Nat.le_refl _
  | k + 1 => by
    rw [idL]
    have := idL_len l k
    split
    · rw [List.length_append]; simp; omega
    · omega
def ngL (n : Int) (gs : List G3) (os : List Int) : List Int := if circB n gs os then idL (ndL gs os) gs.length else []
theorem ngL_len (n : Int) (gs : List G3) (os : List Int) : (ngL n gs os).length ≤ 1048576 := by
  unfold ngL
  by_cases hc : circB n gs os = true
  · rw [if_pos hc]
    have := idL_len (ndL gs os) gs.length
    have := (head_of hc).2.2.1
    omega
  · rw [if_neg hc]; simp

end Go.Proofs.YtedcfmdgcafnmaaDoor
