/-
  GateValues.
-/
import Derived.Test.YtedcfmdgcafnmaaDoorCu
import Derived.Test.YtedcfmdgcafnmaaDoorCi
namespace Go.Proofs.YtedcfmdgcafnmaaDoor
set_option linter.unusedVariables false
set_option linter.unusedSimpArgs false
open Go.ChangeShapes Go.WideShapes Go.ChangeAt Go.RowKit
def gvL (n : Int) (gs : List G3) (os : List Int) (bits : Int) : List Bool := if circB n gs os then onL bits gs else []
theorem gvL_len (n : Int) (gs : List G3) (os : List Int) (bits : Int) : (gvL n gs os bits).length ≤ 1048576 := by
  unfold gvL
  by_cases hc : circB n gs os = true
  · rw [if_pos hc, show (onL bits gs).length = gs.length from bl_len _ _ _ (Nat.le_refl _)]
    unfold circB at hc
    have := (of_decide_eq_true hc).2.2.1
    omega
  · rw [if_neg hc]; simp
theorem OR.empty (w : World) (lo hi : Nat) (e : TypeId) (s : Nat) : OR lo hi w e s (.slice none 0 0) 0 [] := ⟨World.ownsRow_nil _ _ _ _, fun k hk => by simp [Value.ownBlock] at hk⟩
theorem OR.built {w w1 : World} {e : TypeId} (s : Nat) (hh : w1.heap[w.heap.size]? = some (.cells #[] e (0, 0))) (lo : Nat) (hl : lo ≤ w.heap.size) : OR lo w1.heap.size w1 e s (.slice (some ⟨w.heap.size, 0, none⟩) 0 0) 0 [] :=
  ⟨⟨by simp, .inr ⟨w.heap.size, 0, #[], rfl, hl, hh, Nat.le_refl _, Nat.zero_le _, by simp, by simp⟩⟩, fun k hk => by
    have e : w.heap.size = k := by simpa [Value.ownBlock] using hk
    subst e
    exact (Array.getElem?_eq_some_iff.1 hh).1⟩

end Go.Proofs.YtedcfmdgcafnmaaDoor
