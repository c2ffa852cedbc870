/-
  What the laws on lists need: the list that came in, as nimbers; worlds one behind the other.
-/
import Derived.Test.YthhjhfkcgokffaaOpen
import Derived.Test.YthhjhfkcgokffaaList
namespace Go.Proofs.Ythhjhfkcgokffaa
set_option linter.unusedVariables false
set_option linter.unusedSimpArgs false
open Go.ChangeShapes Go.WideShapes Go.ChangeAt Go.RowKit

theorem ns_of_ks {w : World} {v : Value} {zs : List Int} (h : KS .u16 w v zs) : NS w v zs := by
  obtain ⟨A, c, rfl, _, hz, hc⟩ := h
  exact ⟨A, c, rfl, fun z hz' => by have := bounds_u16 (hz z hz'); omega, hc⟩
theorem NS.all {w : World} {v : Value} {zs : List Int} (h : NS w v zs) : ∀ z ∈ zs, 0 ≤ z ∧ z < 65536 := by
  obtain ⟨A, c, _, hz, _⟩ := h
  exact hz
theorem bchain {a b c : World} (h1 : Below a.heap.size a b) (h2 : Below b.heap.size b c) : Below a.heap.size a c := h1.trans (h2.mono h1.size)
theorem bdrewN {B : Nat} {a b : World} (h : Below B a b) (m : Nat) : Below B a (b.drewN m) := ⟨h.os, h.tape, h.output, h.size, h.block⟩
theorem own_below {w w' : World} {base : Nat} {e : TypeId} {size n : Nat} {v : Value} {xs : List Value} (h : w.ownsRow base e size v n xs) (hb : Below w.heap.size w w') : w'.ownsRow base e size v n xs := by
  refine ⟨h.1, ?_⟩
  rcases h.2 with hn | ⟨g, cap, cur, rfl, h1, hg, rest⟩
  · exact .inl hn
  · exact .inr ⟨g, cap, cur, rfl, h1, (hb.block g (Array.getElem?_eq_some_iff.1 hg).1).trans hg, rest⟩
end Go.Proofs.Ythhjhfkcgokffaa
