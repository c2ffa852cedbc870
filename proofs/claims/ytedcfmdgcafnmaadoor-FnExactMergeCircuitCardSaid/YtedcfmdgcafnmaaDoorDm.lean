/-
  TrimCircuit of the program.
-/
import Derived.Test.YtedcfmdgcafnmaaDoorDl
namespace Go.Proofs.YtedcfmdgcafnmaaDoor
set_option linter.unusedVariables false
set_option linter.unusedSimpArgs false
open Go.ChangeShapes Go.WideShapes Go.ChangeAt Go.RowKit Go.Deep

theorem puts3 {w : World} {g : Nat} {a b c : Value} {t : TypeId} (h : w.heap[g]? = some (.cells #[a, b, c] t (0, 0))) (x y z : Value) : (w.setCells g 0 [x, y, z]).heap[g]? = some (.cells #[x, y, z] t (0, 0)) := by
  have h1 := heap_setCell_same w g 0 _ _ x h
  have h2 := heap_setCell_same _ g 1 _ _ y h1
  have h3 := heap_setCell_same _ g 2 _ _ z h2
  exact h3
theorem trT_end (n : Int) (gs : List G3) (os : List Int) (hc : circB n gs os = true) : tcN n gs os = n ∧ tcG n gs os = (trT (ndL gs os) gs gs.length).2 ∧ tcO n gs os = os.map (plc (trT (ndL gs os) gs gs.length).1) := by
  unfold tcN tcG tcO; rw [hc]; exact ⟨rfl, rfl, rfl⟩
set_option maxHeartbeats 8000000 in
set_option maxRecDepth 100000 in
theorem tc_gw {n : Int} {gs : List G3} {os : List Int} (hc : circB n gs os = true) (hg : ∀ g ∈ gs, GW g) : (∀ g ∈ (trT (ndL gs os) gs gs.length).2, GW g) ∧ ∀ z ∈ os.map (plc (trT (ndL gs os) gs gs.length).1), IW z := by
  have h := trT_w (ndL gs os) gs (fun j => gw_getD hg j) gs.length (head_of hc).2.2.1
  refine ⟨h.2, fun z hz => ?_⟩
  obtain ⟨y, _, rfl⟩ := List.mem_map.1 hz
  exact h.1.w y

end Go.Proofs.YtedcfmdgcafnmaaDoor
