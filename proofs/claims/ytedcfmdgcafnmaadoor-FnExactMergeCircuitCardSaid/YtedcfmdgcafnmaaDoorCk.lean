/-
  DepthOf of the program and of the model.
-/
import Derived.Test.YtedcfmdgcafnmaaDoorCj
import Derived.Test.YtedcfmdgcafnmaaDoorCi
namespace Go.Proofs.YtedcfmdgcafnmaaDoor
set_option linter.unusedVariables false
set_option linter.unusedSimpArgs false
open Go.ChangeShapes Go.WideShapes Go.ChangeAt Go.RowKit Go.Deep

theorem bdw {B : Nat} {a b : World} (h : Below B a b) : Below B a b.drew := ⟨h.os, h.tape, h.output, h.size, h.block⟩
theorem odw {b : World} {B s n : Nat} {e : TypeId} {u : Value} {cs : List Value} (h : b.ownsRow B e s u n cs) : b.drew.ownsRow B e s u n cs := h
def joinB (g : G3) : Bool := decide (g.1 = 2) || decide (g.1 = 3)
def dep1 (l : List Int) (g : G3) : Int := if joinB g then max (l.getD g.2.1.toNat 0) (l.getD g.2.2.toNat 0) + 1 else 0
abbrev i64s (l : List Int) : List Value := l.map (Value.int .i64)
theorem dep_small (gs : List G3) : ∀ k, k ≤ gs.length → ∀ z, 0 ≤ (bl dep1 gs k).getD z 0 ∧ (bl dep1 gs k).getD z 0 ≤ k
  | 0, _, z => by simp [bl_zero]
  | k + 1, h, z => by
    have ih := dep_small gs k (by omega)
    rw [bl_succ dep1 gs k h]
    by_cases hz : z < k
    · have e : (bl dep1 gs k ++ [dep1 (bl dep1 gs k) (gs.getD k gz)]).getD z 0 = (bl dep1 gs k).getD z 0 := by
        simp only [List.getD]; rw [List.getElem?_append_left (by rw [bl_len dep1 gs k (by omega)]; exact hz)]
      rw [e]
      have := ih z
      omega
    · by_cases hz2 : z = k
      · subst hz2
        have e : (bl dep1 gs z ++ [dep1 (bl dep1 gs z) (gs.getD z gz)]).getD z 0 = dep1 (bl dep1 gs z) (gs.getD z gz) := by
          simp only [List.getD]; rw [List.getElem?_append_right (by rw [bl_len dep1 gs z (by omega)]; omega), bl_len dep1 gs z (by omega), Nat.sub_self]; rfl
        rw [e]
        unfold dep1
        have a1 := ih (gs.getD z gz).2.1.toNat
        have a2 := ih (gs.getD z gz).2.2.toNat
        split
        · unfold dep1 at a1 a2; omega
        · omega
      · have e : (bl dep1 gs k ++ [dep1 (bl dep1 gs k) (gs.getD k gz)]).getD z 0 = 0 := by
          simp only [List.getD]; rw [List.getElem?_eq_none (by rw [List.length_append, bl_len dep1 gs k (by omega)]; simp; omega)]; rfl
        rw [e]
        omega

theorem isJoin_any (g : G3) (w : World) :
    Calls Tryd.prog 139 #[gv g] w fun e w' => e = .returned (.bool (joinB g)) ∧ Below w.heap.size w w' := by
  obtain ⟨k, a, b⟩ := g
  have HB := Lib.hid (nw1 w (.cells #[.int .i8 k, .int .i16 a, .int .i16 b] 67)).2.1
  by_cases k2 : k = 2
  · subst k2
    have T2 : ((2 : Int) == 2) = true := rfl
    go_enter Tryd.func139, Tryd.ntmps139
    go_wp2_with fail
    go_ret
    exact ⟨rfl, HB.out⟩
  have T2 : (k == 2) = false := by simpa using k2
  by_cases k3 : k = 3
  · subst k3
    have T3 : ((3 : Int) == 3) = true := rfl
    go_enter Tryd.func139, Tryd.ntmps139
    go_wp2_with fail
    go_ret
    exact ⟨rfl, HB.out⟩
  have T3 : (k == 3) = false := by simpa using k3
  go_enter Tryd.func139, Tryd.ntmps139
  go_wp2_with fail
  go_ret
  exact ⟨by simp [joinB, k2, k3], HB.out⟩
theorem l07Joins_any (g : G3) (w : World) :
    Calls Tryd.prog 44 #[gv g] w fun e w' => e = .returned (.bool (joinB g)) ∧ Below w.heap.size w w' := by
  obtain ⟨k, a, b⟩ := g
  have HB := Lib.hid (nw1 w (.cells #[.int .i8 k, .int .i16 a, .int .i16 b] 67)).2.1
  by_cases k2 : k = 2
  · subst k2
    have T2 : ((2 : Int) == 2) = true := rfl
    go_enter Tryd.func44, Tryd.ntmps44
    go_wp2_with fail
    go_ret
    exact ⟨rfl, HB.out⟩
  have T2 : (k == 2) = false := by simpa using k2
  by_cases k3 : k = 3
  · subst k3
    have T3 : ((3 : Int) == 3) = true := rfl
    go_enter Tryd.func44, Tryd.ntmps44
    go_wp2_with fail
    go_ret
    exact ⟨rfl, HB.out⟩
  have T3 : (k == 3) = false := by simpa using k3
  go_enter Tryd.func44, Tryd.ntmps44
  go_wp2_with fail
  go_ret
  exact ⟨by simp [joinB, k2, k3], HB.out⟩
theorem infoI64 : (Tryd.prog.info? 2).map (fun i => (i.zero, i.size, i.bytes)) = some (some (.int .i64 0), 1, 8) := by kernel_rfl
/-- the greatest depth of the first k outputs -/
def depTo (ds : List Int) (os : List Int) : Nat → Int
  | 0 => 0
  | k + 1 => max (depTo ds os k) (ds.getD (os.getD k 0).toNat 0)
def depV (n : Int) (gs : List G3) (os : List Int) : Int := if circB n gs os then depTo (bl dep1 gs gs.length) os os.length else 0

end Go.Proofs.YtedcfmdgcafnmaaDoor
