/-
  Which gates are needed.
-/
import Derived.Test.YtedcfmdgcafnmaaDoorCv
import Derived.Test.YtedcfmdgcafnmaaDoorCk
import Derived.ScopeJumps
import Derived.WalkMore
namespace Go.Proofs.YtedcfmdgcafnmaaDoor
set_option linter.unusedVariables false
set_option linter.unusedSimpArgs false
open Go.ChangeShapes Go.WideShapes Go.ChangeAt Go.RowKit Go.Deep
/-- the outputs are needed -/
def ndO (m : Nat) (os : List Int) : Nat → List Bool
  | 0 => List.replicate m false
  | k + 1 => (ndO m os k).set (os.getD k 0).toNat true
def ndS (l : List Bool) (g : G3) (j : Nat) : List Bool := if l.getD j false && joinB g then (l.set g.2.1.toNat true).set g.2.2.toNat true else l
/-- behind the last t gates -/
def ndT (gs : List G3) (os : List Int) : Nat → List Bool
  | 0 => ndO gs.length os os.length
  | t + 1 => ndS (ndT gs os t) (gs.getD (gs.length - 1 - t) gz) (gs.length - 1 - t)
def ndL (gs : List G3) (os : List Int) : List Bool := ndT gs os gs.length
theorem ndO_len (m : Nat) (os : List Int) : ∀ k, (ndO m os k).length = m
  | 0 => by simp [ndO]
  | k + 1 => by rw [ndO, List.length_set, ndO_len m os k]
theorem ndS_len (l : List Bool) (g : G3) (j : Nat) : (ndS l g j).length = l.length := by unfold ndS; split <;> simp
theorem ndT_len (gs : List G3) (os : List Int) : ∀ t, (ndT gs os t).length = gs.length
  | 0 => ndO_len _ _ _
  | t + 1 => by rw [ndT, ndS_len, ndT_len gs os t]
theorem ndL_len (gs : List G3) (os : List Int) : (ndL gs os).length = gs.length := ndT_len gs os _

theorem takeH {P : Program} {ops : Array Oper} {Q : Exit → Act → World → Prop} {a : Act} {w : World} {md : Region.Mode} {S : World → Prop} {i : Nat} {oi : Oper} {d : Tmp} {v : Value} {fuel : Nat} {listed : Array Bool} (hi : ops[i]? = some oi) (hd : oi.dst = some d)
    (hs : Region.noSelect ops = true) (hf : Region.free md ops listed i = true) (hr : (Region.ready md ops listed).contains i = true)
    (hQ : ∀ c a w, Q (.panic c) (a.put (some d) v) w → Q (.panic c) a w) (hw : Region.wanted oi (yielded ops a.tmps) = true) (hy : ∀ w, S w → (execOp a.eval oi).run P w = .ok (.value v) w) (hS : S w)
    (h : wpAnyH P md ops Q S fuel (listed.setIfInBounds i true) (a.put (some d) v) w) : wpAnyH P md ops Q S (fuel + 1) listed a w :=
  wpAnyH_take hi hs hf hr (by rw [hd]; exact hQ) (.inl ⟨hw, hy⟩) hS (by rw [hd]; exact h)
theorem wp_scope_label {P : Program} {c X : Code} (l : Nat) (J : Act → World → Prop) (μ : Act → World → Nat) {Q : Exit → Act → World → Prop} {a : Act} {w : World} (hf : findLabel c l = some (Code.skip.seq X))
    (hX : ∀ a w, J a w → X.wp P (Exit.jump l (fun a' w' => J a' w' ∧ μ a' w' < μ a w) Q) a w)
    (first : (∀ a w, J a w → X.wp P (Exit.jump l J Q) a w) → c.wp P (Exit.jump l J Q) a w) : (Code.scope c).wp P Q a w :=
  wp_scope_jumps l J μ hf (first (fun a w hJ => wp_mono (hX a w hJ) (fun e a w q => by
    cases e <;> first | exact q | exact ⟨q.1, q.2.1⟩))) (fun a w hJ => wp_seq (wp_skip (hX a w hJ)))
theorem ndS_keep {l : List Bool} {g : G3} {j : Nat} (h : (l.getD j false && joinB g) = false) : ndS l g j = l := by unfold ndS; rw [if_neg (by rw [h]; simp)]
theorem ndS_put {l : List Bool} {g : G3} {j : Nat} (h : (l.getD j false && joinB g) = true) : ndS l g j = (l.set g.2.1.toNat true).set g.2.2.toNat true := by unfold ndS; rw [if_pos h]
theorem joined_of {n : Int} {k : Nat} {g : G3} (h : gateB n k g = true) (hj : joinB g = true) : 0 ≤ g.2.1 ∧ g.2.1 < k ∧ 0 ≤ g.2.2 ∧ g.2.2 < k := by
  rcases kinds_of h with ⟨h0, _⟩ | ⟨h0, _⟩ | h3
  · simp [joinB, h0] at hj
  · simp [joinB, h0] at hj
  · exact h3.2

end Go.Proofs.YtedcfmdgcafnmaaDoor
