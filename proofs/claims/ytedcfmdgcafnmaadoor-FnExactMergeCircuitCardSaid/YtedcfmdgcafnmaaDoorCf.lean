/-
  Lists that are made gate by gate; which gates are on.
-/
import Derived.Test.YtedcfmdgcafnmaaDoorCc
namespace Go.Proofs.YtedcfmdgcafnmaaDoor
set_option linter.unusedVariables false
set_option linter.unusedSimpArgs false
open Go.ChangeShapes Go.WideShapes Go.ChangeAt Go.RowKit Go.Deep

section
variable {α : Type} (f : List α → G3 → α) (d : α)
/-- a list made gate by gate, each entry out of those ahead -/
def bl (gs : List G3) (k : Nat) : List α := (gs.take k).foldl (fun l g => l ++ [f l g]) []
theorem bl_zero (gs : List G3) : bl f gs 0 = [] := rfl
theorem bl_succ (gs : List G3) (k : Nat) (hk : k < gs.length) : bl f gs (k + 1) = bl f gs k ++ [f (bl f gs k) (gs.getD k gz)] := by
  unfold bl
  rw [List.take_succ_eq_append_getElem hk, List.foldl_append]
  simp [List.getD, hk]
theorem bl_len (gs : List G3) : ∀ k, k ≤ gs.length → (bl f gs k).length = k
  | 0, _ => rfl
  | k + 1, h => by rw [bl_succ f gs k h, List.length_append, bl_len gs k (by omega)]; rfl
/-- the list while it is being made, in a row of its whole length -/
def rowb (gs : List G3) (k : Nat) : List α := bl f gs k ++ List.replicate (gs.length - k) d
theorem rowb_len (gs : List G3) (k : Nat) (hk : k ≤ gs.length) : (rowb f d gs k).length = gs.length := by
  unfold rowb; rw [List.length_append, bl_len f gs k hk, List.length_replicate]; omega
theorem rowb_zero (gs : List G3) : rowb f d gs 0 = List.replicate gs.length d := by simp [rowb, bl_zero]
theorem rowb_end (gs : List G3) : rowb f d gs gs.length = bl f gs gs.length := by simp [rowb]
theorem rowb_set (gs : List G3) (k : Nat) (hk : k < gs.length) : (rowb f d gs k).set k (f (bl f gs k) (gs.getD k gz)) = rowb f d gs (k + 1) := by
  unfold rowb
  have hr : gs.length - k = (gs.length - (k + 1)) + 1 := by omega
  rw [List.set_append_right k _ (by rw [bl_len f gs k (by omega)]; omega), bl_len f gs k (by omega), Nat.sub_self, hr, List.replicate_succ, List.set_cons_zero, bl_succ f gs k hk, List.append_assoc]
  rfl
theorem rowb_at (gs : List G3) (k a : Nat) (hk : k ≤ gs.length) (ha : a < k) : (rowb f d gs k)[a]? = some ((bl f gs k).getD a d) := by
  unfold rowb
  rw [List.getElem?_append_left (by rw [bl_len f gs k hk]; exact ha), List.getD, List.getElem?_eq_getElem (by rw [bl_len f gs k hk]; exact ha)]
  rfl
end
def bitB (bits a : Int) : Bool := Go.bits BinOp.and IntKind.u16 (bits / 2 ^ min a.toNat 16) 1 == 1
def val1 (bits : Int) (l : List Bool) (g : G3) : Bool :=
  if g.1 = 0 then bitB bits g.2.1 else if g.1 = 1 then true else if g.1 = 2 then (l.getD g.2.1.toNat false != l.getD g.2.2.toNat false) else (l.getD g.2.1.toNat false && l.getD g.2.2.toNat false)
abbrev bols (l : List Bool) : List Value := l.map Value.bool
/-- which gates are on -/
def onL (bits : Int) (gs : List G3) : List Bool := bl (val1 bits) gs gs.length
/-- what holds of each gate of a valid circuit -/
theorem gate_of {n : Int} {gs : List G3} {os : List Int} (h : circB n gs os = true) (k : Nat) (hk : k < gs.length) : gateB n k (gs.getD k gz) = true := by
  unfold circB at h
  exact (of_decide_eq_true h).2.2.2.2.1 k hk
theorem out_of {n : Int} {gs : List G3} {os : List Int} (h : circB n gs os = true) (k : Nat) (hk : k < os.length) : 0 ≤ os.getD k 0 ∧ os.getD k 0 < gs.length := by
  unfold circB at h
  have := (of_decide_eq_true h).2.2.2.2.2 k hk
  unfold idxB at this
  exact of_decide_eq_true this
theorem head_of {n : Int} {gs : List G3} {os : List Int} (h : circB n gs os = true) : 0 ≤ n ∧ n ≤ 16 ∧ gs.length ≤ 600 ∧ os.length ≤ 16 := by
  unfold circB at h
  have := of_decide_eq_true h
  exact ⟨this.1, this.2.1, this.2.2.1, this.2.2.2.1⟩
theorem kinds_of {n i : Int} {g : G3} (h : gateB n i g = true) :
    (g.1 = 0 ∧ 0 ≤ g.2.1 ∧ g.2.1 < n ∧ g.2.2 = 0) ∨ (g.1 = 1 ∧ g.2.1 = 0 ∧ g.2.2 = 0) ∨ ((g.1 = 2 ∨ g.1 = 3) ∧ 0 ≤ g.2.1 ∧ g.2.1 < i ∧ 0 ≤ g.2.2 ∧ g.2.2 < i) := by
  unfold gateB idxB at h
  split at h
  · rename_i e
    simp at h
    exact .inl ⟨e, h.1.1, h.1.2, h.2⟩
  · split at h
    · rename_i e
      simp at h
      exact .inr (.inl ⟨e, h.1, h.2⟩)
    · split at h
      · rename_i e
        simp at h
        exact .inr (.inr ⟨.inl e, h.1.1, h.1.2, h.2.1, h.2.2⟩)
      · split at h
        · rename_i e
          simp at h
          exact .inr (.inr ⟨.inr e, h.1.1, h.1.2, h.2.1, h.2.2⟩)
        · cases h
end Go.Proofs.YtedcfmdgcafnmaaDoor
