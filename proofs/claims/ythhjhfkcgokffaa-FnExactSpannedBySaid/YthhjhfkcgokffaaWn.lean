/-
  Bases and lists of words: which are valid, and the codes of the checks (no program).
-/
import Derived.Test.YthhjhfkcgokffaaWm
namespace Go.Proofs.Ythhjhfkcgokffaa
set_option linter.unusedVariables false
set_option linter.unusedSimpArgs false
open Go.ChangeShapes Go.WideShapes Go.ChangeAt Go.RowKit

def baB (n : Int) : Bool := n == 2 || n == 4 || n == 16 || n == 256
theorem baB_cases {n : Int} (h : baB n = true) : n = 2 ∨ n = 4 ∨ n = 16 ∨ n = 256 := by
  unfold baB at h
  simp at h
  omega
theorem baB_no {n : Int} (h : baB n = false) : n ≠ 2 ∧ n ≠ 4 ∧ n ≠ 16 ∧ n ≠ 256 := by
  unfold baB at h
  simp at h
  omega
/-- the greatest of the first k + 1 nimbers -/
def mxI (zs : List Int) : Nat → Int
  | 0 => zs.getD 0 0
  | k + 1 => if mxI zs k < zs.getD (k + 1) 0 then zs.getD (k + 1) 0 else mxI zs k
theorem mxI_u {zs : List Int} (h : inU zs) : ∀ k, 0 ≤ mxI zs k ∧ mxI zs k < 65536
  | 0 => h.at 0
  | k + 1 => by
    unfold mxI
    split
    · exact h.at (k + 1)
    · exact mxI_u h k
theorem mxI_lt {zs : List Int} {n : Int} : ∀ k, mxI zs k < n ↔ ∀ i, i ≤ k → zs.getD i 0 < n
  | 0 => by
    constructor
    · intro h i hi
      obtain rfl : i = 0 := by omega
      exact h
    · intro h; exact h 0 (Nat.le_refl _)
  | k + 1 => by
    have ih := mxI_lt (zs := zs) (n := n) k
    unfold mxI
    constructor
    · intro h i hi
      by_cases e : i = k + 1
      · subst e
        split at h <;> omega
      · refine ih.1 ?_ i (by omega)
        split at h <;> omega
    · intro h
      have h1 := ih.2 (fun i hi => h i (by omega))
      have h2 := h (k + 1) (Nat.le_refl _)
      split <;> omega
def ltAll (n : Int) (zs : List Int) : Bool := zs.all fun z => decide (z < n)
theorem ltAll_iff {n : Int} {zs : List Int} : ltAll n zs = true ↔ ∀ i, i < zs.length → zs.getD i 0 < n := by
  unfold ltAll
  rw [List.all_eq_true]
  constructor
  · intro h i hi
    have := h zs[i] (List.getElem_mem hi)
    simpa [List.getD, hi] using this
  · intro h z hz
    obtain ⟨i, hi, rfl⟩ := List.mem_iff_getElem.1 hz
    have := h i hi
    simpa [List.getD, hi] using this
theorem ltAll_no {n : Int} {zs : List Int} {i : Nat} (hi : i < zs.length) (h : ¬ zs.getD i 0 < n) : ltAll n zs = false := by
  by_cases e : ltAll n zs = true
  · exact absurd (ltAll_iff.1 e i hi) h
  · simpa using e
theorem ltAll_max {n : Int} {zs : List Int} (h : 0 < zs.length) : decide (mxI zs (zs.length - 1) < n) = ltAll n zs := by
  rw [Bool.eq_iff_iff, decide_eq_true_iff, mxI_lt, ltAll_iff]
  constructor
  · intro h2 i hi; exact h2 i (by omega)
  · intro h2 i hi; exact h2 i (by omega)
/-- is the word valid with a base? -/
def wdB (n : Int) (zs : List Int) : Bool := decide (1 ≤ zs.length) && decide (zs.length ≤ 7) && ltAll n zs
theorem wdB_len {n : Int} {zs : List Int} (h : wdB n zs = true) : 1 ≤ zs.length ∧ zs.length ≤ 7 := by
  unfold wdB at h
  rw [Bool.and_eq_true, Bool.and_eq_true, decide_eq_true_iff, decide_eq_true_iff] at h
  exact h.1
theorem wdB_all {n : Int} {zs : List Int} (h : wdB n zs = true) : ltAll n zs = true := by
  unfold wdB at h
  rw [Bool.and_eq_true] at h
  exact h.2
theorem wdB_yes {n : Int} {zs : List Int} (h1 : 1 ≤ zs.length) (h2 : zs.length ≤ 7) : wdB n zs = ltAll n zs := by
  unfold wdB
  rw [decide_eq_true h1, decide_eq_true h2]; rfl
theorem wdB_short {n : Int} {zs : List Int} (h : ¬ 1 ≤ zs.length) : wdB n zs = false := by
  unfold wdB; rw [decide_eq_false h]; rfl
theorem wdB_long {n : Int} {zs : List Int} (h : ¬ zs.length ≤ 7) : wdB n zs = false := by
  unfold wdB; rw [decide_eq_false h]; simp
/-- are the words of one length? -/
def lnB (gs : List (List Int)) : Bool := gs.all fun zs => decide (zs.length = (gs.getD 0 []).length)
def wsB (n : Int) (gs : List (List Int)) : Bool := gs.all (wdB n) && lnB gs
/-- the code of a base and of words -/
def opC (n : Int) (gs : List (List Int)) : Int := if baB n then (if wsB n gs then 0 else 1) else 2
def op1 (n : Int) (zs : List Int) : Int := if baB n then (if wdB n zs then 0 else 1) else 2
theorem opC_one (n : Int) (zs : List Int) : opC n [zs] = op1 n zs := by
  unfold opC op1 wsB lnB
  simp
theorem opC_nil (n : Int) : opC n [] = if baB n then 0 else 2 := by unfold opC wsB lnB; simp
theorem op1_ok {n : Int} {zs : List Int} (h1 : baB n = true) (h2 : wdB n zs = true) : op1 n zs = 0 := by unfold op1; rw [if_pos h1, if_pos h2]
theorem op1_bad {n : Int} {zs : List Int} (h1 : baB n = true) (h2 : wdB n zs = false) : op1 n zs = 1 := by unfold op1; rw [if_pos h1, if_neg (by rw [h2]; decide)]
theorem op1_base {n : Int} {zs : List Int} (h1 : baB n = false) : op1 n zs = 2 := by unfold op1; rw [if_neg (by rw [h1]; decide)]
theorem op1_zero {n : Int} {zs : List Int} (h : op1 n zs = 0) : baB n = true ∧ wdB n zs = true := by
  unfold op1 at h
  split at h
  · rename_i h1
    split at h
    · rename_i h2; exact ⟨h1, h2⟩
    · omega
  · omega
end Go.Proofs.Ythhjhfkcgokffaa
