/-
  Lists of nimbers in memory: the laws' own helpers toNimberS, eqNimberS.
-/
import Derived.Test.YthhjhfkcgokffaaPow2
import Derived.OwnWalk
namespace Go.Proofs.Ythhjhfkcgokffaa
set_option linter.unusedVariables false
set_option linter.unusedSimpArgs false
open Go.ChangeShapes Go.WideShapes Go.ChangeAt Go.RowKit

abbrev u16s (zs : List Int) : List Value := zs.map (Value.int .u16)
/-- the value v is a slice that holds the nimbers zs -/
def NS (w : World) (v : Value) (zs : List Int) : Prop :=
  ∃ A c, v = .slice A zs.length c ∧ (∀ z ∈ zs, 0 ≤ z ∧ z < 65536) ∧
    (0 < zs.length → ∃ b off, A = some ⟨b, off, none⟩ ∧ b < w.heap.size ∧ ∀ i, i < zs.length → w.cell? ⟨b, off + i, none⟩ = some (.int .u16 (zs.getD i 0)))
theorem NS.below {w w' : World} {v : Value} {zs : List Int} (h : NS w v zs) (hb : Below w.heap.size w w') : NS w' v zs := by
  obtain ⟨A, c, hv, hz, hc⟩ := h
  refine ⟨A, c, hv, hz, fun hn => ?_⟩
  obtain ⟨b, off, hA, hlt, hcell⟩ := hc hn
  exact ⟨b, off, hA, Nat.lt_of_lt_of_le hlt hb.size, fun i hi => (hb.cell (p := ⟨b, off + i, none⟩) hlt).trans (hcell i hi)⟩
theorem NS.range {w : World} {v : Value} {zs : List Int} (h : NS w v zs) (i : Nat) : 0 ≤ zs.getD i 0 ∧ zs.getD i 0 < 65536 := by
  obtain ⟨A, c, hv, hz, hc⟩ := h
  by_cases hi : i < zs.length
  · have := hz zs[i] (List.getElem_mem hi)
    simp [List.getD, hi]; exact this
  · simp [List.getD, Nat.not_lt.1 hi]
theorem NS.of_own {w : World} {base : Nat} {e : TypeId} {v : Value} {zs : List Int} (h : w.ownsRow base e 1 v zs.length (u16s zs)) (hz : ∀ z ∈ zs, 0 ≤ z ∧ z < 65536) : NS w v zs := by
  rcases h.2 with ⟨rfl, h0⟩ | ⟨g, cap, cur, rfl, hb, hg, _⟩
  · refine ⟨none, 0, by rw [h0], hz, fun hn => by omega⟩
  · refine ⟨some ⟨g, 0, none⟩, cap, rfl, hz, fun hn => ⟨g, 0, rfl, (Array.getElem?_eq_some_iff.1 hg).1, fun i hi => ?_⟩⟩
    rw [Nat.zero_add, h.cellAt i (by omega)]
    simp [u16s, List.getD, hi]
/-- what stands in the new row after k rounds -/
def tn (zs : List Int) (k : Nat) : List Value := u16s (zs.take k ++ List.replicate (zs.length - k) 0)
theorem tn_len (zs : List Int) (k : Nat) (hk : k ≤ zs.length) : (tn zs k).length = zs.length := by
  unfold tn; simp; omega
theorem tn_end (zs : List Int) : tn zs zs.length = u16s zs := by unfold tn; simp
theorem tn_set (zs : List Int) (k : Nat) (hk : k < zs.length) : (tn zs k).set k (.int .u16 (zs.getD k 0)) = tn zs (k + 1) := by
  unfold tn u16s
  rw [← List.map_set]
  congr 1
  apply List.ext_getElem?
  intro i
  have hr : zs.length - k = (zs.length - (k + 1)) + 1 := by omega
  rw [List.getElem?_set]
  by_cases h1 : i < k
  · rw [if_neg (by omega), List.getElem?_append_left (by simp; omega), List.getElem?_append_left (by simp; omega), List.getElem?_take, List.getElem?_take, if_pos h1, if_pos (by omega)]
  · by_cases h2 : i = k
    · subst h2
      rw [if_pos rfl, if_pos (by simp; omega), List.getElem?_append_left (by simp; omega), List.getElem?_take, if_pos (by omega)]
      simp [List.getD, hk]
    · rw [if_neg (by omega), List.getElem?_append_right (by simp; omega), List.getElem?_append_right (by simp; omega)]
      simp only [List.length_take, Nat.min_eq_left (Nat.le_of_lt hk), Nat.min_eq_left (Nat.succ_le_of_lt hk), List.getElem?_replicate]
      by_cases h3 : i < zs.length
      · rw [if_pos (by omega), if_pos (by omega)]
      · rw [if_neg (by omega), if_neg (by omega)]
theorem grown_of_below {w w' : World} (h : Below w.heap.size w w') (hf : ∀ a, w'.frozen? a = w.frozen? a) : Grown w w' := ⟨h.frame _, hf, h.size⟩

theorem info25 : (Try.prog.info? 39).map (fun i => (i.zero, i.size, i.bytes)) = some (some (.int .u16 0), 1, 2) := by kernel_rfl

set_option maxHeartbeats 1000000 in
def eqB (xs ys : List Int) : Bool := decide (xs = ys)
theorem eqB_len {xs ys : List Int} (h : ¬ xs.length = ys.length) : eqB xs ys = false := by
  unfold eqB; simp; intro e; exact h (by rw [e])
theorem eqB_ne {xs ys : List Int} (k : Nat) (h : ¬ xs.getD k 0 = ys.getD k 0) : eqB xs ys = false := by
  unfold eqB; simp; intro e; exact h (by rw [e])
theorem eqB_all {xs ys : List Int} (hl : xs.length = ys.length) (h : ∀ j, j < xs.length → xs.getD j 0 = ys.getD j 0) : eqB xs ys = true := by
  unfold eqB; simp
  apply List.ext_getElem hl
  intro i h1 h2
  have := h i h1
  simpa [List.getD, h1, h2] using this
theorem eqB_refl (xs : List Int) : eqB xs xs = true := by unfold eqB; simp
theorem all_step {xs ys : List Int} {k : Nat} (h : ∀ j, j < k → xs.getD j 0 = ys.getD j 0) (e : xs.getD k 0 = ys.getD k 0) : ∀ j, j < k + 1 → xs.getD j 0 = ys.getD j 0 := by
  intro j hj
  by_cases h1 : j < k
  · exact h j h1
  · rw [show j = k from by omega]; exact e
end Go.Proofs.Ythhjhfkcgokffaa
