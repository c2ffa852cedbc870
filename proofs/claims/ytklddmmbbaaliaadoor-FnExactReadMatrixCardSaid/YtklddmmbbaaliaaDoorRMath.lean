/-
  A matrix that is read: what its text says, row by row.
-/
import Derived.Test.YtklddmmbbaaliaaDoorReads
import Derived.Test.YtklddmmbbaaliaaDoorMTxt
namespace Go.Proofs.YtklddmmbbaaliaaDoor
set_option linter.unusedVariables false
set_option linter.unusedSimpArgs false
open Go.ChangeShapes Go.WideShapes Go.ChangeAt Go.RowKit
/-- the cells of rows of nimbers -/
def grid (uss : List (List Nat)) : Nat → Int := fun s => (((uss.getD (s / 6) []).getD (s % 6) 0 : Nat) : Int)
theorem app_getD (uss : List (List Nat)) (x : List Nat) (i : Nat) : (uss ++ [x]).getD i [] = if i < uss.length then uss.getD i [] else if i = uss.length then x else [] := by
  unfold List.getD
  by_cases h : i < uss.length
  · rw [if_pos h, List.getElem?_append_left h]
  · rw [if_neg h, List.getElem?_append_right (by omega)]
    by_cases h2 : i = uss.length
    · rw [if_pos h2, h2, Nat.sub_self]; rfl
    · rw [if_neg h2, List.getElem?_eq_none (by simp; omega)]; rfl
theorem grid_nil (uss : List (List Nat)) : grid (uss ++ [[]]) = grid uss := by
  funext s
  unfold grid
  rw [app_getD]
  by_cases h : s / 6 < uss.length
  · rw [if_pos h]
  · rw [if_neg h]
    have e : uss.getD (s / 6) [] = [] := by
      unfold List.getD; rw [List.getElem?_eq_none (by omega)]; rfl
    rw [e]
    by_cases h2 : s / 6 = uss.length
    · rw [if_pos h2]
    · rw [if_neg h2]
theorem take_getD (us : List Nat) (q j : Nat) : (us.take q).getD j 0 = if j < q then us.getD j 0 else 0 := by
  unfold List.getD
  rw [List.getElem?_take]
  by_cases h : j < q
  · rw [if_pos h, if_pos h]
  · rw [if_neg h, if_neg h]; rfl
theorem grid_set (uss : List (List Nat)) (us : List Nat) (q : Nat) (h6 : q < 6) : upd (grid (uss ++ [us.take q])) (uss.length * 6 + q) ((us.getD q 0 : Nat) : Int) = grid (uss ++ [us.take (q + 1)]) := by
  funext s
  unfold upd
  by_cases e : s = uss.length * 6 + q
  · rw [if_pos e]
    unfold grid
    have e1 : s / 6 = uss.length := by omega
    have e2 : s % 6 = q := by omega
    rw [e1, e2, app_getD, if_neg (by omega), if_pos rfl, take_getD, if_pos (by omega)]
  · rw [if_neg e]
    unfold grid
    rw [app_getD, app_getD]
    by_cases h : s / 6 < uss.length
    · rw [if_pos h, if_pos h]
    · rw [if_neg h, if_neg h]
      by_cases h2 : s / 6 = uss.length
      · rw [if_pos h2, if_pos h2, take_getD, take_getD]
        by_cases h3 : s % 6 < q
        · rw [if_pos h3, if_pos (by omega)]
        · rw [if_neg h3, if_neg (by omega)]
      · rw [if_neg h2, if_neg h2]
theorem grid_puts (uss : List (List Nat)) (us : List Nat) (h6 : us.length ≤ 6) : puts (grid uss) (uss.length * 6) us.length (fun j => ((us.getD j 0 : Nat) : Int)) = grid (uss ++ [us]) := by
  funext s
  unfold puts
  by_cases e : uss.length * 6 ≤ s ∧ s < uss.length * 6 + us.length
  · rw [if_pos e]
    unfold grid
    have e1 : s / 6 = uss.length := by omega
    have e2 : s % 6 = s - uss.length * 6 := by omega
    rw [e1, e2, app_getD, if_neg (by omega), if_pos rfl]
  · rw [if_neg e]
    unfold grid
    rw [app_getD]
    by_cases h : s / 6 < uss.length
    · rw [if_pos h]
    · rw [if_neg h]
      have e0 : uss.getD (s / 6) [] = [] := by
        unfold List.getD; rw [List.getElem?_eq_none (by omega)]; rfl
      rw [e0]
      by_cases h2 : s / 6 = uss.length
      · rw [if_pos h2]
        have e3 : us.getD (s % 6) 0 = 0 := by
          unfold List.getD; rw [List.getElem?_eq_none (by omega)]; rfl
        rw [e3]; rfl
      · rw [if_neg h2]
theorem grid_small {uss : List (List Nat)} (h : ∀ us ∈ uss, ∀ u ∈ us, u < 65536) (s : Nat) : 0 ≤ grid uss s ∧ grid uss s < 65536 := by
  unfold grid
  refine ⟨by omega, ?_⟩
  by_cases h1 : s / 6 < uss.length
  · have m1 : uss.getD (s / 6) [] ∈ uss := by simp [List.getD, h1]
    obtain ⟨us, hus⟩ : ∃ us, us = uss.getD (s / 6) [] := ⟨_, rfl⟩
    rw [← hus] at m1 ⊢
    by_cases h2 : s % 6 < us.length
    · have m2 : us.getD (s % 6) 0 ∈ us := by simp [List.getD, h2]
      have := h us m1 _ m2
      omega
    · have : us.getD (s % 6) 0 = 0 := by unfold List.getD; rw [List.getElem?_eq_none (by omega)]; rfl
      rw [this]; decide
  · have : uss.getD (s / 6) [] = [] := by unfold List.getD; rw [List.getElem?_eq_none (by omega)]; rfl
    rw [this]
    exact show ((0 : Nat) : Int) < 65536 by decide
/-- the first k rows are read: uss, each of them c nimbers -/
def RMk (ps : List (List UInt8)) (k : Nat) (uss : List (List Nat)) (c : Nat) : Prop :=
  uss.length = k ∧ k ≤ ps.length ∧ (∀ i, i < k → RL (ps.getD i []) (uss.getD i []) ∧ (uss.getD i []).length = c) ∧ (0 < k → 1 ≤ c ∧ c ≤ 6) ∧ (k = 0 → c = 0) ∧ (∀ us ∈ uss, ∀ u ∈ us, u < 65536)
theorem RMk.zero (ps : List (List UInt8)) : RMk ps 0 [] 0 := ⟨rfl, Nat.zero_le _, fun i hi => absurd hi (by omega), fun h => absurd h (by omega), fun _ => rfl, fun us h => by cases h⟩
theorem RMk.step {ps : List (List UInt8)} {k : Nat} {uss : List (List Nat)} {c : Nat} (h : RMk ps k uss c) {us : List Nat} (hk : k < ps.length) (hr : RL (ps.getD k []) us) (h1 : 1 ≤ us.length ∧ us.length ≤ 6) (h2 : 0 < k → us.length = c) (h3 : ∀ u ∈ us, u < 65536) : RMk ps (k + 1) (uss ++ [us]) us.length := by
  obtain ⟨a1, a2, a3, a4, a5, a6⟩ := h
  refine ⟨by simp [a1], by omega, fun i hi => ?_, fun _ => h1, fun h => absurd h (by omega), fun x hx => ?_⟩
  · rw [app_getD, a1]
    by_cases e : i < k
    · rw [if_pos e]
      have := a3 i e
      exact ⟨this.1, this.2.trans (h2 (by omega)).symm⟩
    · obtain rfl : i = k := by omega
      rw [if_neg e, if_pos rfl]
      exact ⟨hr, rfl⟩
  · rcases List.mem_append.1 hx with q | q
    · exact a6 x q
    · simp only [List.mem_singleton] at q; rw [q]; exact h3
theorem RMk.inj {ps : List (List UInt8)} {k : Nat} {uss vss : List (List Nat)} {c d : Nat} (h : RMk ps k uss c) (h' : RMk ps k vss d) : uss = vss ∧ c = d := by
  obtain ⟨a1, a2, a3, a4, a5, a6⟩ := h
  obtain ⟨b1, b2, b3, b4, b5, b6⟩ := h'
  have e : ∀ i, i < k → uss.getD i [] = vss.getD i [] := fun i hi => RL.inj (a3 i hi).1 (b3 i hi).1
  refine ⟨List.ext_getElem (by omega) (fun i h1 h2 => ?_), ?_⟩
  · have := e i (by omega)
    simpa [List.getD, h1, h2] using this
  · by_cases h0 : k = 0
    · rw [a5 h0, b5 h0]
    · rw [← (a3 0 (by omega)).2, ← (b3 0 (by omega)).2, e 0 (by omega)]
theorem RMk.fail {ps : List (List UInt8)} {k : Nat} {uss : List (List Nat)} {c : Nat} (h : RMk ps k uss c) (hk : k < ps.length) (hf : ∀ us, RL (ps.getD k []) us → (1 ≤ us.length ∧ us.length ≤ 6) → 0 < k ∧ us.length ≠ c) : ¬ ∃ vss d, RMk ps ps.length vss d := by
  rintro ⟨vss, d, b1, b2, b3, b4, b5, b6⟩
  obtain ⟨a1, a2, a3, a4, a5, a6⟩ := h
  have h1 := b3 k hk
  have hd := b4 (by omega)
  obtain ⟨q1, q2⟩ := hf _ h1.1 (by rw [h1.2]; exact hd)
  refine q2 ?_
  rw [h1.2, ← (a3 0 q1).2, ← (b3 0 (by omega)).2]
  exact congrArg List.length (RL.inj (b3 0 (by omega)).1 (a3 0 q1).1)
/-- what a text says -/
def RM (l : List UInt8) (uss : List (List Nat)) (c : Nat) : Prop := (spl 59 l).length ≤ 6 ∧ RMk (spl 59 l) (spl 59 l).length uss c
theorem RM.inj {l : List UInt8} {uss vss : List (List Nat)} {c d : Nat} (h : RM l uss c) (h' : RM l vss d) : uss = vss ∧ c = d := h.2.inj h'.2
theorem part_at59 {P : List ByteArray} {l : List UInt8} (h : P.map (·.data.toList) = spl 59 l) {k : Nat} (hk : k < P.length) : k < (spl 59 l).length ∧ (spl 59 l).getD k [] = P[k].data.toList := by
  have hl := congrArg List.length h
  rw [List.length_map] at hl
  refine ⟨by omega, ?_⟩
  rw [← h]
  simp [List.getD, hk]
section
variable {P : Program} {ops : Array Oper} {rest : List Oper} {o : Oper} {a : Act} {w : World} {Q : Exit → Act → World → Prop}
theorem wpList_build1 (hgd : o.guard = none) (ty : TypeId) (x : Operand) (ho : o.op = .build ty #[(0, x)]) (r : Int) (hx : a.eval x = .int .i8 r)
    (hb : ∀ r : Int, P.built ty [(0, .int .i8 r)] = some (CL r 0 fun _ => 0).toArray)
    (h : wpList P ops Q rest (a.put o.dst (MV r 0 fun _ => 0)) w) : wpList P ops Q (o :: rest) a w := by
  refine wpList_build hgd ty #[(0, x)] ho ?_ ?_
  · simp [hx, hb]
  · simpa [hx, hb] using h
end
end Go.Proofs.YtklddmmbbaaliaaDoor
