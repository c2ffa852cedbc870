/-
  AddGames: what both sides answer; the model.
-/
import Derived.Test.YtkeliojgldfkkaaHeap2
namespace Go.Proofs.Ytkeliojgldfkkaa
set_option linter.unusedVariables false
set_option linter.unusedSimpArgs false
open Go.ChangeShapes Go.WideShapes Go.ChangeAt Go.RowKit Go.Deep

theorem lastOf_ge {i : Nat} {zs : List Int} (h : rowOk i zs) : ∀ j, j ≤ zs.length → (j : Int) - 1 ≤ lastOf zs j
  | 0, _ => by show (0 : Int) - 1 ≤ -1; omega
  | j + 1, hj => by
    have ih := lastOf_ge h j (by omega)
    have c := (h j (by omega)).1
    show ((j + 1 : Nat) : Int) - 1 ≤ zs.getD j 0
    omega
theorem row_at {i : Nat} {zs : List Int} (h : rowOk i zs) (j : Nat) (hj : j < zs.length) : 0 ≤ zs.getD j 0 ∧ zs.getD j 0 ≤ (i : Int) - 1 := by
  have h1 := lastOf_ge h j (by omega)
  have c := h j hj
  unfold cellOk at c
  omega
theorem row_len {i : Nat} {zs : List Int} (h : rowOk i zs) : zs.length ≤ i := by
  have h1 := lastOf_ge h zs.length (Nat.le_refl _)
  cases e : zs.length with
  | zero => omega
  | succ j =>
    rw [e] at h1
    have c := (row_at h j (by omega)).2
    have : lastOf zs (j + 1) = zs.getD j 0 := rfl
    omega
theorem add_bound1 {n m k i : Nat} {t : Int} (hnm : n * m ≤ 60) (hi : i < n) (hk : k < m) (h0 : 0 ≤ t) (h1 : t ≤ (k : Int) - 1) : 0 ≤ (n : Int) * t ∧ (n : Int) * t ≤ 60 ∧ 0 ≤ (i : Int) + (n : Int) * t ∧ (i : Int) + (n : Int) * t < 60 := by
  obtain ⟨u, rfl⟩ : ∃ u : Nat, t = u := ⟨t.toNat, by omega⟩
  have e : ((n : Int) * (u : Int)) = ((n * u : Nat) : Int) := by simp
  have hm : n * (u + 1) ≤ n * m := Nat.mul_le_mul_left n (by omega)
  rw [Nat.mul_add, Nat.mul_one] at hm
  rw [e]
  omega
theorem add_bound2 {n m k i : Nat} {t : Int} (hnm : n * m ≤ 60) (hi : i < n) (hk : k < m) (h0 : 0 ≤ t) (h1 : t ≤ (i : Int) - 1) : 0 ≤ (n : Int) * (k : Int) ∧ (n : Int) * (k : Int) ≤ 60 ∧ 0 ≤ t + (n : Int) * (k : Int) ∧ t + (n : Int) * (k : Int) < 60 := by
  have e : ((n : Int) * (k : Int)) = ((n * k : Nat) : Int) := by simp
  have hm : n * (k + 1) ≤ n * m := Nat.mul_le_mul_left n (by omega)
  rw [Nat.mul_add, Nat.mul_one] at hm
  rw [e]
  omega
theorem conv8' (x : Int) (h0 : 0 ≤ x) (h1 : x < 60) : IntKind.wrap .i8 x = x := by
  obtain ⟨u, rfl⟩ : ∃ u : Nat, x = u := ⟨x.toNat, by omega⟩
  exact conv8 u (by omega)
theorem getD_get (zs : List Int) (j : Nat) (hj : j < zs.length) : zs.getD j 0 = zs[j] := by simp [List.getD, hj]
/-- the row of the places i, k, while it is being written -/
def rowP (A B : List (List Int)) (k i j1 j2 : Nat) : List Int := (((B.getD k []).take j1).map fun t => (i : Int) + (A.length : Int) * t) ++ (((A.getD i []).take j2).map fun t => t + (A.length : Int) * (k : Int))
theorem rowP_zero (A B : List (List Int)) (k i : Nat) : rowP A B k i 0 0 = [] := by simp [rowP]
theorem take_snoc (zs : List Int) (j : Nat) (hj : j < zs.length) : zs.take (j + 1) = zs.take j ++ [zs.getD j 0] := by
  rw [List.take_succ_eq_append_getElem hj]; simp [List.getD, hj]
theorem rowP_one (A B : List (List Int)) (k i j : Nat) (hj : j < (B.getD k []).length) : i8s (rowP A B k i j 0) ++ [Value.int .i8 ((i : Int) + (A.length : Int) * (B.getD k []).getD j 0)] = i8s (rowP A B k i (j + 1) 0) := by
  unfold rowP
  rw [take_snoc _ j hj]; simp [i8s]
theorem rowP_two (A B : List (List Int)) (k i j1 j : Nat) (hj : j < (A.getD i []).length) : i8s (rowP A B k i j1 j) ++ [Value.int .i8 ((A.getD i []).getD j 0 + (A.length : Int) * (k : Int))] = i8s (rowP A B k i j1 (j + 1)) := by
  unfold rowP
  rw [take_snoc _ j hj]; simp [i8s]
def rowF (A B : List (List Int)) (k i : Nat) : List Int := rowP A B k i (B.getD k []).length (A.getD i []).length
theorem rowP_len (A B : List (List Int)) (k i j1 j2 : Nat) (h1 : j1 ≤ (B.getD k []).length) (h2 : j2 ≤ (A.getD i []).length) : (rowP A B k i j1 j2).length = j1 + j2 := by
  unfold rowP
  rw [List.length_append, List.length_map, List.length_map, List.length_take, List.length_take, Nat.min_eq_left h1, Nat.min_eq_left h2]
theorem rowP_small (A B : List (List Int)) (k i j1 j2 : Nat) (hnm : A.length * B.length ≤ 60) (hi : i < A.length) (hk : k < B.length) (hA : rowOk i (A.getD i [])) (hB : rowOk k (B.getD k [])) : ∀ z ∈ rowP A B k i j1 j2, -128 ≤ z ∧ z < 128 := by
  intro z hz
  unfold rowP at hz
  rcases List.mem_append.1 hz with h | h
  · obtain ⟨t, ht, rfl⟩ := List.mem_map.1 h
    obtain ⟨j, hj, hjt⟩ := List.getElem_of_mem (List.mem_of_mem_take ht)
    have r := row_at hB j hj
    have e : (B.getD k []).getD j 0 = t := by rw [← hjt]; exact getD_get _ j hj
    rw [e] at r
    have := add_bound1 hnm hi hk r.1 r.2
    omega
  · obtain ⟨t, ht, rfl⟩ := List.mem_map.1 h
    obtain ⟨j, hj, hjt⟩ := List.getElem_of_mem (List.mem_of_mem_take ht)
    have r := row_at hA j hj
    have e : (A.getD i []).getD j 0 = t := by rw [← hjt]; exact getD_get _ j hj
    rw [e] at r
    have := add_bound2 hnm hi hk r.1 r.2
    omega
def addL (A B : List (List Int)) (p : Nat) : List (List Int) := (List.range p).map fun p => rowF A B (p / A.length) (p % A.length)
theorem addL_len (A B : List (List Int)) (p : Nat) : (addL A B p).length = p := by simp [addL]
theorem addL_snoc (A B : List (List Int)) (k i : Nat) (hi : i < A.length) : addL A B (k * A.length + i) ++ [rowF A B k i] = addL A B (k * A.length + (i + 1)) := by
  have h1 : (k * A.length + i) / A.length = k := by
    rw [Nat.mul_comm, Nat.mul_add_div (by omega), Nat.div_eq_of_lt hi, Nat.add_zero]
  have h2 : (k * A.length + i) % A.length = i := by
    rw [Nat.mul_comm, Nat.mul_add_mod, Nat.mod_eq_of_lt hi]
  unfold addL
  rw [← Nat.add_assoc, List.range_succ, List.map_append, List.map_singleton, h1, h2]
def badAdd (A B : List (List Int)) : Nat := if validB A = false then 1 else if validB B = false then 1 else if 60 < A.length * B.length then 3 else 0
def addG (A B : List (List Int)) : List (List Int) := if badAdd A B = 0 then addL A B (B.length * A.length) else []
def addC (A B : List (List Int)) : Int := (badAdd A B : Nat)
theorem validB_true {A : List (List Int)} (h : validB A = true) : (1 ≤ A.length ∧ A.length ≤ 60) ∧ ∀ i, i < A.length → rowOk i (A.getD i []) := by
  unfold validB at h
  exact of_decide_eq_true h
theorem sum_bound (gs : List (List Int)) (K : Nat) (h : ∀ i, i < gs.length → (gs.getD i []).length ≤ K) : ∀ t, t ≤ gs.length → sumTo gs t ≤ t * K
  | 0, _ => by simp [sumTo]
  | t + 1, ht => by
    have ih := sum_bound gs K h t (by omega)
    have c := h t (by omega)
    show sumTo gs t + (gs.getD t []).length ≤ (t + 1) * K
    rw [Nat.add_mul, Nat.one_mul]
    omega
theorem addG_total (A B : List (List Int)) : total (addG A B) ≤ 1048576 := by
  unfold addG
  by_cases hb : badAdd A B = 0
  · rw [if_pos hb]
    unfold badAdd at hb
    cases ha : validB A with
    | false => rw [ha] at hb; simp at hb
    | true =>
      cases hb2 : validB B with
      | false => rw [ha, hb2] at hb; simp at hb
      | true =>
        rw [ha, hb2] at hb
        by_cases hnm : 60 < A.length * B.length
        · rw [if_neg (by decide), if_neg (by decide), if_pos hnm] at hb; cases hb
        · obtain ⟨⟨a1, a2⟩, a3⟩ := validB_true ha
          obtain ⟨⟨b1, b2⟩, b3⟩ := validB_true hb2
          have hp : B.length * A.length ≤ 60 := by rw [Nat.mul_comm]; omega
          have hr : ∀ p, p < (addL A B (B.length * A.length)).length → ((addL A B (B.length * A.length)).getD p []).length ≤ 120 := by
            intro p hp
            rw [addL_len] at hp
            have hk : p / A.length < B.length := Nat.div_lt_of_lt_mul (by rw [Nat.mul_comm]; exact hp)
            have hi : p % A.length < A.length := Nat.mod_lt _ (by omega)
            have e : (addL A B (B.length * A.length)).getD p [] = rowF A B (p / A.length) (p % A.length) := by
              unfold addL; exact rangeMap_getD _ _ _ hp
            rw [e]
            unfold rowF
            rw [rowP_len _ _ _ _ _ _ (Nat.le_refl _) (Nat.le_refl _)]
            have l1 := row_len (b3 _ hk)
            have l2 := row_len (a3 _ hi)
            omega
          have h1 := lens_sum (addL A B (B.length * A.length)) (addL A B (B.length * A.length)).length
          have h2 := sum_bound _ 120 hr _ (Nat.le_refl _)
          unfold total
          rw [h1]
          rw [addL_len] at h2 ⊢
          omega
  · rw [if_neg hb]; decide
end Go.Proofs.Ytkeliojgldfkkaa
