/-
  Texts that are split at a byte.
-/
import Derived.Lib.Split
import Derived.Lib.SplitLaws
import Derived.Lib.CountLaws
namespace Go.Proofs.YthhjhfkcgokffaaDoor
set_option linter.unusedVariables false
open Go.Lib
def spl (b : UInt8) : List UInt8 → List (List UInt8)
  | [] => [[]]
  | c :: r => if c = b then [] :: spl b r else match spl b r with
    | [] => [[c]]
    | x :: xs => (c :: x) :: xs
theorem spl_nil (b : UInt8) : spl b [] = [[]] := by simp [spl]
theorem spl_eq (b : UInt8) (r : List UInt8) : spl b (b :: r) = [] :: spl b r := by simp [spl]
theorem spl_ne {b c : UInt8} (h : c ≠ b) {r : List UInt8} {x : List UInt8} {xs : List (List UInt8)} (e : spl b r = x :: xs) : spl b (c :: r) = (c :: x) :: xs := by simp [spl, h, e]
theorem spl_miss (b : UInt8) : ∀ m : List UInt8, b ∉ m → spl b m = [m] := by
  intro m
  induction m with
  | nil => intro _; exact spl_nil b
  | cons c m ih =>
    intro h
    exact spl_ne (fun e => h (by rw [e]; exact List.mem_cons_self ..)) (ih (fun q => h (List.mem_cons_of_mem _ q)))
theorem spl_hit (b : UInt8) (r : List UInt8) : ∀ m : List UInt8, b ∉ m → spl b (m ++ b :: r) = m :: spl b r := by
  intro m
  induction m with
  | nil => intro _; exact spl_eq b r
  | cons c m ih =>
    intro h
    exact spl_ne (fun e => h (by rw [e]; exact List.mem_cons_self ..)) (ih (fun q => h (List.mem_cons_of_mem _ q)))
theorem spl_length_pos (b : UInt8) (l : List UInt8) : spl b l ≠ [] := by
  cases l with
  | nil => simp [spl]
  | cons c r =>
    by_cases h : c = b
    · rw [h, spl_eq]; simp
    · cases e : spl b r with
      | nil => simp [spl, h, e]
      | cons x xs => rw [spl_ne h e]; simp
theorem pre_one (b c : UInt8) (l : List UInt8) : [b].isPrefixOf (c :: l) = (b == c) := by simp [List.isPrefixOf]
theorem index_miss (b : UInt8) : ∀ l : List UInt8, Lib.index l [b] = -1 → b ∉ l := by
  intro l
  induction l with
  | nil => intro _ h; cases h
  | cons c r ih =>
    intro h hm
    unfold Lib.index at h
    rw [pre_one] at h
    by_cases e : b = c
    · rw [if_pos (by simp [e])] at h; omega
    · rw [if_neg (by simp [e])] at h
      by_cases h2 : Lib.index r [b] = -1
      · rcases List.mem_cons.1 hm with q | q
        · exact e q
        · exact ih h2 q
      · rw [if_neg (by simpa using h2)] at h
        have := Lib.index_ge r [b]
        omega
theorem index_hit (b : UInt8) : ∀ (l : List UInt8) (i : Nat), Lib.index l [b] = i → b ∉ l.take i ∧ l = l.take i ++ b :: l.drop (i + 1) ∧ i < l.length := by
  intro l
  induction l with
  | nil => intro i h; simp [Lib.index] at h
  | cons c r ih =>
    intro i h
    unfold Lib.index at h
    rw [pre_one] at h
    by_cases e : b = c
    · rw [if_pos (by simp [e])] at h
      obtain rfl : i = 0 := by omega
      refine ⟨by simp, by simp [e], by simp⟩
    · rw [if_neg (by simp [e])] at h
      by_cases h2 : Lib.index r [b] = -1
      · rw [if_pos (by simpa using h2)] at h; omega
      · rw [if_neg (by simpa using h2)] at h
        have := Lib.index_ge r [b]
        obtain ⟨j, rfl⟩ : ∃ j, i = j + 1 := ⟨i - 1, by omega⟩
        obtain ⟨h3, h4, h5⟩ := ih j (by omega)
        refine ⟨?_, ?_, by simp; omega⟩
        · rw [List.take_succ_cons]
          intro q
          rcases List.mem_cons.1 q with q | q
          · exact e q
          · exact h3 q
        · rw [List.take_succ_cons, List.drop_succ_cons, List.cons_append, ← h4]
theorem splitK_spl (b : UInt8) : ∀ (n : Nat) (l : List UInt8), l.length ≤ n → splitK [b] 0 (Lib.count l [b]) l = spl b l := by
  intro n
  induction n with
  | zero =>
    intro l h
    obtain rfl : l = [] := List.length_eq_zero_iff.1 (by omega)
    have e : Lib.index ([] : List UInt8) [b] = -1 := by simp [Lib.index]
    rw [count_miss e, spl_nil]; rfl
  | succ n ih =>
    intro l h
    rcases Int.lt_or_le (Lib.index l [b]) 0 with q | q
    · have e : Lib.index l [b] = -1 := by have := Lib.index_ge l [b]; omega
      rw [count_miss e, spl_miss b l (index_miss b l e)]; rfl
    · obtain ⟨i, hi⟩ : ∃ i : Nat, Lib.index l [b] = i := ⟨(Lib.index l [b]).toNat, by omega⟩
      obtain ⟨h1, h2, h3⟩ := index_hit b l i hi
      have hc : Lib.count l [b] = Lib.count (l.drop (i + 1)) [b] + 1 := by
        have := count_hit (s := l) (sub := [b]) (i := i) (by simp) hi
        simp only [List.length_singleton] at this
        omega
      rw [hc]
      unfold splitK
      rw [if_neg (by simp; omega), hi]
      simp only [List.length_singleton, Int.toNat_natCast, Nat.add_zero]
      rw [ih (l.drop (i + 1)) (by rw [List.length_drop]; omega)]
      conv => rhs; rw [h2]
      rw [spl_hit b _ _ h1]
end Go.Proofs.YthhjhfkcgokffaaDoor
