/-
  Contracts over powers: root, inverse, quotient, order, trace, level, of the program and of the model.
-/
import Derived.Test.YthhjhfkcgokffaaPow
namespace Go.Proofs.Ythhjhfkcgokffaa
set_option linter.unusedVariables false
set_option linter.unusedSimpArgs false
open Go.ChangeShapes Go.WideShapes Go.ChangeAt Go.RowKit

theorem inverse_any (x : Int) (x0 : 0 ≤ x) (x1 : x < 65536) (w : World) :
    Calls Try.prog 149 #[.int .u16 x] w fun e w' => IsV (pwI 1 x 65534) 65536 e ∧ w = w' := by
  go_enter Try.func149, Try.ntmps149
  go_wp2_with fail
  refine (power_any _ _ x0 x1 (by omega) (by omega) _).mono ?_
  rintro e w' ⟨⟨v, rfl, hv, v_0, v_1⟩, rfl⟩
  go_wp2_with fail
  go_ret
  exact ⟨⟨v, rfl, hv, v_0, v_1⟩, rfl⟩

theorem linverse_any (x : Int) (x0 : 0 ≤ x) (x1 : x < 65536) (w : World) :
    Calls Try.prog 122 #[.int .u16 x] w fun e w' => IsV (pwI 1 x 65534) 65536 e ∧ w = w' := by
  go_enter Try.func122, Try.ntmps122
  go_wp2_with fail
  refine (lpower_any _ _ x0 x1 (by omega) (by omega) _).mono ?_
  rintro e w' ⟨⟨v, rfl, hv, v_0, v_1⟩, rfl⟩
  go_wp2_with fail
  go_ret
  exact ⟨⟨v, rfl, hv, v_0, v_1⟩, rfl⟩

/-- a pair of a number and a code -/
def IsVC (V : Int) (c : Int) (e : Ending) : Prop := ∃ v, e = .returned (.tuple #[.int .u16 v, .int .i64 c]) ∧ Hid (v = V) ∧ 0 ≤ v ∧ v < 65536
theorem beq0_no {x : Int} (h : ¬ x = 0) : (x == 0) = false := beq_eq_false_iff_ne.2 h
theorem beq0_yes {x : Int} (h : x = 0) : (x == 0) = true := beq_iff_eq.2 h

theorem impl_OverNim (x y : Int) (x0 : 0 ≤ x) (x1 : x < 65536) (y0 : 0 ≤ y) (y1 : y < 65536) (hy : ¬ y = 0) (w : World) :
    Calls Try.prog 151 #[.int .u16 x, .int .u16 y] w fun e w' => IsVC (mulI x (pwI 1 y 65534)) 0 e ∧ w = w' := by
  have t := beq0_no hy
  have Hy := Lib.hid hy; clear hy
  go_enter Try.func151, Try.ntmps151
  go_wp2_with fail
  refine (inverse_any _ y0 y1 _).mono ?_
  rintro e w' ⟨⟨i, rfl, hi, i_0, i_1⟩, rfl⟩
  go_wp2_with fail
  refine (times_any _ _ x0 x1 i_0 i_1 _).mono ?_
  rintro e w' ⟨⟨v, rfl, hv, v_0, v_1⟩, rfl⟩
  rw [hi.out] at hv
  go_wp2_with fail
  go_ret2
  exact ⟨⟨v, rfl, hv, v_0, v_1⟩, rfl⟩

theorem impl_OverNim0 (x y : Int) (hy : y = 0) (w : World) :
    Calls Try.prog 151 #[.int .u16 x, .int .u16 y] w fun e w' => IsVC (0) 4 e ∧ w = w' := by
  have t := beq0_yes hy
  have Hy := Lib.hid hy; clear hy
  go_enter Try.func151, Try.ntmps151
  go_wp2_with fail
  go_ret2
  exact ⟨⟨0, rfl, Lib.hid rfl, by omega, by omega⟩, rfl⟩

def inB (n lo hi : Int) : Bool := decide (lo ≤ n ∧ n ≤ hi)
theorem l00In_any (n lo hi : Int) (w : World) : Calls Try.prog 89 #[.int .i64 n, .int .i64 lo, .int .i64 hi] w fun e w' => e = .returned (.bool (inB n lo hi)) ∧ w = w' := by
  by_cases h1 : lo ≤ n <;> by_cases h2 : n ≤ hi
  · have e : inB n lo hi = true := by unfold inB; simp [h1, h2]
    rw [e]; clear e
    have t1 : decide (lo ≤ n) = true := by simpa using h1
    have t2 : decide (n ≤ hi) = true := by simpa using h2
    go_enter Try.func89, Try.ntmps89
    go_wp2_with fail
    go_ret
    exact ⟨rfl, rfl⟩
  · have e : inB n lo hi = false := by unfold inB; simp [h2]
    rw [e]; clear e
    have t1 : decide (lo ≤ n) = true := by simpa using h1
    have t2 : decide (n ≤ hi) = false := by simpa using h2
    go_enter Try.func89, Try.ntmps89
    go_wp2_with fail
    go_ret
    exact ⟨rfl, rfl⟩
  · have e : inB n lo hi = false := by unfold inB; simp [h1]
    rw [e]; clear e
    have t1 : decide (lo ≤ n) = false := by simpa using h1
    go_enter Try.func89, Try.ntmps89
    go_wp2_with fail
    go_ret
    exact ⟨rfl, rfl⟩
  · have e : inB n lo hi = false := by unfold inB; simp [h1]
    rw [e]; clear e
    have t1 : decide (lo ≤ n) = false := by simpa using h1
    go_enter Try.func89, Try.ntmps89
    go_wp2_with fail
    go_ret
    exact ⟨rfl, rfl⟩

/-- the loop of both traces -/
def trL : Nat → Int → Int → Int
  | 0, s, _ => s
  | k + 1, s, y => trL k (xorI s y) (mulI y y)
theorem trL_step (i : Nat) (s y : Int) (h : i < 16) : trL (16 - i) s y = trL (16 - (i + 1)) (xorI s y) (mulI y y) := by
  obtain ⟨k, hk⟩ : ∃ k, 16 - i = k + 1 := ⟨15 - i, by omega⟩
  rw [hk, show 16 - (i + 1) = k from by omega]; rfl

set_option maxHeartbeats 400000 in
set_option maxHeartbeats 400000 in
theorem pwl_lt : ∀ (N n : Nat), n ≤ N → ∀ o a : Nat, o < 65536 → a < 65536 → pwl o a n < 65536 := by
  intro N
  induction N with
  | zero => intro n hn o a ho _; rw [show n = 0 from by omega, pwl_zero]; exact ho
  | succ N ih =>
    intro n hn o a ho ha
    have hm := Nim.mul_lt 4 (by decide) 65536 rfl (a := a) (b := a) ha ha
    by_cases h : n = 0
    · rw [h, pwl_zero]; exact ho
    · by_cases h2 : n % 2 = 1
      · rw [pwl_odd o a n h h2]; exact ih _ (by omega) _ _ (Nim.mul_lt 4 (by decide) 65536 rfl ho ha) hm
      · rw [pwl_even o a n h h2]; exact ih _ (by omega) _ _ ho hm
theorem pwI_b (x n : Int) (x1 : x < 65536) : 0 ≤ pwI 1 x n ∧ pwI 1 x n < 65536 := by
  have := pwl_lt n.toNat n.toNat (Nat.le_refl _) (1 : Int).toNat x.toNat (by decide) (by omega)
  unfold pwI
  exact ⟨by omega, by omega⟩
theorem mulI_one (x : Int) (x0 : 0 ≤ x) (x1 : x < 65536) : mulI 1 x = x := by
  have := times_small 1 x (by omega) (by omega) x0 x1 (Or.inl (by omega))
  rw [← this]; omega
end Go.Proofs.Ythhjhfkcgokffaa
