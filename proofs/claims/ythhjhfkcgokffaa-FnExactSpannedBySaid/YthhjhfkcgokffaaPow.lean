/-
  Contracts of power, square, root, inverse, order, trace of the program and of the model.
-/
import Derived.Test.YthhjhfkcgokffaaField
namespace Go.Proofs.Ythhjhfkcgokffaa
set_option linter.unusedVariables false
set_option linter.unusedSimpArgs false
open Go.ChangeShapes Go.WideShapes Go.ChangeAt Go.RowKit

/-- the loop of both powers -/
def pwl (out a n : Nat) : Nat := if h : n = 0 then out else pwl (if n % 2 = 1 then Nim.mul out a else out) (Nim.mul a a) (n / 2)
termination_by n
decreasing_by omega
theorem pwl_zero (out a : Nat) : pwl out a 0 = out := by rw [pwl]; rfl
theorem pwl_odd (out a n : Nat) (h : n ≠ 0) (ho : n % 2 = 1) : pwl out a n = pwl (Nim.mul out a) (Nim.mul a a) (n / 2) := by
  rw [pwl, dif_neg h, if_pos ho]
theorem pwl_even (out a n : Nat) (h : n ≠ 0) (ho : n % 2 ≠ 1) : pwl out a n = pwl out (Nim.mul a a) (n / 2) := by
  rw [pwl, dif_neg h, if_neg ho]
def powI (x n : Int) : Int := ((pwl 1 x.toNat n.toNat : Nat) : Int)
/-- the same on whole numbers -/
def pwI (o x n : Int) : Int := ((pwl o.toNat x.toNat n.toNat : Nat) : Int)
theorem pwI_zero (o x n : Int) (o0 : 0 ≤ o) (h : n ≤ 0) : pwI o x n = o := by
  unfold pwI; rw [show n.toNat = 0 from by omega, pwl_zero]; omega
theorem pwI_odd (o x n : Int) (h : 0 < n) (ho : n % 2 = 1) : pwI o x n = pwI (mulI o x) (mulI x x) (n / 2) := by
  unfold pwI; rw [pwl_odd _ _ _ (by omega) (by omega), show (n / 2).toNat = n.toNat / 2 from by omega]; rfl
theorem pwI_even (o x n : Int) (h : 0 < n) (ho : ¬ n % 2 = 1) : pwI o x n = pwI o (mulI x x) (n / 2) := by
  unfold pwI; rw [pwl_even _ _ _ (by omega) (by omega), show (n / 2).toNat = n.toNat / 2 from by omega]; rfl
theorem mulI_b (x y : Int) (x1 : x < 65536) (y1 : y < 65536) : 0 ≤ mulI x y ∧ mulI x y < 65536 := mulI_lt 4 (by decide) 65536 rfl x y x1 y1

theorem and1_i64 (m : Int) (h0 : 0 ≤ m) (h1 : m ≤ 9223372036854775807) : bits .and .i64 m 1 = m % 2 := by
  show IntKind.i64.wrap (((BitVec.ofInt 64 m &&& BitVec.ofInt 64 1).toNat : Nat) : Int) = m % 2
  have e : (BitVec.ofInt 64 m).toNat = m.toNat := by
    rw [BitVec.toNat_ofInt]
    have : m % ((2 ^ 64 : Nat) : Int) = m := Int.emod_eq_of_lt h0 (by omega)
    rw [this]
  rw [BitVec.toNat_and, e, show (BitVec.ofInt 64 1).toNat = 1 from rfl, Nat.and_one_is_mod]
  rw [IntWalk.i64_in _ (by omega)]
  omega
theorem and1_yes (m : Int) (h0 : 0 ≤ m) (h1 : m ≤ 9223372036854775807) (h : m % 2 = 1) : (bits .and .i64 m 1 == 1) = true := by rw [and1_i64 m h0 h1, h]; rfl
theorem and1_no (m : Int) (h0 : 0 ≤ m) (h1 : m ≤ 9223372036854775807) (h : ¬ m % 2 = 1) : (bits .and .i64 m 1 == 1) = false := by
  rw [and1_i64 m h0 h1]; exact beq_eq_false_iff_ne.2 h

theorem square_any (x : Int) (a0 : 0 ≤ x) (a1 : x < 65536) (w : World) :
    Calls Try.prog 174 #[.int .u16 x] w fun e w' => IsV (mulI x x) 65536 e ∧ w = w' := by
  go_enter Try.func174, Try.ntmps174
  go_wp2_with fail
  refine (times_any _ _ (by omega) (by omega) (by omega) (by omega) _).mono ?_
  rintro e w' ⟨⟨v, rfl, hv, v0, v1⟩, rfl⟩
  go_wp2_with fail
  go_ret
  exact ⟨⟨_, rfl, hv, v0, v1⟩, rfl⟩

set_option maxHeartbeats 400000 in
theorem power_any (x n : Int) (x0 : 0 ≤ x) (x1 : x < 65536) (n0 : 0 ≤ n) (n1 : n ≤ 9223372036854775807) (w : World) :
    Calls Try.prog 165 #[.int .u16 x, .int .i64 n] w fun e w' => IsV (pwI 1 x n) 65536 e ∧ w = w' := by
  go_enter Try.func165, Try.ntmps165
  go_wp2_with fail
  go_loop [5, 0, 1] (fun p a k => ∃ o y m : Int, p = .int .u16 o ∧ a = .int .u16 y ∧ k = .int .i64 m ∧ 0 ≤ o ∧ o < 65536 ∧ 0 ≤ y ∧ y < 65536 ∧ 0 ≤ m ∧ m ≤ 9223372036854775807 ∧ Hid (pwI o y m = pwI 1 x n)) (fun _ _ k => (intOf k).toNat)
  case atStart => exact ⟨1, x, n, rfl, rfl, rfl, by omega, by omega, x0, x1, n0, n1, Lib.hid rfl⟩
  case round =>
    obtain ⟨o, y, m, rfl, rfl, rfl, o0, o1, y0, y1, m0, m1, hP⟩ := hrel
    by_cases hm : 0 < m
    · have hm' : decide (0 < m) = true := by simpa using hm
      by_cases ho : m % 2 = 1
      · have ht := and1_yes m m0 m1 ho
        have Ho := Lib.hid ho; clear ho
        go_wp2_with fail
        refine (times_any _ _ o0 o1 y0 y1 _).mono ?_
        rintro e w' ⟨⟨o', rfl, ho', o0', o1'⟩, rfl⟩
        go_wp2_with fail
        refine (square_any _ y0 y1 _).mono ?_
        rintro e w' ⟨⟨y', rfl, hy', y0', y1'⟩, rfl⟩
        go_wp2_with fail
        go_round
        case rel => exact ⟨o', y', m / 2, rfl, rfl, rfl, o0', o1', y0', y1', by omega, by omega, Lib.hid (by rw [ho'.out, hy'.out, ← pwI_odd o y m hm Ho.out]; exact hP.out)⟩
        case measure => simp [intOf]; omega
      · have ht := and1_no m m0 m1 ho
        have Ho := Lib.hid ho; clear ho
        go_wp2_with fail
        refine (square_any _ y0 y1 _).mono ?_
        rintro e w' ⟨⟨y', rfl, hy', y0', y1'⟩, rfl⟩
        go_wp2_with fail
        go_round
        case rel => exact ⟨o, y', m / 2, rfl, rfl, rfl, o0, o1, y0', y1', by omega, by omega, Lib.hid (by rw [hy'.out, ← pwI_even o y m hm Ho.out]; exact hP.out)⟩
        case measure => simp [intOf]; omega
    · have hm' : decide (0 < m) = false := by simp; omega
      go_wp2_with fail
      go_ret
      exact ⟨⟨_, rfl, Lib.hid ((pwI_zero o y m o0 (by omega)).symm.trans hP.out), o0, o1⟩, rfl⟩
set_option maxHeartbeats 400000 in
theorem lpower_any (x n : Int) (x0 : 0 ≤ x) (x1 : x < 65536) (n0 : 0 ≤ n) (n1 : n ≤ 9223372036854775807) (w : World) :
    Calls Try.prog 148 #[.int .u16 x, .int .i64 n] w fun e w' => IsV (pwI 1 x n) 65536 e ∧ w = w' := by
  go_enter Try.func148, Try.ntmps148
  go_wp2_with fail
  go_loop [5, 0, 1] (fun p a k => ∃ o y m : Int, p = .int .u16 o ∧ a = .int .u16 y ∧ k = .int .i64 m ∧ 0 ≤ o ∧ o < 65536 ∧ 0 ≤ y ∧ y < 65536 ∧ 0 ≤ m ∧ m ≤ 9223372036854775807 ∧ Hid (pwI o y m = pwI 1 x n)) (fun _ _ k => (intOf k).toNat)
  case atStart => exact ⟨1, x, n, rfl, rfl, rfl, by omega, by omega, x0, x1, n0, n1, Lib.hid rfl⟩
  case round =>
    obtain ⟨o, y, m, rfl, rfl, rfl, o0, o1, y0, y1, m0, m1, hP⟩ := hrel
    by_cases hm : 0 < m
    · have hm' : decide (0 < m) = true := by simpa using hm
      by_cases ho : m % 2 = 1
      · have ht := (beq_iff_eq.2 ho : (m % 2 == 1) = true)
        have Ho := Lib.hid ho; clear ho
        go_wp2_with fail
        refine (ltimes_any _ _ o0 o1 y0 y1 _).mono ?_
        rintro e w' ⟨⟨o', rfl, ho', o0', o1'⟩, rfl⟩
        go_wp2_with fail
        refine (ltimes_any _ _ y0 y1 y0 y1 _).mono ?_
        rintro e w' ⟨⟨y', rfl, hy', y0', y1'⟩, rfl⟩
        go_wp2_with fail
        go_round
        case rel => exact ⟨o', y', m / 2, rfl, rfl, rfl, o0', o1', y0', y1', by omega, by omega, Lib.hid (by rw [ho'.out, hy'.out, ← pwI_odd o y m hm Ho.out]; exact hP.out)⟩
        case measure => simp [intOf]; omega
      · have ht := (beq_eq_false_iff_ne.2 ho : (m % 2 == 1) = false)
        have Ho := Lib.hid ho; clear ho
        go_wp2_with fail
        refine (ltimes_any _ _ y0 y1 y0 y1 _).mono ?_
        rintro e w' ⟨⟨y', rfl, hy', y0', y1'⟩, rfl⟩
        go_wp2_with fail
        go_round
        case rel => exact ⟨o, y', m / 2, rfl, rfl, rfl, o0, o1, y0', y1', by omega, by omega, Lib.hid (by rw [hy'.out, ← pwI_even o y m hm Ho.out]; exact hP.out)⟩
        case measure => simp [intOf]; omega
    · have hm' : decide (0 < m) = false := by simp; omega
      go_wp2_with fail
      go_ret
      exact ⟨⟨_, rfl, Lib.hid ((pwI_zero o y m o0 (by omega)).symm.trans hP.out), o0, o1⟩, rfl⟩
end Go.Proofs.Ythhjhfkcgokffaa
