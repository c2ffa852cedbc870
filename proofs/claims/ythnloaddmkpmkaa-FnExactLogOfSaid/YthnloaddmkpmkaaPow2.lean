/-
  Contracts over powers: root, inverse, quotient, order, trace, level, of the program and of the model.
-/
import Derived.Test.YthnloaddmkpmkaaPow
namespace Go.Proofs.Ythnloaddmkpmkaa
set_option linter.unusedVariables false
set_option linter.unusedSimpArgs false
open Go.ChangeShapes Go.WideShapes Go.ChangeAt Go.RowKit

theorem root_any (x : Int) (x0 : 0 ≤ x) (x1 : x < 65536) (w : World) :
    Calls Try.prog 78 #[.int .u16 x] w fun e w' => IsV (pwI 1 x 32768) 65536 e ∧ w = w' := by
  go_enter Try.func78, Try.ntmps78
  go_wp2_with fail
  refine (power_any _ _ x0 x1 (by omega) (by omega) _).mono ?_
  rintro e w' ⟨⟨v, rfl, hv, v_0, v_1⟩, rfl⟩
  go_wp2_with fail
  go_ret
  exact ⟨⟨v, rfl, hv, v_0, v_1⟩, rfl⟩

theorem inverse_any (x : Int) (x0 : 0 ≤ x) (x1 : x < 65536) (w : World) :
    Calls Try.prog 80 #[.int .u16 x] w fun e w' => IsV (pwI 1 x 65534) 65536 e ∧ w = w' := by
  go_enter Try.func80, Try.ntmps80
  go_wp2_with fail
  refine (power_any _ _ x0 x1 (by omega) (by omega) _).mono ?_
  rintro e w' ⟨⟨v, rfl, hv, v_0, v_1⟩, rfl⟩
  go_wp2_with fail
  go_ret
  exact ⟨⟨v, rfl, hv, v_0, v_1⟩, rfl⟩

theorem linverse_any (x : Int) (x0 : 0 ≤ x) (x1 : x < 65536) (w : World) :
    Calls Try.prog 79 #[.int .u16 x] w fun e w' => IsV (pwI 1 x 65534) 65536 e ∧ w = w' := by
  go_enter Try.func79, Try.ntmps79
  go_wp2_with fail
  refine (lpower_any _ _ x0 x1 (by omega) (by omega) _).mono ?_
  rintro e w' ⟨⟨v, rfl, hv, v_0, v_1⟩, rfl⟩
  go_wp2_with fail
  go_ret
  exact ⟨⟨v, rfl, hv, v_0, v_1⟩, rfl⟩

theorem impl_RootOf (x : Int) (x0 : 0 ≤ x) (x1 : x < 65536) (w : World) :
    Calls Try.prog 35 #[.int .u16 x] w fun e w' => IsV (pwI 1 x 32768) 65536 e ∧ w = w' := by
  go_enter Try.func35, Try.ntmps35
  go_wp2_with fail
  refine (root_any _ x0 x1 _).mono ?_
  rintro e w' ⟨⟨v, rfl, hv, v_0, v_1⟩, rfl⟩
  go_wp2_with fail
  go_ret
  exact ⟨⟨v, rfl, hv, v_0, v_1⟩, rfl⟩

theorem spec_RootOf (x : Int) (x0 : 0 ≤ x) (x1 : x < 65536) (w : World) :
    Calls Try.prog 34 #[.int .u16 x] w fun e w' => IsV (pwI 1 x 32768) 65536 e ∧ w = w' := by
  go_enter Try.func34, Try.ntmps34
  go_wp2_with fail
  refine (lpower_any _ _ x0 x1 (by omega) (by omega) _).mono ?_
  rintro e w' ⟨⟨v, rfl, hv, v_0, v_1⟩, rfl⟩
  go_wp2_with fail
  go_ret
  exact ⟨⟨v, rfl, hv, v_0, v_1⟩, rfl⟩

theorem impl_SquareOf (x : Int) (x0 : 0 ≤ x) (x1 : x < 65536) (w : World) :
    Calls Try.prog 33 #[.int .u16 x] w fun e w' => IsV (mulI x x) 65536 e ∧ w = w' := by
  go_enter Try.func33, Try.ntmps33
  go_wp2_with fail
  refine (square_any _ x0 x1 _).mono ?_
  rintro e w' ⟨⟨v, rfl, hv, v_0, v_1⟩, rfl⟩
  go_wp2_with fail
  go_ret
  exact ⟨⟨v, rfl, hv, v_0, v_1⟩, rfl⟩

theorem spec_SquareOf (x : Int) (x0 : 0 ≤ x) (x1 : x < 65536) (w : World) :
    Calls Try.prog 32 #[.int .u16 x] w fun e w' => IsV (mulI x x) 65536 e ∧ w = w' := by
  go_enter Try.func32, Try.ntmps32
  go_wp2_with fail
  refine (ltimes_any _ _ x0 x1 x0 x1 _).mono ?_
  rintro e w' ⟨⟨v, rfl, hv, v_0, v_1⟩, rfl⟩
  go_wp2_with fail
  go_ret
  exact ⟨⟨v, rfl, hv, v_0, v_1⟩, rfl⟩

/-- a pair of a number and a code -/
def IsVC (V : Int) (c : Int) (e : Ending) : Prop := ∃ v, e = .returned (.tuple #[.int .u16 v, .int .i64 c]) ∧ Hid (v = V) ∧ 0 ≤ v ∧ v < 65536
theorem beq0_no {x : Int} (h : ¬ x = 0) : (x == 0) = false := beq_eq_false_iff_ne.2 h
theorem beq0_yes {x : Int} (h : x = 0) : (x == 0) = true := beq_iff_eq.2 h

theorem impl_OverNim (x y : Int) (x0 : 0 ≤ x) (x1 : x < 65536) (y0 : 0 ≤ y) (y1 : y < 65536) (hy : ¬ y = 0) (w : World) :
    Calls Try.prog 39 #[.int .u16 x, .int .u16 y] w fun e w' => IsVC (mulI x (pwI 1 y 65534)) 0 e ∧ w = w' := by
  have t := beq0_no hy
  have Hy := Lib.hid hy; clear hy
  go_enter Try.func39, Try.ntmps39
  go_wp2_with fail
  refine (inverse_any _ y0 y1 _).mono ?_
  rintro e w' ⟨⟨i, rfl, hi, i_0, i_1⟩, rfl⟩
  go_wp2_with fail
  refine (times_any _ _ x0 x1 i_0 i_1 _).mono ?_
  rintro e w' ⟨⟨v, rfl, hv, v_0, v_1⟩, rfl⟩
  rw [hi.out] at hv
  go_wp2_with fail
  go_ret2
  exact ⟨⟨v, rfl, hv, v_0, v_1⟩, rfl⟩

theorem impl_OverNim0 (x y : Int) (hy : y = 0) (w : World) :
    Calls Try.prog 39 #[.int .u16 x, .int .u16 y] w fun e w' => IsVC (0) 4 e ∧ w = w' := by
  have t := beq0_yes hy
  have Hy := Lib.hid hy; clear hy
  go_enter Try.func39, Try.ntmps39
  go_wp2_with fail
  go_ret2
  exact ⟨⟨0, rfl, Lib.hid rfl, by omega, by omega⟩, rfl⟩

theorem spec_OverNim (x y : Int) (x0 : 0 ≤ x) (x1 : x < 65536) (y0 : 0 ≤ y) (y1 : y < 65536) (hy : ¬ y = 0) (w : World) :
    Calls Try.prog 38 #[.int .u16 x, .int .u16 y] w fun e w' => IsVC (mulI x (pwI 1 y 65534)) 0 e ∧ w = w' := by
  have t := beq0_no hy
  have Hy := Lib.hid hy; clear hy
  go_enter Try.func38, Try.ntmps38
  go_wp2_with fail
  refine (linverse_any _ y0 y1 _).mono ?_
  rintro e w' ⟨⟨i, rfl, hi, i_0, i_1⟩, rfl⟩
  go_wp2_with fail
  refine (ltimes_any _ _ x0 x1 i_0 i_1 _).mono ?_
  rintro e w' ⟨⟨v, rfl, hv, v_0, v_1⟩, rfl⟩
  rw [hi.out] at hv
  go_wp2_with fail
  go_ret2
  exact ⟨⟨v, rfl, hv, v_0, v_1⟩, rfl⟩

theorem spec_OverNim0 (x y : Int) (hy : y = 0) (w : World) :
    Calls Try.prog 38 #[.int .u16 x, .int .u16 y] w fun e w' => IsVC (0) 4 e ∧ w = w' := by
  have t := beq0_yes hy
  have Hy := Lib.hid hy; clear hy
  go_enter Try.func38, Try.ntmps38
  go_wp2_with fail
  go_ret2
  exact ⟨⟨0, rfl, Lib.hid rfl, by omega, by omega⟩, rfl⟩

theorem impl_InverseOf (x : Int) (x0 : 0 ≤ x) (x1 : x < 65536) (hx : ¬ x = 0) (w : World) :
    Calls Try.prog 37 #[.int .u16 x] w fun e w' => IsVC (mulI 1 (pwI 1 x 65534)) 0 e ∧ w = w' := by
  go_enter Try.func37, Try.ntmps37
  go_wp2_with fail
  refine (impl_OverNim _ _ (by omega) (by omega) x0 x1 hx _).mono ?_
  rintro e w' ⟨⟨v, rfl, hv, v_0, v_1⟩, rfl⟩
  go_wp2_with fail
  go_ret2
  exact ⟨⟨v, rfl, hv, v_0, v_1⟩, rfl⟩

theorem impl_InverseOf0 (x : Int) (hx : x = 0) (w : World) :
    Calls Try.prog 37 #[.int .u16 x] w fun e w' => IsVC (0) 4 e ∧ w = w' := by
  have Hx := Lib.hid hx; clear hx
  go_enter Try.func37, Try.ntmps37
  go_wp2_with fail
  refine (impl_OverNim0 _ _ Hx.out _).mono ?_
  rintro e w' ⟨⟨v, rfl, hv, v_0, v_1⟩, rfl⟩
  go_wp2_with fail
  go_ret2
  exact ⟨⟨v, rfl, hv, v_0, v_1⟩, rfl⟩

theorem spec_InverseOf (x : Int) (x0 : 0 ≤ x) (x1 : x < 65536) (hx : ¬ x = 0) (w : World) :
    Calls Try.prog 36 #[.int .u16 x] w fun e w' => IsVC (pwI 1 x 65534) 0 e ∧ w = w' := by
  have t := beq0_no hx
  have Hx := Lib.hid hx; clear hx
  go_enter Try.func36, Try.ntmps36
  go_wp2_with fail
  refine (linverse_any _ x0 x1 _).mono ?_
  rintro e w' ⟨⟨v, rfl, hv, v_0, v_1⟩, rfl⟩
  go_wp2_with fail
  go_ret2
  exact ⟨⟨v, rfl, hv, v_0, v_1⟩, rfl⟩

theorem spec_InverseOf0 (x : Int) (hx : x = 0) (w : World) :
    Calls Try.prog 36 #[.int .u16 x] w fun e w' => IsVC (0) 4 e ∧ w = w' := by
  have t := beq0_yes hx
  have Hx := Lib.hid hx; clear hx
  go_enter Try.func36, Try.ntmps36
  go_wp2_with fail
  go_ret2
  exact ⟨⟨0, rfl, Lib.hid rfl, by omega, by omega⟩, rfl⟩

theorem impl_PowerOf (x n : Int) (x0 : 0 ≤ x) (x1 : x < 65536) (n0 : 0 ≤ n) (n1 : n ≤ 1099511627776) (w : World) :
    Calls Try.prog 41 #[.int .u16 x, .int .i64 n] w fun e w' => IsVC (pwI 1 x n) 0 e ∧ w = w' := by
  have t1 : decide (n < 0) = false := by simp; omega
  have t2 : decide (1099511627776 < n) = false := by simp; omega
  go_enter Try.func41, Try.ntmps41
  go_wp2_with fail
  refine (power_any _ _ x0 x1 (by omega) (by omega) _).mono ?_
  rintro e w' ⟨⟨v, rfl, hv, v_0, v_1⟩, rfl⟩
  go_wp2_with fail
  go_ret2
  exact ⟨⟨v, rfl, hv, v_0, v_1⟩, rfl⟩

theorem impl_PowerOf0 (x n : Int) (h : n < 0) (w : World) :
    Calls Try.prog 41 #[.int .u16 x, .int .i64 n] w fun e w' => IsVC (0) 2 e ∧ w = w' := by
  have t1 : decide (n < 0) = true := by simpa using h
  go_enter Try.func41, Try.ntmps41
  go_wp2_with fail
  go_ret2
  exact ⟨⟨0, rfl, Lib.hid rfl, by omega, by omega⟩, rfl⟩

theorem impl_PowerOf1 (x n : Int) (h : 1099511627776 < n) (w : World) :
    Calls Try.prog 41 #[.int .u16 x, .int .i64 n] w fun e w' => IsVC (0) 2 e ∧ w = w' := by
  have t1 : decide (n < 0) = false := by simp; omega
  have t2 : decide (1099511627776 < n) = true := by simpa using h
  go_enter Try.func41, Try.ntmps41
  go_wp2_with fail
  go_ret2
  exact ⟨⟨0, rfl, Lib.hid rfl, by omega, by omega⟩, rfl⟩

def inB (n lo hi : Int) : Bool := decide (lo ≤ n ∧ n ≤ hi)
theorem l00In_any (n lo hi : Int) (w : World) : Calls Try.prog 70 #[.int .i64 n, .int .i64 lo, .int .i64 hi] w fun e w' => e = .returned (.bool (inB n lo hi)) ∧ w = w' := by
  by_cases h1 : lo ≤ n <;> by_cases h2 : n ≤ hi
  · have e : inB n lo hi = true := by unfold inB; simp [h1, h2]
    rw [e]; clear e
    have t1 : decide (lo ≤ n) = true := by simpa using h1
    have t2 : decide (n ≤ hi) = true := by simpa using h2
    go_enter Try.func70, Try.ntmps70
    go_wp2_with fail
    go_ret
    exact ⟨rfl, rfl⟩
  · have e : inB n lo hi = false := by unfold inB; simp [h2]
    rw [e]; clear e
    have t1 : decide (lo ≤ n) = true := by simpa using h1
    have t2 : decide (n ≤ hi) = false := by simpa using h2
    go_enter Try.func70, Try.ntmps70
    go_wp2_with fail
    go_ret
    exact ⟨rfl, rfl⟩
  · have e : inB n lo hi = false := by unfold inB; simp [h1]
    rw [e]; clear e
    have t1 : decide (lo ≤ n) = false := by simpa using h1
    go_enter Try.func70, Try.ntmps70
    go_wp2_with fail
    go_ret
    exact ⟨rfl, rfl⟩
  · have e : inB n lo hi = false := by unfold inB; simp [h1]
    rw [e]; clear e
    have t1 : decide (lo ≤ n) = false := by simpa using h1
    go_enter Try.func70, Try.ntmps70
    go_wp2_with fail
    go_ret
    exact ⟨rfl, rfl⟩

theorem spec_PowerOf (x n : Int) (x0 : 0 ≤ x) (x1 : x < 65536) (n0 : 0 ≤ n) (n1 : n ≤ 1099511627776) (w : World) :
    Calls Try.prog 40 #[.int .u16 x, .int .i64 n] w fun e w' => IsVC (pwI 1 x n) 0 e ∧ w = w' := by
  have hb : inB n 0 1099511627776 = true := by unfold inB; simp; omega
  have Hb := Lib.hid hb; clear hb
  go_enter Try.func40, Try.ntmps40
  go_wp2_with fail
  refine (l00In_any _ _ _ _).mono ?_
  rintro e w' ⟨rfl, rfl⟩
  rw [Hb.out]
  go_wp2_with fail
  refine (lpower_any _ _ x0 x1 (by omega) (by omega) _).mono ?_
  rintro e w' ⟨⟨v, rfl, hv, v_0, v_1⟩, rfl⟩
  go_wp2_with fail
  go_ret2
  exact ⟨⟨v, rfl, hv, v_0, v_1⟩, rfl⟩

theorem spec_PowerOf0 (x n : Int) (h : n < 0 ∨ 1099511627776 < n) (w : World) :
    Calls Try.prog 40 #[.int .u16 x, .int .i64 n] w fun e w' => IsVC (0) 2 e ∧ w = w' := by
  have hb : inB n 0 1099511627776 = false := by unfold inB; simp; omega
  have Hb := Lib.hid hb; clear hb
  go_enter Try.func40, Try.ntmps40
  go_wp2_with fail
  refine (l00In_any _ _ _ _).mono ?_
  rintro e w' ⟨rfl, rfl⟩
  rw [Hb.out]
  go_wp2_with fail
  go_ret2
  exact ⟨⟨0, rfl, Lib.hid rfl, by omega, by omega⟩, rfl⟩

set_option maxHeartbeats 400000 in
theorem llevel_any (x : Int) (h0 : 0 ≤ x) (h1 : x < 65536) (w : World) : Calls Try.prog 74 #[.int .u16 x] w fun e w' => e = .returned (.int .i64 (lev x.toNat)) ∧ w = w' := by
  go_enter Try.func74, Try.ntmps74
  go_wp2
  go_rounds 5
  all_goals
    go_ret
    refine ⟨?_, rfl⟩
  · rw [show lev x.toNat = 4 from by unfold lev; (repeat' split) <;> omega]; rfl
  · rw [show lev x.toNat = 3 from by unfold lev; (repeat' split) <;> omega]; rfl
  · rw [show lev x.toNat = 2 from by unfold lev; (repeat' split) <;> omega]; rfl
  · rw [show lev x.toNat = 1 from by unfold lev; (repeat' split) <;> omega]; rfl
  · rw [show lev x.toNat = 0 from by unfold lev; (repeat' split) <;> omega]; rfl

/-- the loop of both traces -/
def trL : Nat → Int → Int → Int
  | 0, s, _ => s
  | k + 1, s, y => trL k (xorI s y) (mulI y y)
theorem trL_step (i : Nat) (s y : Int) (h : i < 16) : trL (16 - i) s y = trL (16 - (i + 1)) (xorI s y) (mulI y y) := by
  obtain ⟨k, hk⟩ : ∃ k, 16 - i = k + 1 := ⟨15 - i, by omega⟩
  rw [hk, show 16 - (i + 1) = k from by omega]; rfl

set_option maxHeartbeats 400000 in
theorem impl_TraceOf (x : Int) (x0 : 0 ≤ x) (x1 : x < 65536) (w : World) :
    Calls Try.prog 45 #[.int .u16 x] w fun e w' => IsV (trL 16 0 x) 65536 e ∧ w = w' := by
  go_enter Try.func45, Try.ntmps45
  go_wp2_with fail
  go_loop [3, 0, 4] (fun s a k => ∃ (t y : Int) (i : Nat), s = .int .u16 t ∧ a = .int .u16 y ∧ k = .int .i64 i ∧ i ≤ 16 ∧ 0 ≤ t ∧ t < 65536 ∧ 0 ≤ y ∧ y < 65536 ∧ Hid (trL (16 - i) t y = trL 16 0 x)) (fun _ _ k => 16 - (intOf k).toNat)
  case atStart => exact ⟨0, x, 0, rfl, rfl, rfl, by omega, by omega, by omega, x0, x1, Lib.hid rfl⟩
  case round =>
    obtain ⟨t, y, i, rfl, rfl, rfl, hi, t0, t1, y0, y1, hP⟩ := hrel
    by_cases hlt : i < 16
    · have hst := Lib.hid (trL_step i t y hlt)
      go_wp2_with fail
      refine (plus_any 65536 (by decide) _ _ t0 t1 y0 y1 _).mono ?_
      rintro e w' ⟨⟨t', rfl, ht', t'_0, t'_1⟩, rfl⟩
      go_wp2_with fail
      refine (square_any _ y0 y1 _).mono ?_
      rintro e w' ⟨⟨y', rfl, hy', y'_0, y'_1⟩, rfl⟩
      go_wp2_with fail
      go_round
      case rel => exact ⟨t', y', i + 1, rfl, rfl, by go_num, by omega, t'_0, t'_1, y'_0, y'_1, Lib.hid (by rw [ht'.out, hy'.out, ← hst.out]; exact hP.out)⟩
      case measure => simp [intOf]; omega
    · go_wp2_with fail
      go_ret
      have e : i = 16 := by omega
      refine ⟨⟨t, rfl, Lib.hid ?_, t0, t1⟩, rfl⟩
      rw [← hP.out, e]; rfl

set_option maxHeartbeats 400000 in
theorem ltrace_any (x : Int) (x0 : 0 ≤ x) (x1 : x < 65536) (w : World) :
    Calls Try.prog 84 #[.int .u16 x] w fun e w' => IsV (trL 16 0 x) 65536 e ∧ w = w' := by
  go_enter Try.func84, Try.ntmps84
  go_wp2_with fail
  go_loop [3, 0, 4] (fun s a k => ∃ (t y : Int) (i : Nat), s = .int .u16 t ∧ a = .int .u16 y ∧ k = .int .i64 i ∧ i ≤ 16 ∧ 0 ≤ t ∧ t < 65536 ∧ 0 ≤ y ∧ y < 65536 ∧ Hid (trL (16 - i) t y = trL 16 0 x)) (fun _ _ k => 16 - (intOf k).toNat)
  case atStart => exact ⟨0, x, 0, rfl, rfl, rfl, by omega, by omega, by omega, x0, x1, Lib.hid rfl⟩
  case round =>
    obtain ⟨t, y, i, rfl, rfl, rfl, hi, t0, t1, y0, y1, hP⟩ := hrel
    by_cases hlt : i < 16
    · have hst := Lib.hid (trL_step i t y hlt)
      go_wp2_with fail
      have HX := Lib.hid (bits_xor t y t0 t1 y0 y1)
      have HB := Lib.hid (xorI_lt 65536 (by decide) t y t1 y1)
      refine (ltimes_any _ _ y0 y1 y0 y1 _).mono ?_
      rintro e w' ⟨⟨y', rfl, hy', y'_0, y'_1⟩, rfl⟩
      go_wp2_with fail
      go_round
      case rel => exact ⟨_, y', i + 1, rfl, rfl, by go_num, by omega, by rw [HX.out]; exact HB.out.1, by rw [HX.out]; exact HB.out.2, y'_0, y'_1, Lib.hid (by rw [HX.out, hy'.out, ← hst.out]; exact hP.out)⟩
      case measure => simp [intOf]; omega
    · go_wp2_with fail
      go_ret
      have e : i = 16 := by omega
      refine ⟨⟨t, rfl, Lib.hid ?_, t0, t1⟩, rfl⟩
      rw [← hP.out, e]; rfl

theorem spec_TraceOf (x : Int) (x0 : 0 ≤ x) (x1 : x < 65536) (w : World) :
    Calls Try.prog 44 #[.int .u16 x] w fun e w' => IsV (trL 16 0 x) 65536 e ∧ w = w' := by
  go_enter Try.func44, Try.ntmps44
  go_wp2_with fail
  refine (ltrace_any _ x0 x1 _).mono ?_
  rintro e w' ⟨⟨v, rfl, hv, v_0, v_1⟩, rfl⟩
  go_wp2_with fail
  go_ret
  exact ⟨⟨v, rfl, hv, v_0, v_1⟩, rfl⟩

theorem impl_LevelOf (x : Int) (x0 : 0 ≤ x) (x1 : x < 65536) (w : World) :
    Calls Try.prog 31 #[.int .u16 x] w fun e w' => e = .returned (.int .i64 (lev x.toNat)) ∧ w = w' := by
  go_enter Try.func31, Try.ntmps31
  go_wp2_with fail
  refine (level_any _ x0 x1 _).mono ?_
  rintro e w' ⟨rfl, rfl⟩
  go_wp2_with fail
  go_ret
  exact ⟨rfl, rfl⟩

theorem spec_LevelOf (x : Int) (x0 : 0 ≤ x) (x1 : x < 65536) (w : World) :
    Calls Try.prog 30 #[.int .u16 x] w fun e w' => e = .returned (.int .i64 (lev x.toNat)) ∧ w = w' := by
  go_enter Try.func30, Try.ntmps30
  go_wp2_with fail
  refine (llevel_any _ x0 x1 _).mono ?_
  rintro e w' ⟨rfl, rfl⟩
  go_wp2_with fail
  go_ret
  exact ⟨rfl, rfl⟩

theorem pwl_lt : ∀ (N n : Nat), n ≤ N → ∀ o a : Nat, o < 65536 → a < 65536 → pwl o a n < 65536 := by
  intro N
  induction N with
  | zero => intro n hn o a ho _; rw [show n = 0 from by omega, pwl_zero]; exact ho
  | succ N ih =>
    intro n hn o a ho ha
    have hm := Nim.mul_lt 4 (by decide) 65536 rfl (a := a) (b := a) ha ha
    by_cases h : n = 0
    · rw [h, pwl_zero]; exact ho
    · by_cases h2 : n % 2 = 1
      · rw [pwl_odd o a n h h2]; exact ih _ (by omega) _ _ (Nim.mul_lt 4 (by decide) 65536 rfl ho ha) hm
      · rw [pwl_even o a n h h2]; exact ih _ (by omega) _ _ ho hm
theorem pwI_b (x n : Int) (x1 : x < 65536) : 0 ≤ pwI 1 x n ∧ pwI 1 x n < 65536 := by
  have := pwl_lt n.toNat n.toNat (Nat.le_refl _) (1 : Int).toNat x.toNat (by decide) (by omega)
  unfold pwI
  exact ⟨by omega, by omega⟩
theorem mulI_one (x : Int) (x0 : 0 ≤ x) (x1 : x < 65536) : mulI 1 x = x := by
  have := times_small 1 x (by omega) (by omega) x0 x1 (Or.inl (by omega))
  rw [← this]; omega
end Go.Proofs.Ythnloaddmkpmkaa
