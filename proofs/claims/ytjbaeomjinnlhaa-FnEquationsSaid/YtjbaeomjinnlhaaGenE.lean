/-
  Traces, orders, generators and squares, over the powers of the texts on matrices.
-/
import Derived.Test.YtjbaeomjinnlhaaInv
import Derived.Test.YtjbaeomjinnlhaaFast
import Derived.ProofKit
namespace Go.Proofs.Ytjbaeomjinnlhaa.E
set_option linter.unusedVariables false
set_option linter.unusedSimpArgs false
open Go.ChangeShapes Go.WideShapes Go.ChangeAt Go.RowKit
theorem mulI_b (x y : Int) (x1 : x < 65536) (y1 : y < 65536) : 0 ≤ mulI x y ∧ mulI x y < 65536 := mulI_b2 x y x1 y1
theorem spec_SquareOf (x : Int) (x0 : 0 ≤ x) (x1 : x < 65536) (w : World) :
    Calls Try.prog 92 #[.int .u16 x] w fun e w' => IsV (mulI x x) 65536 e ∧ w = w' := by
  go_enter Try.func92, Try.ntmps92
  go_wp2_with fail
  refine (ltimes_any _ _ x0 x1 x0 x1 _).mono ?_
  rintro e w' ⟨⟨v, rfl, hv, v_0, v_1⟩, rfl⟩
  go_wp2_with fail
  go_ret
  exact ⟨⟨v, rfl, hv, v_0, v_1⟩, rfl⟩

theorem beq0_no {x : Int} (h : ¬ x = 0) : (x == 0) = false := beq_eq_false_iff_ne.2 h
theorem beq0_yes {x : Int} (h : x = 0) : (x == 0) = true := beq_iff_eq.2 h

def inB (n lo hi : Int) : Bool := decide (lo ≤ n ∧ n ≤ hi)
theorem l00In_any (n lo hi : Int) (w : World) : Calls Try.prog 103 #[.int .i64 n, .int .i64 lo, .int .i64 hi] w fun e w' => e = .returned (.bool (inB n lo hi)) ∧ w = w' := by
  by_cases h1 : lo ≤ n <;> by_cases h2 : n ≤ hi
  · have e : inB n lo hi = true := by unfold inB; simp [h1, h2]
    rw [e]; clear e
    have t1 : decide (lo ≤ n) = true := by simpa using h1
    have t2 : decide (n ≤ hi) = true := by simpa using h2
    go_enter Try.func103, Try.ntmps103
    go_wp2_with fail
    go_ret
    exact ⟨rfl, rfl⟩
  · have e : inB n lo hi = false := by unfold inB; simp [h2]
    rw [e]; clear e
    have t1 : decide (lo ≤ n) = true := by simpa using h1
    have t2 : decide (n ≤ hi) = false := by simpa using h2
    go_enter Try.func103, Try.ntmps103
    go_wp2_with fail
    go_ret
    exact ⟨rfl, rfl⟩
  · have e : inB n lo hi = false := by unfold inB; simp [h1]
    rw [e]; clear e
    have t1 : decide (lo ≤ n) = false := by simpa using h1
    go_enter Try.func103, Try.ntmps103
    go_wp2_with fail
    go_ret
    exact ⟨rfl, rfl⟩
  · have e : inB n lo hi = false := by unfold inB; simp [h1]
    rw [e]; clear e
    have t1 : decide (lo ≤ n) = false := by simpa using h1
    go_enter Try.func103, Try.ntmps103
    go_wp2_with fail
    go_ret
    exact ⟨rfl, rfl⟩

def trL : Nat → Int → Int → Int
  | 0, s, _ => s
  | k + 1, s, y => trL k (xorI s y) (mulI y y)
theorem trL_step (i : Nat) (s y : Int) (h : i < 16) : trL (16 - i) s y = trL (16 - (i + 1)) (xorI s y) (mulI y y) := by
  obtain ⟨k, hk⟩ : ∃ k, 16 - i = k + 1 := ⟨15 - i, by omega⟩
  rw [hk, show 16 - (i + 1) = k from by omega]; rfl

theorem impl_TraceOf (x : Int) (x0 : 0 ≤ x) (x1 : x < 65536) (w : World) :
    Calls Try.prog 90 #[.int .u16 x] w fun e w' => IsV (trL 16 0 x) 65536 e ∧ w = w' := by
  go_enter Try.func90, Try.ntmps90
  go_wp2_with fail
  go_loop [3, 0, 4] (fun s a k => ∃ (t y : Int) (i : Nat), s = .int .u16 t ∧ a = .int .u16 y ∧ k = .int .i64 i ∧ i ≤ 16 ∧ 0 ≤ t ∧ t < 65536 ∧ 0 ≤ y ∧ y < 65536 ∧ Hid (trL (16 - i) t y = trL 16 0 x)) (fun _ _ k => 16 - (intOf k).toNat)
  case atStart => exact ⟨0, x, 0, rfl, rfl, rfl, by omega, by omega, by omega, x0, x1, Lib.hid rfl⟩
  case round =>
    obtain ⟨t, y, i, rfl, rfl, rfl, hi, t0, t1, y0, y1, hP⟩ := hrel
    by_cases hlt : i < 16
    · have hst := Lib.hid (trL_step i t y hlt)
      go_wp2_with fail
      refine (plus_any 65536 (by decide) _ _ t0 t1 y0 y1 _).mono ?_
      rintro e w' ⟨⟨t', rfl, ht', t'_0, t'_1⟩, rfl⟩
      go_wp2_with fail
      refine (square_any _ y0 y1 _).mono ?_
      rintro e w' ⟨⟨y', rfl, hy', y'_0, y'_1⟩, rfl⟩
      go_wp2_with fail
      go_round
      case rel => exact ⟨t', y', i + 1, rfl, rfl, by go_num, by omega, t'_0, t'_1, y'_0, y'_1, Lib.hid (by rw [ht'.out, hy'.out, ← hst.out]; exact hP.out)⟩
      case measure => simp [intOf]; omega
    · go_wp2_with fail
      go_ret
      have e : i = 16 := by omega
      refine ⟨⟨t, rfl, Lib.hid ?_, t0, t1⟩, rfl⟩
      rw [← hP.out, e]; rfl

theorem ltrace_any (x : Int) (x0 : 0 ≤ x) (x1 : x < 65536) (w : World) :
    Calls Try.prog 146 #[.int .u16 x] w fun e w' => IsV (trL 16 0 x) 65536 e ∧ w = w' := by
  go_enter Try.func146, Try.ntmps146
  go_wp2_with fail
  go_loop [3, 0, 4] (fun s a k => ∃ (t y : Int) (i : Nat), s = .int .u16 t ∧ a = .int .u16 y ∧ k = .int .i64 i ∧ i ≤ 16 ∧ 0 ≤ t ∧ t < 65536 ∧ 0 ≤ y ∧ y < 65536 ∧ Hid (trL (16 - i) t y = trL 16 0 x)) (fun _ _ k => 16 - (intOf k).toNat)
  case atStart => exact ⟨0, x, 0, rfl, rfl, rfl, by omega, by omega, by omega, x0, x1, Lib.hid rfl⟩
  case round =>
    obtain ⟨t, y, i, rfl, rfl, rfl, hi, t0, t1, y0, y1, hP⟩ := hrel
    by_cases hlt : i < 16
    · have hst := Lib.hid (trL_step i t y hlt)
      go_wp2_with fail
      have HX := Lib.hid (bits_xor t y t0 t1 y0 y1)
      have HB := Lib.hid (xorI_lt 65536 (by decide) t y t1 y1)
      refine (ltimes_any _ _ y0 y1 y0 y1 _).mono ?_
      rintro e w' ⟨⟨y', rfl, hy', y'_0, y'_1⟩, rfl⟩
      go_wp2_with fail
      go_round
      case rel => exact ⟨_, y', i + 1, rfl, rfl, by go_num, by omega, by rw [HX.out]; exact HB.out.1, by rw [HX.out]; exact HB.out.2, y'_0, y'_1, Lib.hid (by rw [HX.out, hy'.out, ← hst.out]; exact hP.out)⟩
      case measure => simp [intOf]; omega
    · go_wp2_with fail
      go_ret
      have e : i = 16 := by omega
      refine ⟨⟨t, rfl, Lib.hid ?_, t0, t1⟩, rfl⟩
      rw [← hP.out, e]; rfl

theorem spec_TraceOf (x : Int) (x0 : 0 ≤ x) (x1 : x < 65536) (w : World) :
    Calls Try.prog 91 #[.int .u16 x] w fun e w' => IsV (trL 16 0 x) 65536 e ∧ w = w' := by
  go_enter Try.func91, Try.ntmps91
  go_wp2_with fail
  refine (ltrace_any _ x0 x1 _).mono ?_
  rintro e w' ⟨⟨v, rfl, hv, v_0, v_1⟩, rfl⟩
  go_wp2_with fail
  go_ret
  exact ⟨⟨v, rfl, hv, v_0, v_1⟩, rfl⟩

theorem pwl_lt : ∀ (N n : Nat), n ≤ N → ∀ o a : Nat, o < 65536 → a < 65536 → pwl o a n < 65536 := by
  intro N
  induction N with
  | zero => intro n hn o a ho _; rw [show n = 0 from by omega, pwl_zero]; exact ho
  | succ N ih =>
    intro n hn o a ho ha
    have hm := Nim.mul_lt 4 (by decide) 65536 rfl (a := a) (b := a) ha ha
    by_cases h : n = 0
    · rw [h, pwl_zero]; exact ho
    · by_cases h2 : n % 2 = 1
      · rw [pwl_odd o a n h h2]; exact ih _ (by omega) _ _ (Nim.mul_lt 4 (by decide) 65536 rfl ho ha) hm
      · rw [pwl_even o a n h h2]; exact ih _ (by omega) _ _ ho hm
theorem pwI_b (x n : Int) (x1 : x < 65536) : 0 ≤ pwI 1 x n ∧ pwI 1 x n < 65536 := by
  have := pwl_lt n.toNat n.toNat (Nat.le_refl _) (1 : Int).toNat x.toNat (by decide) (by omega)
  unfold pwI
  exact ⟨by omega, by omega⟩
theorem mulI_one (x : Int) (x0 : 0 ≤ x) (x1 : x < 65536) : mulI 1 x = x := by
  have := times_small 1 x (by omega) (by omega) x0 x1 (Or.inl (by omega))
  rw [← this]; omega
/-- what was there is as it was -/
def GrB (a b : World) : Prop := Below a.heap.size a b
theorem GrB.refl (a : World) : GrB a a := Below.refl _ _
theorem gtrans {a b c : World} (h1 : GrB a b) (h2 : GrB b c) : GrB a c := Below.trans h1 (h2.mono h1.size)
def ordStep (x p n : Int) : Int := if pwI 1 x (n / p) = 1 then n / p else n
def primeAt : Nat → Int
  | 0 => 3
  | 1 => 5
  | 2 => 17
  | _ => 257
def ordA (x : Int) : Nat → Int
  | 0 => 65535
  | i + 1 => ordStep x (primeAt i) (ordA x i)
def ordI (x : Int) : Int := ordA x 4
theorem ordStep_b (x p n : Int) (hp : 1 ≤ p) (h0 : 0 ≤ n) (h1 : n ≤ 65535) : 0 ≤ ordStep x p n ∧ ordStep x p n ≤ 65535 := by
  have a := Int.ediv_nonneg h0 (by omega : (0 : Int) ≤ p)
  have b := Int.ediv_le_self p h0
  unfold ordStep; split <;> omega
theorem primeAt_pos (i : Nat) : 1 ≤ primeAt i := by unfold primeAt; split <;> omega
theorem ordA_b (x : Int) (i : Nat) : 0 ≤ ordA x i ∧ ordA x i ≤ 65535 := by
  induction i with
  | zero => exact ⟨by show (0 : Int) ≤ 65535; decide, by show (65535 : Int) ≤ 65535; decide⟩
  | succ i ih => exact ordStep_b x _ _ (primeAt_pos i) ih.1 ih.2
theorem ord_yes (x : Int) (i : Nat) (n p v : Int) (hp : primeAt i = p) (hn : n = ordA x i) (hv : v = pwI 1 x (n / p)) (h : v = 1) : n / p = ordA x (i + 1) := by
  show _ = ordStep x (primeAt i) (ordA x i)
  unfold ordStep; rw [hp, ← hn, ← hv, if_pos h]
theorem ord_no (x : Int) (i : Nat) (n p v : Int) (hp : primeAt i = p) (hn : n = ordA x i) (hv : v = pwI 1 x (n / p)) (h : ¬ v = 1) : n = ordA x (i + 1) := by
  show _ = ordStep x (primeAt i) (ordA x i)
  unfold ordStep; rw [hp, ← hn, ← hv, if_neg h]

theorem order_any (x : Int) (x0 : 0 ≤ x) (x1 : x < 65536) (w : World) :
    Calls Try.prog 148 #[.int .u16 x] w fun e w' => e = .returned (.int .i64 (ordI x)) ∧ w = w' := by
  have ix0 : ∀ w : World, (Instr.index 177 (.agg #[.int .i64 3, .int .i64 5, .int .i64 17, .int .i64 257]) (.int .i64 0)).run Try.prog w = .ok (.int .i64 3) w := fun _ => by kernel_rfl
  have ix1 : ∀ w : World, (Instr.index 177 (.agg #[.int .i64 3, .int .i64 5, .int .i64 17, .int .i64 257]) (.int .i64 1)).run Try.prog w = .ok (.int .i64 5) w := fun _ => by kernel_rfl
  have ix2 : ∀ w : World, (Instr.index 177 (.agg #[.int .i64 3, .int .i64 5, .int .i64 17, .int .i64 257]) (.int .i64 2)).run Try.prog w = .ok (.int .i64 17) w := fun _ => by kernel_rfl
  have ix3 : ∀ w : World, (Instr.index 177 (.agg #[.int .i64 3, .int .i64 5, .int .i64 17, .int .i64 257]) (.int .i64 3)).run Try.prog w = .ok (.int .i64 257) w := fun _ => by kernel_rfl
  go_enter Try.func148, Try.ntmps148
  go_wp2_with fail
  go_loop [3, 7] (fun a k => ∃ (n : Int) (i : Nat), a = .int .i64 n ∧ ((i = 0 ∧ k = .int .i64 0) ∨ (i = 1 ∧ k = .int .i64 1) ∨ (i = 2 ∧ k = .int .i64 2) ∨ (i = 3 ∧ k = .int .i64 3) ∨ (i = 4 ∧ k = .int .i64 4)) ∧ 0 ≤ n ∧ n ≤ 65535 ∧ Hid (n = ordA x i)) (fun _ k => 4 - (intOf k).toNat)
  case atStart => exact ⟨65535, 0, rfl, Or.inl ⟨rfl, rfl⟩, by omega, by omega, Lib.hid rfl⟩
  case round =>
    obtain ⟨n, i, rfl, hc, n0, n1, hn⟩ := hrel
    rcases hc with ⟨rfl, rfl⟩ | ⟨rfl, rfl⟩ | ⟨rfl, rfl⟩ | ⟨rfl, rfl⟩ | ⟨rfl, rfl⟩
    rotate_left 4
    · go_wp2_with fail
      go_ret
      exact ⟨by rw [hn.out]; rfl, rfl⟩
    · go_wp2_with fail
      refine (power_any _ _ x0 x1 (by omega) (by omega) _).mono ?_
      rintro e w' ⟨⟨v, rfl, hv, v0, v1⟩, rfl⟩
      by_cases h1 : v = 1
      · have ht : (v == 1) = true := beq_iff_eq.2 h1
        have hr := Lib.hid (ord_yes x 0 n 3 v rfl hn.out hv.out h1)
        clear h1
        go_wp2_with fail
        go_round
        case rel => exact ⟨n / 3, 1, rfl, by simp, by omega, by omega, hr⟩
        case measure => simp [intOf]
      · have ht : (v == 1) = false := beq_eq_false_iff_ne.2 h1
        have hr := Lib.hid (ord_no x 0 n 3 v rfl hn.out hv.out h1)
        clear h1
        go_wp2_with fail
        go_round
        case rel => exact ⟨n, 1, rfl, by simp, n0, n1, hr⟩
        case measure => simp [intOf]
    · go_wp2_with fail
      refine (power_any _ _ x0 x1 (by omega) (by omega) _).mono ?_
      rintro e w' ⟨⟨v, rfl, hv, v0, v1⟩, rfl⟩
      by_cases h1 : v = 1
      · have ht : (v == 1) = true := beq_iff_eq.2 h1
        have hr := Lib.hid (ord_yes x 1 n 5 v rfl hn.out hv.out h1)
        clear h1
        go_wp2_with fail
        go_round
        case rel => exact ⟨n / 5, 2, rfl, by simp, by omega, by omega, hr⟩
        case measure => simp [intOf]
      · have ht : (v == 1) = false := beq_eq_false_iff_ne.2 h1
        have hr := Lib.hid (ord_no x 1 n 5 v rfl hn.out hv.out h1)
        clear h1
        go_wp2_with fail
        go_round
        case rel => exact ⟨n, 2, rfl, by simp, n0, n1, hr⟩
        case measure => simp [intOf]
    · go_wp2_with fail
      refine (power_any _ _ x0 x1 (by omega) (by omega) _).mono ?_
      rintro e w' ⟨⟨v, rfl, hv, v0, v1⟩, rfl⟩
      by_cases h1 : v = 1
      · have ht : (v == 1) = true := beq_iff_eq.2 h1
        have hr := Lib.hid (ord_yes x 2 n 17 v rfl hn.out hv.out h1)
        clear h1
        go_wp2_with fail
        go_round
        case rel => exact ⟨n / 17, 3, rfl, by simp, by omega, by omega, hr⟩
        case measure => simp [intOf]
      · have ht : (v == 1) = false := beq_eq_false_iff_ne.2 h1
        have hr := Lib.hid (ord_no x 2 n 17 v rfl hn.out hv.out h1)
        clear h1
        go_wp2_with fail
        go_round
        case rel => exact ⟨n, 3, rfl, by simp, n0, n1, hr⟩
        case measure => simp [intOf]
    · go_wp2_with fail
      refine (power_any _ _ x0 x1 (by omega) (by omega) _).mono ?_
      rintro e w' ⟨⟨v, rfl, hv, v0, v1⟩, rfl⟩
      by_cases h1 : v = 1
      · have ht : (v == 1) = true := beq_iff_eq.2 h1
        have hr := Lib.hid (ord_yes x 3 n 257 v rfl hn.out hv.out h1)
        clear h1
        go_wp2_with fail
        go_round
        case rel => exact ⟨n / 257, 4, rfl, by simp, by omega, by omega, hr⟩
        case measure => simp [intOf]
      · have ht : (v == 1) = false := beq_eq_false_iff_ne.2 h1
        have hr := Lib.hid (ord_no x 3 n 257 v rfl hn.out hv.out h1)
        clear h1
        go_wp2_with fail
        go_round
        case rel => exact ⟨n, 4, rfl, by simp, n0, n1, hr⟩
        case measure => simp [intOf]

theorem lorder_any (x : Int) (x0 : 0 ≤ x) (x1 : x < 65536) (w : World) :
    Calls Try.prog 149 #[.int .u16 x] w fun e w' => e = .returned (.int .i64 (ordI x)) ∧ GrB w w' := by
  go_enter Try.func149, Try.ntmps149
  go_wp2_with fail
  go_loop [3, 5] (fun a k => ∃ (n : Int) (i : Nat), a = .int .i64 n ∧ ((i = 0 ∧ k = .int .i64 0) ∨ (i = 1 ∧ k = .int .i64 1) ∨ (i = 2 ∧ k = .int .i64 2) ∨ (i = 3 ∧ k = .int .i64 3) ∨ (i = 4 ∧ k = .int .i64 4)) ∧ 0 ≤ n ∧ n ≤ 65535 ∧ Hid (n = ordA x i)) (fun _ k => 4 - (intOf k).toNat)
  case atStart => exact ⟨65535, 0, rfl, Or.inl ⟨rfl, rfl⟩, by omega, by omega, Lib.hid rfl⟩
  case round =>
    obtain ⟨n, i, rfl, hc, n0, n1, hn⟩ := hrel
    rcases hc with ⟨rfl, rfl⟩ | ⟨rfl, rfl⟩ | ⟨rfl, rfl⟩ | ⟨rfl, rfl⟩ | ⟨rfl, rfl⟩
    rotate_left 4
    · go_wp2_with fail
      go_ret
      exact ⟨by rw [hn.out]; rfl, (Below.refl _ _).alloc (Nat.le_refl _) _⟩
    · go_wp2_with fail
      refine (lpower_any _ _ x0 x1 (by omega) (by omega) _).mono ?_
      rintro e w' ⟨⟨v, rfl, hv, v0, v1⟩, rfl⟩
      by_cases h1 : v = 1
      · have ht : (v == 1) = true := beq_iff_eq.2 h1
        have hr := Lib.hid (ord_yes x 0 n 3 v rfl hn.out hv.out h1)
        clear h1
        go_wp2_with fail
        go_round
        case rel => exact ⟨n / 3, 1, rfl, by simp, by omega, by omega, hr⟩
        case measure => simp [intOf]
      · have ht : (v == 1) = false := beq_eq_false_iff_ne.2 h1
        have hr := Lib.hid (ord_no x 0 n 3 v rfl hn.out hv.out h1)
        clear h1
        go_wp2_with fail
        go_round
        case rel => exact ⟨n, 1, rfl, by simp, n0, n1, hr⟩
        case measure => simp [intOf]
    · go_wp2_with fail
      refine (lpower_any _ _ x0 x1 (by omega) (by omega) _).mono ?_
      rintro e w' ⟨⟨v, rfl, hv, v0, v1⟩, rfl⟩
      by_cases h1 : v = 1
      · have ht : (v == 1) = true := beq_iff_eq.2 h1
        have hr := Lib.hid (ord_yes x 1 n 5 v rfl hn.out hv.out h1)
        clear h1
        go_wp2_with fail
        go_round
        case rel => exact ⟨n / 5, 2, rfl, by simp, by omega, by omega, hr⟩
        case measure => simp [intOf]
      · have ht : (v == 1) = false := beq_eq_false_iff_ne.2 h1
        have hr := Lib.hid (ord_no x 1 n 5 v rfl hn.out hv.out h1)
        clear h1
        go_wp2_with fail
        go_round
        case rel => exact ⟨n, 2, rfl, by simp, n0, n1, hr⟩
        case measure => simp [intOf]
    · go_wp2_with fail
      refine (lpower_any _ _ x0 x1 (by omega) (by omega) _).mono ?_
      rintro e w' ⟨⟨v, rfl, hv, v0, v1⟩, rfl⟩
      by_cases h1 : v = 1
      · have ht : (v == 1) = true := beq_iff_eq.2 h1
        have hr := Lib.hid (ord_yes x 2 n 17 v rfl hn.out hv.out h1)
        clear h1
        go_wp2_with fail
        go_round
        case rel => exact ⟨n / 17, 3, rfl, by simp, by omega, by omega, hr⟩
        case measure => simp [intOf]
      · have ht : (v == 1) = false := beq_eq_false_iff_ne.2 h1
        have hr := Lib.hid (ord_no x 2 n 17 v rfl hn.out hv.out h1)
        clear h1
        go_wp2_with fail
        go_round
        case rel => exact ⟨n, 3, rfl, by simp, n0, n1, hr⟩
        case measure => simp [intOf]
    · go_wp2_with fail
      refine (lpower_any _ _ x0 x1 (by omega) (by omega) _).mono ?_
      rintro e w' ⟨⟨v, rfl, hv, v0, v1⟩, rfl⟩
      by_cases h1 : v = 1
      · have ht : (v == 1) = true := beq_iff_eq.2 h1
        have hr := Lib.hid (ord_yes x 3 n 257 v rfl hn.out hv.out h1)
        clear h1
        go_wp2_with fail
        go_round
        case rel => exact ⟨n / 257, 4, rfl, by simp, by omega, by omega, hr⟩
        case measure => simp [intOf]
      · have ht : (v == 1) = false := beq_eq_false_iff_ne.2 h1
        have hr := Lib.hid (ord_no x 3 n 257 v rfl hn.out hv.out h1)
        clear h1
        go_wp2_with fail
        go_round
        case rel => exact ⟨n, 4, rfl, by simp, n0, n1, hr⟩
        case measure => simp [intOf]

def pwf : Nat → Nat → Nat → Nat → Nat
  | 0, o, _, _ => o
  | f+1, o, a, n => bif Nat.beq n 0 then o else pwf f (bif Nat.beq (n % 2) 1 then Nim.fm 4 o a else o) (Nim.fm 4 a a) (n / 2)
theorem nbeq_no {a b : Nat} (h : ¬ a = b) : Nat.beq a b = false := by
  cases e : Nat.beq a b
  · rfl
  · exact absurd (Nat.eq_of_beq_eq_true e) h
theorem nbeq_yes {a b : Nat} (h : a = b) : Nat.beq a b = true := by subst h; exact Nat.beq_refl a
theorem pwf_eq (f : Nat) : ∀ o a n : Nat, n < 2^f → o < 65536 → a < 65536 → pwf f o a n = pwl o a n := by
  induction f with
  | zero => intro o a n hn _ _; rw [show n = 0 from by simpa using hn, pwl_zero]; rfl
  | succ f ih =>
    intro o a n hn ho ha
    have hm := Nim.mul_lt 4 (by decide) 65536 rfl (a := a) (b := a) ha ha
    have hn2 : n / 2 < 2^f := by rw [Nat.pow_succ] at hn; omega
    rw [pwf, Nim.fm_mul a a ha ha]
    by_cases h : n = 0
    · subst h; rw [pwl_zero]; rfl
    · rw [nbeq_no h, cond_false]
      by_cases h2 : n % 2 = 1
      · rw [nbeq_yes h2, cond_true, Nim.fm_mul o a ho ha, pwl_odd o a n h h2]
        exact ih _ _ _ hn2 (Nim.mul_lt 4 (by decide) 65536 rfl ho ha) hm
      · rw [nbeq_no h2, cond_false, pwl_even o a n h h2]
        exact ih _ _ _ hn2 ho hm
def ordFs (m p n : Nat) : Nat := bif Nat.beq (pwf 16 1 m (n / p)) 1 then n / p else n
def ordF (m : Nat) : Nat := ordFs m 257 (ordFs m 17 (ordFs m 5 (ordFs m 3 65535)))
theorem ordFs_le (m p n : Nat) : ordFs m p n ≤ n := by
  unfold ordFs
  cases Nat.beq (pwf 16 1 m (n / p)) 1
  · exact Nat.le_refl _
  · exact Nat.div_le_self _ _
theorem ordFs_eq (m p n : Nat) (hm : m < 65536) (hn : n ≤ 65535) : ordStep (m : Int) (p : Int) (n : Int) = ((ordFs m p n : Nat) : Int) := by
  have hd : n / p ≤ n := Nat.div_le_self _ _
  have e : pwI 1 (m : Int) ((n : Int) / (p : Int)) = ((pwf 16 1 m (n / p) : Nat) : Int) := by
    rw [pwf_eq 16 1 m (n / p) (by omega) (by omega) hm]
    unfold pwI
    rw [← Int.natCast_ediv, Int.toNat_natCast, Int.toNat_natCast]; rfl
  unfold ordStep ordFs
  rw [e]
  by_cases h : pwf 16 1 m (n / p) = 1
  · rw [nbeq_yes h, cond_true, h, if_pos (by rfl : ((1 : Nat) : Int) = 1), Int.natCast_ediv]
  · rw [nbeq_no h, cond_false, if_neg (by omega)]
theorem ordF_eq (m : Nat) (hm : m < 65536) : ordI (m : Int) = ((ordF m : Nat) : Int) := by
  have l1 := ordFs_le m 3 65535
  have l2 := ordFs_le m 5 (ordFs m 3 65535)
  have l3 := ordFs_le m 17 (ordFs m 5 (ordFs m 3 65535))
  show ordStep _ 257 (ordStep _ 17 (ordStep _ 5 (ordStep _ 3 65535))) = _
  have e1 : ordStep (m : Int) 3 65535 = _ := ordFs_eq m 3 65535 hm (by omega)
  have e2 : ordStep (m : Int) 5 _ = _ := ordFs_eq m 5 (ordFs m 3 65535) hm (by omega)
  have e3 : ordStep (m : Int) 17 _ = _ := ordFs_eq m 17 (ordFs m 5 (ordFs m 3 65535)) hm (by omega)
  have e4 : ordStep (m : Int) 257 _ = _ := ordFs_eq m 257 (ordFs m 17 (ordFs m 5 (ordFs m 3 65535))) hm (by omega)
  rw [e1, e2, e3, e4]; rfl
theorem tab_no (u k : Nat) (ht : (List.range k).all (fun i => !Nat.beq (ordF (i + 2) % u) 0) = true) (m : Int) (h0 : 2 ≤ m) (h1 : m < k + 2) (hk : k ≤ 1000) : ordI m % u ≠ 0 := by
  obtain ⟨n, rfl⟩ := Int.eq_ofNat_of_zero_le (by omega : 0 ≤ m)
  have h := List.all_eq_true.1 ht (n - 2) (List.mem_range.2 (by omega))
  rw [show n - 2 + 2 = n from by omega] at h
  rw [ordF_eq n (by omega)]
  have h2 : ¬ ordF n % u = 0 := by
    intro e
    rw [nbeq_yes e] at h; cases h
  omega
theorem table1 : ordF 2 = 3 := by decide +kernel
theorem table2 : (List.range 2).all (fun i => !Nat.beq (ordF (i + 2) % 15) 0) = true := by decide +kernel
theorem table2g : ordF 4 = 15 := by decide +kernel
theorem table3 : (List.range 16).all (fun i => !Nat.beq (ordF (i + 2) % 255) 0) = true := by decide +kernel
theorem table3g : ordF 18 = 255 := by decide +kernel
theorem table4 : (List.range 256).all (fun i => !Nat.beq (ordF (i + 2) % 65535) 0) = true := by decide +kernel
theorem table4g : ordF 258 = 65535 := by decide +kernel
theorem gen_no_1 (m : Int) (h0 : 2 ≤ m) (h1 : m < 2) : ordI m % 3 ≠ 0 := by omega
theorem gen_yes_1 : ordI 2 = 3 := (ordF_eq 2 (by decide)).trans (congrArg _ table1)
theorem gen_no_2 (m : Int) (h0 : 2 ≤ m) (h1 : m < 4) : ordI m % 15 ≠ 0 := tab_no 15 2 table2 m h0 h1 (by decide)
theorem gen_yes_2 : ordI 4 = 15 := (ordF_eq 4 (by decide)).trans (congrArg _ table2g)
theorem gen_no_3 (m : Int) (h0 : 2 ≤ m) (h1 : m < 18) : ordI m % 255 ≠ 0 := tab_no 255 16 table3 m h0 h1 (by decide)
theorem gen_yes_3 : ordI 18 = 255 := (ordF_eq 18 (by decide)).trans (congrArg _ table3g)
theorem gen_no_4 (m : Int) (h0 : 2 ≤ m) (h1 : m < 258) : ordI m % 65535 ≠ 0 := tab_no 65535 256 table4 m h0 h1 (by decide)
theorem gen_yes_4 : ordI 258 = 65535 := (ordF_eq 258 (by decide)).trans (congrArg _ table4g)

theorem impl_OrderOf0 (x : Int) (hx : x = 0) (w : World) :
    Calls Try.prog 98 #[.int .u16 x] w fun e w' => e = .returned (.tuple #[.int .i64 0, .int .i64 4]) ∧ w = w' := by
  have t := beq0_yes hx
  clear hx
  go_enter Try.func98, Try.ntmps98
  go_wp2_with fail
  go_ret2
  exact ⟨rfl, rfl⟩
theorem impl_OrderOf (x : Int) (x0 : 0 ≤ x) (x1 : x < 65536) (hx : ¬ x = 0) (w : World) :
    Calls Try.prog 98 #[.int .u16 x] w fun e w' => e = .returned (.tuple #[.int .i64 (ordI x), .int .i64 0]) ∧ w = w' := by
  have t := beq0_no hx
  clear hx
  go_enter Try.func98, Try.ntmps98
  go_wp2_with fail
  refine (order_any _ x0 x1 _).mono ?_
  rintro e w' ⟨rfl, rfl⟩
  go_wp2_with fail
  go_ret2
  exact ⟨rfl, rfl⟩
theorem impl_gen_1 (w : World) : Calls Try.prog 96 #[.int .i64 1] w fun e w' => e = .returned (.tuple #[.int .u16 2, .int .i64 0]) ∧ w = w' := by
  go_enter Try.func96, Try.ntmps96
  go_wp2_with fail
  go_loop [6] (fun a => ∃ m : Int, a = .int .u16 m ∧ 2 ≤ m ∧ m ≤ 2) (fun a => (2 - intOf a).toNat)
  case atStart => exact ⟨2, rfl, by omega, by omega⟩
  case round =>
    obtain ⟨m, rfl, m0, m1⟩ := hrel
    by_cases hm : m = 2
    · subst hm
      go_wp2_with fail
      refine (order_any _ (by omega) (by omega) _).mono ?_
      rintro e w' ⟨rfl, rfl⟩
      rw [gen_yes_1]
      go_wp2_with fail
      go_ret2
      exact ⟨rfl, rfl⟩
    · have hne := gen_no_1 m (by omega) (by omega)
      have hlt : m < 2 := by omega
      have hb := ordA_b m 4
      obtain ⟨o, ho⟩ : ∃ o, o = ordI m := ⟨_, rfl⟩
      have ht : (o != 3) = true := by rw [bne_iff_ne, ho]; intro e; rw [e] at hne; exact hne rfl
      clear hne hb hm
      replace ho := Lib.hid ho
      go_wp2_with fail
      refine (order_any _ (by omega) (by omega) _).mono ?_
      rintro e w' ⟨rfl, rfl⟩
      rw [← ho.out]
      go_wp2_with fail
      go_round
      case rel => exact ⟨m + 1, rfl, by omega, by omega⟩
      case measure => simp [intOf]; omega

theorem spec_gen_1 (w : World) : Calls Try.prog 97 #[.int .i64 1] w fun e w' => e = .returned (.tuple #[.int .u16 2, .int .i64 0]) ∧ GrB w w' := by
  have Hb : Hid (inB 1 1 4 = true) := Lib.hid rfl
  go_enter Try.func97, Try.ntmps97
  go_wp2_with fail
  refine (l00In_any _ _ _ _).mono ?_
  rintro e w' ⟨rfl, rfl⟩
  rw [Hb.out]
  go_wp2_with fail
  go_loopw [5] (fun a wr => ∃ m : Int, a = .int .u16 m ∧ 2 ≤ m ∧ m ≤ 2 ∧ GrB w wr) (fun a _ => (2 - intOf a).toNat)
  case atStart => exact ⟨2, rfl, by omega, by omega, GrB.refl _⟩
  case round =>
    obtain ⟨m, rfl, m0, m1, hg⟩ := hrel
    by_cases hm : m = 2
    · subst hm
      go_wp2_with fail
      refine (lorder_any _ (by omega) (by omega) _).mono ?_
      rintro e w1 ⟨rfl, hg1⟩
      rw [gen_yes_1]
      go_wp2_with fail
      go_ret2
      exact ⟨rfl, gtrans hg hg1⟩
    · have hne := gen_no_1 m (by omega) (by omega)
      have hlt : m < 2 := by omega
      have hb := ordA_b m 4
      obtain ⟨o, ho⟩ : ∃ o, o = ordI m := ⟨_, rfl⟩
      have o0 : 0 ≤ o := by rw [ho]; exact hb.1
      have o1 : o ≤ 65535 := by rw [ho]; exact hb.2
      have ht : (o % 3 != 0) = true := by rw [bne_iff_ne, ho]; exact hne
      clear hne hb hm
      replace ho := Lib.hid ho
      go_wp2_with fail
      refine (lorder_any _ (by omega) (by omega) _).mono ?_
      rintro e w1 ⟨rfl, hg1⟩
      rw [← ho.out]
      go_wp2_with fail
      go_roundw
      case rel => exact ⟨m + 1, rfl, by omega, by omega, gtrans hg hg1⟩
      case measure => simp [intOf]; omega

theorem impl_gen_2 (w : World) : Calls Try.prog 96 #[.int .i64 2] w fun e w' => e = .returned (.tuple #[.int .u16 4, .int .i64 0]) ∧ w = w' := by
  go_enter Try.func96, Try.ntmps96
  go_wp2_with fail
  go_loop [6] (fun a => ∃ m : Int, a = .int .u16 m ∧ 4 ≤ m ∧ m ≤ 4) (fun a => (4 - intOf a).toNat)
  case atStart => exact ⟨4, rfl, by omega, by omega⟩
  case round =>
    obtain ⟨m, rfl, m0, m1⟩ := hrel
    by_cases hm : m = 4
    · subst hm
      go_wp2_with fail
      refine (order_any _ (by omega) (by omega) _).mono ?_
      rintro e w' ⟨rfl, rfl⟩
      rw [gen_yes_2]
      go_wp2_with fail
      go_ret2
      exact ⟨rfl, rfl⟩
    · have hne := gen_no_2 m (by omega) (by omega)
      have hlt : m < 4 := by omega
      have hb := ordA_b m 4
      obtain ⟨o, ho⟩ : ∃ o, o = ordI m := ⟨_, rfl⟩
      have ht : (o != 15) = true := by rw [bne_iff_ne, ho]; intro e; rw [e] at hne; exact hne rfl
      clear hne hb hm
      replace ho := Lib.hid ho
      go_wp2_with fail
      refine (order_any _ (by omega) (by omega) _).mono ?_
      rintro e w' ⟨rfl, rfl⟩
      rw [← ho.out]
      go_wp2_with fail
      go_round
      case rel => exact ⟨m + 1, rfl, by omega, by omega⟩
      case measure => simp [intOf]; omega

theorem spec_gen_2 (w : World) : Calls Try.prog 97 #[.int .i64 2] w fun e w' => e = .returned (.tuple #[.int .u16 4, .int .i64 0]) ∧ GrB w w' := by
  have Hb : Hid (inB 2 1 4 = true) := Lib.hid rfl
  go_enter Try.func97, Try.ntmps97
  go_wp2_with fail
  refine (l00In_any _ _ _ _).mono ?_
  rintro e w' ⟨rfl, rfl⟩
  rw [Hb.out]
  go_wp2_with fail
  go_loopw [5] (fun a wr => ∃ m : Int, a = .int .u16 m ∧ 2 ≤ m ∧ m ≤ 4 ∧ GrB w wr) (fun a _ => (4 - intOf a).toNat)
  case atStart => exact ⟨2, rfl, by omega, by omega, GrB.refl _⟩
  case round =>
    obtain ⟨m, rfl, m0, m1, hg⟩ := hrel
    by_cases hm : m = 4
    · subst hm
      go_wp2_with fail
      refine (lorder_any _ (by omega) (by omega) _).mono ?_
      rintro e w1 ⟨rfl, hg1⟩
      rw [gen_yes_2]
      go_wp2_with fail
      go_ret2
      exact ⟨rfl, gtrans hg hg1⟩
    · have hne := gen_no_2 m (by omega) (by omega)
      have hlt : m < 4 := by omega
      have hb := ordA_b m 4
      obtain ⟨o, ho⟩ : ∃ o, o = ordI m := ⟨_, rfl⟩
      have o0 : 0 ≤ o := by rw [ho]; exact hb.1
      have o1 : o ≤ 65535 := by rw [ho]; exact hb.2
      have ht : (o % 15 != 0) = true := by rw [bne_iff_ne, ho]; exact hne
      clear hne hb hm
      replace ho := Lib.hid ho
      go_wp2_with fail
      refine (lorder_any _ (by omega) (by omega) _).mono ?_
      rintro e w1 ⟨rfl, hg1⟩
      rw [← ho.out]
      go_wp2_with fail
      go_roundw
      case rel => exact ⟨m + 1, rfl, by omega, by omega, gtrans hg hg1⟩
      case measure => simp [intOf]; omega

theorem impl_gen_3 (w : World) : Calls Try.prog 96 #[.int .i64 3] w fun e w' => e = .returned (.tuple #[.int .u16 18, .int .i64 0]) ∧ w = w' := by
  go_enter Try.func96, Try.ntmps96
  go_wp2_with fail
  go_loop [6] (fun a => ∃ m : Int, a = .int .u16 m ∧ 16 ≤ m ∧ m ≤ 18) (fun a => (18 - intOf a).toNat)
  case atStart => exact ⟨16, rfl, by omega, by omega⟩
  case round =>
    obtain ⟨m, rfl, m0, m1⟩ := hrel
    by_cases hm : m = 18
    · subst hm
      go_wp2_with fail
      refine (order_any _ (by omega) (by omega) _).mono ?_
      rintro e w' ⟨rfl, rfl⟩
      rw [gen_yes_3]
      go_wp2_with fail
      go_ret2
      exact ⟨rfl, rfl⟩
    · have hne := gen_no_3 m (by omega) (by omega)
      have hlt : m < 18 := by omega
      have hb := ordA_b m 4
      obtain ⟨o, ho⟩ : ∃ o, o = ordI m := ⟨_, rfl⟩
      have ht : (o != 255) = true := by rw [bne_iff_ne, ho]; intro e; rw [e] at hne; exact hne rfl
      clear hne hb hm
      replace ho := Lib.hid ho
      go_wp2_with fail
      refine (order_any _ (by omega) (by omega) _).mono ?_
      rintro e w' ⟨rfl, rfl⟩
      rw [← ho.out]
      go_wp2_with fail
      go_round
      case rel => exact ⟨m + 1, rfl, by omega, by omega⟩
      case measure => simp [intOf]; omega

theorem spec_gen_3 (w : World) : Calls Try.prog 97 #[.int .i64 3] w fun e w' => e = .returned (.tuple #[.int .u16 18, .int .i64 0]) ∧ GrB w w' := by
  have Hb : Hid (inB 3 1 4 = true) := Lib.hid rfl
  go_enter Try.func97, Try.ntmps97
  go_wp2_with fail
  refine (l00In_any _ _ _ _).mono ?_
  rintro e w' ⟨rfl, rfl⟩
  rw [Hb.out]
  go_wp2_with fail
  go_loopw [5] (fun a wr => ∃ m : Int, a = .int .u16 m ∧ 2 ≤ m ∧ m ≤ 18 ∧ GrB w wr) (fun a _ => (18 - intOf a).toNat)
  case atStart => exact ⟨2, rfl, by omega, by omega, GrB.refl _⟩
  case round =>
    obtain ⟨m, rfl, m0, m1, hg⟩ := hrel
    by_cases hm : m = 18
    · subst hm
      go_wp2_with fail
      refine (lorder_any _ (by omega) (by omega) _).mono ?_
      rintro e w1 ⟨rfl, hg1⟩
      rw [gen_yes_3]
      go_wp2_with fail
      go_ret2
      exact ⟨rfl, gtrans hg hg1⟩
    · have hne := gen_no_3 m (by omega) (by omega)
      have hlt : m < 18 := by omega
      have hb := ordA_b m 4
      obtain ⟨o, ho⟩ : ∃ o, o = ordI m := ⟨_, rfl⟩
      have o0 : 0 ≤ o := by rw [ho]; exact hb.1
      have o1 : o ≤ 65535 := by rw [ho]; exact hb.2
      have ht : (o % 255 != 0) = true := by rw [bne_iff_ne, ho]; exact hne
      clear hne hb hm
      replace ho := Lib.hid ho
      go_wp2_with fail
      refine (lorder_any _ (by omega) (by omega) _).mono ?_
      rintro e w1 ⟨rfl, hg1⟩
      rw [← ho.out]
      go_wp2_with fail
      go_roundw
      case rel => exact ⟨m + 1, rfl, by omega, by omega, gtrans hg hg1⟩
      case measure => simp [intOf]; omega

theorem impl_gen_4 (w : World) : Calls Try.prog 96 #[.int .i64 4] w fun e w' => e = .returned (.tuple #[.int .u16 258, .int .i64 0]) ∧ w = w' := by
  go_enter Try.func96, Try.ntmps96
  go_wp2_with fail
  go_loop [6] (fun a => ∃ m : Int, a = .int .u16 m ∧ 256 ≤ m ∧ m ≤ 258) (fun a => (258 - intOf a).toNat)
  case atStart => exact ⟨256, rfl, by omega, by omega⟩
  case round =>
    obtain ⟨m, rfl, m0, m1⟩ := hrel
    by_cases hm : m = 258
    · subst hm
      go_wp2_with fail
      refine (order_any _ (by omega) (by omega) _).mono ?_
      rintro e w' ⟨rfl, rfl⟩
      rw [gen_yes_4]
      go_wp2_with fail
      go_ret2
      exact ⟨rfl, rfl⟩
    · have hne := gen_no_4 m (by omega) (by omega)
      have hlt : m < 258 := by omega
      have hb := ordA_b m 4
      obtain ⟨o, ho⟩ : ∃ o, o = ordI m := ⟨_, rfl⟩
      have ht : (o != 65535) = true := by rw [bne_iff_ne, ho]; intro e; rw [e] at hne; exact hne rfl
      clear hne hb hm
      replace ho := Lib.hid ho
      go_wp2_with fail
      refine (order_any _ (by omega) (by omega) _).mono ?_
      rintro e w' ⟨rfl, rfl⟩
      rw [← ho.out]
      go_wp2_with fail
      go_round
      case rel => exact ⟨m + 1, rfl, by omega, by omega⟩
      case measure => simp [intOf]; omega

theorem spec_gen_4 (w : World) : Calls Try.prog 97 #[.int .i64 4] w fun e w' => e = .returned (.tuple #[.int .u16 258, .int .i64 0]) ∧ GrB w w' := by
  have Hb : Hid (inB 4 1 4 = true) := Lib.hid rfl
  go_enter Try.func97, Try.ntmps97
  go_wp2_with fail
  refine (l00In_any _ _ _ _).mono ?_
  rintro e w' ⟨rfl, rfl⟩
  rw [Hb.out]
  go_wp2_with fail
  go_loopw [5] (fun a wr => ∃ m : Int, a = .int .u16 m ∧ 2 ≤ m ∧ m ≤ 258 ∧ GrB w wr) (fun a _ => (258 - intOf a).toNat)
  case atStart => exact ⟨2, rfl, by omega, by omega, GrB.refl _⟩
  case round =>
    obtain ⟨m, rfl, m0, m1, hg⟩ := hrel
    by_cases hm : m = 258
    · subst hm
      go_wp2_with fail
      refine (lorder_any _ (by omega) (by omega) _).mono ?_
      rintro e w1 ⟨rfl, hg1⟩
      rw [gen_yes_4]
      go_wp2_with fail
      go_ret2
      exact ⟨rfl, gtrans hg hg1⟩
    · have hne := gen_no_4 m (by omega) (by omega)
      have hlt : m < 258 := by omega
      have hb := ordA_b m 4
      obtain ⟨o, ho⟩ : ∃ o, o = ordI m := ⟨_, rfl⟩
      have o0 : 0 ≤ o := by rw [ho]; exact hb.1
      have o1 : o ≤ 65535 := by rw [ho]; exact hb.2
      have ht : (o % 65535 != 0) = true := by rw [bne_iff_ne, ho]; exact hne
      clear hne hb hm
      replace ho := Lib.hid ho
      go_wp2_with fail
      refine (lorder_any _ (by omega) (by omega) _).mono ?_
      rintro e w1 ⟨rfl, hg1⟩
      rw [← ho.out]
      go_wp2_with fail
      go_roundw
      case rel => exact ⟨m + 1, rfl, by omega, by omega, gtrans hg hg1⟩
      case measure => simp [intOf]; omega

theorem impl_gen_no (n : Int) (h : n < 1 ∨ 4 < n) (w : World) : Calls Try.prog 96 #[.int .i64 n] w fun e w' => e = .returned (.tuple #[.int .u16 0, .int .i64 2]) ∧ w = w' := by
  by_cases h1 : n < 1
  · have t1 : decide (n < 1) = true := by simpa using h1
    clear h
    go_enter Try.func96, Try.ntmps96
    go_wp2_with fail
    go_ret2
    exact ⟨rfl, rfl⟩
  · have t1 : decide (n < 1) = false := by simpa using h1
    have t2 : decide (4 < n) = true := by simp; omega
    clear h
    go_enter Try.func96, Try.ntmps96
    go_wp2_with fail
    go_ret2
    exact ⟨rfl, rfl⟩

theorem spec_gen_no (n : Int) (h : n < 1 ∨ 4 < n) (w : World) : Calls Try.prog 97 #[.int .i64 n] w fun e w' => e = .returned (.tuple #[.int .u16 0, .int .i64 2]) ∧ w = w' := by
  have hb : inB n 1 4 = false := by unfold inB; simp; omega
  have Hb := Lib.hid hb; clear hb h
  go_enter Try.func97, Try.ntmps97
  go_wp2_with fail
  refine (l00In_any _ _ _ _).mono ?_
  rintro e w' ⟨rfl, rfl⟩
  rw [Hb.out]
  go_wp2_with fail
  go_ret2
  exact ⟨rfl, rfl⟩
end Go.Proofs.Ytjbaeomjinnlhaa.E
