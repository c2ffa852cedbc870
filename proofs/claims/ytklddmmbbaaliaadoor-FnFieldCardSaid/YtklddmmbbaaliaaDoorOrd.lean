/-
  Contracts of the order of a nimber, of the program and of the model.
-/
import Derived.Test.YtklddmmbbaaliaaDoorPow2
namespace Go.Proofs.YtklddmmbbaaliaaDoor
set_option linter.unusedVariables false
set_option linter.unusedSimpArgs false
open Go.ChangeShapes Go.WideShapes Go.ChangeAt Go.RowKit

def ordStep (x p n : Int) : Int := if pwI 1 x (n / p) = 1 then n / p else n
def primeAt : Nat → Int
  | 0 => 3
  | 1 => 5
  | 2 => 17
  | _ => 257
def ordA (x : Int) : Nat → Int
  | 0 => 65535
  | i + 1 => ordStep x (primeAt i) (ordA x i)
def ordI (x : Int) : Int := ordA x 4
theorem ordStep_b (x p n : Int) (hp : 1 ≤ p) (h0 : 0 ≤ n) (h1 : n ≤ 65535) : 0 ≤ ordStep x p n ∧ ordStep x p n ≤ 65535 := by
  have a := Int.ediv_nonneg h0 (by omega : (0 : Int) ≤ p)
  have b := Int.ediv_le_self p h0
  unfold ordStep; split <;> omega
theorem primeAt_pos (i : Nat) : 1 ≤ primeAt i := by unfold primeAt; split <;> omega
theorem ordA_b (x : Int) (i : Nat) : 0 ≤ ordA x i ∧ ordA x i ≤ 65535 := by
  induction i with
  | zero => exact ⟨by show (0 : Int) ≤ 65535; decide, by show (65535 : Int) ≤ 65535; decide⟩
  | succ i ih => exact ordStep_b x _ _ (primeAt_pos i) ih.1 ih.2
theorem ord_yes (x : Int) (i : Nat) (n p v : Int) (hp : primeAt i = p) (hn : n = ordA x i) (hv : v = pwI 1 x (n / p)) (h : v = 1) : n / p = ordA x (i + 1) := by
  show _ = ordStep x (primeAt i) (ordA x i)
  unfold ordStep; rw [hp, ← hn, ← hv, if_pos h]
theorem ord_no (x : Int) (i : Nat) (n p v : Int) (hp : primeAt i = p) (hn : n = ordA x i) (hv : v = pwI 1 x (n / p)) (h : ¬ v = 1) : n = ordA x (i + 1) := by
  show _ = ordStep x (primeAt i) (ordA x i)
  unfold ordStep; rw [hp, ← hn, ← hv, if_neg h]

set_option maxHeartbeats 1000000 in
theorem order_any (x : Int) (x0 : 0 ≤ x) (x1 : x < 65536) (w : World) :
    Calls Tryd.prog 88 #[.int .u16 x] w fun e w' => e = .returned (.int .i64 (ordI x)) ∧ w = w' := by
  have ix0 : ∀ w : World, (Instr.index 147 (.agg #[.int .i64 3, .int .i64 5, .int .i64 17, .int .i64 257]) (.int .i64 0)).run Tryd.prog w = .ok (.int .i64 3) w := fun _ => by kernel_rfl
  have ix1 : ∀ w : World, (Instr.index 147 (.agg #[.int .i64 3, .int .i64 5, .int .i64 17, .int .i64 257]) (.int .i64 1)).run Tryd.prog w = .ok (.int .i64 5) w := fun _ => by kernel_rfl
  have ix2 : ∀ w : World, (Instr.index 147 (.agg #[.int .i64 3, .int .i64 5, .int .i64 17, .int .i64 257]) (.int .i64 2)).run Tryd.prog w = .ok (.int .i64 17) w := fun _ => by kernel_rfl
  have ix3 : ∀ w : World, (Instr.index 147 (.agg #[.int .i64 3, .int .i64 5, .int .i64 17, .int .i64 257]) (.int .i64 3)).run Tryd.prog w = .ok (.int .i64 257) w := fun _ => by kernel_rfl
  go_enter Tryd.func88, Tryd.ntmps88
  go_wp2_with fail
  go_loop [3, 7] (fun a k => ∃ (n : Int) (i : Nat), a = .int .i64 n ∧ ((i = 0 ∧ k = .int .i64 0) ∨ (i = 1 ∧ k = .int .i64 1) ∨ (i = 2 ∧ k = .int .i64 2) ∨ (i = 3 ∧ k = .int .i64 3) ∨ (i = 4 ∧ k = .int .i64 4)) ∧ 0 ≤ n ∧ n ≤ 65535 ∧ Hid (n = ordA x i)) (fun _ k => 4 - (intOf k).toNat)
  case atStart => exact ⟨65535, 0, rfl, Or.inl ⟨rfl, rfl⟩, by omega, by omega, Lib.hid rfl⟩
  case round =>
    obtain ⟨n, i, rfl, hc, n0, n1, hn⟩ := hrel
    rcases hc with ⟨rfl, rfl⟩ | ⟨rfl, rfl⟩ | ⟨rfl, rfl⟩ | ⟨rfl, rfl⟩ | ⟨rfl, rfl⟩
    rotate_left 4
    · go_wp2_with fail
      go_ret
      exact ⟨by rw [hn.out]; rfl, rfl⟩
    · go_wp2_with fail
      refine (power_any _ _ x0 x1 (by omega) (by omega) _).mono ?_
      rintro e w' ⟨⟨v, rfl, hv, v0, v1⟩, rfl⟩
      by_cases h1 : v = 1
      · have ht : (v == 1) = true := beq_iff_eq.2 h1
        have hr := Lib.hid (ord_yes x 0 n 3 v rfl hn.out hv.out h1)
        clear h1
        go_wp2_with fail
        go_round
        case rel => exact ⟨n / 3, 1, rfl, by simp, by omega, by omega, hr⟩
        case measure => simp [intOf]
      · have ht : (v == 1) = false := beq_eq_false_iff_ne.2 h1
        have hr := Lib.hid (ord_no x 0 n 3 v rfl hn.out hv.out h1)
        clear h1
        go_wp2_with fail
        go_round
        case rel => exact ⟨n, 1, rfl, by simp, n0, n1, hr⟩
        case measure => simp [intOf]
    · go_wp2_with fail
      refine (power_any _ _ x0 x1 (by omega) (by omega) _).mono ?_
      rintro e w' ⟨⟨v, rfl, hv, v0, v1⟩, rfl⟩
      by_cases h1 : v = 1
      · have ht : (v == 1) = true := beq_iff_eq.2 h1
        have hr := Lib.hid (ord_yes x 1 n 5 v rfl hn.out hv.out h1)
        clear h1
        go_wp2_with fail
        go_round
        case rel => exact ⟨n / 5, 2, rfl, by simp, by omega, by omega, hr⟩
        case measure => simp [intOf]
      · have ht : (v == 1) = false := beq_eq_false_iff_ne.2 h1
        have hr := Lib.hid (ord_no x 1 n 5 v rfl hn.out hv.out h1)
        clear h1
        go_wp2_with fail
        go_round
        case rel => exact ⟨n, 2, rfl, by simp, n0, n1, hr⟩
        case measure => simp [intOf]
    · go_wp2_with fail
      refine (power_any _ _ x0 x1 (by omega) (by omega) _).mono ?_
      rintro e w' ⟨⟨v, rfl, hv, v0, v1⟩, rfl⟩
      by_cases h1 : v = 1
      · have ht : (v == 1) = true := beq_iff_eq.2 h1
        have hr := Lib.hid (ord_yes x 2 n 17 v rfl hn.out hv.out h1)
        clear h1
        go_wp2_with fail
        go_round
        case rel => exact ⟨n / 17, 3, rfl, by simp, by omega, by omega, hr⟩
        case measure => simp [intOf]
      · have ht : (v == 1) = false := beq_eq_false_iff_ne.2 h1
        have hr := Lib.hid (ord_no x 2 n 17 v rfl hn.out hv.out h1)
        clear h1
        go_wp2_with fail
        go_round
        case rel => exact ⟨n, 3, rfl, by simp, n0, n1, hr⟩
        case measure => simp [intOf]
    · go_wp2_with fail
      refine (power_any _ _ x0 x1 (by omega) (by omega) _).mono ?_
      rintro e w' ⟨⟨v, rfl, hv, v0, v1⟩, rfl⟩
      by_cases h1 : v = 1
      · have ht : (v == 1) = true := beq_iff_eq.2 h1
        have hr := Lib.hid (ord_yes x 3 n 257 v rfl hn.out hv.out h1)
        clear h1
        go_wp2_with fail
        go_round
        case rel => exact ⟨n / 257, 4, rfl, by simp, by omega, by omega, hr⟩
        case measure => simp [intOf]
      · have ht : (v == 1) = false := beq_eq_false_iff_ne.2 h1
        have hr := Lib.hid (ord_no x 3 n 257 v rfl hn.out hv.out h1)
        clear h1
        go_wp2_with fail
        go_round
        case rel => exact ⟨n, 4, rfl, by simp, n0, n1, hr⟩
        case measure => simp [intOf]

set_option maxHeartbeats 1000000 in
theorem lorder_any (x : Int) (x0 : 0 ≤ x) (x1 : x < 65536) (w : World) :
    Calls Tryd.prog 89 #[.int .u16 x] w fun e w' => e = .returned (.int .i64 (ordI x)) ∧ Grown w w' := by
  go_enter Tryd.func89, Tryd.ntmps89
  go_wp2_with fail
  go_loop [3, 5] (fun a k => ∃ (n : Int) (i : Nat), a = .int .i64 n ∧ ((i = 0 ∧ k = .int .i64 0) ∨ (i = 1 ∧ k = .int .i64 1) ∨ (i = 2 ∧ k = .int .i64 2) ∨ (i = 3 ∧ k = .int .i64 3) ∨ (i = 4 ∧ k = .int .i64 4)) ∧ 0 ≤ n ∧ n ≤ 65535 ∧ Hid (n = ordA x i)) (fun _ k => 4 - (intOf k).toNat)
  case atStart => exact ⟨65535, 0, rfl, Or.inl ⟨rfl, rfl⟩, by omega, by omega, Lib.hid rfl⟩
  case round =>
    obtain ⟨n, i, rfl, hc, n0, n1, hn⟩ := hrel
    rcases hc with ⟨rfl, rfl⟩ | ⟨rfl, rfl⟩ | ⟨rfl, rfl⟩ | ⟨rfl, rfl⟩ | ⟨rfl, rfl⟩
    rotate_left 4
    · go_wp2_with fail
      go_ret
      exact ⟨by rw [hn.out]; rfl, by go_grown⟩
    · go_wp2_with fail
      refine (lpower_any _ _ x0 x1 (by omega) (by omega) _).mono ?_
      rintro e w' ⟨⟨v, rfl, hv, v0, v1⟩, rfl⟩
      by_cases h1 : v = 1
      · have ht : (v == 1) = true := beq_iff_eq.2 h1
        have hr := Lib.hid (ord_yes x 0 n 3 v rfl hn.out hv.out h1)
        clear h1
        go_wp2_with fail
        go_round
        case rel => exact ⟨n / 3, 1, rfl, by simp, by omega, by omega, hr⟩
        case measure => simp [intOf]
      · have ht : (v == 1) = false := beq_eq_false_iff_ne.2 h1
        have hr := Lib.hid (ord_no x 0 n 3 v rfl hn.out hv.out h1)
        clear h1
        go_wp2_with fail
        go_round
        case rel => exact ⟨n, 1, rfl, by simp, n0, n1, hr⟩
        case measure => simp [intOf]
    · go_wp2_with fail
      refine (lpower_any _ _ x0 x1 (by omega) (by omega) _).mono ?_
      rintro e w' ⟨⟨v, rfl, hv, v0, v1⟩, rfl⟩
      by_cases h1 : v = 1
      · have ht : (v == 1) = true := beq_iff_eq.2 h1
        have hr := Lib.hid (ord_yes x 1 n 5 v rfl hn.out hv.out h1)
        clear h1
        go_wp2_with fail
        go_round
        case rel => exact ⟨n / 5, 2, rfl, by simp, by omega, by omega, hr⟩
        case measure => simp [intOf]
      · have ht : (v == 1) = false := beq_eq_false_iff_ne.2 h1
        have hr := Lib.hid (ord_no x 1 n 5 v rfl hn.out hv.out h1)
        clear h1
        go_wp2_with fail
        go_round
        case rel => exact ⟨n, 2, rfl, by simp, n0, n1, hr⟩
        case measure => simp [intOf]
    · go_wp2_with fail
      refine (lpower_any _ _ x0 x1 (by omega) (by omega) _).mono ?_
      rintro e w' ⟨⟨v, rfl, hv, v0, v1⟩, rfl⟩
      by_cases h1 : v = 1
      · have ht : (v == 1) = true := beq_iff_eq.2 h1
        have hr := Lib.hid (ord_yes x 2 n 17 v rfl hn.out hv.out h1)
        clear h1
        go_wp2_with fail
        go_round
        case rel => exact ⟨n / 17, 3, rfl, by simp, by omega, by omega, hr⟩
        case measure => simp [intOf]
      · have ht : (v == 1) = false := beq_eq_false_iff_ne.2 h1
        have hr := Lib.hid (ord_no x 2 n 17 v rfl hn.out hv.out h1)
        clear h1
        go_wp2_with fail
        go_round
        case rel => exact ⟨n, 3, rfl, by simp, n0, n1, hr⟩
        case measure => simp [intOf]
    · go_wp2_with fail
      refine (lpower_any _ _ x0 x1 (by omega) (by omega) _).mono ?_
      rintro e w' ⟨⟨v, rfl, hv, v0, v1⟩, rfl⟩
      by_cases h1 : v = 1
      · have ht : (v == 1) = true := beq_iff_eq.2 h1
        have hr := Lib.hid (ord_yes x 3 n 257 v rfl hn.out hv.out h1)
        clear h1
        go_wp2_with fail
        go_round
        case rel => exact ⟨n / 257, 4, rfl, by simp, by omega, by omega, hr⟩
        case measure => simp [intOf]
      · have ht : (v == 1) = false := beq_eq_false_iff_ne.2 h1
        have hr := Lib.hid (ord_no x 3 n 257 v rfl hn.out hv.out h1)
        clear h1
        go_wp2_with fail
        go_round
        case rel => exact ⟨n, 4, rfl, by simp, n0, n1, hr⟩
        case measure => simp [intOf]

end Go.Proofs.YtklddmmbbaaliaaDoor
