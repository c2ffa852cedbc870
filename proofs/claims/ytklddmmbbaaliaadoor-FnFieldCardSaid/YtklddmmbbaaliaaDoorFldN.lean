/-
  The contracts of chapter 1 in natural numbers whose values have been given names ahead.
-/
import Derived.Test.YtklddmmbbaaliaaDoorFldM
import Derived.Test.YtklddmmbbaaliaaDoorWrap
import Derived.Test.YtklddmmbbaaliaaDoorGen2
import Derived.Test.YtklddmmbbaaliaaDoorLaw
namespace Go.Proofs.YtklddmmbbaaliaaDoor
set_option linter.unusedVariables false
set_option linter.unusedSimpArgs false
open Go.ChangeShapes Go.WideShapes Go.ChangeAt Go.RowKit
theorem nat_one : ((1 : Nat) : Int) = 1 := rfl
theorem nat_zero : ((0 : Nat) : Int) = 0 := rfl
theorem impl_tN (x y p : Nat) (hx : x < 65536) (hy : y < 65536) (h : Hid (Nim.mul x y = p)) (w : World) :
    Calls Tryd.prog 27 #[.int .u16 (x : Int), .int .u16 (y : Int)] w fun e w' => e = .returned (.int .u16 (p : Int)) ∧ w = w' := by
  refine (impl_TimesNim (x : Int) (y : Int) (by omega) (by omega) (by omega) (by omega) w).mono ?_
  rintro e w' ⟨⟨v, rfl, hv, _, _⟩, rfl⟩
  exact ⟨by rw [hv.out, mulI_nat, h.out], rfl⟩
theorem spec_tN (x y p : Nat) (hx : x < 65536) (hy : y < 65536) (h : Hid (Nim.mul x y = p)) (w : World) :
    Calls Tryd.prog 28 #[.int .u16 (x : Int), .int .u16 (y : Int)] w fun e w' => e = .returned (.int .u16 (p : Int)) ∧ w = w' := by
  refine (spec_TimesNim (x : Int) (y : Int) (by omega) (by omega) (by omega) (by omega) w).mono ?_
  rintro e w' ⟨⟨v, rfl, hv, _, _⟩, rfl⟩
  exact ⟨by rw [hv.out, mulI_nat, h.out], rfl⟩
theorem impl_t1 (x : Nat) (hx : x < 65536) (w : World) :
    Calls Tryd.prog 27 #[.int .u16 (x : Int), .int .u16 1] w fun e w' => e = .returned (.int .u16 (x : Int)) ∧ w = w' :=
  impl_tN x 1 x hx (by decide) (Lib.hid (by rw [Nim.mul_comm, Nim.mul_one_left hx])) w
theorem impl_t0 (x : Nat) (hx : x < 65536) (w : World) :
    Calls Tryd.prog 27 #[.int .u16 (x : Int), .int .u16 0] w fun e w' => e = .returned (.int .u16 0) ∧ w = w' :=
  impl_tN x 0 0 hx (by decide) (Lib.hid (by rw [Nim.mul_comm, Nim.mul_zero_left])) w
theorem impl_pN (x y p : Nat) (hx : x < 65536) (hy : y < 65536) (h : Hid (x ^^^ y = p)) (w : World) :
    Calls Tryd.prog 29 #[.int .u16 (x : Int), .int .u16 (y : Int)] w fun e w' => e = .returned (.int .u16 (p : Int)) ∧ w = w' := by
  go_enter Tryd.func29, Tryd.ntmps29
  go_wp2_with fail
  refine (plus_any 65536 (by simp) (x : Int) (y : Int) (by omega) (by omega) (by omega) (by omega) _).mono ?_
  rintro e w' ⟨⟨v, rfl, hv, _, _⟩, rfl⟩
  have HV : Hid (v = (p : Int)) := Lib.hid (by rw [hv.out, xorI_nat, h.out])
  clear hv
  go_wp2_with fail
  go_ret
  exact ⟨by rw [HV.out]; rfl, rfl⟩
theorem impl_p0 (x : Nat) (hx : x < 65536) (w : World) :
    Calls Tryd.prog 29 #[.int .u16 (x : Int), .int .u16 (x : Int)] w fun e w' => e = .returned (.int .u16 0) ∧ w = w' :=
  impl_pN x x 0 hx hx (Lib.hid (Nat.xor_self x)) w
theorem impl_lN (x k : Nat) (hx : x < 65536) (h : Hid (lev x = k)) (w : World) :
    Calls Tryd.prog 31 #[.int .u16 (x : Int)] w fun e w' => e = .returned (.int .i64 (k : Int)) ∧ w = w' := by
  refine (impl_LevelOf (x : Int) (by omega) (by omega) w).mono ?_
  rintro e w' ⟨rfl, rfl⟩
  exact ⟨by rw [Int.toNat_natCast, h.out], rfl⟩
theorem spec_lN (x k : Nat) (hx : x < 65536) (h : Hid (lev x = k)) (w : World) :
    Calls Tryd.prog 30 #[.int .u16 (x : Int)] w fun e w' => e = .returned (.int .i64 (k : Int)) ∧ w = w' := by
  refine (spec_LevelOf (x : Int) (by omega) (by omega) w).mono ?_
  rintro e w' ⟨rfl, rfl⟩
  exact ⟨by rw [Int.toNat_natCast, h.out], rfl⟩
theorem impl_sN (x p : Nat) (hx : x < 65536) (h : Hid (Nim.mul x x = p)) (w : World) :
    Calls Tryd.prog 32 #[.int .u16 (x : Int)] w fun e w' => e = .returned (.int .u16 (p : Int)) ∧ w = w' := by
  refine (impl_SquareOf (x : Int) (by omega) (by omega) w).mono ?_
  rintro e w' ⟨⟨v, rfl, hv, _, _⟩, rfl⟩
  exact ⟨by rw [hv.out, mulI_nat, h.out], rfl⟩
theorem impl_rN (x p : Nat) (hx : x < 65536) (h : Hid (Nim.npow x 32768 = p)) (w : World) :
    Calls Tryd.prog 33 #[.int .u16 (x : Int)] w fun e w' => e = .returned (.int .u16 (p : Int)) ∧ w = w' := by
  refine (impl_RootOf (x : Int) (by omega) (by omega) w).mono ?_
  rintro e w' ⟨⟨v, rfl, hv, _, _⟩, rfl⟩
  have e := pwI_nat x 32768 hx
  rw [h.out] at e
  exact ⟨by rw [hv.out]; exact congrArg (fun q => Ending.returned (Value.int .u16 q)) e, rfl⟩
theorem impl_wN (x n p : Nat) (hx : x < 65536) (hn : n ≤ 1099511627776) (h : Hid (Nim.npow x n = p)) (w : World) :
    Calls Tryd.prog 35 #[.int .u16 (x : Int), .int .i64 (n : Int)] w fun e w' => e = .returned (.tuple #[.int .u16 (p : Int), .int .i64 0]) ∧ w = w' := by
  refine (impl_PowerOf (x : Int) (n : Int) (by omega) (by omega) (by omega) (by omega) w).mono ?_
  rintro e w' ⟨⟨v, rfl, hv⟩, rfl⟩
  refine ⟨?_, rfl⟩
  have q := pwI_nat x n hx
  rw [h.out] at q
  rw [← q]
  first | rw [hv.out] | rw [hv.1.out] | rw [hv.out.1]
theorem spec_wN (x n p : Nat) (hx : x < 65536) (hn : n ≤ 1099511627776) (h : Hid (Nim.npow x n = p)) (w : World) :
    Calls Tryd.prog 36 #[.int .u16 (x : Int), .int .i64 (n : Int)] w fun e w' => e = .returned (.tuple #[.int .u16 (p : Int), .int .i64 0]) ∧ w = w' := by
  refine (spec_PowerOf (x : Int) (n : Int) (by omega) (by omega) (by omega) (by omega) w).mono ?_
  rintro e w' ⟨⟨v, rfl, hv⟩, rfl⟩
  refine ⟨?_, rfl⟩
  have q := pwI_nat x n hx
  rw [h.out] at q
  rw [← q]
  first | rw [hv.out] | rw [hv.1.out] | rw [hv.out.1]
theorem impl_iN (x p : Nat) (hx : x < 65536) (h0 : Hid (x ≠ 0)) (h : Hid (Nim.npow x 65534 = p)) (w : World) :
    Calls Tryd.prog 37 #[.int .u16 (x : Int)] w fun e w' => e = .returned (.tuple #[.int .u16 (p : Int), .int .i64 0]) ∧ w = w' := by
  have h0' := h0.out
  refine (impl_InverseOf (x : Int) (by omega) (by omega) (by omega) w).mono ?_
  rintro e w' ⟨⟨v, rfl, hv⟩, rfl⟩
  refine ⟨?_, rfl⟩
  have q : mulI 1 (pwI 1 (x : Int) 65534) = ((p : Nat) : Int) := by
    rw [mulI_one _ (pwI_b _ _ (by omega)).1 (pwI_b _ _ (by omega)).2]
    have q := pwI_nat x 65534 hx
    rw [h.out] at q
    exact q
  rw [← q]
  first | rw [hv.out] | rw [hv.1.out] | rw [hv.out.1]
theorem impl_oN (y x p r : Nat) (hx : x < 65536) (hy : y < 65536) (h0 : Hid (x ≠ 0)) (h : Hid (Nim.npow x 65534 = p)) (hr : Hid (Nim.mul y p = r)) (w : World) :
    Calls Tryd.prog 38 #[.int .u16 (y : Int), .int .u16 (x : Int)] w fun e w' => e = .returned (.tuple #[.int .u16 (r : Int), .int .i64 0]) ∧ w = w' := by
  have h0' := h0.out
  refine (impl_OverNim (y : Int) (x : Int) (by omega) (by omega) (by omega) (by omega) (by omega) w).mono ?_
  rintro e w' ⟨⟨v, rfl, hv⟩, rfl⟩
  refine ⟨?_, rfl⟩
  have q : mulI (y : Int) (pwI 1 (x : Int) 65534) = ((r : Nat) : Int) := by
    have q := pwI_nat x 65534 hx
    rw [h.out] at q
    have q2 : pwI 1 (x : Int) 65534 = (p : Int) := q
    rw [q2, mulI_nat, hr.out]
  rw [← q]
  first | rw [hv.out] | rw [hv.1.out] | rw [hv.out.1]
theorem impl_dN (x o : Nat) (hx : x < 65536) (h0 : Hid (x ≠ 0)) (h : Hid (Nim.ordN x = o)) (w : World) :
    Calls Tryd.prog 39 #[.int .u16 (x : Int)] w fun e w' => e = .returned (.tuple #[.int .i64 (o : Int), .int .i64 0]) ∧ w = w' := by
  have h0' := h0.out
  refine (impl_OrderOf (x : Int) (by omega) (by omega) (by omega) w).mono ?_
  rintro e w' ⟨rfl, rfl⟩
  exact ⟨by rw [ordI_nat x hx, h.out], rfl⟩
set_option maxHeartbeats 1000000 in
theorem lorderB_any (x : Int) (x0 : 0 ≤ x) (x1 : x < 65536) (w : World) :
    Calls Tryd.prog 89 #[.int .u16 x] w fun e w' => e = .returned (.int .i64 (ordI x)) ∧ Below w.heap.size w w' := by
  go_enter Tryd.func89, Tryd.ntmps89
  go_wp2_with fail
  go_loop [3, 5] (fun a k => ∃ (n : Int) (i : Nat), a = .int .i64 n ∧ ((i = 0 ∧ k = .int .i64 0) ∨ (i = 1 ∧ k = .int .i64 1) ∨ (i = 2 ∧ k = .int .i64 2) ∨ (i = 3 ∧ k = .int .i64 3) ∨ (i = 4 ∧ k = .int .i64 4)) ∧ 0 ≤ n ∧ n ≤ 65535 ∧ Hid (n = ordA x i)) (fun _ k => 4 - (intOf k).toNat)
  case atStart => exact ⟨65535, 0, rfl, Or.inl ⟨rfl, rfl⟩, by omega, by omega, Lib.hid rfl⟩
  case round =>
    obtain ⟨n, i, rfl, hc, n0, n1, hn⟩ := hrel
    rcases hc with ⟨rfl, rfl⟩ | ⟨rfl, rfl⟩ | ⟨rfl, rfl⟩ | ⟨rfl, rfl⟩ | ⟨rfl, rfl⟩
    rotate_left 4
    · go_wp2_with fail
      go_ret
      exact ⟨by rw [hn.out]; rfl, (Below.refl _ _).alloc (Nat.le_refl _) _⟩
    · go_wp2_with fail
      refine (lpower_any _ _ x0 x1 (by omega) (by omega) _).mono ?_
      rintro e w' ⟨⟨v, rfl, hv, v0, v1⟩, rfl⟩
      by_cases h1 : v = 1
      · have ht : (v == 1) = true := beq_iff_eq.2 h1
        have hr := Lib.hid (ord_yes x 0 n 3 v rfl hn.out hv.out h1)
        clear h1
        go_wp2_with fail
        go_round
        case rel => exact ⟨n / 3, 1, rfl, by simp, by omega, by omega, hr⟩
        case measure => simp [intOf]
      · have ht : (v == 1) = false := beq_eq_false_iff_ne.2 h1
        have hr := Lib.hid (ord_no x 0 n 3 v rfl hn.out hv.out h1)
        clear h1
        go_wp2_with fail
        go_round
        case rel => exact ⟨n, 1, rfl, by simp, n0, n1, hr⟩
        case measure => simp [intOf]
    · go_wp2_with fail
      refine (lpower_any _ _ x0 x1 (by omega) (by omega) _).mono ?_
      rintro e w' ⟨⟨v, rfl, hv, v0, v1⟩, rfl⟩
      by_cases h1 : v = 1
      · have ht : (v == 1) = true := beq_iff_eq.2 h1
        have hr := Lib.hid (ord_yes x 1 n 5 v rfl hn.out hv.out h1)
        clear h1
        go_wp2_with fail
        go_round
        case rel => exact ⟨n / 5, 2, rfl, by simp, by omega, by omega, hr⟩
        case measure => simp [intOf]
      · have ht : (v == 1) = false := beq_eq_false_iff_ne.2 h1
        have hr := Lib.hid (ord_no x 1 n 5 v rfl hn.out hv.out h1)
        clear h1
        go_wp2_with fail
        go_round
        case rel => exact ⟨n, 2, rfl, by simp, n0, n1, hr⟩
        case measure => simp [intOf]
    · go_wp2_with fail
      refine (lpower_any _ _ x0 x1 (by omega) (by omega) _).mono ?_
      rintro e w' ⟨⟨v, rfl, hv, v0, v1⟩, rfl⟩
      by_cases h1 : v = 1
      · have ht : (v == 1) = true := beq_iff_eq.2 h1
        have hr := Lib.hid (ord_yes x 2 n 17 v rfl hn.out hv.out h1)
        clear h1
        go_wp2_with fail
        go_round
        case rel => exact ⟨n / 17, 3, rfl, by simp, by omega, by omega, hr⟩
        case measure => simp [intOf]
      · have ht : (v == 1) = false := beq_eq_false_iff_ne.2 h1
        have hr := Lib.hid (ord_no x 2 n 17 v rfl hn.out hv.out h1)
        clear h1
        go_wp2_with fail
        go_round
        case rel => exact ⟨n, 3, rfl, by simp, n0, n1, hr⟩
        case measure => simp [intOf]
    · go_wp2_with fail
      refine (lpower_any _ _ x0 x1 (by omega) (by omega) _).mono ?_
      rintro e w' ⟨⟨v, rfl, hv, v0, v1⟩, rfl⟩
      by_cases h1 : v = 1
      · have ht : (v == 1) = true := beq_iff_eq.2 h1
        have hr := Lib.hid (ord_yes x 3 n 257 v rfl hn.out hv.out h1)
        clear h1
        go_wp2_with fail
        go_round
        case rel => exact ⟨n / 257, 4, rfl, by simp, by omega, by omega, hr⟩
        case measure => simp [intOf]
      · have ht : (v == 1) = false := beq_eq_false_iff_ne.2 h1
        have hr := Lib.hid (ord_no x 3 n 257 v rfl hn.out hv.out h1)
        clear h1
        go_wp2_with fail
        go_round
        case rel => exact ⟨n, 4, rfl, by simp, n0, n1, hr⟩
        case measure => simp [intOf]

theorem spec_dN (x o : Nat) (hx : x < 65536) (h0 : Hid (x ≠ 0)) (h : Hid (Nim.ordN x = o)) (w : World) :
    Calls Tryd.prog 40 #[.int .u16 (x : Int)] w fun e w' => e = .returned (.tuple #[.int .i64 (o : Int), .int .i64 0]) ∧ Below w.heap.size w w' := by
  have h0' := h0.out
  have t := beq0_no (show ¬ (x : Int) = 0 by omega)
  clear h0'
  go_enter Tryd.func40, Tryd.ntmps40
  go_wp2_with fail
  refine (lorderB_any (x : Int) (by omega) (by omega) _).mono ?_
  rintro e w' ⟨rfl, hg⟩
  have HG := Lib.hid hg
  have HO : Hid (ordI (x : Int) = (o : Int)) := Lib.hid (by rw [ordI_nat x hx, h.out])
  clear hg
  go_wp2_with fail
  go_ret2
  exact ⟨by rw [HO.out]; rfl, HG.out⟩
theorem impl_gN (x n p k : Nat) (hx : x < 65536) (hp : p < 65536) (h0 : Hid (x ≠ 0)) (h : Hid (Nim.npow x n = p)) (hk : Hid (n % Nim.ordN x = k)) (w : World) :
    Calls Tryd.prog 41 #[.int .u16 (x : Int), .int .u16 (p : Int)] w fun e w' => e = .returned (.tuple #[.int .i64 (k : Int), .int .i64 0]) ∧ Below w.heap.size w w' := by
  have h0' := h0.out
  refine (impl_LogOf (x : Int) (p : Int) (by omega) (by omega) (by omega) (by omega) (by omega) w).mono ?_
  rintro e w' ⟨rfl, hb⟩
  refine ⟨?_, hb⟩
  have q := log_pow x n hx h0'
  rw [h.out, hk.out] at q
  rw [q]
theorem impl_i0 (x : Nat) (h0 : Hid (x = 0)) (w : World) :
    Calls Tryd.prog 37 #[.int .u16 (x : Int)] w fun e w' => e = .returned (.tuple #[.int .u16 0, .int .i64 4]) ∧ w = w' := by
  have h0' := h0.out
  refine (impl_InverseOf0 (x : Int) (by omega) w).mono ?_
  rintro e w' ⟨⟨v, rfl, hv⟩, rfl⟩
  exact ⟨by rw [hv.1.out], rfl⟩
theorem impl_o0 (y x : Nat) (h0 : Hid (x = 0)) (w : World) :
    Calls Tryd.prog 38 #[.int .u16 (y : Int), .int .u16 (x : Int)] w fun e w' => e = .returned (.tuple #[.int .u16 0, .int .i64 4]) ∧ w = w' := by
  have h0' := h0.out
  refine (impl_OverNim0 (y : Int) (x : Int) (by omega) w).mono ?_
  rintro e w' ⟨⟨v, rfl, hv⟩, rfl⟩
  exact ⟨by rw [hv.1.out], rfl⟩
theorem impl_d0 (x : Nat) (h0 : Hid (x = 0)) (w : World) :
    Calls Tryd.prog 39 #[.int .u16 (x : Int)] w fun e w' => e = .returned (.tuple #[.int .i64 0, .int .i64 4]) ∧ w = w' := by
  have h0' := h0.out
  exact (impl_OrderOf0 (x : Int) (by omega) w)
end Go.Proofs.YtklddmmbbaaliaaDoor
