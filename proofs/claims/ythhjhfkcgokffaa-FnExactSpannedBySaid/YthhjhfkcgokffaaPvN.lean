/-
  Nimbers' contracts with the values named: sums, products, inverses, roots.
-/
import Derived.Test.YthhjhfkcgokffaaPq
import Derived.Test.YthhjhfkcgokffaaPow2
namespace Go.Proofs.Ythhjhfkcgokffaa
set_option linter.unusedVariables false
set_option linter.unusedSimpArgs false
open Go.ChangeShapes Go.WideShapes Go.ChangeAt Go.RowKit

theorem plus_v (x y : Int) (a0 : 0 ≤ x) (a1 : x < 65536) (b0 : 0 ≤ y) (b1 : y < 65536) (w : World) :
    Calls Try.prog 126 #[.int .u16 x, .int .u16 y] w fun e w' => e = .returned (.int .u16 (xorI x y)) ∧ w' = w := by
  refine (plus_any 65536 (by decide) x y a0 a1 b0 b1 w).mono ?_
  rintro e w' ⟨⟨v, rfl, hv, _⟩, rfl⟩
  exact ⟨by rw [hv.out], rfl⟩
theorem times_v (x y : Int) (a0 : 0 ≤ x) (a1 : x < 65536) (b0 : 0 ≤ y) (b1 : y < 65536) (w : World) :
    Calls Try.prog 135 #[.int .u16 x, .int .u16 y] w fun e w' => e = .returned (.int .u16 (mulI x y)) ∧ w' = w := by
  refine (times_any x y a0 a1 b0 b1 w).mono ?_
  rintro e w' ⟨⟨v, rfl, hv, _⟩, rfl⟩
  exact ⟨by rw [hv.out], rfl⟩
theorem ltimes_v (x y : Int) (a0 : 0 ≤ x) (a1 : x < 65536) (b0 : 0 ≤ y) (b1 : y < 65536) (w : World) :
    Calls Try.prog 121 #[.int .u16 x, .int .u16 y] w fun e w' => e = .returned (.int .u16 (mulI x y)) ∧ w' = w := by
  refine (ltimes_any x y a0 a1 b0 b1 w).mono ?_
  rintro e w' ⟨⟨v, rfl, hv, _⟩, rfl⟩
  exact ⟨by rw [hv.out], rfl⟩
/-- the inverse -/
@[irreducible] def invP (x : Int) : Int := pwI 1 x 65534
theorem invP_eq (x : Int) : pwI 1 x 65534 = invP x := by unfold invP; rfl
theorem invP_u (x : Int) (h : x < 65536) : 0 ≤ invP x ∧ invP x < 65536 := by rw [← invP_eq]; exact pwI_b x 65534 h
theorem inv_v (x : Int) (x0 : 0 ≤ x) (x1 : x < 65536) (w : World) :
    Calls Try.prog 149 #[.int .u16 x] w fun e w' => e = .returned (.int .u16 (invP x)) ∧ w' = w := by
  refine (inverse_any x x0 x1 w).mono ?_
  rintro e w' ⟨⟨v, rfl, hv, _⟩, rfl⟩
  exact ⟨by rw [hv.out, invP_eq], rfl⟩
theorem linv_v (x : Int) (x0 : 0 ≤ x) (x1 : x < 65536) (w : World) :
    Calls Try.prog 122 #[.int .u16 x] w fun e w' => e = .returned (.int .u16 (invP x)) ∧ w' = w := by
  refine (linverse_any x x0 x1 w).mono ?_
  rintro e w' ⟨⟨v, rfl, hv, _⟩, rfl⟩
  exact ⟨by rw [hv.out, invP_eq], rfl⟩
/-- the root -/
@[irreducible] def rootP (x : Int) : Int := pwI 1 x 32768
theorem rootP_eq (x : Int) : pwI 1 x 32768 = rootP x := by unfold rootP; rfl
theorem rootP_u (x : Int) (h : x < 65536) : 0 ≤ rootP x ∧ rootP x < 65536 := by rw [← rootP_eq]; exact pwI_b x 32768 h
end Go.Proofs.Ythhjhfkcgokffaa
