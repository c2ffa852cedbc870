/-
  Contracts of the exported functions on sums, products and levels.
-/
import Derived.Test.YtklddmmbbaaliaaDoorField
namespace Go.Proofs.YtklddmmbbaaliaaDoor
set_option linter.unusedVariables false
set_option linter.unusedSimpArgs false
open Go.ChangeShapes Go.WideShapes Go.ChangeAt Go.RowKit

theorem spec_TimesNim (x y : Int) (a0 : 0 ≤ x) (a1 : x < 65536) (b0 : 0 ≤ y) (b1 : y < 65536) (w : World) :
   Calls Tryd.prog 28 #[.int .u16 x, .int .u16 y] w fun e w' => IsV (mulI x y) 65536 e ∧ w = w' := by
 go_enter Tryd.func28, Tryd.ntmps28
 go_wp2_with fail
 refine (ltimes_any _ _ a0 a1 b0 b1 _).mono ?_
 rintro e w' ⟨⟨v, rfl, hv, v0, v1⟩, rfl⟩
 go_wp2_with fail
 go_ret
 exact ⟨⟨v, rfl, hv, v0, v1⟩, rfl⟩

theorem impl_TimesNim (x y : Int) (a0 : 0 ≤ x) (a1 : x < 65536) (b0 : 0 ≤ y) (b1 : y < 65536) (w : World) :
   Calls Tryd.prog 27 #[.int .u16 x, .int .u16 y] w fun e w' => IsV (mulI x y) 65536 e ∧ w = w' := by
 go_enter Tryd.func27, Tryd.ntmps27
 go_wp2_with fail
 refine (times_any _ _ a0 a1 b0 b1 _).mono ?_
 rintro e w' ⟨⟨v, rfl, hv, v0, v1⟩, rfl⟩
 go_wp2_with fail
 go_ret
 exact ⟨⟨v, rfl, hv, v0, v1⟩, rfl⟩
end Go.Proofs.YtklddmmbbaaliaaDoor
