/-
  Contracts of LeastGenerator and OrderOf, of the program and of the model.
-/
import Derived.Test.YtklddmmbbaaliaaDoorGen
namespace Go.Proofs.YtklddmmbbaaliaaDoor
set_option linter.unusedVariables false
set_option linter.unusedSimpArgs false
open Go.ChangeShapes Go.WideShapes Go.ChangeAt Go.RowKit
theorem gtrans {a b c : World} (h1 : Grown a b) (h2 : Grown b c) : Grown a c := ⟨World.keptBut_trans h1.1 h2.1, fun x => (h2.2.1 x).trans (h1.2.1 x), Nat.le_trans h1.2.2 h2.2.2⟩

theorem impl_OrderOf0 (x : Int) (hx : x = 0) (w : World) :
    Calls Tryd.prog 39 #[.int .u16 x] w fun e w' => e = .returned (.tuple #[.int .i64 0, .int .i64 4]) ∧ w = w' := by
  have t := beq0_yes hx
  clear hx
  go_enter Tryd.func39, Tryd.ntmps39
  go_wp2_with fail
  go_ret2
  exact ⟨rfl, rfl⟩
theorem impl_OrderOf (x : Int) (x0 : 0 ≤ x) (x1 : x < 65536) (hx : ¬ x = 0) (w : World) :
    Calls Tryd.prog 39 #[.int .u16 x] w fun e w' => e = .returned (.tuple #[.int .i64 (ordI x), .int .i64 0]) ∧ w = w' := by
  have t := beq0_no hx
  clear hx
  go_enter Tryd.func39, Tryd.ntmps39
  go_wp2_with fail
  refine (order_any _ x0 x1 _).mono ?_
  rintro e w' ⟨rfl, rfl⟩
  go_wp2_with fail
  go_ret2
  exact ⟨rfl, rfl⟩
theorem spec_OrderOf0 (x : Int) (hx : x = 0) (w : World) :
    Calls Tryd.prog 40 #[.int .u16 x] w fun e w' => e = .returned (.tuple #[.int .i64 0, .int .i64 4]) ∧ Grown w w' := by
  have t := beq0_yes hx
  clear hx
  go_enter Tryd.func40, Tryd.ntmps40
  go_wp2_with fail
  go_ret2
  exact ⟨rfl, Grown.refl _⟩
theorem spec_OrderOf (x : Int) (x0 : 0 ≤ x) (x1 : x < 65536) (hx : ¬ x = 0) (w : World) :
    Calls Tryd.prog 40 #[.int .u16 x] w fun e w' => e = .returned (.tuple #[.int .i64 (ordI x), .int .i64 0]) ∧ Grown w w' := by
  have t := beq0_no hx
  clear hx
  go_enter Tryd.func40, Tryd.ntmps40
  go_wp2_with fail
  refine (lorder_any _ x0 x1 _).mono ?_
  rintro e w' ⟨rfl, hg⟩
  go_wp2_with fail
  go_ret2
  exact ⟨rfl, hg⟩

end Go.Proofs.YtklddmmbbaaliaaDoor
