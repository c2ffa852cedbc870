/-
  Errors of errors.New that a row lists: no nil.
-/
import Derived.Test.YthhjhfkcgokffaaDoorRows
import Derived.Stop.LaidErr
import Derived.LaidMore
import Derived.LaidLaws
namespace Go.Proofs.YthhjhfkcgokffaaDoor
open Go.ChangeShapes Go.RowKit
theorem errStar : ("*errors.errorString" : String) = "*" ++ "errors.errorString" := by decide
theorem rowErr (u : TypeId) (h : Tryd.prog.typeName? 3 u = some "*errors.errorString") : u = 110 :=
  typeName_ptr_named (nm := "errors.errorString") (by rw [← errStar]; kernel_rfl) (by kernel_rfl) (by decide) u (by rw [← errStar]; exact h)
/-- the error at the head of the list -/
theorem err_head {W : World} {n : String} {text : List UInt8} {r : List (String × DataW Unit)} {g : Nat} (h : laidMet Tryd.prog ((n, .iface "*errors.errorString" (.ptr (.agg [.lit (.string text)]))) :: r) W)
    (hg : Tryd.prog.globalNamed n = some g) (ht : (Tryd.prog.globals[g]?).map (·.type) = some 54) :
    ∃ (a : Addr), W.cell? ⟨g, 0, none⟩ = some (.iface 110 (.pointer (some a))) := by
  obtain ⟨a, s, hv, _⟩ := laid_sentinel h hg ht Tryd.underlying54 rowErr Tryd.underlying110 Tryd.underlying112 rfl rfl Tryd.underlying9 (by kernel_rfl) (by kernel_rfl)
  exact ⟨a, World.var?_cell hg hv 0⟩
end Go.Proofs.YthhjhfkcgokffaaDoor
