/-
  LogOf, of the model.
-/
import Derived.Test.YtklddmmbbaaliaaDoorLog2
namespace Go.Proofs.YtklddmmbbaaliaaDoor
set_option linter.unusedVariables false
set_option linter.unusedSimpArgs false
open Go.ChangeShapes Go.WideShapes Go.ChangeAt Go.RowKit

def plist (x : Int) (k : Nat) : List Int := (List.range k).map (pj x)
theorem plist_len (x : Int) (k : Nat) : (plist x k).length = k := by simp [plist]
theorem plist_snoc (x : Int) (k : Nat) : u16s (plist x k) ++ [.int .u16 (pj x k)] = u16s (plist x (k + 1)) := by
  simp [plist, u16s, List.range_succ]
theorem plist_at (x : Int) (k j : Nat) (h : j < k) : (u16s (plist x k))[j]? = some (.int .u16 (pj x j)) := by
  simp [plist, u16s, h]

theorem idx_up {x a : Int} {k j : Nat} (h : idx x a k = some j) (m : Nat) : idx x a (k + m) = some j := by
  induction m with
  | zero => exact h
  | succ m ih => exact idx_some_keep ih
theorem idx_to {x a : Int} {k : Nat} (h : idx x a k = none) (e : pj x k = a) (hk : k < 256) : idx x a 256 = some k := by
  have := idx_up (idx_none_hit h e) (256 - (k + 1))
  rw [show k + 1 + (256 - (k + 1)) = 256 from by omega] at this
  exact this
theorem idx_hit {x a : Int} {k : Nat} (hall : ∀ j, j < k → ¬ pj x j = a) (e : pj x k = a) (hk : k < 256) : idx x a 256 = some k :=
  firstAt_some (isAt x a) k (by unfold isAt; exact decide_eq_true e) 256 0 (Nat.zero_le _) (by omega) (fun j _ hj => decide_eq_false (hall j hj))
theorem idx_miss_all {x a : Int} {n : Nat} (hall : ∀ j, j < n → ¬ pj x j = a) : idx x a n = none :=
  firstAt_none (isAt x a) n 0 (fun j _ hj => decide_eq_false (hall j (by omega)))
theorem mulI_ne {x y : Int} (x0 : 0 ≤ x) (x1 : x < 65536) (y0 : 0 ≤ y) (y1 : y < 65536) (hx : ¬ x = 0) (hy : ¬ y = 0) : ¬ mulI x y = 0 := by
  intro h
  have h2 : Nim.mul x.toNat y.toNat = 0 := by unfold mulI at h; omega
  rcases Nim.mul_eq_zero (by omega) (by omega) h2 with h3 | h3 <;> omega
theorem pj_ne {x : Int} (x0 : 0 ≤ x) (x1 : x < 65536) (hx : ¬ x = 0) (j : Nat) : ¬ pj x j = 0 := by
  induction j with
  | zero => intro h; exact absurd (show (1 : Int) = 0 from h) (by decide)
  | succ j ih => exact mulI_ne (pj_b x x1 j).1 (pj_b x x1 j).2 x0 x1 ih hx
theorem an_zero (b : Int) (n : Nat) : an 0 b n = 0 := by
  induction n with
  | zero => rfl
  | succ n ih =>
    show mulI (an 0 b n) b = 0
    rw [ih]; unfold mulI
    rw [show (0 : Int).toNat = 0 from rfl, Nim.mul_zero_left]; rfl
theorem logV_zero {x : Int} (x0 : 0 ≤ x) (x1 : x < 65536) (hx : ¬ x = 0) : logV x 0 = .tuple #[.int .i64 0, .int .i64 6] := by
  refine logV_none (fun n _ => ?_)
  unfold hitN
  rw [an_zero, idx_miss_all (fun j _ => pj_ne x0 x1 hx j)]; rfl
theorem one_cell (w : World) (v : Value) (t : TypeId) (j : Nat) (u : Value) (h : [v][j]? = some u) : (w.alloc (.cells #[v] t)).cell? ((⟨w.heap.size, 0, none⟩ : Addr).add j) = some u := by
  cases j with
  | zero =>
    simp only [List.getElem?_cons_zero, Option.some.injEq] at h
    subst h
    exact cell_of_row _ _ _ _ _ _ (heap_alloc_new w _)
  | succ j => simp at h
theorem all_ne_step {x a : Int} {k : Nat} (h : ∀ j, j < k → ¬ pj x j = a) (e : ¬ pj x k = a) : ∀ j, j < k + 1 → ¬ pj x j = a := by
  intro j hj
  by_cases h1 : j < k
  · exact h j h1
  · rw [show j = k from by omega]; exact e

/-- what both answer, where the base is 0 -/
def logV0 (x a : Int) : Value :=
  match idx x a 256 with
  | some k => .tuple #[.int .i64 k, .int .i64 0]
  | none => .tuple #[.int .i64 0, .int .i64 6]
theorem logV0_some {x a : Int} {k : Nat} (h : idx x a 256 = some k) : logV0 x a = .tuple #[.int .i64 k, .int .i64 0] := by unfold logV0; rw [h]
theorem logV0_none {x a : Int} (h : idx x a 256 = none) : logV0 x a = .tuple #[.int .i64 0, .int .i64 6] := by unfold logV0; rw [h]
theorem pj0 (j : Nat) : pj 0 (j + 1) = 0 := by
  show mulI (pj 0 j) 0 = 0
  unfold mulI
  rw [show (0 : Int).toNat = 0 from rfl, Nim.mul_zero_right]; rfl
theorem idx0_1 : idx 0 1 256 = some 0 := idx_hit (fun j hj => absurd hj (by omega)) rfl (by decide)
theorem idx0_0 : idx 0 0 256 = some 1 := idx_hit (fun j hj => by rw [show j = 0 from by omega]; exact fun e => absurd (show (1 : Int) = 0 from e) (by decide)) (pj0 0) (by decide)
theorem idx0_no (a : Int) (h : 1 < a) : idx 0 a 256 = none := idx_miss_all (fun j _ e => by
  cases j with
  | zero => have : (1 : Int) = a := e; omega
  | succ j => rw [pj0] at e; omega)
set_option maxHeartbeats 400000 in
theorem impl_LogOf_base0 (a : Int) (a0 : 0 ≤ a) (a1 : a < 65536) (w : World) :
    Calls Tryd.prog 41 #[.int .u16 0, .int .u16 a] w fun e w' => e = .returned (logV0 0 a) ∧ w = w' := by
  by_cases h : 1 < a
  · have hd : decide (1 < a) = true := decide_eq_true h
    have HV := Lib.hid (logV0_none (idx0_no a h))
    clear h
    go_enter Tryd.func41, Tryd.ntmps41
    go_wp2_with fail
    go_ret2
    exact ⟨by rw [HV.out]; rfl, rfl⟩
  · have hc : a = 0 ∨ a = 1 := by omega
    clear h
    rcases hc with rfl | rfl
    · have HV := Lib.hid (logV0_some idx0_0)
      go_enter Tryd.func41, Tryd.ntmps41
      go_wp2_with fail
      go_ret2
      exact ⟨by rw [HV.out]; rfl, rfl⟩
    · have HV := Lib.hid (logV0_some idx0_1)
      go_enter Tryd.func41, Tryd.ntmps41
      go_wp2_with fail
      go_ret2
      exact ⟨by rw [HV.out]; rfl, rfl⟩

end Go.Proofs.YtklddmmbbaaliaaDoor
