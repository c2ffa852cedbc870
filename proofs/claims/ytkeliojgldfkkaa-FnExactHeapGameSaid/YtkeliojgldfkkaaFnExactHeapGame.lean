/-
  The statement Rows.FnExactHeapGameSaid for every input the law returns true; the walk is ours, the rest is the guide's template at this function's number and types.
  Conditions: none.
-/
import Derived.Test.YtkeliojgldfkkaaRows
import Derived.WalkKit
import Derived.ProofKit
import Derived.OpenShut
import Derived.Test.YtkeliojgldfkkaaHead
import Derived.Test.YtkeliojgldfkkaaOpen


import Derived.Test.YtkeliojgldfkkaaHeap2
namespace Go.Proofs.Ytkeliojgldfkkaa.fnExactHeapGame
open Go.ChangeShapes Go.WideShapes Go.ChangeAt Go.RowKit
set_option linter.unusedVariables false
set_option linter.unusedSimpArgs false

theorem own : ownKnob Try.prog.godebug = none := by kernel_rfl

set_option maxRecDepth 100000 in
set_option maxHeartbeats 1000000 in
theorem walk (w : World) (a0 : Int) (w0 : (Lit.int .i64 a0).wf = true) :
    Calls Try.prog 5 #[.int .i64 a0] w fun e w' => e = .returned (.bool true) ∧ Below w.heap.size w w' := by
  have b0 := bounds_i64 w0
  have hT : total (heapG a0) ≤ 1048576 := heapG_total a0
  have hS : sumTo (heapG a0) (heapG a0).length ≤ 1048576 := sum_of_total hT
  have hL : (heapG a0).length ≤ 1048576 := Nat.le_trans (total_len _) hT
  obtain ⟨gs, hgs⟩ : ∃ gs, gs = heapG a0 := ⟨_, rfl⟩
  obtain ⟨c, hc⟩ : ∃ c, c = heapC a0 := ⟨_, rfl⟩
  rw [← hgs] at hT hS hL
  have HGS := Lib.hid hgs
  have HC := Lib.hid hc
  have T1 : (c != c) = false := by simp
  have T2 : decide ((((1 + sumTo gs gs.length : Nat) : Int)) < 0) = false := by simp; omega
  have T3 : ((((1 + sumTo gs gs.length : Nat) : Int)) != ((1 + sumTo gs gs.length : Nat) : Int)) = false := by simp
  clear hgs hc
  go_enter Try.func5, Try.ntmps5
  go_wp2_with fail
  refine (spec_HeapGame a0 (by omega) (by omega) _).mono ?_
  rintro e ws ⟨v0, U0, rfl, hg0, hb0⟩
  rw [← HGS.out] at hg0
  rw [← HC.out]
  have HG0 := Lib.hid hg0.gs
  have HB0 := Lib.hid hb0
  clear hg0 hb0
  go_wp2_with fail
  refine (impl_HeapGame a0 (by omega) (by omega) _).mono ?_
  rintro e wi ⟨v1, U1, rfl, hg1, hb1⟩
  rw [← HGS.out] at hg1
  rw [← HC.out]
  have HG1 := Lib.hid hg1
  have HB1 := Lib.hid hb1
  clear hg1 hb1
  go_wp2_with fail
  refine (eqGame_any v1 v0 gs gs hT hT _ _ _ HG1.out.gs (HG0.out.below HB1.out)).mono ?_
  rintro e w2 ⟨rfl, m1, rfl⟩
  rw [geqB_refl]
  have HG2 := Lib.hid (HG1.out.below (bdrewN (Below.refl _ wi) m1))
  have HB2 := Lib.hid (bdrewN HB1.out m1)
  clear HG1 HB1
  go_wp2_with fail
  refine (markGame_any U1 v1 gs hS hL 1 (by omega) _ _ HG2.out).mono ?_
  rintro e wm ⟨rfl, hg3, hb3⟩
  have HG3 := Lib.hid hg3
  have HB3 := Lib.hid (HB2.out.trans hb3)
  clear hg3 hb3 HG2 HB2
  go_wp2_with fail
  refine (heldGame_any v1 gs hS hL 1 (by omega) _ _ HG3.out.gs).mono ?_
  rintro e wn ⟨rfl, rfl⟩
  go_wp2_with fail
  refine (impl_HeapGame a0 (by omega) (by omega) _).mono ?_
  rintro e w5 ⟨v5, U5, rfl, hg5, hb5⟩
  rw [← HGS.out] at hg5
  rw [← HC.out]
  have HG5 := Lib.hid hg5
  have HB5 := Lib.hid (bchain HB3.out hb5)
  have HG6 := Lib.hid (HG3.out.below hb5)
  clear hg5 hb5 HG3 HB3
  go_wp2_with fail
  refine (eqGame_any v5 v0 gs gs hT hT _ _ _ HG5.out.gs (HG0.out.below HB5.out)).mono ?_
  rintro e w6 ⟨rfl, m2, rfl⟩
  rw [geqB_refl]
  have HG7 := Lib.hid (HG6.out.below (bdrewN (Below.refl _ w5) m2))
  have HB7 := Lib.hid (bdrewN HB5.out m2)
  clear HG6 HB5 HG5
  go_wp2_with fail
  refine (heldGame_any v1 gs hS hL 1 (by omega) _ _ HG7.out.gs).mono ?_
  rintro e wn ⟨rfl, rfl⟩
  go_wp2_with fail
  go_ret
  exact ⟨rfl, bchain HB0.out HB7.out⟩

set_option maxRecDepth 100000 in
theorem lifted (os : Os) (started : os.Started) (H : Type) (enc : TypeId × Value → H) :
    ReturnsInHanded {} Try.checked os 5 .any (Rows.fnExactHeapGameSpec.pre6 enc Try.prog Try.f5 Rows.fnExactHeapGameRow.domain false) (Rows.fnExactHeapGameSpec.post enc Try.prog Try.f5 false true false false) := by
  refine returnsInHanded_of_change (C := Try.checked) own started (by kernel_rfl) Try.func5
    (ChangeSpec.witness6 (enc := enc) (C := Try.checked) false ⟨#[], #[.int .i64 0], []⟩ 8 (by kernel_rfl) (by kernel_rfl) (by kernel_rfl) (by kernel_rfl)) ?_
  intro W base args ds gs before hval0 hW hcnd _
  have hval : ∀ (j : Nat) t v, Try.f5.params[j]? = some t → args[j]? = some v → Value.okWide Try.prog W .any base t v := hval0
  have hW' := hW
  obtain ⟨p, q, hA0, hV, rfl, hfz, hnd⟩ := hW
  have hA : DataW.TrodAll enc Try.prog W 0 (fun _ => true) true Try.f5.params.toList args.toList ds p := hA0
  rw [Try.params5] at hA hval
  obtain ⟨v0, vs0, d0, ds0, p0, q0, hargs, rfl, rfl, h0, r0⟩ := trodAll_cons hA
  obtain ⟨rfl, rfl, rfl⟩ := trodAll_nil r0
  obtain rfl : args = #[v0] := by cases args; simp_all
  obtain ⟨rfl, rfl⟩ := trodVars_none hV
  obtain ⟨a0, rfl, rfl, rfl, w0⟩ := open_int Try.underlying2 (hval 0 2 v0 rfl rfl) h0
  clear hA0 hval0
  simp only [List.append_nil] at hW'
  refine (walk W a0 w0).mono fun e W' ⟨he, hg⟩ => ?_
  subst he
  exact ⟨_, rfl, law_post rfl rfl hW' hg (fun _ _ _ => (trodAll_cons_mk (shut_bool Try.underlying4 _) trodAll_mk0)) (fun sp _ => (trodAll_cons_mk (shut_int Try.underlying2 w0) trodAll_mk0)) (ok_one (by kernel_rfl) rfl (okWide_bool_mk Try.underlying4 _))⟩

theorem over : Rows.fnExactHeapGameRow.holds Try.pinned (OpenSpec.ofChange Rows.fnExactHeapGameSpec) :=
  OpenClaim.holds_of_wide 5 Try.f5 rfl rfl rfl rfl rfl rfl rfl ⟨rfl, rfl, rfl, rfl, rfl⟩ rfl rfl rfl rfl rfl (by kernel_rfl) Try.func5 (joinedBy 5 Try.f5 Rows.fnExactHeapGameSpec Rows.fnExactHeapGameRow (by kernel_rfl))
    (of_decide_eq_true (by kernel_rfl)) (by unfold Func.isWrapper; first | (rw [if_pos (by decide +kernel)]; kernel_rfl) | (rw [if_neg (by decide +kernel)]; exact ⟨rfl, rfl⟩))
    (fun os started H enc _ => lifted os started H enc)

/-- the statement -/
theorem proved : Rows.FnExactHeapGameSaid :=
  over
end Go.Proofs.Ytkeliojgldfkkaa.fnExactHeapGame
