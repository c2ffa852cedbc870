/-
  The statement Rows.FnExactOneMatrixSaid for every input the law returns true; the walk is ours, the rest is the guide's template at this function's number and types.
  Conditions: none.
-/
import Derived.Test.YtjbaeomjinnlhaaRows
import Derived.WalkKit
import Derived.ProofKit
import Derived.OpenShut
import Derived.Test.YtjbaeomjinnlhaaHead
import Derived.Test.YtjbaeomjinnlhaaOpen

import Derived.Test.YtjbaeomjinnlhaaOne
import Derived.Test.YtjbaeomjinnlhaaCells
namespace Go.Proofs.Ytjbaeomjinnlhaa.fnExactOneMatrix
open Go.ChangeShapes Go.WideShapes Go.ChangeAt Go.RowKit
set_option linter.unusedVariables false
set_option linter.unusedSimpArgs false

theorem own : ownKnob Try.prog.godebug = none := by kernel_rfl

set_option maxRecDepth 100000 in
set_option maxHeartbeats 1000000 in
theorem walk (w : World) (a0 : Int) (w0 : (Lit.int .i64 a0).wf = true) :
    Calls Try.prog 4 #[.int .i64 a0] w fun e w' => e = .returned (.bool true) ∧ Below w.heap.size w w' := by
  obtain ⟨RR, CC, FF, kk, hV, hK⟩ := oneV_form a0
  have HV := Lib.hid hV
  clear hV
  go_enter Try.func4, Try.ntmps4
  go_wp2_with fail
  refine (spec_OneMatrix a0 _).mono ?_
  rintro e wa ⟨rfl, B⟩
  rw [HV.out]
  go_upto_region 2 with (first | (guard_target =~ wpList _ _ _ (⟨_, Op.store 33 _ _, _, _, _, _⟩ :: _) _ _; refine wpList_store_fresh (cells := (CL RR CC FF).toArray) rfl 33 _ _ rfl rfl rfl (by kernel_rfl) (by rw [CL_size]; rfl) (CL_one _ _ _) ?_))
  have N1 : MB (wa.alloc (.cells (CL RR CC FF).toArray 33)) wa.heap.size 33 RR CC FF := heap_alloc_last _ _
  replace B := B.alloc B.size (.cells (CL RR CC FF).toArray 33)
  obtain ⟨gN1, hgN1⟩ : ∃ x, x = wa.heap.size := ⟨_, rfl⟩
  rw [← hgN1] at N1 ⊢
  generalize wa.alloc (.cells (CL RR CC FF).toArray 33) = wb at B N1 ⊢
  clear hgN1
  go_wp2_with fail
  refine (impl_OneMatrix a0 _).mono ?_
  rintro e wa ⟨rfl, hn⟩
  replace B := bnext B hn B.size
  replace N1 := N1.below hn N1.lt
  clear hn
  rw [HV.out]
  go_upto_region 3 with (first | (guard_target =~ wpList _ _ _ (⟨_, Op.store 33 _ _, _, _, _, _⟩ :: _) _ _; refine wpList_store_fresh (cells := (CL RR CC FF).toArray) rfl 33 _ _ rfl rfl rfl (by kernel_rfl) (by rw [CL_size]; rfl) (CL_one _ _ _) ?_))
  have N2 : MB (wa.alloc (.cells (CL RR CC FF).toArray 33)) wa.heap.size 33 RR CC FF := heap_alloc_last _ _
  replace B := B.alloc B.size (.cells (CL RR CC FF).toArray 33)
  replace N1 := N1.alloc (.cells (CL RR CC FF).toArray 33)
  obtain ⟨gN2, hgN2⟩ : ∃ x, x = wa.heap.size := ⟨_, rfl⟩
  rw [← hgN2] at N2 ⊢
  generalize wa.alloc (.cells (CL RR CC FF).toArray 33) = wb at B N1 N2 ⊢
  clear hgN2
  go_wp2_with (first | (guard_target =~ wpList _ _ _ (⟨_, Op.load 33 (Operand.tmp 5), _, _, _, _⟩ :: _) _ _; refine wpList_load_row rfl 33 _ rfl (gN2) rfl _ (CL RR CC FF).toArray (0, 0) _ N2 Try.underlying33 rfl (by kernel_rfl) ?_) | (guard_target =~ wpList _ _ _ (⟨_, Op.load 33 (Operand.tmp 3), _, _, _, _⟩ :: _) _ _; refine wpList_load_row rfl 33 _ rfl (gN1) rfl _ (CL RR CC FF).toArray (0, 0) _ N1 Try.underlying33 rfl (by kernel_rfl) ?_))
  refine (eqMatrix_any RR CC FF hK _).mono ?_
  rintro e we ⟨rfl, hn⟩
  replace B := bnext B hn B.size
  clear hn
  go_wp2_with fail
  go_ret
  exact ⟨rfl, B⟩

set_option maxRecDepth 100000 in
theorem lifted (os : Os) (started : os.Started) (H : Type) (enc : TypeId × Value → H) :
    ReturnsInHanded {} Try.checked os 4 .any (Rows.fnExactOneMatrixSpec.pre6 enc Try.prog Try.f4 Rows.fnExactOneMatrixRow.domain false) (Rows.fnExactOneMatrixSpec.post enc Try.prog Try.f4 false true false false) := by
  refine returnsInHanded_of_change (C := Try.checked) own started (by kernel_rfl) Try.func4
    (ChangeSpec.witness6 (enc := enc) (C := Try.checked) false ⟨#[], #[.int .i64 0], []⟩ 8 (by kernel_rfl) (by kernel_rfl) (by kernel_rfl) (by kernel_rfl)) ?_
  intro W base args ds gs before hval0 hW hcnd _
  have hval : ∀ (j : Nat) t v, Try.f4.params[j]? = some t → args[j]? = some v → Value.okWide Try.prog W .any base t v := hval0
  have hW' := hW
  obtain ⟨p, q, hA0, hV, rfl, hfz, hnd⟩ := hW
  have hA : DataW.TrodAll enc Try.prog W 0 (fun _ => true) true Try.f4.params.toList args.toList ds p := hA0
  rw [Try.params4] at hA hval
  obtain ⟨v0, vs0, d0, ds0, p0, q0, hargs, rfl, rfl, h0, r0⟩ := trodAll_cons hA
  obtain ⟨rfl, rfl, rfl⟩ := trodAll_nil r0
  obtain rfl : args = #[v0] := by cases args; simp_all
  obtain ⟨rfl, rfl⟩ := trodVars_none hV
  obtain ⟨a0, rfl, rfl, rfl, w0⟩ := open_int Try.underlying2 (hval 0 2 v0 rfl rfl) h0
  clear hA0 hval0
  simp only [List.append_nil] at hW'
  refine (walk W a0 w0).mono fun e W' ⟨he, hg⟩ => ?_
  subst he
  exact ⟨_, rfl, law_post rfl rfl hW' hg (fun _ _ _ => (trodAll_cons_mk (shut_bool Try.underlying4 _) trodAll_mk0)) (fun sp _ => (trodAll_cons_mk (shut_int Try.underlying2 w0) trodAll_mk0)) (ok_one (by kernel_rfl) rfl (okWide_bool_mk Try.underlying4 _))⟩

theorem over : Rows.fnExactOneMatrixRow.holds Try.pinned (OpenSpec.ofChange Rows.fnExactOneMatrixSpec) :=
  OpenClaim.holds_of_wide 4 Try.f4 rfl rfl rfl rfl rfl rfl rfl ⟨rfl, rfl, rfl, rfl, rfl⟩ rfl rfl rfl rfl rfl (by kernel_rfl) Try.func4 (joinedBy 4 Try.f4 Rows.fnExactOneMatrixSpec Rows.fnExactOneMatrixRow (by kernel_rfl))
    (of_decide_eq_true (by kernel_rfl)) (by unfold Func.isWrapper; first | (rw [if_pos (by decide +kernel)]; kernel_rfl) | (rw [if_neg (by decide +kernel)]; exact ⟨rfl, rfl⟩))
    (fun os started H enc _ => lifted os started H enc)

/-- the statement -/
theorem proved : Rows.FnExactOneMatrixSaid :=
  over
end Go.Proofs.Ytjbaeomjinnlhaa.fnExactOneMatrix
