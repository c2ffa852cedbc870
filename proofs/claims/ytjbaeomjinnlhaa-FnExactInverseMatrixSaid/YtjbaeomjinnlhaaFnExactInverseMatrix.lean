/-
  The statement Rows.FnExactInverseMatrixSaid for every input the law returns true; the walk is ours, the rest is the guide's template at this function's number and types.
  Conditions: none.
-/
import Derived.Test.YtjbaeomjinnlhaaRows
import Derived.WalkKit
import Derived.ProofKit
import Derived.OpenShut
import Derived.Test.YtjbaeomjinnlhaaHead
import Derived.Test.YtjbaeomjinnlhaaOpen
import Derived.Test.YtjbaeomjinnlhaaCells

import Derived.Test.YtjbaeomjinnlhaaInvM
namespace Go.Proofs.Ytjbaeomjinnlhaa.fnExactInverseMatrix
open Go.ChangeShapes Go.WideShapes Go.ChangeAt Go.RowKit
set_option linter.unusedVariables false
set_option linter.unusedSimpArgs false

theorem own : ownKnob Try.prog.godebug = none := by kernel_rfl

set_option maxRecDepth 100000 in
set_option maxHeartbeats 1000000 in
theorem walk (w : World) (R0 C0 : Int) (F0 : Nat → Int) (w0 : MW R0 C0 F0) :
    Calls Try.prog 15 #[MV R0 C0 F0] w fun e w' => e = .returned (.bool true) ∧ Below w.heap.size w w' := by
  go_enter Try.func15, Try.ntmps15
  go_upto_region 1 with fail
  obtain ⟨M0, B, hsz⟩ := new1 w (.cells (CL R0 C0 F0).toArray 27)
  obtain ⟨g, hg⟩ : ∃ g, g = w.heap.size := ⟨_, rfl⟩
  rw [← hg] at M0 B hsz ⊢
  generalize World.alloc w _ = w2 at M0 B hsz ⊢
  replace M0 : MB w2 g 27 R0 C0 F0 := M0
  have HG := Lib.hid hg
  clear hg hsz
  obtain ⟨RR, CC, FF, kk, hV, hK⟩ := invV_form R0 C0 F0 w0
  have HV := Lib.hid hV
  clear hV
  go_wp2_with (first | (guard_target =~ wpList _ _ _ (⟨_, Op.load 27 (Operand.tmp 1), _, _, _, _⟩ :: _) _ _; refine wpList_load_row rfl 27 _ rfl g rfl _ (CL R0 C0 F0).toArray (0, 0) _ M0 Try.underlying27 rfl (by kernel_rfl) ?_))
  refine (toMatrix_any R0 C0 F0 w0 _).mono ?_
  rintro e w' ⟨rfl, hn⟩
  replace B := bnext B hn (Nat.le_of_lt M0.lt)
  replace M0 := M0.below hn M0.lt
  clear hn
  go_wp2_with fail
  refine (spec_InverseMatrix R0 C0 F0 w0 _).mono ?_
  rintro e wa ⟨rfl, hn⟩
  replace B := bnext B hn (Nat.le_of_lt M0.lt)
  replace M0 := M0.below hn M0.lt
  clear hn
  rw [HV.out]
  go_upto_region 2 with (first | (guard_target =~ wpList _ _ _ (⟨_, Op.store 33 _ _, _, _, _, _⟩ :: _) _ _; refine wpList_store_fresh (cells := (CL RR CC FF).toArray) rfl 33 _ _ rfl rfl rfl (by kernel_rfl) (by rw [CL_size]; rfl) (CL_one _ _ _) ?_))
  have N1 : MB (wa.alloc (.cells (CL RR CC FF).toArray 33)) wa.heap.size 33 RR CC FF := heap_alloc_last _ _
  replace B := B.alloc (Nat.le_of_lt M0.lt) (.cells (CL RR CC FF).toArray 33)
  replace M0 := M0.alloc (.cells (CL RR CC FF).toArray 33)
  obtain ⟨gN1, hgN1⟩ : ∃ x, x = wa.heap.size := ⟨_, rfl⟩
  rw [← hgN1] at N1 ⊢
  generalize wa.alloc (.cells (CL RR CC FF).toArray 33) = wb at B M0 N1  ⊢
  clear hgN1
  go_wp2_with (first | (guard_target =~ wpList _ _ _ (⟨_, Op.load 27 (Operand.tmp 1), _, _, _, _⟩ :: _) _ _; refine wpList_load_row rfl 27 _ rfl g rfl _ (CL R0 C0 F0).toArray (0, 0) _ M0 Try.underlying27 rfl (by kernel_rfl) ?_))
  refine (toMatrix_any R0 C0 F0 w0 _).mono ?_
  rintro e w' ⟨rfl, hn⟩
  replace B := bnext B hn (Nat.le_of_lt M0.lt)
  replace M0 := M0.below hn M0.lt
  replace N1 := N1.below hn N1.lt
  clear hn
  go_wp2_with fail
  refine (impl_InverseMatrix R0 C0 F0 w0 _).mono ?_
  rintro e wa ⟨rfl, hn⟩
  replace B := bnext B hn (Nat.le_of_lt M0.lt)
  replace M0 := M0.below hn M0.lt
  replace N1 := N1.below hn N1.lt
  clear hn
  rw [HV.out]
  go_upto_region 3 with (first | (guard_target =~ wpList _ _ _ (⟨_, Op.store 33 _ _, _, _, _, _⟩ :: _) _ _; refine wpList_store_fresh (cells := (CL RR CC FF).toArray) rfl 33 _ _ rfl rfl rfl (by kernel_rfl) (by rw [CL_size]; rfl) (CL_one _ _ _) ?_))
  have N2 : MB (wa.alloc (.cells (CL RR CC FF).toArray 33)) wa.heap.size 33 RR CC FF := heap_alloc_last _ _
  replace B := B.alloc (Nat.le_of_lt M0.lt) (.cells (CL RR CC FF).toArray 33)
  replace M0 := M0.alloc (.cells (CL RR CC FF).toArray 33)
  replace N1 := N1.alloc (.cells (CL RR CC FF).toArray 33)
  obtain ⟨gN2, hgN2⟩ : ∃ x, x = wa.heap.size := ⟨_, rfl⟩
  rw [← hgN2] at N2 ⊢
  generalize wa.alloc (.cells (CL RR CC FF).toArray 33) = wb at B M0 N2 N1 ⊢
  clear hgN2
  go_wp2_with (first | (guard_target =~ wpList _ _ _ (⟨_, Op.load 33 (Operand.tmp 5), _, _, _, _⟩ :: _) _ _; refine wpList_load_row rfl 33 _ rfl (gN2) rfl _ (CL RR CC FF).toArray (0, 0) _ N2 Try.underlying33 rfl (by kernel_rfl) ?_) | (guard_target =~ wpList _ _ _ (⟨_, Op.load 33 (Operand.tmp 3), _, _, _, _⟩ :: _) _ _; refine wpList_load_row rfl 33 _ rfl (gN1) rfl _ (CL RR CC FF).toArray (0, 0) _ N1 Try.underlying33 rfl (by kernel_rfl) ?_))
  refine (eqMatrix_any RR CC FF hK _).mono ?_
  rintro e we ⟨rfl, hn⟩
  replace B := bnext B hn (Nat.le_of_lt M0.lt)
  clear hn
  go_wp2_with fail
  go_ret
  obtain rfl := HG.out
  exact ⟨rfl, B⟩

set_option maxRecDepth 100000 in
theorem lifted (os : Os) (started : os.Started) (H : Type) (enc : TypeId × Value → H) :
    ReturnsInHanded {} Try.checked os 15 .any (Rows.fnExactInverseMatrixSpec.pre6 enc Try.prog Try.f15 Rows.fnExactInverseMatrixRow.domain false) (Rows.fnExactInverseMatrixSpec.post enc Try.prog Try.f15 false true false false) := by
  refine returnsInHanded_of_change (C := Try.checked) own started (by kernel_rfl) Try.func15
    (ChangeSpec.witness6 (enc := enc) (C := Try.checked) false ⟨#[], #[.agg #[.int .i8 0, .int .i8 0, .int .u16 0, .int .u16 0, .int .u16 0, .int .u16 0, .int .u16 0, .int .u16 0, .int .u16 0, .int .u16 0, .int .u16 0, .int .u16 0, .int .u16 0, .int .u16 0, .int .u16 0, .int .u16 0, .int .u16 0, .int .u16 0, .int .u16 0, .int .u16 0, .int .u16 0, .int .u16 0, .int .u16 0, .int .u16 0, .int .u16 0, .int .u16 0, .int .u16 0, .int .u16 0, .int .u16 0, .int .u16 0, .int .u16 0, .int .u16 0, .int .u16 0, .int .u16 0, .int .u16 0, .int .u16 0, .int .u16 0, .int .u16 0]], []⟩ 8 (by kernel_rfl) (by kernel_rfl) (by kernel_rfl) (by kernel_rfl)) ?_
  intro W base args ds gs before hval0 hW hcnd _
  have hval : ∀ (j : Nat) t v, Try.f15.params[j]? = some t → args[j]? = some v → Value.okWide Try.prog W .any base t v := hval0
  have hW' := hW
  obtain ⟨p, q, hA0, hV, rfl, hfz, hnd⟩ := hW
  have hA : DataW.TrodAll enc Try.prog W 0 (fun _ => true) true Try.f15.params.toList args.toList ds p := hA0
  rw [Try.params15] at hA hval
  obtain ⟨v0, vs0, d0, ds0, p0, q0, hargs, rfl, rfl, h0, r0⟩ := trodAll_cons hA
  obtain ⟨rfl, rfl, rfl⟩ := trodAll_nil r0
  obtain rfl : args = #[v0] := by cases args; simp_all
  obtain ⟨rfl, rfl⟩ := trodVars_none hV
  obtain ⟨R0, C0, F0, rfl, w0, rfl, g0⟩ := open_mat Try.underlying27 (by kernel_rfl) ⟨rfl, rfl⟩ ⟨rfl, rfl⟩ ⟨rfl, rfl⟩ (ti := 22) (tg := 25) (tr := 24) (e := 23) (by kernel_rfl) (by kernel_rfl) (by kernel_rfl) (by kernel_rfl) (by kernel_rfl) (by kernel_rfl) (by kernel_rfl) (by kernel_rfl) (hval 0 27 v0 rfl rfl) h0
  clear hA0 hval0
  simp only [List.append_nil] at hW'
  refine (walk W R0 C0 F0 w0).mono fun e W' ⟨he, hg⟩ => ?_
  subst he
  exact ⟨_, rfl, law_post rfl rfl hW' hg (fun _ _ _ => (trodAll_cons_mk (shut_bool Try.underlying4 _) trodAll_mk0)) (fun sp _ => (trodAll_cons_mk (g0 _ _ _ _) trodAll_mk0)) (ok_one (by kernel_rfl) rfl (okWide_bool_mk Try.underlying4 _))⟩

theorem over : Rows.fnExactInverseMatrixRow.holds Try.pinned (OpenSpec.ofChange Rows.fnExactInverseMatrixSpec) :=
  OpenClaim.holds_of_wide 15 Try.f15 rfl rfl rfl rfl rfl rfl rfl ⟨rfl, rfl, rfl, rfl, rfl⟩ rfl rfl rfl rfl rfl (by kernel_rfl) Try.func15 (joinedBy 15 Try.f15 Rows.fnExactInverseMatrixSpec Rows.fnExactInverseMatrixRow (by kernel_rfl))
    (of_decide_eq_true (by kernel_rfl)) (by unfold Func.isWrapper; first | (rw [if_pos (by decide +kernel)]; kernel_rfl) | (rw [if_neg (by decide +kernel)]; exact ⟨rfl, rfl⟩))
    (fun os started H enc _ => lifted os started H enc)

/-- the statement -/
theorem proved : Rows.FnExactInverseMatrixSaid :=
  over
end Go.Proofs.Ytjbaeomjinnlhaa.fnExactInverseMatrix
