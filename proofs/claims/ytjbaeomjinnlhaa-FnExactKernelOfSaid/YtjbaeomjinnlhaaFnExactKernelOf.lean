/-
  The statement Rows.FnExactKernelOfSaid for every input the law returns true; the walk is ours, the rest is the guide's template at this function's number and types.
  Conditions: none.
-/
import Derived.Test.YtjbaeomjinnlhaaRows
import Derived.WalkKit
import Derived.ProofKit
import Derived.OpenShut
import Derived.Test.YtjbaeomjinnlhaaHead
import Derived.Test.YtjbaeomjinnlhaaOpen
import Derived.Test.YtjbaeomjinnlhaaCells

import Derived.Test.YtjbaeomjinnlhaaVecS
namespace Go.Proofs.Ytjbaeomjinnlhaa.fnExactKernelOf
open Go.ChangeShapes Go.WideShapes Go.ChangeAt Go.RowKit
set_option linter.unusedVariables false
set_option linter.unusedSimpArgs false

theorem own : ownKnob Try.prog.godebug = none := by kernel_rfl

set_option maxRecDepth 100000 in
set_option maxHeartbeats 1000000 in
theorem walk (w : World) (R0 C0 : Int) (F0 : Nat → Int) (w0 : MW R0 C0 F0) :
    Calls Try.prog 18 #[MV R0 C0 F0] w fun e w' => e = .returned (.bool true) ∧ Below w.heap.size w w' := by
  obtain ⟨KL, hKL⟩ : ∃ KL, KL = kerOf R0 C0 F0 := ⟨_, rfl⟩
  obtain ⟨kk, hkk⟩ : ∃ kk, kk = kerC R0 C0 F0 := ⟨_, rfl⟩
  have hl : KL.length ≤ 6 := by rw [hKL]; exact kerOf_len _ _ _
  have HBD := Lib.hid (show ∀ x ∈ KL, VW x by rw [hKL]; exact kerOf_b _ _ _ w0.2.2.2.2)
  have HKL := Lib.hid hKL
  have HKK := Lib.hid hkk
  have T0 : (kk != kk) = false := by simp
  have T1 : decide (((1 + KL.length * 6 : Nat) : Int) < 0) = false := by simp; omega
  have T2 : ((((1 + KL.length * 6 : Nat) : Int)) != ((1 + KL.length * 6 : Nat) : Int)) = false := by simp
  clear hKL hkk
  go_enter Try.func18, Try.ntmps18
  go_upto_region 1 with fail
  obtain ⟨M0, B, hsz⟩ := new1 w (.cells (CL R0 C0 F0).toArray 27)
  obtain ⟨g, hg⟩ : ∃ g, g = w.heap.size := ⟨_, rfl⟩
  rw [← hg] at M0 B hsz ⊢
  generalize World.alloc w _ = w2 at M0 B hsz ⊢
  replace M0 : MB w2 g 27 R0 C0 F0 := M0
  have HG := Lib.hid hg
  have hg2 := M0.lt
  clear hg hsz
  go_wp2_with (first | (guard_target =~ wpList _ _ _ (⟨_, Op.load 27 _, _, _, _, _⟩ :: _) _ _; refine wpList_load_row rfl 27 _ rfl (g) rfl _ (CL R0 C0 F0).toArray (0, 0) _ (M0) Try.underlying27 rfl (by kernel_rfl) ?_))
  refine (toMatrix_any R0 C0 F0 w0 _).mono ?_
  rintro e wa ⟨rfl, hb1⟩
  go_wp2_with fail
  refine (spec_KernelOf R0 C0 F0 w0 _).mono ?_
  rintro e wb ⟨v1, rfl, ho1, hb2⟩
  rw [← HKK.out]
  rw [← HKL.out] at ho1
  have HV1 := Lib.hid (VS.of_own ho1)
  have HB2 := Lib.hid (hb1.trans (hb2.mono hb1.size))
  clear hb1 hb2 ho1
  go_wp2_with (first | (guard_target =~ wpList _ _ _ (⟨_, Op.load 27 _, _, _, _, _⟩ :: _) _ _; refine wpList_load_row rfl 27 _ rfl (g) rfl _ (CL R0 C0 F0).toArray (0, 0) _ (M0.below HB2.out hg2) Try.underlying27 rfl (by kernel_rfl) ?_))
  refine (toMatrix_any R0 C0 F0 w0 _).mono ?_
  rintro e wc ⟨rfl, hb3⟩
  go_wp2_with fail
  refine (impl_KernelOf R0 C0 F0 w0 _).mono ?_
  rintro e wd ⟨v2, rfl, ho2, hb4⟩
  rw [← HKK.out]
  rw [← HKL.out] at ho2
  have HV2 := Lib.hid (VS.of_own ho2)
  have HO2 := Lib.hid ho2
  have HB4 := Lib.hid (hb3.trans (hb4.mono hb3.size))
  have hle := hb3.size
  clear hb3 hb4 ho2
  go_wp2_with fail
  refine (eqVectorS_any v2 v1 KL hl HBD.out _ HV2.out (HV1.out.below HB4.out)).mono ?_
  rintro e we ⟨rfl, hb5⟩
  have HO3 := Lib.hid (own_keep HO2.out (fun k _ h => hb5.block k h))
  have HB5 := Lib.hid (HB4.out.trans (hb5.mono HB4.out.size))
  clear hb5 HV2
  go_wp2_with fail
  refine (markVectorS_any v2 KL hl _ _ HO3.out).mono ?_
  rintro e wf ⟨rfl, ho6, hb6⟩
  have HO6 := Lib.hid ho6
  have HB6 := Lib.hid (HB5.out.trans (hb6.mono hle))
  clear ho6 hb6 HO2 HO3
  go_wp2_with fail
  refine (heldVectorS_any v2 KL.length hl (vecs KL) (by rw [vecs_len]; exact Nat.le_refl _) _ _ HO6.out).mono ?_
  rintro e wg ⟨rfl, m1, rfl⟩
  have HB7 : Hid (Below wb.heap.size wb (wf.drewN m1)) := Lib.hid ⟨HB6.out.os, HB6.out.tape, HB6.out.output, HB6.out.size, HB6.out.block⟩
  go_wp2_with (first | (guard_target =~ wpList _ _ _ (⟨_, Op.load 27 _, _, _, _, _⟩ :: _) _ _; refine wpList_load_row rfl 27 _ rfl (g) rfl _ (CL R0 C0 F0).toArray (0, 0) _ (M0.below (HB2.out.trans (HB7.out.mono HB2.out.size)) hg2) Try.underlying27 rfl (by kernel_rfl) ?_))
  refine (toMatrix_any R0 C0 F0 w0 _).mono ?_
  rintro e wh ⟨rfl, hb8⟩
  go_wp2_with fail
  refine (impl_KernelOf R0 C0 F0 w0 _).mono ?_
  rintro e wi ⟨v3, rfl, ho9, hb9⟩
  rw [← HKK.out]
  rw [← HKL.out] at ho9
  have HV3 := Lib.hid (VS.of_own ho9)
  have hb9' := hb8.trans (hb9.mono hb8.size)
  have HB9 := Lib.hid (HB7.out.trans (hb9'.mono HB7.out.size))
  have HO9 := Lib.hid (own_keep HO6.out (fun k _ h => hb9'.block k h))
  clear hb8 hb9 hb9' ho9
  go_wp2_with fail
  refine (eqVectorS_any v3 v1 KL hl HBD.out _ HV3.out (HV1.out.below HB9.out)).mono ?_
  rintro e wj ⟨rfl, hb10⟩
  have HO10 := Lib.hid (own_keep HO9.out (fun k _ h => hb10.block k h))
  have HB10 := Lib.hid (HB9.out.trans (hb10.mono HB9.out.size))
  clear hb10
  go_wp2_with fail
  refine (heldVectorS_any v2 KL.length hl (vecs KL) (by rw [vecs_len]; exact Nat.le_refl _) _ _ HO10.out).mono ?_
  rintro e wk ⟨rfl, m2, rfl⟩
  go_wp2_with fail
  go_ret
  have hA := HB2.out.trans (HB10.out.mono HB2.out.size)
  have hZ := B.trans (hA.mono (Nat.le_of_lt hg2))
  obtain rfl := HG.out
  exact ⟨rfl, hZ.os, hZ.tape, hZ.output, hZ.size, hZ.block⟩

set_option maxRecDepth 100000 in
theorem lifted (os : Os) (started : os.Started) (H : Type) (enc : TypeId × Value → H) :
    ReturnsInHanded {} Try.checked os 18 .any (Rows.fnExactKernelOfSpec.pre6 enc Try.prog Try.f18 Rows.fnExactKernelOfRow.domain false) (Rows.fnExactKernelOfSpec.post enc Try.prog Try.f18 false true false false) := by
  refine returnsInHanded_of_change (C := Try.checked) own started (by kernel_rfl) Try.func18
    (ChangeSpec.witness6 (enc := enc) (C := Try.checked) false ⟨#[], #[.agg #[.int .i8 0, .int .i8 0, .int .u16 0, .int .u16 0, .int .u16 0, .int .u16 0, .int .u16 0, .int .u16 0, .int .u16 0, .int .u16 0, .int .u16 0, .int .u16 0, .int .u16 0, .int .u16 0, .int .u16 0, .int .u16 0, .int .u16 0, .int .u16 0, .int .u16 0, .int .u16 0, .int .u16 0, .int .u16 0, .int .u16 0, .int .u16 0, .int .u16 0, .int .u16 0, .int .u16 0, .int .u16 0, .int .u16 0, .int .u16 0, .int .u16 0, .int .u16 0, .int .u16 0, .int .u16 0, .int .u16 0, .int .u16 0, .int .u16 0, .int .u16 0]], []⟩ 8 (by kernel_rfl) (by kernel_rfl) (by kernel_rfl) (by kernel_rfl)) ?_
  intro W base args ds gs before hval0 hW hcnd _
  have hval : ∀ (j : Nat) t v, Try.f18.params[j]? = some t → args[j]? = some v → Value.okWide Try.prog W .any base t v := hval0
  have hW' := hW
  obtain ⟨p, q, hA0, hV, rfl, hfz, hnd⟩ := hW
  have hA : DataW.TrodAll enc Try.prog W 0 (fun _ => true) true Try.f18.params.toList args.toList ds p := hA0
  rw [Try.params18] at hA hval
  obtain ⟨v0, vs0, d0, ds0, p0, q0, hargs, rfl, rfl, h0, r0⟩ := trodAll_cons hA
  obtain ⟨rfl, rfl, rfl⟩ := trodAll_nil r0
  obtain rfl : args = #[v0] := by cases args; simp_all
  obtain ⟨rfl, rfl⟩ := trodVars_none hV
  obtain ⟨R0, C0, F0, rfl, w0, rfl, g0⟩ := open_mat Try.underlying27 (by kernel_rfl) ⟨rfl, rfl⟩ ⟨rfl, rfl⟩ ⟨rfl, rfl⟩ (ti := 22) (tg := 25) (tr := 24) (e := 23) (by kernel_rfl) (by kernel_rfl) (by kernel_rfl) (by kernel_rfl) (by kernel_rfl) (by kernel_rfl) (by kernel_rfl) (by kernel_rfl) (hval 0 27 v0 rfl rfl) h0
  clear hA0 hval0
  simp only [List.append_nil] at hW'
  refine (walk W R0 C0 F0 w0).mono fun e W' ⟨he, hg⟩ => ?_
  subst he
  exact ⟨_, rfl, law_post rfl rfl hW' hg (fun _ _ _ => (trodAll_cons_mk (shut_bool Try.underlying4 _) trodAll_mk0)) (fun sp _ => (trodAll_cons_mk (g0 _ _ _ _) trodAll_mk0)) (ok_one (by kernel_rfl) rfl (okWide_bool_mk Try.underlying4 _))⟩

theorem over : Rows.fnExactKernelOfRow.holds Try.pinned (OpenSpec.ofChange Rows.fnExactKernelOfSpec) :=
  OpenClaim.holds_of_wide 18 Try.f18 rfl rfl rfl rfl rfl rfl rfl ⟨rfl, rfl, rfl, rfl, rfl⟩ rfl rfl rfl rfl rfl (by kernel_rfl) Try.func18 (joinedBy 18 Try.f18 Rows.fnExactKernelOfSpec Rows.fnExactKernelOfRow (by kernel_rfl))
    (of_decide_eq_true (by kernel_rfl)) (by unfold Func.isWrapper; first | (rw [if_pos (by decide +kernel)]; kernel_rfl) | (rw [if_neg (by decide +kernel)]; exact ⟨rfl, rfl⟩))
    (fun os started H enc _ => lifted os started H enc)

/-- the statement -/
theorem proved : Rows.FnExactKernelOfSaid :=
  over
end Go.Proofs.Ytjbaeomjinnlhaa.fnExactKernelOf
