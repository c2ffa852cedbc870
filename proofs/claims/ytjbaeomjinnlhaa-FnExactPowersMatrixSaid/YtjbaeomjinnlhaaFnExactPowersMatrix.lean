/-
  The statement Rows.FnExactPowersMatrixSaid for every input the law returns true; the walk is ours, the rest is the guide's template at this function's number and types.
  Conditions: none.
-/
import Derived.Test.YtjbaeomjinnlhaaRows
import Derived.WalkKit
import Derived.ProofKit
import Derived.OpenShut
import Derived.Test.YtjbaeomjinnlhaaHead
import Derived.Test.YtjbaeomjinnlhaaOpen


import Derived.Test.YtjbaeomjinnlhaaPowers
import Derived.Test.YtjbaeomjinnlhaaLawM
namespace Go.Proofs.Ytjbaeomjinnlhaa.fnExactPowersMatrix
open Go.ChangeShapes Go.WideShapes Go.ChangeAt Go.RowKit
set_option linter.unusedVariables false
set_option linter.unusedSimpArgs false

theorem own : ownKnob Try.prog.godebug = none := by kernel_rfl

set_option maxRecDepth 100000 in
set_option maxHeartbeats 1000000 in
theorem walk (w : World) (a0 : Value) (z0 : List Int) (a1 : Int) (w0 : KS .u16 w a0 z0) (w1 : (Lit.int .i64 a1).wf = true) :
    Calls Try.prog 21 #[a0, .int .i64 a1] w fun e w' => e = .returned (.bool true) ∧ Below w.heap.size w w' := by
  by_cases hbig : 1048576 < z0.length
  · obtain ⟨A, c, rfl, hm, hw, hc⟩ := w0
    have t1 : decide ((1048576 : Int) < (z0.length : Int)) = true := by simp; omega
    clear hc hw
    go_enter Try.func21, Try.ntmps21
    go_wp2_with fail
    go_ret
    exact ⟨rfl, Below.refl _ _⟩
  · have hn : z0.length ≤ 1048576 := by omega
    have hs := ns_of_ks w0
    obtain ⟨A, c, rfl, hm, hw, hc⟩ := w0
    have t1 : decide ((1048576 : Int) < (z0.length : Int)) = false := by simp; omega
    clear hc hw hbig
    have HA := Lib.hid hs.all
    have HS := Lib.hid hs; clear hs
    obtain ⟨RR, CC, FF, kk, hV, hK⟩ := powersV_form z0 HA.out a1
    have HV := Lib.hid hV
    clear hV
    go_enter Try.func21, Try.ntmps21
    go_wp2_with fail
    refine (toNimberS_any _ z0 hn _ HS.out).mono ?_
    rintro e w1' ⟨u1, rfl, hb1, ho1⟩
    have HB1 := Lib.hid hb1
    have HS1 := Lib.hid (NS.of_own ho1 HA.out)
    clear hb1 ho1
    go_wp2_with fail
    refine (spec_PowersMatrix u1 z0 a1 _ HS1.out).mono ?_
    rintro e wa ⟨rfl, hb2⟩
    have HB2 := Lib.hid (bchain HB1.out hb2)
    clear hb2 HS1
    rw [HV.out]
    go_upto_region 4 with (first | (guard_target =~ wpList _ _ _ (⟨_, Op.store 33 _ _, _, _, _, _⟩ :: _) _ _; refine wpList_store_fresh (cells := (CL RR CC FF).toArray) rfl 33 _ _ rfl rfl rfl (by kernel_rfl) (by rw [CL_size]; rfl) (CL_one _ _ _) ?_))
    have N1 : MB (wa.alloc (.cells (CL RR CC FF).toArray 33)) wa.heap.size 33 RR CC FF := heap_alloc_last _ _
    have HB3 := Lib.hid (HB2.out.alloc HB2.out.size (.cells (CL RR CC FF).toArray 33))
    obtain ⟨gN1, hgN1⟩ : ∃ x, x = wa.heap.size := ⟨_, rfl⟩
    rw [← hgN1] at N1 ⊢
    generalize wa.alloc (.cells (CL RR CC FF).toArray 33) = wb at N1 HB3 ⊢
    clear hgN1 HB2
    go_wp2_with fail
    refine (toNimberS_any _ z0 hn _ (HS.out.below HB3.out)).mono ?_
    rintro e w2' ⟨u2, rfl, hb4, ho4⟩
    have HB4 := Lib.hid (bchain HB3.out hb4)
    have HS2 := Lib.hid (NS.of_own ho4 HA.out)
    replace N1 := N1.below hb4 N1.lt
    clear hb4 ho4 HB3
    go_wp2_with fail
    refine (impl_PowersMatrix u2 z0 a1 _ HS2.out).mono ?_
    rintro e wc ⟨rfl, hb5⟩
    have HB5 := Lib.hid (bchain HB4.out hb5)
    have HS3 := Lib.hid (HS2.out.below hb5)
    replace N1 := N1.below hb5 N1.lt
    clear hb5 HB4 HS2
    rw [HV.out]
    go_upto_region 6 with (first | (guard_target =~ wpList _ _ _ (⟨_, Op.store 33 _ _, _, _, _, _⟩ :: _) _ _; refine wpList_store_fresh (cells := (CL RR CC FF).toArray) rfl 33 _ _ rfl rfl rfl (by kernel_rfl) (by rw [CL_size]; rfl) (CL_one _ _ _) ?_))
    have N2 : MB (wc.alloc (.cells (CL RR CC FF).toArray 33)) wc.heap.size 33 RR CC FF := heap_alloc_last _ _
    have HB6 := Lib.hid (HB5.out.alloc HB5.out.size (.cells (CL RR CC FF).toArray 33))
    have HS4 := Lib.hid (HS3.out.below ((Below.refl _ wc).alloc (Nat.le_refl _) (.cells (CL RR CC FF).toArray 33)))
    replace N1 := N1.alloc (.cells (CL RR CC FF).toArray 33)
    obtain ⟨gN2, hgN2⟩ : ∃ x, x = wc.heap.size := ⟨_, rfl⟩
    rw [← hgN2] at N2 ⊢
    generalize wc.alloc (.cells (CL RR CC FF).toArray 33) = wd at N1 N2 HB6 HS4 ⊢
    clear hgN2 HB5 HS3
    go_wp2_with (first | (guard_target =~ wpList _ _ _ (⟨_, Op.load 33 (Operand.tmp 8), _, _, _, _⟩ :: _) _ _; refine wpList_load_row rfl 33 _ rfl (gN2) rfl _ (CL RR CC FF).toArray (0, 0) _ N2 Try.underlying33 rfl (by kernel_rfl) ?_) | (guard_target =~ wpList _ _ _ (⟨_, Op.load 33 (Operand.tmp 5), _, _, _, _⟩ :: _) _ _; refine wpList_load_row rfl 33 _ rfl (gN1) rfl _ (CL RR CC FF).toArray (0, 0) _ N1 Try.underlying33 rfl (by kernel_rfl) ?_))
    refine (eqMatrix_any RR CC FF hK _).mono ?_
    rintro e we ⟨rfl, hb7⟩
    have HB7 := Lib.hid (bchain HB6.out hb7)
    have HS5 := Lib.hid (HS4.out.below hb7)
    clear hb7 HB6 HS4 N1 N2
    go_wp2_with fail
    refine (toNimberS_any _ z0 hn _ (HS.out.below HB7.out)).mono ?_
    rintro e w4' ⟨u4, rfl, hb8, ho8⟩
    have HB8 := Lib.hid (bchain HB7.out hb8)
    have HS6 := Lib.hid (NS.of_own ho8 HA.out)
    have HS7 := Lib.hid (HS5.out.below hb8)
    clear hb8 ho8
    go_wp2_with fail
    refine (eqNimberS_any u2 u4 z0 z0 hn hn _ HS7.out HS6.out).mono ?_
    rintro e w5' ⟨rfl, m, rfl⟩
    rw [eqB_refl]
    go_wp2_with fail
    go_ret
    exact ⟨rfl, bdrewN HB8.out m⟩

set_option maxRecDepth 100000 in
theorem lifted (os : Os) (started : os.Started) (H : Type) (enc : TypeId × Value → H) :
    ReturnsInHanded {} Try.checked os 21 .any (Rows.fnExactPowersMatrixSpec.pre6 enc Try.prog Try.f21 Rows.fnExactPowersMatrixRow.domain false) (Rows.fnExactPowersMatrixSpec.post enc Try.prog Try.f21 false true false false) := by
  refine returnsInHanded_of_change (C := Try.checked) own started (by kernel_rfl) Try.func21
    (ChangeSpec.witness6 (enc := enc) (C := Try.checked) false ⟨#[], #[.slice none 0 0, .int .i64 0], []⟩ 8 (by kernel_rfl) (by kernel_rfl) (by kernel_rfl) (by kernel_rfl)) ?_
  intro W base args ds gs before hval0 hW hcnd _
  have hval : ∀ (j : Nat) t v, Try.f21.params[j]? = some t → args[j]? = some v → Value.okWide Try.prog W .any base t v := hval0
  have hW' := hW
  obtain ⟨p, q, hA0, hV, rfl, hfz, hnd⟩ := hW
  have hA : DataW.TrodAll enc Try.prog W 0 (fun _ => true) true Try.f21.params.toList args.toList ds p := hA0
  rw [Try.params21] at hA hval
  obtain ⟨v0, vs0, d0, ds0, p0, q0, hargs, rfl, rfl, h0, r0⟩ := trodAll_cons hA
  obtain ⟨v1, vs1, d1, ds1, p1, q1, rfl, rfl, rfl, h1, r1⟩ := trodAll_cons r0
  obtain ⟨rfl, rfl, rfl⟩ := trodAll_nil r1
  obtain rfl : args = #[v0, v1] := by cases args; simp_all
  obtain ⟨rfl, rfl⟩ := trodVars_none hV
  obtain ⟨z0, w0, g0⟩ := open_row Try.underlying70 Try.underlying23 (by kernel_rfl) (hval 0 70 v0 rfl rfl) h0
  obtain ⟨a0, ha0⟩ : ∃ y, y = v0 := ⟨_, rfl⟩
  subst ha0
  obtain ⟨a1, rfl, rfl, rfl, w1⟩ := open_int Try.underlying2 (hval 1 2 v1 rfl rfl) h1
  clear hA0 hval0
  simp only [List.append_nil, List.nil_append] at hW'
  refine (walk W a0 z0 a1 w0 w1).mono fun e W' ⟨he, hg⟩ => ?_
  subst he
  exact ⟨_, rfl, law_post rfl rfl hW' hg (fun _ _ _ => (trodAll_cons_mk (shut_bool Try.underlying4 _) trodAll_mk0)) (fun sp hsp => by have t := (trodAll_cons_mk (g0 W' hg sp (fun q hq => hsp q (by simp [hq]))) (trodAll_cons_mk (shut_int Try.underlying2 w1) trodAll_mk0)); simp only [List.append_nil, List.nil_append] at t; exact t) (ok_one (by kernel_rfl) rfl (okWide_bool_mk Try.underlying4 _))⟩

theorem over : Rows.fnExactPowersMatrixRow.holds Try.pinned (OpenSpec.ofChange Rows.fnExactPowersMatrixSpec) :=
  OpenClaim.holds_of_wide 21 Try.f21 rfl rfl rfl rfl rfl rfl rfl ⟨rfl, rfl, rfl, rfl, rfl⟩ rfl rfl rfl rfl rfl (by kernel_rfl) Try.func21 (joinedBy 21 Try.f21 Rows.fnExactPowersMatrixSpec Rows.fnExactPowersMatrixRow (by kernel_rfl))
    (of_decide_eq_true (by kernel_rfl)) (by unfold Func.isWrapper; first | (rw [if_pos (by decide +kernel)]; kernel_rfl) | (rw [if_neg (by decide +kernel)]; exact ⟨rfl, rfl⟩))
    (fun os started H enc _ => lifted os started H enc)

/-- the statement -/
theorem proved : Rows.FnExactPowersMatrixSaid :=
  over
end Go.Proofs.Ytjbaeomjinnlhaa.fnExactPowersMatrix
