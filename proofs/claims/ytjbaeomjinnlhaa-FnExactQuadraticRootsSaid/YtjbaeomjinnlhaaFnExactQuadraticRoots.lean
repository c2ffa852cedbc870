/-
  The statement Rows.FnExactQuadraticRootsSaid for every input the law returns true; the walk is ours, the rest is the guide's template at this function's number and types.
  Conditions: none.
-/
import Derived.Test.YtjbaeomjinnlhaaRows
import Derived.WalkKit
import Derived.ProofKit
import Derived.OpenShut
import Derived.Test.YtjbaeomjinnlhaaHead
import Derived.Test.YtjbaeomjinnlhaaOpen

import Derived.Test.YtjbaeomjinnlhaaLeaving
import Derived.Test.YtjbaeomjinnlhaaQuad
namespace Go.Proofs.Ytjbaeomjinnlhaa.fnExactQuadraticRoots
open Go.ChangeShapes Go.WideShapes Go.ChangeAt Go.RowKit
set_option linter.unusedVariables false
set_option linter.unusedSimpArgs false

theorem own : ownKnob Try.prog.godebug = none := by kernel_rfl

set_option maxRecDepth 100000 in
set_option maxHeartbeats 1000000 in
theorem walk (w : World) (a0 : Int) (a1 : Int) (w0 : (Lit.int .u16 a0).wf = true) (w1 : (Lit.int .u16 a1).wf = true) :
    Calls Try.prog 24 #[.int .u16 a0, .int .u16 a1] w fun e w' => e = .returned (.bool true) ∧ Below w.heap.size w w' := by
  have b0 := bounds_u16 w0
  obtain ⟨n, rfl⟩ : ∃ n : Nat, a0 = n := ⟨a0.toNat, by omega⟩
  have n1 : n < 65536 := by omega
  have b1 := bounds_u16 w1
  obtain ⟨q, rfl⟩ : ∃ q : Nat, a1 = q := ⟨a1.toNat, by omega⟩
  have q1 : q < 65536 := by omega
  obtain ⟨Z, hp⟩ := quad_ex n q n1 q1
  have hs := quad_small n1 hp
  have HP := Lib.hid hp
  have HS := Lib.hid hs
  clear hp b0 w0 b1 w1 hs
  obtain ⟨zs, hzs⟩ : ∃ zs, zs = Z := ⟨_, rfl⟩
  have hsm : ∀ z ∈ zs, 0 ≤ z ∧ z < 65536 := by rw [hzs]; exact HS.out.1
  have hln : zs.length ≤ 1048576 := by rw [hzs]; exact (by have := HS.out.2; omega)
  have HZ := Lib.hid hzs
  have HSM := Lib.hid hsm
  clear hzs hsm
  go_enter Try.func24, Try.ntmps24
  go_wp2_with fail
  refine (spec_QuadraticRoots n q n1 q1 Z HP.out _).mono ?_
  rintro e w1 ⟨v1, rfl, ho1, hb1⟩
  replace ho1 : w1.ownsRow w.heap.size 29 1 v1 zs.length (u16s zs) := by rw [HZ.out]; exact ho1
  obtain ⟨A1, c1, rfl, _, _⟩ := own_form ho1
  have HB1 := Lib.hid hb1
  have HS1 := Lib.hid (NS.of_own ho1 HSM.out)
  clear ho1 hb1
  go_wp2_with fail
  refine (impl_QuadraticRoots n q n1 q1 Z HP.out _).mono ?_
  rintro e w2 ⟨v2, rfl, ho2, hb2⟩
  replace ho2 : w2.ownsRow w1.heap.size 29 1 v2 zs.length (u16s zs) := by rw [HZ.out]; exact ho2
  obtain ⟨A2, c2, rfl, _, _⟩ := own_form ho2
  have HB2 := Lib.hid hb2
  have HO2 := Lib.hid ho2
  clear ho2 hb2
  go_wp2_with fail
  refine (eqNimberS_any _ _ zs zs hln hln _ (NS.of_own HO2.out HSM.out) (HS1.out.below HB2.out)).mono ?_
  rintro e w3 ⟨rfl, m3, rfl⟩
  rw [eqB_refl]
  go_wp2_with fail
  refine (markNimberS_any _ zs hln 1 (by omega) w1.heap.size _ (own_below HO2.out (bdrewN (Below.refl _ w2) m3))).mono ?_
  rintro e w4 ⟨rfl, ho4, hg4⟩
  have HB4 := Lib.hid ((bdrewN HB2.out m3).grown hg4 HB2.out.size (fun k hk => (HO2.out.lt k hk).1))
  have ho4' : w4.ownsRow w1.heap.size 29 1 (.slice A2 zs.length c2) (mark16 1 zs.length).length (u16s (mark16 1 zs.length)) := by rw [mark16_len]; exact ho4
  have HM4 := Lib.hid (NS.of_own ho4' (mark16_small 1 zs.length))
  clear ho4 ho4' hg4 HB2 HO2
  go_wp2_with fail
  refine (heldNimberS_any _ zs.length hln 1 (by omega) w1.heap.size _ HM4.out).mono ?_
  rintro e w5 ⟨rfl, rfl⟩
  have Q1 : decide (((1 + zs.length : Nat) : Int) < 0) = false := by simp; omega
  have Q2 : ((((1 + zs.length : Nat) : Int)) != (((1 + zs.length : Nat) : Int))) = false := by simp
  have Q3 : decide ((1 : Int) + (zs.length : Int) < 0) = false := by simp; omega
  have Q4 : (((1 : Int) + (zs.length : Int)) != ((1 : Int) + (zs.length : Int))) = false := by simp
  go_wp2_with fail
  refine (impl_QuadraticRoots n q n1 q1 Z HP.out _).mono ?_
  rintro e w6 ⟨v6, rfl, ho6, hb6⟩
  replace ho6 : w6.ownsRow w5.heap.size 29 1 v6 zs.length (u16s zs) := by rw [HZ.out]; exact ho6
  obtain ⟨A6, c6, rfl, _, _⟩ := own_form ho6
  have HB6 := Lib.hid (bchain HB4.out hb6)
  have HM6 := Lib.hid (HM4.out.below hb6)
  have HO6 := Lib.hid (NS.of_own ho6 HSM.out)
  clear ho6 hb6 HB4 HM4
  go_wp2_with fail
  refine (eqNimberS_any _ _ zs zs hln hln _ HO6.out (HS1.out.below HB6.out)).mono ?_
  rintro e w7 ⟨rfl, m7, rfl⟩
  rw [eqB_refl]
  go_wp2_with fail
  refine (heldNimberS_any _ zs.length hln 1 (by omega) w1.heap.size _ (HM6.out.below (bdrewN (Below.refl _ w6) m7))).mono ?_
  rintro e w8 ⟨rfl, rfl⟩
  go_wp2_with fail
  go_ret
  exact ⟨rfl, bchain HB1.out (bdrewN HB6.out m7)⟩

set_option maxRecDepth 100000 in
theorem lifted (os : Os) (started : os.Started) (H : Type) (enc : TypeId × Value → H) :
    ReturnsInHanded {} Try.checked os 24 .any (Rows.fnExactQuadraticRootsSpec.pre6 enc Try.prog Try.f24 Rows.fnExactQuadraticRootsRow.domain false) (Rows.fnExactQuadraticRootsSpec.post enc Try.prog Try.f24 false true false false) := by
  refine returnsInHanded_of_change (C := Try.checked) own started (by kernel_rfl) Try.func24
    (ChangeSpec.witness6 (enc := enc) (C := Try.checked) false ⟨#[], #[.int .u16 0, .int .u16 0], []⟩ 8 (by kernel_rfl) (by kernel_rfl) (by kernel_rfl) (by kernel_rfl)) ?_
  intro W base args ds gs before hval0 hW hcnd _
  have hval : ∀ (j : Nat) t v, Try.f24.params[j]? = some t → args[j]? = some v → Value.okWide Try.prog W .any base t v := hval0
  have hW' := hW
  obtain ⟨p, q, hA0, hV, rfl, hfz, hnd⟩ := hW
  have hA : DataW.TrodAll enc Try.prog W 0 (fun _ => true) true Try.f24.params.toList args.toList ds p := hA0
  rw [Try.params24] at hA hval
  obtain ⟨v0, vs0, d0, ds0, p0, q0, hargs, rfl, rfl, h0, r0⟩ := trodAll_cons hA
  obtain ⟨v1, vs1, d1, ds1, p1, q1, rfl, rfl, rfl, h1, r1⟩ := trodAll_cons r0
  obtain ⟨rfl, rfl, rfl⟩ := trodAll_nil r1
  obtain rfl : args = #[v0, v1] := by cases args; simp_all
  obtain ⟨rfl, rfl⟩ := trodVars_none hV
  obtain ⟨a0, rfl, rfl, rfl, w0⟩ := open_int Try.underlying23 (hval 0 23 v0 rfl rfl) h0
  obtain ⟨a1, rfl, rfl, rfl, w1⟩ := open_int Try.underlying23 (hval 1 23 v1 rfl rfl) h1
  clear hA0 hval0
  simp only [List.append_nil] at hW'
  refine (walk W a0 a1 w0 w1).mono fun e W' ⟨he, hg⟩ => ?_
  subst he
  exact ⟨_, rfl, law_post rfl rfl hW' hg (fun _ _ _ => (trodAll_cons_mk (shut_bool Try.underlying4 _) trodAll_mk0)) (fun sp _ => (trodAll_cons_mk (shut_int Try.underlying23 w0) (trodAll_cons_mk (shut_int Try.underlying23 w1) trodAll_mk0))) (ok_one (by kernel_rfl) rfl (okWide_bool_mk Try.underlying4 _))⟩

theorem over : Rows.fnExactQuadraticRootsRow.holds Try.pinned (OpenSpec.ofChange Rows.fnExactQuadraticRootsSpec) :=
  OpenClaim.holds_of_wide_leaving 24 Try.f24 rfl rfl rfl rfl rfl rfl rfl ⟨rfl, rfl, rfl, rfl, rfl⟩ rfl rfl rfl rfl rfl (by kernel_rfl) Try.func24 (joinedBy 24 Try.f24 Rows.fnExactQuadraticRootsSpec Rows.fnExactQuadraticRootsRow (by kernel_rfl))
    (of_decide_eq_true (by kernel_rfl)) (by unfold Func.isWrapper; first | (rw [if_pos (by decide +kernel)]; kernel_rfl) | (rw [if_neg (by decide +kernel)]; exact ⟨rfl, rfl⟩))
    (fun os started H enc _ => leaving_of_handed (lifted os started H enc))

/-- the statement -/
theorem proved : Rows.FnExactQuadraticRootsSaid :=
  over
end Go.Proofs.Ytjbaeomjinnlhaa.fnExactQuadraticRoots
