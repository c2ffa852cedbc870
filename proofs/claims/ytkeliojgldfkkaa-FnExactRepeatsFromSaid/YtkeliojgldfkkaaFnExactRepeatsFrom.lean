/-
  The statement Rows.FnExactRepeatsFromSaid for every input the law returns true; the walk is ours, the rest is the guide's template at this function's number and types.
  Conditions: none.
-/
import Derived.Test.YtkeliojgldfkkaaRows
import Derived.WalkKit
import Derived.ProofKit
import Derived.OpenShut
import Derived.Test.YtkeliojgldfkkaaHead
import Derived.Test.YtkeliojgldfkkaaOpen


import Derived.Test.YtkeliojgldfkkaaRep
namespace Go.Proofs.Ytkeliojgldfkkaa.fnExactRepeatsFrom
open Go.ChangeShapes Go.WideShapes Go.ChangeAt Go.RowKit
set_option linter.unusedVariables false
set_option linter.unusedSimpArgs false

theorem own : ownKnob Try.prog.godebug = none := by kernel_rfl

set_option maxRecDepth 100000 in
set_option maxHeartbeats 1000000 in
theorem walk (w : World) (a0 : Value) (z0 : List Int) (a1 : Int) (a2 : Int) (w0 : KS .u16 w a0 z0) (w1 : (Lit.int .i64 a1).wf = true) (w2 : (Lit.int .i64 a2).wf = true) :
    Calls Try.prog 7 #[a0, .int .i64 a1, .int .i64 a2] w fun e w' => e = .returned (.bool true) ∧ Below w.heap.size w w' := by
  by_cases hbig : 1048576 < z0.length
  · obtain ⟨A, c, rfl, hm, hw, hc⟩ := w0
    have t1 : decide ((1048576 : Int) < (z0.length : Int)) = true := by simp; omega
    clear hc hw
    go_enter Try.func7, Try.ntmps7
    go_wp2_with fail
    go_ret
    exact ⟨rfl, Below.refl _ _⟩
  · have hn : z0.length ≤ 1048576 := by omega
    have hs := ns_of_ks w0
    have b1 := bounds_i64 w1
    have b2 := bounds_i64 w2
    obtain ⟨A, c, rfl, hm, hw, hc⟩ := w0
    have t1 : decide ((1048576 : Int) < (z0.length : Int)) = false := by simp; omega
    clear hc hw hbig
    have HA := Lib.hid hs.all
    have HS := Lib.hid hs; clear hs
    obtain ⟨bb, kk, hV⟩ := repV_form z0 a1 a2
    have HV := Lib.hid hV
    clear hV
    go_enter Try.func7, Try.ntmps7
    go_wp2_with fail
    refine (toNimberS_any _ z0 hn _ HS.out).mono ?_
    rintro e w1' ⟨u1, rfl, hb1, ho1⟩
    have HB1 := Lib.hid hb1
    have HS1 := Lib.hid (NS.of_own ho1 HA.out)
    clear hb1 ho1
    go_wp2_with fail
    refine (spec_RepeatsFrom u1 z0 hn a1 a2 (by omega) (by omega) (by omega) (by omega) _ HS1.out).mono ?_
    rintro e wa ⟨rfl, m1, rfl⟩
    rw [HV.out]
    have HB2 := Lib.hid (bdrewN HB1.out m1)
    clear HB1 HS1
    go_wp2_with fail
    refine (toNimberS_any _ z0 hn _ (HS.out.below HB2.out)).mono ?_
    rintro e w2' ⟨u2, rfl, hb3, ho3⟩
    have HB3 := Lib.hid (bchain HB2.out hb3)
    have HS2 := Lib.hid (NS.of_own ho3 HA.out)
    have HCAP := Lib.hid (own_cap ho3)
    clear hb3 ho3 HB2
    go_wp2_with fail
    refine (impl_RepeatsFrom u2 z0 hn a1 a2 (by omega) (by omega) (by omega) (by omega) _ HS2.out HCAP.out).mono ?_
    rintro e wb ⟨rfl, m2, rfl⟩
    rw [HV.out]
    have HB4 := Lib.hid (bdrewN HB3.out m2)
    have HS4 := Lib.hid (HS2.out.below (bdrewN (Below.refl _ w2') m2))
    clear HB3 HS2
    go_wp2_with fail
    refine (toNimberS_any _ z0 hn _ (HS.out.below HB4.out)).mono ?_
    rintro e w4' ⟨u4, rfl, hb8, ho8⟩
    have HB8 := Lib.hid (bchain HB4.out hb8)
    have HS6 := Lib.hid (NS.of_own ho8 HA.out)
    have HS7 := Lib.hid (HS4.out.below hb8)
    clear hb8 ho8
    go_wp2_with fail
    refine (eqNimberS_any u2 u4 z0 z0 hn hn _ HS7.out HS6.out).mono ?_
    rintro e w5' ⟨rfl, m, rfl⟩
    rw [eqB_refl]
    go_wp2_with fail
    go_ret
    exact ⟨rfl, bdrewN HB8.out m⟩

set_option maxRecDepth 100000 in
theorem lifted (os : Os) (started : os.Started) (H : Type) (enc : TypeId × Value → H) :
    ReturnsInHanded {} Try.checked os 7 .any (Rows.fnExactRepeatsFromSpec.pre6 enc Try.prog Try.f7 Rows.fnExactRepeatsFromRow.domain false) (Rows.fnExactRepeatsFromSpec.post enc Try.prog Try.f7 false true false false) := by
  refine returnsInHanded_of_change (C := Try.checked) own started (by kernel_rfl) Try.func7
    (ChangeSpec.witness6 (enc := enc) (C := Try.checked) false ⟨#[], #[.slice none 0 0, .int .i64 0, .int .i64 0], []⟩ 8 (by kernel_rfl) (by kernel_rfl) (by kernel_rfl) (by kernel_rfl)) ?_
  intro W base args ds gs before hval0 hW hcnd _
  have hval : ∀ (j : Nat) t v, Try.f7.params[j]? = some t → args[j]? = some v → Value.okWide Try.prog W .any base t v := hval0
  have hW' := hW
  obtain ⟨p, q, hA0, hV, rfl, hfz, hnd⟩ := hW
  have hA : DataW.TrodAll enc Try.prog W 0 (fun _ => true) true Try.f7.params.toList args.toList ds p := hA0
  rw [Try.params7] at hA hval
  obtain ⟨v0, vs0, d0, ds0, p0, q0, hargs, rfl, rfl, h0, r0⟩ := trodAll_cons hA
  obtain ⟨v1, vs1, d1, ds1, p1, q1, rfl, rfl, rfl, h1, r1⟩ := trodAll_cons r0
  obtain ⟨v2, vs2, d2, ds2, p2, q2, rfl, rfl, rfl, h2, r2⟩ := trodAll_cons r1
  obtain ⟨rfl, rfl, rfl⟩ := trodAll_nil r2
  obtain rfl : args = #[v0, v1, v2] := by cases args; simp_all
  obtain ⟨rfl, rfl⟩ := trodVars_none hV
  obtain ⟨z0, w0, g0⟩ := open_row Try.underlying35 Try.underlying50 (by kernel_rfl) (hval 0 35 v0 rfl rfl) h0
  obtain ⟨a0, ha0⟩ : ∃ y, y = v0 := ⟨_, rfl⟩
  subst ha0
  obtain ⟨a1, rfl, rfl, rfl, w1⟩ := open_int Try.underlying2 (hval 1 2 v1 rfl rfl) h1
  obtain ⟨a2, rfl, rfl, rfl, w2⟩ := open_int Try.underlying2 (hval 2 2 v2 rfl rfl) h2
  clear hA0 hval0
  simp only [List.append_nil, List.nil_append] at hW'
  refine (walk W a0 z0 a1 a2 w0 w1 w2).mono fun e W' ⟨he, hg⟩ => ?_
  subst he
  exact ⟨_, rfl, law_post rfl rfl hW' hg (fun _ _ _ => (trodAll_cons_mk (shut_bool Try.underlying4 _) trodAll_mk0)) (fun sp hsp => by have t := (trodAll_cons_mk (g0 W' hg sp (fun q hq => hsp q (by simp [hq]))) (trodAll_cons_mk (shut_int Try.underlying2 w1) (trodAll_cons_mk (shut_int Try.underlying2 w2) trodAll_mk0))); simp only [List.append_nil, List.nil_append] at t; exact t) (ok_one (by kernel_rfl) rfl (okWide_bool_mk Try.underlying4 _))⟩

theorem over : Rows.fnExactRepeatsFromRow.holds Try.pinned (OpenSpec.ofChange Rows.fnExactRepeatsFromSpec) :=
  OpenClaim.holds_of_wide 7 Try.f7 rfl rfl rfl rfl rfl rfl rfl ⟨rfl, rfl, rfl, rfl, rfl⟩ rfl rfl rfl rfl rfl (by kernel_rfl) Try.func7 (joinedBy 7 Try.f7 Rows.fnExactRepeatsFromSpec Rows.fnExactRepeatsFromRow (by kernel_rfl))
    (of_decide_eq_true (by kernel_rfl)) (by unfold Func.isWrapper; first | (rw [if_pos (by decide +kernel)]; kernel_rfl) | (rw [if_neg (by decide +kernel)]; exact ⟨rfl, rfl⟩))
    (fun os started H enc _ => lifted os started H enc)

/-- the statement -/
theorem proved : Rows.FnExactRepeatsFromSaid :=
  over
end Go.Proofs.Ytkeliojgldfkkaa.fnExactRepeatsFrom
