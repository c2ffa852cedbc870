/-
  The statement Rows.FnExactLeadingMoveSaid for every input the law returns true; the walk is ours, the rest is the guide's template at this function's number and types.
  Conditions: none.
-/
import Derived.Test.YthnloaddmkpmkaaRows
import Derived.WalkKit
import Derived.ProofKit
import Derived.OpenShut
import Derived.Test.YthnloaddmkpmkaaHead
import Derived.Test.YthnloaddmkpmkaaOpen
import Derived.Test.YthnloaddmkpmkaaLead
namespace Go.Proofs.Ythnloaddmkpmkaa.fnExactLeadingMove
open Go.ChangeShapes Go.WideShapes Go.ChangeAt Go.RowKit
set_option linter.unusedVariables false
set_option linter.unusedSimpArgs false

theorem own : ownKnob Try.prog.godebug = none := by kernel_rfl

theorem walk (w : World) (a0 : Value) (z0 : List Int) (w0 : KS .u16 w a0 z0) :
    Calls Try.prog 18 #[a0] w fun e w' => e = .returned (.bool true) ∧ Below w.heap.size w w' := by
  by_cases hbig : 1048576 < z0.length
  · obtain ⟨A, c, rfl, hm, hw, hc⟩ := w0
    have t1 : decide ((1048576 : Int) < (z0.length : Int)) = true := by simp; omega
    clear hc hw
    go_enter Try.func18, Try.ntmps18
    go_wp2_with fail
    go_ret
    exact ⟨rfl, Below.refl _ _⟩
  · have hn : z0.length ≤ 1048576 := by omega
    have hs := ns_of_ks w0
    obtain ⟨A, c, rfl, hm, hw, hc⟩ := w0
    have t1 : decide ((1048576 : Int) < (z0.length : Int)) = false := by simp; omega
    clear hc hw hbig
    have HA := Lib.hid hs.all
    have HS := Lib.hid hs; clear hs
    go_enter Try.func18, Try.ntmps18
    go_wp2_with fail
    refine (toNimberS_any _ z0 hn _ HS.out).mono ?_
    rintro e w1 ⟨u1, rfl, hb1, ho1⟩
    have HB1 := Lib.hid hb1
    have HS1 := Lib.hid (NS.of_own ho1 HA.out)
    clear hb1 ho1
    go_wp2_with fail
    refine (spec_LeadingMove u1 z0 hn _ HS1.out).mono ?_
    rintro e w' ⟨rfl, m1, rfl⟩
    have HB1 := Lib.hid (bdrewN HB1.out m1)
    obtain ⟨gi, gt, gc, hV⟩ := leadV_form z0
    have HV := Lib.hid hV; clear hV
    rw [HV.out]
    go_wp2_with fail
    refine (toNimberS_any _ z0 hn _ (HS.out.below HB1.out)).mono ?_
    rintro e w2 ⟨u2, rfl, hb2, ho2⟩
    have HB2 := Lib.hid (bchain HB1.out hb2)
    have HS2 := Lib.hid (NS.of_own ho2 HA.out)
    clear hb2 ho2
    go_wp2_with fail
    refine (impl_LeadingMove u2 z0 hn _ HS2.out).mono ?_
    rintro e w3 ⟨rfl, hb3⟩
    rw [HV.out]
    have HB3 := Lib.hid (bchain HB2.out hb3)
    have HS3 := Lib.hid (HS2.out.below hb3)
    clear hb3
    go_wp2_with fail
    refine (toNimberS_any _ z0 hn _ (HS.out.below HB3.out)).mono ?_
    rintro e w4 ⟨u4, rfl, hb4, ho4⟩
    have HB4 := Lib.hid (bchain HB3.out hb4)
    have HS4 := Lib.hid (NS.of_own ho4 HA.out)
    have HS5 := Lib.hid (HS3.out.below hb4)
    clear hb4 ho4
    go_wp2_with fail
    refine (eqNimberS_any u2 u4 z0 z0 hn hn _ HS5.out HS4.out).mono ?_
    rintro e w5 ⟨rfl, m, rfl⟩
    rw [eqB_refl]
    go_wp2_with fail
    go_ret
    exact ⟨rfl, bdrewN HB4.out m⟩

set_option maxRecDepth 100000 in
theorem lifted (os : Os) (started : os.Started) (H : Type) (enc : TypeId × Value → H) :
    ReturnsInHanded {} Try.checked os 18 .any (Rows.fnExactLeadingMoveSpec.pre6 enc Try.prog Try.f18 Rows.fnExactLeadingMoveRow.domain false) (Rows.fnExactLeadingMoveSpec.post enc Try.prog Try.f18 false true false false) := by
  refine returnsInHanded_of_change (C := Try.checked) own started (by kernel_rfl) Try.func18
    (ChangeSpec.witness6 (enc := enc) (C := Try.checked) false ⟨#[], #[.slice none 0 0], []⟩ 8 (by kernel_rfl) (by kernel_rfl) (by kernel_rfl) (by kernel_rfl)) ?_
  intro W base args ds gs before hval0 hW hcnd _
  have hval : ∀ (j : Nat) t v, Try.f18.params[j]? = some t → args[j]? = some v → Value.okWide Try.prog W .any base t v := hval0
  have hW' := hW
  obtain ⟨p, q, hA0, hV, rfl, hfz, hnd⟩ := hW
  have hA : DataW.TrodAll enc Try.prog W 0 (fun _ => true) true Try.f18.params.toList args.toList ds p := hA0
  rw [Try.params18] at hA hval
  obtain ⟨v0, vs0, d0, ds0, p0, q0, hargs, rfl, rfl, h0, r0⟩ := trodAll_cons hA
  obtain ⟨rfl, rfl, rfl⟩ := trodAll_nil r0
  obtain rfl : args = #[v0] := by cases args; simp_all
  obtain ⟨rfl, rfl⟩ := trodVars_none hV
  obtain ⟨z0, w0, g0⟩ := open_row Try.underlying40 Try.underlying24 (by kernel_rfl) (hval 0 40 v0 rfl rfl) h0
  obtain ⟨a0, ha0⟩ : ∃ y, y = v0 := ⟨_, rfl⟩
  subst ha0
  clear hA0 hval0
  simp only [List.append_nil] at hW'
  refine (walk W a0 z0 w0).mono fun e W' ⟨he, hg⟩ => ?_
  subst he
  exact ⟨_, rfl, law_post rfl rfl hW' hg (fun _ _ _ => (trodAll_cons_mk (shut_bool Try.underlying4 _) trodAll_mk0)) (fun sp hsp => by have t := (trodAll_cons_mk (g0 W' hg sp (fun q hq => hsp q (by simp [hq]))) trodAll_mk0); simp only [List.append_nil, List.nil_append] at t; exact t) (ok_one (by kernel_rfl) rfl (okWide_bool_mk Try.underlying4 _))⟩

theorem over : Rows.fnExactLeadingMoveRow.holds Try.pinned (OpenSpec.ofChange Rows.fnExactLeadingMoveSpec) :=
  OpenClaim.holds_of_wide 18 Try.f18 rfl rfl rfl rfl rfl rfl rfl ⟨rfl, rfl, rfl, rfl, rfl⟩ rfl rfl rfl rfl rfl (by kernel_rfl) Try.func18 (joinedBy 18 Try.f18 Rows.fnExactLeadingMoveSpec Rows.fnExactLeadingMoveRow (by kernel_rfl))
    (of_decide_eq_true (by kernel_rfl)) (by unfold Func.isWrapper; first | (rw [if_pos (by decide +kernel)]; kernel_rfl) | (rw [if_neg (by decide +kernel)]; exact ⟨rfl, rfl⟩))
    (fun os started H enc _ => lifted os started H enc)

/-- the statement -/
theorem proved : Rows.FnExactLeadingMoveSaid :=
  over
end Go.Proofs.Ythnloaddmkpmkaa.fnExactLeadingMove
