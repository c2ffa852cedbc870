/-
  The statement Rows.FnExactValidGameSaid for every input the law returns true; the walk is ours, the rest is the guide's template at this function's number and types.
  Conditions: none.
-/
import Derived.Test.YtkeliojgldfkkaaRows
import Derived.WalkKit
import Derived.ProofKit
import Derived.OpenShut
import Derived.Test.YtkeliojgldfkkaaHead
import Derived.Test.YtkeliojgldfkkaaOpen


import Derived.Test.YtkeliojgldfkkaaValid
namespace Go.Proofs.Ytkeliojgldfkkaa.fnExactValidGame
open Go.ChangeShapes Go.WideShapes Go.ChangeAt Go.RowKit
set_option linter.unusedVariables false
set_option linter.unusedSimpArgs false

theorem own : ownKnob Try.prog.godebug = none := by kernel_rfl

set_option maxRecDepth 100000 in
set_option maxHeartbeats 1000000 in
theorem walk (w : World) (a0 : Value) (z0 : List (List Int)) (w0 : GS 0 w a0 z0) :
    Calls Try.prog 3 #[a0] w fun e w' => e = .returned (.bool true) ∧ Below w.heap.size w w' := by
  have HS := Lib.hid w0; clear w0
  by_cases hbig : total z0 ≤ 1048576
  · have hz : szV z0 1048576 = .int .i64 ((1048576 - total z0 : Nat) : Int) := by unfold szV; rw [if_pos hbig]
    obtain ⟨y, hy⟩ : ∃ y : Nat, y = 1048576 - total z0 := ⟨_, rfl⟩
    rw [← hy] at hz
    have hy2 : y ≤ 1048576 := by omega
    have T1 : decide ((y : Int) < 0) = false := by simp
    have HZ := Lib.hid hz
    clear hz hy
    go_enter Try.func3, Try.ntmps3
    go_wp2_with fail
    refine (szGame_any a0 z0 1048576 (by omega) _ HS.out).mono ?_
    rintro e w' ⟨rfl, rfl⟩
    rw [HZ.out]
    go_wp2_with fail
    refine (toGame_any a0 z0 hbig _ HS.out).mono ?_
    rintro e w1 ⟨u1, rfl, hb1, hg1⟩
    have HB1 := Lib.hid hb1
    have HG1 := Lib.hid hg1
    clear hb1 hg1
    go_wp2_with fail
    refine (spec_ValidGame u1 z0 hbig _ _ HG1.out).mono ?_
    rintro e w2 ⟨rfl, rfl⟩
    go_wp2_with fail
    refine (toGame_any a0 z0 hbig _ (HS.out.below HB1.out)).mono ?_
    rintro e w3 ⟨u3, rfl, hb3, hg3⟩
    have HB3 := Lib.hid (bchain HB1.out hb3)
    have HG3 := Lib.hid hg3
    clear hb3 hg3 HB1 HG1
    go_wp2_with fail
    refine (impl_ValidGame u3 z0 hbig _ _ HG3.out).mono ?_
    rintro e w4 ⟨rfl, rfl⟩
    obtain ⟨bv, hbv⟩ : ∃ bv, bv = validB z0 := ⟨_, rfl⟩
    rw [← hbv]
    clear hbv
    have hne : (bv != bv) = false := by simp
    go_wp2_with fail
    refine (toGame_any a0 z0 hbig _ (HS.out.below HB3.out)).mono ?_
    rintro e w5 ⟨u5, rfl, hb5, hg5⟩
    have HB5 := Lib.hid (bchain HB3.out hb5)
    have HG5 := Lib.hid hg5
    have HG6 := Lib.hid (HG3.out.below hb5)
    clear hb5 hg5 HB3 HG3
    go_wp2_with fail
    refine (eqGame_any u3 u5 z0 z0 hbig hbig _ _ _ HG6.out HG5.out).mono ?_
    rintro e w6 ⟨rfl, m, rfl⟩
    rw [geqB_refl]
    go_wp2_with fail
    go_ret
    exact ⟨rfl, bdrewN HB5.out m⟩
  · have hz : szV z0 1048576 = .int .i64 (-1) := by unfold szV; rw [if_neg hbig]
    have HZ := Lib.hid hz
    clear hz
    go_enter Try.func3, Try.ntmps3
    go_wp2_with fail
    refine (szGame_any a0 z0 1048576 (by omega) _ HS.out).mono ?_
    rintro e w' ⟨rfl, rfl⟩
    rw [HZ.out]
    go_wp2_with fail
    go_ret
    exact ⟨rfl, Below.refl _ _⟩

set_option maxRecDepth 100000 in
theorem lifted (os : Os) (started : os.Started) (H : Type) (enc : TypeId × Value → H) :
    ReturnsInHanded {} Try.checked os 3 .any (Rows.fnExactValidGameSpec.pre6 enc Try.prog Try.f3 Rows.fnExactValidGameRow.domain false) (Rows.fnExactValidGameSpec.post enc Try.prog Try.f3 false true false false) := by
  refine returnsInHanded_of_change (C := Try.checked) own started (by kernel_rfl) Try.func3
    (ChangeSpec.witness6 (enc := enc) (C := Try.checked) false ⟨#[], #[.slice none 0 0], []⟩ 8 (by kernel_rfl) (by kernel_rfl) (by kernel_rfl) (by kernel_rfl)) ?_
  intro W base args ds gs before hval0 hW hcnd _
  have hval : ∀ (j : Nat) t v, Try.f3.params[j]? = some t → args[j]? = some v → Value.okWide Try.prog W .any base t v := hval0
  have hW' := hW
  obtain ⟨p, q, hA0, hV, rfl, hfz, hnd⟩ := hW
  have hA : DataW.TrodAll enc Try.prog W 0 (fun _ => true) true Try.f3.params.toList args.toList ds p := hA0
  rw [Try.params3] at hA hval
  obtain ⟨v0, vs0, d0, ds0, p0, q0, hargs, rfl, rfl, h0, r0⟩ := trodAll_cons hA
  obtain ⟨rfl, rfl, rfl⟩ := trodAll_nil r0
  obtain rfl : args = #[v0] := by cases args; simp_all
  obtain ⟨rfl, rfl⟩ := trodVars_none hV
  obtain ⟨z0, w0, g0⟩ := open_game (P := Try.prog) (by kernel_rfl) (by kernel_rfl) (of_decide_eq_true (by kernel_rfl)) Try.underlying22 Try.underlying43 Try.underlying45 (by kernel_rfl) (by kernel_rfl) (hval 0 22 v0 rfl rfl) h0 (fun x hx => hW'.lt x (by simp [hx]))
  obtain ⟨a0, ha0⟩ : ∃ y, y = v0 := ⟨_, rfl⟩
  subst ha0
  clear hA0 hval0
  simp only [List.append_nil] at hW'
  refine (walk W a0 z0 w0).mono fun e W' ⟨he, hg⟩ => ?_
  subst he
  exact ⟨_, rfl, law_post rfl rfl hW' hg (fun _ _ _ => (trodAll_cons_mk (shut_bool Try.underlying4 _) trodAll_mk0)) (fun sp hsp => by have t := (trodAll_cons_mk (g0 W' hg sp (fun q hq => hsp q (by simp [hq]))) trodAll_mk0); simp only [List.append_nil, List.nil_append] at t; exact t) (ok_one (by kernel_rfl) rfl (okWide_bool_mk Try.underlying4 _))⟩

theorem over : Rows.fnExactValidGameRow.holds Try.pinned (OpenSpec.ofChange Rows.fnExactValidGameSpec) :=
  OpenClaim.holds_of_wide 3 Try.f3 rfl rfl rfl rfl rfl rfl rfl ⟨rfl, rfl, rfl, rfl, rfl⟩ rfl rfl rfl rfl rfl (by kernel_rfl) Try.func3 (joinedBy 3 Try.f3 Rows.fnExactValidGameSpec Rows.fnExactValidGameRow (by kernel_rfl))
    (of_decide_eq_true (by kernel_rfl)) (by unfold Func.isWrapper; first | (rw [if_pos (by decide +kernel)]; kernel_rfl) | (rw [if_neg (by decide +kernel)]; exact ⟨rfl, rfl⟩))
    (fun os started H enc _ => lifted os started H enc)

/-- the statement -/
theorem proved : Rows.FnExactValidGameSaid :=
  over
end Go.Proofs.Ytkeliojgldfkkaa.fnExactValidGame
