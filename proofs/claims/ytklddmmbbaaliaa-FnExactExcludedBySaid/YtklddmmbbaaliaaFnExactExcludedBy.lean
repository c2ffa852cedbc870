/-
  The statement Rows.FnExactExcludedBySaid for every input the law returns true; the walk is ours, the rest is the guide's template at this function's number and types.
  Conditions: none.
-/
import Derived.Test.YtklddmmbbaaliaaRows
import Derived.WalkKit
import Derived.ProofKit
import Derived.OpenShut
import Derived.Test.YtklddmmbbaaliaaHead
import Derived.Test.YtklddmmbbaaliaaOpen










import Derived.Test.YtklddmmbbaaliaaExc
namespace Go.Proofs.Ytklddmmbbaaliaa.fnExactExcludedBy
open Go.ChangeShapes Go.WideShapes Go.ChangeAt Go.RowKit
set_option linter.unusedVariables false
set_option linter.unusedSimpArgs false

theorem own : ownKnob Try.prog.godebug = none := by kernel_rfl

set_option maxRecDepth 100000 in
set_option maxHeartbeats 1000000 in
theorem walk (w : World) (a0 : Value) (z0 : List Int) (w0 : KS .u16 w a0 z0) :
    Calls Try.prog 3 #[a0] w fun e w' => e = .returned (.bool true) ∧ Below w.heap.size w w' := by
  by_cases hbig : 1048576 < z0.length
  · obtain ⟨A, c, rfl, hm, hw, hc⟩ := w0
    have t1 : decide ((1048576 : Int) < (z0.length : Int)) = true := by simp; omega
    clear hc hw
    go_enter Try.func3, Try.ntmps3
    go_wp2_with fail
    go_ret
    exact ⟨rfl, Below.refl _ _⟩
  · have hn : z0.length ≤ 1048576 := by omega
    have hs := ns_of_ks w0
    obtain ⟨A, c, rfl, hm, hw, hc⟩ := w0
    have t1 : decide ((1048576 : Int) < (z0.length : Int)) = false := by simp; omega
    clear hc hw hbig
    have HA := Lib.hid hs.all
    have HS := Lib.hid hs; clear hs
    go_enter Try.func3, Try.ntmps3
    go_wp2_with fail
    refine (toNimberS_any _ z0 hn _ HS.out).mono ?_
    rintro e w1 ⟨u1, rfl, hb1, ho1⟩
    have HB1 := Lib.hid hb1
    have HS1 := Lib.hid (NS.of_own ho1 HA.out)
    clear hb1 ho1
    go_wp2_with fail
    refine (spec_ExcludedBy u1 z0 hn _ HS1.out).mono ?_
    rintro e w2 ⟨hd, hb2⟩
    obtain ⟨m, k, rfl, himp⟩ : ∃ (m : Nat) (k : Int), e = .returned (.tuple #[.int .i64 (m : Int), .int .i64 k]) ∧ ∀ e' : Ending, ((z0.length ≤ 1000 ∧ ∃ m : Nat, e' = .returned (.tuple #[.int .i64 (m : Int), .int .i64 0]) ∧ mexP z0 m) ∨ (1000 < z0.length ∧ e' = .returned (.tuple #[.int .i64 0, .int .i64 3]))) → e' = .returned (.tuple #[.int .i64 (m : Int), .int .i64 k]) := by
      rcases hd with ⟨h1, m, h2, h3⟩ | ⟨h1, h2⟩
      · refine ⟨m, 0, h2, ?_⟩
        rintro e' (⟨_, m', q1, q2⟩ | ⟨q, _⟩)
        · have em := h3.one q2
          subst em
          exact q1
        · omega
      · refine ⟨0, 3, h2, ?_⟩
        rintro e' (⟨q, _⟩ | ⟨_, q⟩)
        · omega
        · exact q
    have HIMP := Lib.hid himp
    have HB2 := Lib.hid (bchain HB1.out hb2)
    clear hd himp hb2 HB1 HS1
    go_wp2_with fail
    refine (toNimberS_any _ z0 hn _ (HS.out.below HB2.out)).mono ?_
    rintro e w3 ⟨u3, rfl, hb3, ho3⟩
    have HB3 := Lib.hid (bchain HB2.out hb3)
    have HS3 := Lib.hid (NS.of_own ho3 HA.out)
    clear hb3 ho3
    go_wp2_with fail
    refine (impl_ExcludedBy u3 z0 hn _ HS3.out).mono ?_
    rintro e w4 ⟨hd4, hb4⟩
    obtain rfl := HIMP.out _ hd4
    have HB4 := Lib.hid (bchain HB3.out hb4)
    have HS4 := Lib.hid (HS3.out.below hb4)
    clear hd4 hb4
    have Q1 : ((m : Int) != (m : Int)) = false := by simp
    have Q2 : (k != k) = false := by simp
    go_wp2_with fail
    refine (toNimberS_any _ z0 hn _ (HS.out.below HB4.out)).mono ?_
    rintro e w5 ⟨u5, rfl, hb5, ho5⟩
    have HB5 := Lib.hid (bchain HB4.out hb5)
    have HS5 := Lib.hid (NS.of_own ho5 HA.out)
    have HS6 := Lib.hid (HS4.out.below hb5)
    clear hb5 ho5
    go_wp2_with fail
    refine (eqNimberS_any u3 u5 z0 z0 hn hn _ HS6.out HS5.out).mono ?_
    rintro e w6 ⟨rfl, n, rfl⟩
    rw [eqB_refl]
    go_wp2_with fail
    go_ret
    exact ⟨rfl, bdrewN HB5.out n⟩

set_option maxRecDepth 100000 in
theorem lifted (os : Os) (started : os.Started) (H : Type) (enc : TypeId × Value → H) :
    ReturnsInHanded {} Try.checked os 3 .any (Rows.fnExactExcludedBySpec.pre6 enc Try.prog Try.f3 Rows.fnExactExcludedByRow.domain false) (Rows.fnExactExcludedBySpec.post enc Try.prog Try.f3 false true false false) := by
  refine returnsInHanded_of_change (C := Try.checked) own started (by kernel_rfl) Try.func3
    (ChangeSpec.witness6 (enc := enc) (C := Try.checked) false ⟨#[], #[.slice none 0 0], []⟩ 8 (by kernel_rfl) (by kernel_rfl) (by kernel_rfl) (by kernel_rfl)) ?_
  intro W base args ds gs before hval0 hW hcnd _
  have hval : ∀ (j : Nat) t v, Try.f3.params[j]? = some t → args[j]? = some v → Value.okWide Try.prog W .any base t v := hval0
  have hW' := hW
  obtain ⟨p, q, hA0, hV, rfl, hfz, hnd⟩ := hW
  have hA : DataW.TrodAll enc Try.prog W 0 (fun _ => true) true Try.f3.params.toList args.toList ds p := hA0
  rw [Try.params3] at hA hval
  obtain ⟨v0, vs0, d0, ds0, p0, q0, hargs, rfl, rfl, h0, r0⟩ := trodAll_cons hA
  obtain ⟨rfl, rfl, rfl⟩ := trodAll_nil r0
  obtain rfl : args = #[v0] := by cases args; simp_all
  obtain ⟨rfl, rfl⟩ := trodVars_none hV
  obtain ⟨z0, w0, g0⟩ := open_row Try.underlying22 Try.underlying29 (by kernel_rfl) (hval 0 22 v0 rfl rfl) h0
  obtain ⟨a0, ha0⟩ : ∃ y, y = v0 := ⟨_, rfl⟩
  subst ha0
  clear hA0 hval0
  simp only [List.append_nil] at hW'
  refine (walk W a0 z0 w0).mono fun e W' ⟨he, hg⟩ => ?_
  subst he
  exact ⟨_, rfl, law_post rfl rfl hW' hg (fun _ _ _ => (trodAll_cons_mk (shut_bool Try.underlying4 _) trodAll_mk0)) (fun sp hsp => by have t := (trodAll_cons_mk (g0 W' hg sp (fun q hq => hsp q (by simp [hq]))) trodAll_mk0); simp only [List.append_nil, List.nil_append] at t; exact t) (ok_one (by kernel_rfl) rfl (okWide_bool_mk Try.underlying4 _))⟩

theorem over : Rows.fnExactExcludedByRow.holds Try.pinned (OpenSpec.ofChange Rows.fnExactExcludedBySpec) :=
  OpenClaim.holds_of_wide 3 Try.f3 rfl rfl rfl rfl rfl rfl rfl ⟨rfl, rfl, rfl, rfl, rfl⟩ rfl rfl rfl rfl rfl (by kernel_rfl) Try.func3 (joinedBy 3 Try.f3 Rows.fnExactExcludedBySpec Rows.fnExactExcludedByRow (by kernel_rfl))
    (of_decide_eq_true (by kernel_rfl)) (by unfold Func.isWrapper; first | (rw [if_pos (by decide +kernel)]; kernel_rfl) | (rw [if_neg (by decide +kernel)]; exact ⟨rfl, rfl⟩))
    (fun os started H enc _ => lifted os started H enc)

/-- the statement -/
theorem proved : Rows.FnExactExcludedBySaid :=
  over
end Go.Proofs.Ytklddmmbbaaliaa.fnExactExcludedBy
