/-
  The statement Rows.FnExactIsSimpleSaid for every input the law returns true; the walk is ours, the rest is the guide's template at this function's number and types.
  Conditions: none.
-/
import Derived.Test.YtnpadkkjaeblfaaRows
import Derived.WalkKit
import Derived.ProofKit
import Derived.OpenShut
import Derived.Test.YtnpadkkjaeblfaaHead
import Derived.Test.YtnpadkkjaeblfaaOpen










import Derived.Test.YtnpadkkjaeblfaaPvAc
namespace Go.Proofs.Ytnpadkkjaeblfaa.fnExactIsSimple
open Go.ChangeShapes Go.WideShapes Go.ChangeAt Go.RowKit
set_option linter.unusedVariables false
set_option linter.unusedSimpArgs false

theorem own : ownKnob Try.prog.godebug = none := by kernel_rfl

set_option maxRecDepth 100000 in
set_option maxHeartbeats 1000000 in
theorem walk (w : World) (a0 : Value) (z0 : List Int) (w0 : KS .u16 w a0 z0) :
    Calls Try.prog 22 #[a0] w fun e w' => e = .returned (.bool true) ∧ Below w.heap.size w w' := by
  have BF : Below w.heap.size w w := Below.refl _ _
  by_cases hbig0 : 1048576 < z0.length
  · obtain ⟨A, c, rfl, hm, hw, hc⟩ := w0
    have t0 : decide ((1048576 : Int) < (z0.length : Int)) = true := by simp; omega
    clear hc hw
    go_enter Try.func22, Try.ntmps22
    go_wp2_with fail
    go_ret
    exact ⟨rfl, Below.refl _ _⟩
  clear BF
  have hn0 : z0.length ≤ 1048576 := by omega
  have hs0 := ns_of_ks w0
  obtain ⟨A0, c0, rfl, hm0, hw0, hc0⟩ := w0
  have t0 : decide ((1048576 : Int) < (z0.length : Int)) = false := by simp; omega
  clear hc0 hw0 hbig0
  have HA0 := Lib.hid hs0.all
  have HS0 := Lib.hid hs0
  clear hs0
  obtain ⟨cd, hcd⟩ : ∃ cd : Int, cd = cuzC z0 := ⟨_, rfl⟩
  have Q3 : (cd != cd) = false := by simp
  have HCD := Lib.hid hcd
  clear hcd
  obtain ⟨vd, hvd⟩ : ∃ vd : Bool, vd = simB z0 := ⟨_, rfl⟩
  have Q4 : (vd != vd) = false := by simp
  have HVD := Lib.hid hvd
  clear hvd
  go_enter Try.func22, Try.ntmps22
  go_wp2_with fail
  have H0 := Lib.hid (Below.refl w.heap.size w)
  refine (toPoly_any _ z0 hn0 _ (HS0.out.below H0.out)).mono ?_
  rintro e w1q ⟨uw1q, rfl, hb, ho⟩
  have H1 := Lib.hid (PO.of_own ho rfl HA0.out)
  have H2 := Lib.hid (bchain H0.out hb)
  clear H0
  have SZw1q := Lib.hid hb.size
  clear hb ho
  go_wp2_with fail
  refine (spec_IsSimple uw1q z0  hn0  _ H1.out.nc).mono ?_
  rintro e w2q ⟨rfl, hb⟩
  rw [← HCD.out]
  rw [← HVD.out]
  have H3 := Lib.hid (bchain H2.out hb)
  clear H2
  have H4 := Lib.hid (H1.out.below hb)
  have SZw2q := Lib.hid hb.size
  clear hb
  go_wp2_with fail
  clear H4 H1
  refine (toPoly_any _ z0 hn0 _ (HS0.out.below H3.out)).mono ?_
  rintro e w3q ⟨uw3q, rfl, hb, ho⟩
  have H5 := Lib.hid (PO.of_own ho rfl HA0.out)
  have H6 := Lib.hid (bchain H3.out hb)
  clear H3
  have SZw3q := Lib.hid hb.size
  clear hb ho
  go_wp2_with fail
  refine (impl_IsSimple uw3q z0  hn0  _ H5.out.nc).mono ?_
  rintro e w4q ⟨rfl, hb⟩
  rw [← HCD.out]
  rw [← HVD.out]
  have H7 := Lib.hid (bchain H6.out hb)
  clear H6
  have H8 := Lib.hid (H5.out.below hb)
  have SZw4q := Lib.hid hb.size
  clear hb
  go_wp2_with fail
  refine (toPoly_any _ z0 hn0 _ (HS0.out.below H7.out)).mono ?_
  rintro e w5q ⟨uw5q, rfl, hb, ho⟩
  have H9 := Lib.hid (PO.of_own ho rfl HA0.out)
  have H10 := Lib.hid (bchain H7.out hb)
  clear H7
  have H11 := Lib.hid (H8.out.below hb)
  clear H8
  have SZw5q := Lib.hid hb.size
  clear hb ho
  go_wp2_with fail
  refine (eqPoly_any uw3q uw5q z0 z0 hn0 hn0 _ H11.out.ns H9.out.ns).mono ?_
  rintro e w6q ⟨rfl, m, hw⟩
  have hb : Below w5q.heap.size w5q w6q := by rw [hw]; exact bdrewN (Below.refl _ _) m
  clear hw
  rw [eqB_refl]
  have H12 := Lib.hid (bchain H10.out hb)
  clear H10
  have H13 := Lib.hid (H11.out.below hb)
  clear H11
  have H14 := Lib.hid (H9.out.below hb)
  have SZw6q := Lib.hid hb.size
  clear hb
  go_wp2_with fail
  clear H14 H9
  go_ret
  exact ⟨rfl, H12.out⟩

set_option maxRecDepth 100000 in
theorem lifted (os : Os) (started : os.Started) (H : Type) (enc : TypeId × Value → H) :
    ReturnsInHanded {} Try.checked os 22 .any (Rows.fnExactIsSimpleSpec.pre6 enc Try.prog Try.f22 Rows.fnExactIsSimpleRow.domain false) (Rows.fnExactIsSimpleSpec.post enc Try.prog Try.f22 false true false false) := by
  refine returnsInHanded_of_change (C := Try.checked) own started (by kernel_rfl) Try.func22
    (ChangeSpec.witness6 (enc := enc) (C := Try.checked) false ⟨#[], #[.slice none 0 0], []⟩ 8 (by kernel_rfl) (by kernel_rfl) (by kernel_rfl) (by kernel_rfl)) ?_
  intro W base args ds gs before hval0 hW hcnd _
  have hval : ∀ (j : Nat) t v, Try.f22.params[j]? = some t → args[j]? = some v → Value.okWide Try.prog W .any base t v := hval0
  have hW' := hW
  obtain ⟨p, q, hA0, hV, rfl, hfz, hnd⟩ := hW
  have hA : DataW.TrodAll enc Try.prog W 0 (fun _ => true) true Try.f22.params.toList args.toList ds p := hA0
  rw [Try.params22] at hA hval
  obtain ⟨v0, vs0, d0, ds0, p0, q0, hargs, rfl, rfl, h0, r0⟩ := trodAll_cons hA
  obtain ⟨rfl, rfl, rfl⟩ := trodAll_nil r0
  obtain rfl : args = #[v0] := by cases args; simp_all
  obtain ⟨rfl, rfl⟩ := trodVars_none hV
  obtain ⟨z0, w0, g0⟩ := open_row Try.underlying22 Try.underlying39 (by kernel_rfl) (hval 0 22 v0 rfl rfl) h0
  obtain ⟨a0, ha0⟩ : ∃ y, y = v0 := ⟨_, rfl⟩
  subst ha0
  clear hA0 hval0
  simp only [List.append_nil] at hW'
  refine (walk W a0 z0 w0).mono fun e W' ⟨he, hg⟩ => ?_
  subst he
  exact ⟨_, rfl, law_post rfl rfl hW' hg (fun _ _ _ => (trodAll_cons_mk (shut_bool Try.underlying4 _) trodAll_mk0)) (fun sp hsp => by have t := (trodAll_cons_mk (g0 W' hg sp (fun q hq => hsp q (by simp [hq]))) trodAll_mk0); simp only [List.append_nil, List.nil_append] at t; exact t) (ok_one (by kernel_rfl) rfl (okWide_bool_mk Try.underlying4 _))⟩

theorem over : Rows.fnExactIsSimpleRow.holds Try.pinned (OpenSpec.ofChange Rows.fnExactIsSimpleSpec) :=
  OpenClaim.holds_of_wide 22 Try.f22 rfl rfl rfl rfl rfl rfl rfl ⟨rfl, rfl, rfl, rfl, rfl⟩ rfl rfl rfl rfl rfl (by kernel_rfl) Try.func22 (joinedBy 22 Try.f22 Rows.fnExactIsSimpleSpec Rows.fnExactIsSimpleRow (by kernel_rfl))
    (of_decide_eq_true (by kernel_rfl)) (by unfold Func.isWrapper; first | (rw [if_pos (by decide +kernel)]; kernel_rfl) | (rw [if_neg (by decide +kernel)]; exact ⟨rfl, rfl⟩))
    (fun os started H enc _ => lifted os started H enc)

/-- the statement -/
theorem proved : Rows.FnExactIsSimpleSaid :=
  over
end Go.Proofs.Ytnpadkkjaeblfaa.fnExactIsSimple
