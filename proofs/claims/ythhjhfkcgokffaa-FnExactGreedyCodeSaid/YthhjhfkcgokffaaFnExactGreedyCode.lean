/-
  The statement Rows.FnExactGreedyCodeSaid for every input the law returns true; the walk is ours, the rest is the guide's template at this function's number and types.
  Conditions: none.
-/
import Derived.Test.YthhjhfkcgokffaaRows
import Derived.WalkKit
import Derived.ProofKit
import Derived.OpenShut
import Derived.Test.YthhjhfkcgokffaaHead
import Derived.Test.YthhjhfkcgokffaaOpen










import Derived.Test.YthhjhfkcgokffaaYk
import Derived.Test.YthhjhfkcgokffaaYm
namespace Go.Proofs.Ythhjhfkcgokffaa.fnExactGreedyCode
open Go.ChangeShapes Go.WideShapes Go.ChangeAt Go.RowKit
set_option linter.unusedVariables false
set_option linter.unusedSimpArgs false

theorem own : ownKnob Try.prog.godebug = none := by kernel_rfl

set_option maxRecDepth 100000 in
set_option maxHeartbeats 1000000 in
theorem walk (w : World) (a0 : Int) (a1 : Int) (a2 : Int) (w0 : (Lit.int .i64 a0).wf = true) (w1 : (Lit.int .i64 a1).wf = true) (w2 : (Lit.int .i64 a2).wf = true) :
    Calls Try.prog 11 #[.int .i64 a0, .int .i64 a1, .int .i64 a2] w fun e w' => e = .returned (.bool true) ∧ Below w.heap.size w w' := by
  have b0 := bounds_i64 w0
  have b1 := bounds_i64 w1
  have b2 := bounds_i64 w2
  obtain ⟨ans, hans⟩ : ∃ ans, ans = gcA a0 a1 a2 := ⟨_, rfl⟩
  have hal : total ans ≤ 1048576 := by rw [hans]; exact gcA_total a0 a1 a2
  obtain ⟨q1, hq1⟩ : ∃ q1 : Nat, q1 = mkEnd 1 ans := ⟨_, rfl⟩
  have Q1 : decide ((q1 : Int) < 0) = false := by simp
  have Q2 : ((q1 : Int) != (q1 : Int)) = false := by simp
  have HANS := Lib.hid hans
  have HQ1 := Lib.hid hq1
  clear hans hq1
  obtain ⟨vd0, hvd0⟩ : ∃ vd0 : Int, vd0 = gcC a0 a1 a2 := ⟨_, rfl⟩
  have Q40 : (vd0 != vd0) = false := by simp
  have HVD0 := Lib.hid hvd0
  clear hvd0
  go_enter Try.func11, Try.ntmps11
  go_wp2_with fail
  have H0 := Lib.hid (Below.refl w.heap.size w)
  refine (spec_GreedyCode a0 a1 a2 b0 b1 b2 _ ).mono ?_
  rintro e w1q ⟨rw1q, rfl, hp, hb⟩
  rw [← HANS.out] at hp
  rw [← HVD0.out]
  have H1 := Lib.hid hp.ws
  clear hp
  have H2 := Lib.hid (bchain H0.out hb)
  clear H0
  have SZw1q := Lib.hid hb.size
  have H3 := Lib.hid (Below.refl w1q.heap.size w1q)
  clear hb
  go_wp2_with fail
  refine (impl_GreedyCode a0 a1 a2 b0 b1 b2 _ ).mono ?_
  rintro e w2q ⟨rw2q, rfl, hp, hb⟩
  rw [← HANS.out] at hp
  rw [← HVD0.out]
  have H4 := Lib.hid hp
  clear hp
  have H5 := Lib.hid (bchain H2.out hb)
  clear H2
  have H6 := Lib.hid (bchain H3.out hb)
  clear H3
  have SZw2q := Lib.hid hb.size
  clear hb
  go_wp2_with fail
  refine (eqWordS_any rw2q rw1q ans ans hal hal _ (H4.out.ws) (H1.out.below H6.out)).mono ?_
  rintro e w3q ⟨rfl, m, hw⟩
  have hb : Below w2q.heap.size w2q w3q := by rw [hw]; exact bdrewN (Below.refl _ _) m
  clear hw
  rw [geqB_refl]
  have H7 := Lib.hid (bchain H5.out hb)
  clear H5
  have H8 := Lib.hid (bchain H6.out hb)
  clear H6
  have H9 := Lib.hid (H4.out.below hb)
  have SZw3q := Lib.hid hb.size
  clear hb
  go_wp2_with fail
  refine (markWordS_any rw2q ans hal 1 (by omega) w1q.heap.size w2q.heap.size _ H9.out).mono ?_
  rintro e w4q ⟨rfl, hp, hm⟩
  have hb := hm.below (Nat.le_refl _) (by have := SZw1q.out; have := SZw2q.out; have := SZw3q.out; omega)
  have H10 := Lib.hid (H7.out.trans (hb.mono (by have := SZw1q.out; have := SZw2q.out; have := SZw3q.out; omega)))
  clear H7
  have H11 := Lib.hid (H8.out.trans (hb.mono (by have := SZw1q.out; have := SZw2q.out; have := SZw3q.out; omega)))
  clear H8
  have H12 := Lib.hid hp
  clear H9
  have SZw4q := Lib.hid hb.size
  clear hb hp hm
  rw [← HQ1.out]
  go_wp2_with fail
  refine (heldWordS_any rw2q ans hal 1 (by omega) _ H12.out.ws).mono ?_
  rintro e w' ⟨rfl, rfl⟩
  rw [← HQ1.out]
  go_wp2_with fail
  refine (impl_GreedyCode a0 a1 a2 b0 b1 b2 _ ).mono ?_
  rintro e w5q ⟨rw5q, rfl, hp, hb⟩
  rw [← HANS.out] at hp
  rw [← HVD0.out]
  have H13 := Lib.hid hp
  clear hp
  have H14 := Lib.hid (bchain H10.out hb)
  clear H10
  have H15 := Lib.hid (bchain H11.out hb)
  clear H11
  have H16 := Lib.hid (H12.out.below hb)
  clear H12
  have SZw5q := Lib.hid hb.size
  clear hb
  go_wp2_with fail
  refine (eqWordS_any rw5q rw1q ans ans hal hal _ (H13.out.ws) (H1.out.below H15.out)).mono ?_
  rintro e w6q ⟨rfl, m, hw⟩
  have hb : Below w5q.heap.size w5q w6q := by rw [hw]; exact bdrewN (Below.refl _ _) m
  clear hw
  rw [geqB_refl]
  have H17 := Lib.hid (bchain H14.out hb)
  clear H14
  have H18 := Lib.hid (bchain H15.out hb)
  clear H15
  have H19 := Lib.hid (H16.out.below hb)
  clear H16
  have H20 := Lib.hid (H13.out.below hb)
  have SZw6q := Lib.hid hb.size
  clear hb
  go_wp2_with fail
  refine (heldWordS_any rw2q ans hal 1 (by omega) _ H19.out.ws).mono ?_
  rintro e w' ⟨rfl, rfl⟩
  rw [← HQ1.out]
  go_wp2_with fail
  go_ret
  exact ⟨rfl, H17.out⟩

set_option maxRecDepth 100000 in
theorem lifted (os : Os) (started : os.Started) (H : Type) (enc : TypeId × Value → H) :
    ReturnsInHanded {} Try.checked os 11 .any (Rows.fnExactGreedyCodeSpec.pre6 enc Try.prog Try.f11 Rows.fnExactGreedyCodeRow.domain false) (Rows.fnExactGreedyCodeSpec.post enc Try.prog Try.f11 false true false false) := by
  refine returnsInHanded_of_change (C := Try.checked) own started (by kernel_rfl) Try.func11
    (ChangeSpec.witness6 (enc := enc) (C := Try.checked) false ⟨#[], #[.int .i64 0, .int .i64 0, .int .i64 0], []⟩ 8 (by kernel_rfl) (by kernel_rfl) (by kernel_rfl) (by kernel_rfl)) ?_
  intro W base args ds gs before hval0 hW hcnd _
  have hval : ∀ (j : Nat) t v, Try.f11.params[j]? = some t → args[j]? = some v → Value.okWide Try.prog W .any base t v := hval0
  have hW' := hW
  obtain ⟨p, q, hA0, hV, rfl, hfz, hnd⟩ := hW
  have hA : DataW.TrodAll enc Try.prog W 0 (fun _ => true) true Try.f11.params.toList args.toList ds p := hA0
  rw [Try.params11] at hA hval
  obtain ⟨v0, vs0, d0, ds0, p0, q0, hargs, rfl, rfl, h0, r0⟩ := trodAll_cons hA
  obtain ⟨v1, vs1, d1, ds1, p1, q1, rfl, rfl, rfl, h1, r1⟩ := trodAll_cons r0
  obtain ⟨v2, vs2, d2, ds2, p2, q2, rfl, rfl, rfl, h2, r2⟩ := trodAll_cons r1
  obtain ⟨rfl, rfl, rfl⟩ := trodAll_nil r2
  obtain rfl : args = #[v0, v1, v2] := by cases args; simp_all
  obtain ⟨rfl, rfl⟩ := trodVars_none hV
  obtain ⟨a0, rfl, rfl, rfl, w0⟩ := open_int Try.underlying2 (hval 0 2 v0 rfl rfl) h0
  obtain ⟨a1, rfl, rfl, rfl, w1⟩ := open_int Try.underlying2 (hval 1 2 v1 rfl rfl) h1
  obtain ⟨a2, rfl, rfl, rfl, w2⟩ := open_int Try.underlying2 (hval 2 2 v2 rfl rfl) h2
  clear hA0 hval0
  simp only [List.append_nil] at hW'
  refine (walk W a0 a1 a2 w0 w1 w2).mono fun e W' ⟨he, hg⟩ => ?_
  subst he
  exact ⟨_, rfl, law_post rfl rfl hW' hg (fun _ _ _ => (trodAll_cons_mk (shut_bool Try.underlying4 _) trodAll_mk0)) (fun sp _ => (trodAll_cons_mk (shut_int Try.underlying2 w0) (trodAll_cons_mk (shut_int Try.underlying2 w1) (trodAll_cons_mk (shut_int Try.underlying2 w2) trodAll_mk0)))) (ok_one (by kernel_rfl) rfl (okWide_bool_mk Try.underlying4 _))⟩

theorem over : Rows.fnExactGreedyCodeRow.holds Try.pinned (OpenSpec.ofChange Rows.fnExactGreedyCodeSpec) :=
  OpenClaim.holds_of_wide 11 Try.f11 rfl rfl rfl rfl rfl rfl rfl ⟨rfl, rfl, rfl, rfl, rfl⟩ rfl rfl rfl rfl rfl (by kernel_rfl) Try.func11 (joinedBy 11 Try.f11 Rows.fnExactGreedyCodeSpec Rows.fnExactGreedyCodeRow (by kernel_rfl))
    (of_decide_eq_true (by kernel_rfl)) (by unfold Func.isWrapper; first | (rw [if_pos (by decide +kernel)]; kernel_rfl) | (rw [if_neg (by decide +kernel)]; exact ⟨rfl, rfl⟩))
    (fun os started H enc _ => lifted os started H enc)

/-- the statement -/
theorem proved : Rows.FnExactGreedyCodeSaid :=
  over
end Go.Proofs.Ythhjhfkcgokffaa.fnExactGreedyCode
