/-
  The statement Rows.FnExactClosedUnderProductsSaid for every input the law returns true; the walk is ours, the rest is the guide's template at this function's number and types.
  Conditions: none.
-/
import Derived.Test.YthhjhfkcgokffaaRows
import Derived.WalkKit
import Derived.ProofKit
import Derived.OpenShut
import Derived.Test.YthhjhfkcgokffaaHead
import Derived.Test.YthhjhfkcgokffaaOpen










import Derived.Test.YthhjhfkcgokffaaYs
namespace Go.Proofs.Ythhjhfkcgokffaa.fnExactClosedUnderProducts
open Go.ChangeShapes Go.WideShapes Go.ChangeAt Go.RowKit
set_option linter.unusedVariables false
set_option linter.unusedSimpArgs false

theorem own : ownKnob Try.prog.godebug = none := by kernel_rfl

set_option maxRecDepth 100000 in
set_option maxHeartbeats 1000000 in
theorem walk (w : World) (a0 : Int) (a1 : Value) (z1 : List (List Int)) (w0 : (Lit.int .i64 a0).wf = true) (w1 : WL w a1 z1) :
    Calls Try.prog 15 #[.int .i64 a0, a1] w fun e w' => e = .returned (.bool true) ∧ Below w.heap.size w w' := by
  have b0 := bounds_i64 w0
  have HL1 := Lib.hid w1
  clear w1
  by_cases hbig1 : total z1 ≤ 1048576
  case neg =>
    have hz : szV z1 1048576 = .int .i64 (-1) := by unfold szV; rw [if_neg hbig1]
    have HZ := Lib.hid hz
    clear hz
    go_enter Try.func15, Try.ntmps15
    go_wp2_with fail
    refine (szWordS_any a1 z1 1048576 (by omega) _ HL1.out).mono ?_
    rintro e w' ⟨rfl, rfl⟩
    rw [HZ.out]
    go_wp2_with fail
    go_ret
    exact ⟨rfl, Below.refl _ _⟩
  have hz1 : szV z1 1048576 = .int .i64 ((1048576 - total z1 : Nat) : Int) := by unfold szV; rw [if_pos hbig1]
  obtain ⟨y1, hy1⟩ : ∃ y : Nat, y = 1048576 - total z1 := ⟨_, rfl⟩
  rw [← hy1] at hz1
  have hy1b : y1 ≤ 1048576 := by omega
  have TY1 : decide ((y1 : Int) < 0) = false := by simp
  have HZ1 := Lib.hid hz1
  clear hz1 hy1
  have hl1 : z1.length ≤ 1048576 := Nat.le_trans (total_len z1) hbig1
  have HM1 := Lib.hid (fun k (hk : k < z1.length) => Nat.le_trans (total_row z1 k hk) hbig1)
  obtain ⟨vd0, hvd0⟩ : ∃ vd0 : Bool, vd0 = cpV a0 z1 := ⟨_, rfl⟩
  have Q40 : (vd0 != vd0) = false := by simp
  have HVD0 := Lib.hid hvd0
  clear hvd0
  obtain ⟨vd1, hvd1⟩ : ∃ vd1 : Int, vd1 = lsC a0 z1 [] := ⟨_, rfl⟩
  have Q41 : (vd1 != vd1) = false := by simp
  have HVD1 := Lib.hid hvd1
  clear hvd1
  go_enter Try.func15, Try.ntmps15
  go_wp2_with fail
  refine (szWordS_any a1 z1 1048576 (by omega) _ HL1.out).mono ?_
  rintro e w' ⟨rfl, hw⟩
  obtain rfl : w = w' := hw.symm
  rw [HZ1.out]
  go_wp2_with fail
  have H0 := Lib.hid (Below.refl w.heap.size w)
  refine (toWordS_any _ z1 (by omega) _ (HL1.out.1.below H0.out)).mono ?_
  rintro e w1q ⟨uw1q, rfl, hb, ho⟩
  have H1 := Lib.hid ho
  have H2 := Lib.hid (bchain H0.out hb)
  clear H0
  have SZw1q := Lib.hid hb.size
  clear hb ho
  go_wp2_with fail
  refine (spec_ClosedUnderProducts a0 uw1q z1 b0 hl1 HM1.out _ H1.out.ws).mono ?_
  rintro e w2q ⟨rfl, hb⟩
  rw [← HVD0.out]
  rw [← HVD1.out]
  have H3 := Lib.hid (bchain H2.out hb)
  clear H2
  have H4 := Lib.hid (H1.out.below hb)
  have SZw2q := Lib.hid hb.size
  clear hb
  go_wp2_with fail
  clear H4 H1
  refine (toWordS_any _ z1 (by omega) _ (HL1.out.1.below H3.out)).mono ?_
  rintro e w3q ⟨uw3q, rfl, hb, ho⟩
  have H5 := Lib.hid ho
  have H6 := Lib.hid (bchain H3.out hb)
  clear H3
  have SZw3q := Lib.hid hb.size
  clear hb ho
  go_wp2_with fail
  refine (impl_ClosedUnderProducts a0 uw3q z1 b0 hl1 HM1.out _ H5.out.wc).mono ?_
  rintro e w4q ⟨rfl, hb⟩
  rw [← HVD0.out]
  rw [← HVD1.out]
  have H7 := Lib.hid (bchain H6.out hb)
  clear H6
  have H8 := Lib.hid (H5.out.below hb)
  have SZw4q := Lib.hid hb.size
  clear hb
  go_wp2_with fail
  refine (toWordS_any _ z1 (by omega) _ (HL1.out.1.below H7.out)).mono ?_
  rintro e w5q ⟨uw5q, rfl, hb, ho⟩
  have H9 := Lib.hid ho
  have H10 := Lib.hid (bchain H7.out hb)
  clear H7
  have H11 := Lib.hid (H8.out.below hb)
  clear H8
  have SZw5q := Lib.hid hb.size
  clear hb ho
  go_wp2_with fail
  refine (eqWordS_any uw3q uw5q z1 z1 (by omega) (by omega) _ (H11.out.ws) (H9.out.ws)).mono ?_
  rintro e w6q ⟨rfl, m, hw⟩
  have hb : Below w5q.heap.size w5q w6q := by rw [hw]; exact bdrewN (Below.refl _ _) m
  clear hw
  rw [geqB_refl]
  have H12 := Lib.hid (bchain H10.out hb)
  clear H10
  have H13 := Lib.hid (H11.out.below hb)
  clear H11
  have H14 := Lib.hid (H9.out.below hb)
  have SZw6q := Lib.hid hb.size
  clear hb
  go_wp2_with fail
  clear H14 H9
  go_ret
  exact ⟨rfl, H12.out⟩

set_option maxRecDepth 100000 in
theorem lifted (os : Os) (started : os.Started) (H : Type) (enc : TypeId × Value → H) :
    ReturnsInHanded {} Try.checked os 15 .any (Rows.fnExactClosedUnderProductsSpec.pre6 enc Try.prog Try.f15 Rows.fnExactClosedUnderProductsRow.domain false) (Rows.fnExactClosedUnderProductsSpec.post enc Try.prog Try.f15 false true false false) := by
  refine returnsInHanded_of_change (C := Try.checked) own started (by kernel_rfl) Try.func15
    (ChangeSpec.witness6 (enc := enc) (C := Try.checked) false ⟨#[], #[.int .i64 0, .slice none 0 0], []⟩ 8 (by kernel_rfl) (by kernel_rfl) (by kernel_rfl) (by kernel_rfl)) ?_
  intro W base args ds gs before hval0 hW hcnd _
  have hval : ∀ (j : Nat) t v, Try.f15.params[j]? = some t → args[j]? = some v → Value.okWide Try.prog W .any base t v := hval0
  have hW' := hW
  obtain ⟨p, q, hA0, hV, rfl, hfz, hnd⟩ := hW
  have hA : DataW.TrodAll enc Try.prog W 0 (fun _ => true) true Try.f15.params.toList args.toList ds p := hA0
  rw [Try.params15] at hA hval
  obtain ⟨v0, vs0, d0, ds0, p0, q0, hargs, rfl, rfl, h0, r0⟩ := trodAll_cons hA
  obtain ⟨v1, vs1, d1, ds1, p1, q1, rfl, rfl, rfl, h1, r1⟩ := trodAll_cons r0
  obtain ⟨rfl, rfl, rfl⟩ := trodAll_nil r1
  obtain rfl : args = #[v0, v1] := by cases args; simp_all
  obtain ⟨rfl, rfl⟩ := trodVars_none hV
  obtain ⟨a0, rfl, rfl, rfl, w0⟩ := open_int Try.underlying2 (hval 0 2 v0 rfl rfl) h0
  obtain ⟨z1, w1, g1⟩ := open_words (P := Try.prog) (by kernel_rfl) (by kernel_rfl) (of_decide_eq_true (by kernel_rfl)) Try.underlying49 Try.underlying22 Try.underlying37 (by kernel_rfl) (by kernel_rfl) (hval 1 49 v1 rfl rfl) h1 (fun x hx => hW'.lt x (by simp [hx]))
  obtain ⟨a1, ha1⟩ : ∃ y, y = v1 := ⟨_, rfl⟩
  subst ha1
  clear hA0 hval0
  simp only [List.append_nil, List.nil_append] at hW'
  refine (walk W a0 a1 z1 w0 w1).mono fun e W' ⟨he, hg⟩ => ?_
  subst he
  exact ⟨_, rfl, law_post rfl rfl hW' hg (fun _ _ _ => (trodAll_cons_mk (shut_bool Try.underlying4 _) trodAll_mk0)) (fun sp hsp => by have t := (trodAll_cons_mk (shut_int Try.underlying2 w0) (trodAll_cons_mk (g1 W' hg sp (fun q hq => hsp q (by simp [hq]))) trodAll_mk0)); simp only [List.append_nil, List.nil_append] at t; exact t) (ok_one (by kernel_rfl) rfl (okWide_bool_mk Try.underlying4 _))⟩

theorem over : Rows.fnExactClosedUnderProductsRow.holds Try.pinned (OpenSpec.ofChange Rows.fnExactClosedUnderProductsSpec) :=
  OpenClaim.holds_of_wide 15 Try.f15 rfl rfl rfl rfl rfl rfl rfl ⟨rfl, rfl, rfl, rfl, rfl⟩ rfl rfl rfl rfl rfl (by kernel_rfl) Try.func15 (joinedBy 15 Try.f15 Rows.fnExactClosedUnderProductsSpec Rows.fnExactClosedUnderProductsRow (by kernel_rfl))
    (of_decide_eq_true (by kernel_rfl)) (by unfold Func.isWrapper; first | (rw [if_pos (by decide +kernel)]; kernel_rfl) | (rw [if_neg (by decide +kernel)]; exact ⟨rfl, rfl⟩))
    (fun os started H enc _ => lifted os started H enc)

/-- the statement -/
theorem proved : Rows.FnExactClosedUnderProductsSaid :=
  over
end Go.Proofs.Ythhjhfkcgokffaa.fnExactClosedUnderProducts
