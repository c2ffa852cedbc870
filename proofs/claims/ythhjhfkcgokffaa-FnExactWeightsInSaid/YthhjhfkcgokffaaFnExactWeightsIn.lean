/-
  The statement Rows.FnExactWeightsInSaid for every input the law returns true; the walk is ours, the rest is the guide's template at this function's number and types.
  Conditions: none.
-/
import Derived.Test.YthhjhfkcgokffaaRows
import Derived.WalkKit
import Derived.ProofKit
import Derived.OpenShut
import Derived.Test.YthhjhfkcgokffaaHead
import Derived.Test.YthhjhfkcgokffaaOpen










import Derived.Test.YthhjhfkcgokffaaYf
namespace Go.Proofs.Ythhjhfkcgokffaa.fnExactWeightsIn
open Go.ChangeShapes Go.WideShapes Go.ChangeAt Go.RowKit
set_option linter.unusedVariables false
set_option linter.unusedSimpArgs false

theorem own : ownKnob Try.prog.godebug = none := by kernel_rfl

set_option maxRecDepth 100000 in
set_option maxHeartbeats 1000000 in
theorem walk (w : World) (a0 : Int) (a1 : Value) (z1 : List (List Int)) (w0 : (Lit.int .i64 a0).wf = true) (w1 : WL w a1 z1) :
    Calls Try.prog 19 #[.int .i64 a0, a1] w fun e w' => e = .returned (.bool true) ∧ Below w.heap.size w w' := by
  have b0 := bounds_i64 w0
  have HL1 := Lib.hid w1
  clear w1
  by_cases hbig1 : total z1 ≤ 1048576
  case neg =>
    have hz : szV z1 1048576 = .int .i64 (-1) := by unfold szV; rw [if_neg hbig1]
    have HZ := Lib.hid hz
    clear hz
    go_enter Try.func19, Try.ntmps19
    go_wp2_with fail
    refine (szWordS_any a1 z1 1048576 (by omega) _ HL1.out).mono ?_
    rintro e w' ⟨rfl, rfl⟩
    rw [HZ.out]
    go_wp2_with fail
    go_ret
    exact ⟨rfl, Below.refl _ _⟩
  have hz1 : szV z1 1048576 = .int .i64 ((1048576 - total z1 : Nat) : Int) := by unfold szV; rw [if_pos hbig1]
  obtain ⟨y1, hy1⟩ : ∃ y : Nat, y = 1048576 - total z1 := ⟨_, rfl⟩
  rw [← hy1] at hz1
  have hy1b : y1 ≤ 1048576 := by omega
  have TY1 : decide ((y1 : Int) < 0) = false := by simp
  have HZ1 := Lib.hid hz1
  clear hz1 hy1
  have hl1 : z1.length ≤ 1048576 := Nat.le_trans (total_len z1) hbig1
  have HM1 := Lib.hid (fun k (hk : k < z1.length) => Nat.le_trans (total_row z1 k hk) hbig1)
  obtain ⟨vd0, hvd0⟩ : ∃ vd0 : Nat → Int, vd0 = wiV a0 z1 := ⟨_, rfl⟩
  have HVD0 := Lib.hid hvd0
  clear hvd0
  obtain ⟨vd1, hvd1⟩ : ∃ vd1 : Int, vd1 = wiC a0 z1 := ⟨_, rfl⟩
  have Q41 : (vd1 != vd1) = false := by simp
  have HVD1 := Lib.hid hvd1
  clear hvd1
  go_enter Try.func19, Try.ntmps19
  go_wp2_with fail
  refine (szWordS_any a1 z1 1048576 (by omega) _ HL1.out).mono ?_
  rintro e w' ⟨rfl, hw⟩
  obtain rfl : w = w' := hw.symm
  rw [HZ1.out]
  go_wp2_with fail
  have H0 := Lib.hid (Below.refl w.heap.size w)
  refine (toWordS_any _ z1 (by omega) _ (HL1.out.1.below H0.out)).mono ?_
  rintro e w1q ⟨uw1q, rfl, hb, ho⟩
  have H1 := Lib.hid ho
  have H2 := Lib.hid (bchain H0.out hb)
  clear H0
  have SZw1q := Lib.hid hb.size
  clear hb ho
  go_wp2_with fail
  refine (spec_WeightsIn a0 uw1q z1 b0 hl1 HM1.out _ H1.out.ws).mono ?_
  rintro e w2q ⟨rfl, hb⟩
  rw [← HVD0.out]
  rw [← HVD1.out]
  have H3 := Lib.hid (bchain H2.out hb)
  clear H2
  have H4 := Lib.hid (H1.out.below hb)
  have SZw2q := Lib.hid hb.size
  clear hb
  go_wp2_with fail
  obtain ⟨z1, z2, z3⟩ := nw1 w2q (.cells #[.int .i64 (vd0 0), .int .i64 (vd0 1), .int .i64 (vd0 2), .int .i64 (vd0 3), .int .i64 (vd0 4), .int .i64 (vd0 5), .int .i64 (vd0 6), .int .i64 (vd0 7)] 62)
  generalize World.alloc w2q _ = w3q at z1 z2 z3 ⊢
  have HW8 : Hid (B8 w3q w2q.heap.size vd0) := Lib.hid ⟨_, z1⟩
  clear z1 z3
  have H5 := Lib.hid (bchain H3.out z2)
  clear H3
  have H6 := Lib.hid (H4.out.below z2)
  clear H4
  have SZw3q := Lib.hid z2.size
  clear z2
  have H7 := Lib.hid (Below.refl w3q.heap.size w3q)
  clear H6 H1
  refine (toWordS_any _ z1 (by omega) _ (HL1.out.1.below H5.out)).mono ?_
  rintro e w4q ⟨uw4q, rfl, hb, ho⟩
  have H8 := Lib.hid ho
  have H9 := Lib.hid (bchain H5.out hb)
  clear H5
  have H10 := Lib.hid (bchain H7.out hb)
  clear H7
  have SZw4q := Lib.hid hb.size
  clear hb ho
  go_wp2_with fail
  refine (impl_WeightsIn a0 uw4q z1 b0 hl1 HM1.out _ H8.out.wc).mono ?_
  rintro e w5q ⟨rfl, hb⟩
  rw [← HVD0.out]
  rw [← HVD1.out]
  have H11 := Lib.hid (bchain H9.out hb)
  clear H9
  have H12 := Lib.hid (bchain H10.out hb)
  clear H10
  have H13 := Lib.hid (H8.out.below hb)
  have SZw5q := Lib.hid hb.size
  clear hb
  have ra : (World.alloc w5q (.cells #[.int .i64 (vd0 0), .int .i64 (vd0 1), .int .i64 (vd0 2), .int .i64 (vd0 3), .int .i64 (vd0 4), .int .i64 (vd0 5), .int .i64 (vd0 6), .int .i64 (vd0 7)] 62)).rangeAt w5q.heap.size 0 (l8 vd0) := B8.range ⟨_, (nw1 w5q (.cells #[.int .i64 (vd0 0), .int .i64 (vd0 1), .int .i64 (vd0 2), .int .i64 (vd0 3), .int .i64 (vd0 4), .int .i64 (vd0 5), .int .i64 (vd0 6), .int .i64 (vd0 7)] 62)).1⟩
  have rb : (World.alloc w5q (.cells #[.int .i64 (vd0 0), .int .i64 (vd0 1), .int .i64 (vd0 2), .int .i64 (vd0 3), .int .i64 (vd0 4), .int .i64 (vd0 5), .int .i64 (vd0 6), .int .i64 (vd0 7)] 62)).rangeAt w2q.heap.size 0 (l8 vd0) := (HW8.out.below (bchain H12.out (nw1 w5q (.cells #[.int .i64 (vd0 0), .int .i64 (vd0 1), .int .i64 (vd0 2), .int .i64 (vd0 3), .int .i64 (vd0 4), .int .i64 (vd0 5), .int .i64 (vd0 6), .int .i64 (vd0 7)] 62)).2.1)).range
  go_wp2_with (first | (guard_target =~ wpList _ _ _ (⟨_, Op.load 62 _, _, _, _, _⟩ :: _) _ _; refine wpList_load_mid rfl 62 _ rfl w5q.heap.size 0 rfl (l8 vd0) _ ra Try.underlying62 rfl (by kernel_rfl) ?_) | (guard_target =~ wpList _ _ _ (⟨_, Op.load 62 _, _, _, _, _⟩ :: _) _ _; refine wpList_load_mid rfl 62 _ rfl w2q.heap.size 0 rfl (l8 vd0) _ rb Try.underlying62 rfl (by kernel_rfl) ?_))
  clear ra rb
  obtain ⟨z1, z2, z3⟩ := nw1 w5q (.cells #[.int .i64 (vd0 0), .int .i64 (vd0 1), .int .i64 (vd0 2), .int .i64 (vd0 3), .int .i64 (vd0 4), .int .i64 (vd0 5), .int .i64 (vd0 6), .int .i64 (vd0 7)] 62)
  generalize World.alloc w5q _ = w6q at z1 z2 z3 ⊢
  clear z1 z3
  have H14 := Lib.hid (bchain H11.out z2)
  clear H11
  have H15 := Lib.hid (bchain H12.out z2)
  clear H12
  have H16 := Lib.hid (H13.out.below z2)
  clear H13
  have SZw6q := Lib.hid z2.size
  clear z2
  refine (eqA8_refl vd0 _).mono ?_
  rintro e w7q ⟨rfl, hb⟩
  have H17 := Lib.hid (bchain H14.out hb)
  clear H14
  have H18 := Lib.hid (bchain H15.out hb)
  clear H15
  have H19 := Lib.hid (H16.out.below hb)
  clear H16
  have SZw7q := Lib.hid hb.size
  clear hb
  go_wp2_with fail
  refine (toWordS_any _ z1 (by omega) _ (HL1.out.1.below H17.out)).mono ?_
  rintro e w8q ⟨uw8q, rfl, hb, ho⟩
  have H20 := Lib.hid ho
  have H21 := Lib.hid (bchain H17.out hb)
  clear H17
  have H22 := Lib.hid (bchain H18.out hb)
  clear H18
  have H23 := Lib.hid (H19.out.below hb)
  clear H19
  have SZw8q := Lib.hid hb.size
  clear hb ho
  go_wp2_with fail
  refine (eqWordS_any uw4q uw8q z1 z1 (by omega) (by omega) _ (H23.out.ws) (H20.out.ws)).mono ?_
  rintro e w9q ⟨rfl, m, hw⟩
  have hb : Below w8q.heap.size w8q w9q := by rw [hw]; exact bdrewN (Below.refl _ _) m
  clear hw
  rw [geqB_refl]
  have H24 := Lib.hid (bchain H21.out hb)
  clear H21
  have H25 := Lib.hid (bchain H22.out hb)
  clear H22
  have H26 := Lib.hid (H23.out.below hb)
  clear H23
  have H27 := Lib.hid (H20.out.below hb)
  have SZw9q := Lib.hid hb.size
  clear hb
  go_wp2_with fail
  clear H27 H20
  go_ret
  exact ⟨rfl, H24.out⟩

set_option maxRecDepth 100000 in
theorem lifted (os : Os) (started : os.Started) (H : Type) (enc : TypeId × Value → H) :
    ReturnsInHanded {} Try.checked os 19 .any (Rows.fnExactWeightsInSpec.pre6 enc Try.prog Try.f19 Rows.fnExactWeightsInRow.domain false) (Rows.fnExactWeightsInSpec.post enc Try.prog Try.f19 false true false false) := by
  refine returnsInHanded_of_change (C := Try.checked) own started (by kernel_rfl) Try.func19
    (ChangeSpec.witness6 (enc := enc) (C := Try.checked) false ⟨#[], #[.int .i64 0, .slice none 0 0], []⟩ 8 (by kernel_rfl) (by kernel_rfl) (by kernel_rfl) (by kernel_rfl)) ?_
  intro W base args ds gs before hval0 hW hcnd _
  have hval : ∀ (j : Nat) t v, Try.f19.params[j]? = some t → args[j]? = some v → Value.okWide Try.prog W .any base t v := hval0
  have hW' := hW
  obtain ⟨p, q, hA0, hV, rfl, hfz, hnd⟩ := hW
  have hA : DataW.TrodAll enc Try.prog W 0 (fun _ => true) true Try.f19.params.toList args.toList ds p := hA0
  rw [Try.params19] at hA hval
  obtain ⟨v0, vs0, d0, ds0, p0, q0, hargs, rfl, rfl, h0, r0⟩ := trodAll_cons hA
  obtain ⟨v1, vs1, d1, ds1, p1, q1, rfl, rfl, rfl, h1, r1⟩ := trodAll_cons r0
  obtain ⟨rfl, rfl, rfl⟩ := trodAll_nil r1
  obtain rfl : args = #[v0, v1] := by cases args; simp_all
  obtain ⟨rfl, rfl⟩ := trodVars_none hV
  obtain ⟨a0, rfl, rfl, rfl, w0⟩ := open_int Try.underlying2 (hval 0 2 v0 rfl rfl) h0
  obtain ⟨z1, w1, g1⟩ := open_words (P := Try.prog) (by kernel_rfl) (by kernel_rfl) (of_decide_eq_true (by kernel_rfl)) Try.underlying49 Try.underlying22 Try.underlying37 (by kernel_rfl) (by kernel_rfl) (hval 1 49 v1 rfl rfl) h1 (fun x hx => hW'.lt x (by simp [hx]))
  obtain ⟨a1, ha1⟩ : ∃ y, y = v1 := ⟨_, rfl⟩
  subst ha1
  clear hA0 hval0
  simp only [List.append_nil, List.nil_append] at hW'
  refine (walk W a0 a1 z1 w0 w1).mono fun e W' ⟨he, hg⟩ => ?_
  subst he
  exact ⟨_, rfl, law_post rfl rfl hW' hg (fun _ _ _ => (trodAll_cons_mk (shut_bool Try.underlying4 _) trodAll_mk0)) (fun sp hsp => by have t := (trodAll_cons_mk (shut_int Try.underlying2 w0) (trodAll_cons_mk (g1 W' hg sp (fun q hq => hsp q (by simp [hq]))) trodAll_mk0)); simp only [List.append_nil, List.nil_append] at t; exact t) (ok_one (by kernel_rfl) rfl (okWide_bool_mk Try.underlying4 _))⟩

theorem over : Rows.fnExactWeightsInRow.holds Try.pinned (OpenSpec.ofChange Rows.fnExactWeightsInSpec) :=
  OpenClaim.holds_of_wide 19 Try.f19 rfl rfl rfl rfl rfl rfl rfl ⟨rfl, rfl, rfl, rfl, rfl⟩ rfl rfl rfl rfl rfl (by kernel_rfl) Try.func19 (joinedBy 19 Try.f19 Rows.fnExactWeightsInSpec Rows.fnExactWeightsInRow (by kernel_rfl))
    (of_decide_eq_true (by kernel_rfl)) (by unfold Func.isWrapper; first | (rw [if_pos (by decide +kernel)]; kernel_rfl) | (rw [if_neg (by decide +kernel)]; exact ⟨rfl, rfl⟩))
    (fun os started H enc _ => lifted os started H enc)

/-- the statement -/
theorem proved : Rows.FnExactWeightsInSaid :=
  over
end Go.Proofs.Ythhjhfkcgokffaa.fnExactWeightsIn
