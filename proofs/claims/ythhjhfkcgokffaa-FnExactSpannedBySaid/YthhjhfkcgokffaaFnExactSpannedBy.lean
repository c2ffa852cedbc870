/-
  The statement Rows.FnExactSpannedBySaid for every input the law returns true; the walk is ours, the rest is the guide's template at this function's number and types.
  Conditions: none.
-/
import Derived.Test.YthhjhfkcgokffaaRows
import Derived.WalkKit
import Derived.ProofKit
import Derived.OpenShut
import Derived.Test.YthhjhfkcgokffaaHead
import Derived.Test.YthhjhfkcgokffaaOpen










import Derived.Test.YthhjhfkcgokffaaYz
import Derived.Test.YthhjhfkcgokffaaYm
namespace Go.Proofs.Ythhjhfkcgokffaa.fnExactSpannedBy
open Go.ChangeShapes Go.WideShapes Go.ChangeAt Go.RowKit
set_option linter.unusedVariables false
set_option linter.unusedSimpArgs false

theorem own : ownKnob Try.prog.godebug = none := by kernel_rfl

set_option maxRecDepth 100000 in
set_option maxHeartbeats 1000000 in
theorem walk (w : World) (a0 : Int) (a1 : Value) (z1 : List (List Int)) (w0 : (Lit.int .i64 a0).wf = true) (w1 : WL w a1 z1) :
    Calls Try.prog 13 #[.int .i64 a0, a1] w fun e w' => e = .returned (.bool true) ∧ Below w.heap.size w w' := by
  have b0 := bounds_i64 w0
  have HL1 := Lib.hid w1
  clear w1
  by_cases hbig1 : total z1 ≤ 1048576
  case neg =>
    have hz : szV z1 1048576 = .int .i64 (-1) := by unfold szV; rw [if_neg hbig1]
    have HZ := Lib.hid hz
    clear hz
    go_enter Try.func13, Try.ntmps13
    go_wp2_with fail
    refine (szWordS_any a1 z1 1048576 (by omega) _ HL1.out).mono ?_
    rintro e w' ⟨rfl, rfl⟩
    rw [HZ.out]
    go_wp2_with fail
    go_ret
    exact ⟨rfl, Below.refl _ _⟩
  have hz1 : szV z1 1048576 = .int .i64 ((1048576 - total z1 : Nat) : Int) := by unfold szV; rw [if_pos hbig1]
  obtain ⟨y1, hy1⟩ : ∃ y : Nat, y = 1048576 - total z1 := ⟨_, rfl⟩
  rw [← hy1] at hz1
  have hy1b : y1 ≤ 1048576 := by omega
  have TY1 : decide ((y1 : Int) < 0) = false := by simp
  have HZ1 := Lib.hid hz1
  clear hz1 hy1
  have hl1 : z1.length ≤ 1048576 := Nat.le_trans (total_len z1) hbig1
  have HM1 := Lib.hid (fun k (hk : k < z1.length) => Nat.le_trans (total_row z1 k hk) hbig1)
  obtain ⟨ans, hans⟩ : ∃ ans, ans = spA a0 z1 := ⟨_, rfl⟩
  have hal : total ans ≤ 1048576 := by rw [hans]; exact spA_total a0 z1
  obtain ⟨q1, hq1⟩ : ∃ q1 : Nat, q1 = mkEnd 1 ans := ⟨_, rfl⟩
  have Q1 : decide ((q1 : Int) < 0) = false := by simp
  have Q2 : ((q1 : Int) != (q1 : Int)) = false := by simp
  have HANS := Lib.hid hans
  have HQ1 := Lib.hid hq1
  clear hans hq1
  obtain ⟨vd0, hvd0⟩ : ∃ vd0 : Int, vd0 = spC a0 z1 := ⟨_, rfl⟩
  have Q40 : (vd0 != vd0) = false := by simp
  have HVD0 := Lib.hid hvd0
  clear hvd0
  go_enter Try.func13, Try.ntmps13
  go_wp2_with fail
  refine (szWordS_any a1 z1 1048576 (by omega) _ HL1.out).mono ?_
  rintro e w' ⟨rfl, hw⟩
  obtain rfl : w = w' := hw.symm
  rw [HZ1.out]
  go_wp2_with fail
  have H0 := Lib.hid (Below.refl w.heap.size w)
  refine (toWordS_any _ z1 (by omega) _ (HL1.out.1.below H0.out)).mono ?_
  rintro e w1q ⟨uw1q, rfl, hb, ho⟩
  have H1 := Lib.hid ho
  have H2 := Lib.hid (bchain H0.out hb)
  clear H0
  have SZw1q := Lib.hid hb.size
  clear hb ho
  go_wp2_with fail
  refine (spec_SpannedBy a0 uw1q z1 b0 hl1 HM1.out _ H1.out.ws).mono ?_
  rintro e w2q ⟨rw2q, rfl, hp, hb⟩
  rw [← HANS.out] at hp
  rw [← HVD0.out]
  have H3 := Lib.hid hp.ws
  clear hp
  have H4 := Lib.hid (bchain H2.out hb)
  clear H2
  have H5 := Lib.hid (H1.out.below hb)
  have SZw2q := Lib.hid hb.size
  have H6 := Lib.hid (Below.refl w2q.heap.size w2q)
  clear hb
  go_wp2_with fail
  clear H5 H1
  refine (toWordS_any _ z1 (by omega) _ (HL1.out.1.below H4.out)).mono ?_
  rintro e w3q ⟨uw3q, rfl, hb, ho⟩
  have H7 := Lib.hid ho
  have H8 := Lib.hid (bchain H4.out hb)
  clear H4
  have H9 := Lib.hid (bchain H6.out hb)
  clear H6
  have SZw3q := Lib.hid hb.size
  clear hb ho
  go_wp2_with fail
  refine (impl_SpannedBy a0 uw3q z1 b0 hl1 HM1.out _ H7.out.wc).mono ?_
  rintro e w4q ⟨rw4q, rfl, hp, hb⟩
  rw [← HANS.out] at hp
  rw [← HVD0.out]
  have H10 := Lib.hid hp
  clear hp
  have H11 := Lib.hid (bchain H8.out hb)
  clear H8
  have H12 := Lib.hid (bchain H9.out hb)
  clear H9
  have H13 := Lib.hid (H7.out.below hb)
  have SZw4q := Lib.hid hb.size
  clear hb
  go_wp2_with fail
  refine (eqWordS_any rw4q rw2q ans ans hal hal _ (H10.out.ws) (H3.out.below H12.out)).mono ?_
  rintro e w5q ⟨rfl, m, hw⟩
  have hb : Below w4q.heap.size w4q w5q := by rw [hw]; exact bdrewN (Below.refl _ _) m
  clear hw
  rw [geqB_refl]
  have H14 := Lib.hid (bchain H11.out hb)
  clear H11
  have H15 := Lib.hid (bchain H12.out hb)
  clear H12
  have H16 := Lib.hid (H13.out.below hb)
  clear H13
  have H17 := Lib.hid (H10.out.below hb)
  have SZw5q := Lib.hid hb.size
  clear hb
  go_wp2_with fail
  refine (toWordS_any _ z1 (by omega) _ (HL1.out.1.below H14.out)).mono ?_
  rintro e w6q ⟨uw6q, rfl, hb, ho⟩
  have H18 := Lib.hid ho
  have H19 := Lib.hid (bchain H14.out hb)
  clear H14
  have H20 := Lib.hid (bchain H15.out hb)
  clear H15
  have H21 := Lib.hid (H16.out.below hb)
  clear H16
  have H22 := Lib.hid (H17.out.below hb)
  clear H17
  have SZw6q := Lib.hid hb.size
  clear hb ho
  go_wp2_with fail
  refine (eqWordS_any uw3q uw6q z1 z1 (by omega) (by omega) _ (H21.out.ws) (H18.out.ws)).mono ?_
  rintro e w7q ⟨rfl, m, hw⟩
  have hb : Below w6q.heap.size w6q w7q := by rw [hw]; exact bdrewN (Below.refl _ _) m
  clear hw
  rw [geqB_refl]
  have H23 := Lib.hid (bchain H19.out hb)
  clear H19
  have H24 := Lib.hid (bchain H20.out hb)
  clear H20
  have H25 := Lib.hid (H21.out.below hb)
  clear H21
  have H26 := Lib.hid (H22.out.below hb)
  clear H22
  have H27 := Lib.hid (H18.out.below hb)
  have SZw7q := Lib.hid hb.size
  clear hb
  go_wp2_with fail
  clear H27 H18
  obtain ⟨k0, hk0⟩ : ∃ k0 : Nat, k0 = mkEnd 1 z1 := ⟨_, rfl⟩
  have mk0 := mkEnd_le 1 z1
  have hk0b : k0 ≤ 1048577 := by omega
  have K0 : decide ((k0 : Int) < 0) = false := by simp
  have HK0 := Lib.hid hk0
  clear hk0
  refine (markWordS_any uw3q z1 (by omega) 1 (by omega) w2q.heap.size w3q.heap.size _ H25.out).mono ?_
  rintro e w8q ⟨rfl, hp, hm⟩
  have hb := hm.below (Nat.le_refl _) (by have := SZw1q.out; have := SZw2q.out; have := SZw3q.out; have := SZw4q.out; have := SZw5q.out; have := SZw6q.out; have := SZw7q.out; omega)
  have H28 := Lib.hid (H23.out.trans (hb.mono (by have := SZw1q.out; have := SZw2q.out; have := SZw3q.out; have := SZw4q.out; have := SZw5q.out; have := SZw6q.out; have := SZw7q.out; omega)))
  clear H23
  have H29 := Lib.hid (H24.out.trans (hb.mono (by have := SZw1q.out; have := SZw2q.out; have := SZw3q.out; have := SZw4q.out; have := SZw5q.out; have := SZw6q.out; have := SZw7q.out; omega)))
  clear H24
  have H30 := Lib.hid (H26.out.btw_hi hm (by have := SZw1q.out; have := SZw2q.out; have := SZw3q.out; have := SZw4q.out; have := SZw5q.out; have := SZw6q.out; have := SZw7q.out; omega))
  clear H26
  have H31 := Lib.hid hp
  clear H25
  have SZw8q := Lib.hid hb.size
  clear hb hp hm
  rw [← HK0.out]
  go_wp2_with fail
  clear H31 H7
  refine (eqWordS_any rw4q rw2q ans ans hal hal _ (H30.out.ws) (H3.out.below H29.out)).mono ?_
  rintro e w9q ⟨rfl, m, hw⟩
  have hb : Below w8q.heap.size w8q w9q := by rw [hw]; exact bdrewN (Below.refl _ _) m
  clear hw
  rw [geqB_refl]
  have H32 := Lib.hid (bchain H28.out hb)
  clear H28
  have H33 := Lib.hid (bchain H29.out hb)
  clear H29
  have H34 := Lib.hid (H30.out.below hb)
  clear H30
  have SZw9q := Lib.hid hb.size
  clear hb
  go_wp2_with fail
  refine (markWordS_any rw4q ans hal 1 (by omega) w3q.heap.size w4q.heap.size _ H34.out).mono ?_
  rintro e w10q ⟨rfl, hp, hm⟩
  have hb := hm.below (Nat.le_refl _) (by have := SZw1q.out; have := SZw2q.out; have := SZw3q.out; have := SZw4q.out; have := SZw5q.out; have := SZw6q.out; have := SZw7q.out; have := SZw8q.out; have := SZw9q.out; omega)
  have H35 := Lib.hid (H32.out.trans (hb.mono (by have := SZw1q.out; have := SZw2q.out; have := SZw3q.out; have := SZw4q.out; have := SZw5q.out; have := SZw6q.out; have := SZw7q.out; have := SZw8q.out; have := SZw9q.out; omega)))
  clear H32
  have H36 := Lib.hid (H33.out.trans (hb.mono (by have := SZw1q.out; have := SZw2q.out; have := SZw3q.out; have := SZw4q.out; have := SZw5q.out; have := SZw6q.out; have := SZw7q.out; have := SZw8q.out; have := SZw9q.out; omega)))
  clear H33
  have H37 := Lib.hid hp
  clear H34
  have SZw10q := Lib.hid hb.size
  clear hb hp hm
  rw [← HQ1.out]
  go_wp2_with fail
  refine (heldWordS_any rw4q ans hal 1 (by omega) _ H37.out.ws).mono ?_
  rintro e w' ⟨rfl, rfl⟩
  rw [← HQ1.out]
  go_wp2_with fail
  refine (toWordS_any _ z1 (by omega) _ (HL1.out.1.below H35.out)).mono ?_
  rintro e w11q ⟨uw11q, rfl, hb, ho⟩
  have H38 := Lib.hid ho
  have H39 := Lib.hid (bchain H35.out hb)
  clear H35
  have H40 := Lib.hid (bchain H36.out hb)
  clear H36
  have H41 := Lib.hid (H37.out.below hb)
  clear H37
  have SZw11q := Lib.hid hb.size
  clear hb ho
  go_wp2_with fail
  refine (impl_SpannedBy a0 uw11q z1 b0 hl1 HM1.out _ H38.out.wc).mono ?_
  rintro e w12q ⟨rw12q, rfl, hp, hb⟩
  rw [← HANS.out] at hp
  rw [← HVD0.out]
  have H42 := Lib.hid hp
  clear hp
  have H43 := Lib.hid (bchain H39.out hb)
  clear H39
  have H44 := Lib.hid (bchain H40.out hb)
  clear H40
  have H45 := Lib.hid (H41.out.below hb)
  clear H41
  have H46 := Lib.hid (H38.out.below hb)
  have SZw12q := Lib.hid hb.size
  clear hb
  go_wp2_with fail
  clear H46 H38
  refine (eqWordS_any rw12q rw2q ans ans hal hal _ (H42.out.ws) (H3.out.below H44.out)).mono ?_
  rintro e w13q ⟨rfl, m, hw⟩
  have hb : Below w12q.heap.size w12q w13q := by rw [hw]; exact bdrewN (Below.refl _ _) m
  clear hw
  rw [geqB_refl]
  have H47 := Lib.hid (bchain H43.out hb)
  clear H43
  have H48 := Lib.hid (bchain H44.out hb)
  clear H44
  have H49 := Lib.hid (H45.out.below hb)
  clear H45
  have H50 := Lib.hid (H42.out.below hb)
  have SZw13q := Lib.hid hb.size
  clear hb
  go_wp2_with fail
  refine (heldWordS_any rw4q ans hal 1 (by omega) _ H49.out.ws).mono ?_
  rintro e w' ⟨rfl, rfl⟩
  rw [← HQ1.out]
  go_wp2_with fail
  go_ret
  exact ⟨rfl, H47.out⟩

set_option maxRecDepth 100000 in
theorem lifted (os : Os) (started : os.Started) (H : Type) (enc : TypeId × Value → H) :
    ReturnsInHanded {} Try.checked os 13 .any (Rows.fnExactSpannedBySpec.pre6 enc Try.prog Try.f13 Rows.fnExactSpannedByRow.domain false) (Rows.fnExactSpannedBySpec.post enc Try.prog Try.f13 false true false false) := by
  refine returnsInHanded_of_change (C := Try.checked) own started (by kernel_rfl) Try.func13
    (ChangeSpec.witness6 (enc := enc) (C := Try.checked) false ⟨#[], #[.int .i64 0, .slice none 0 0], []⟩ 8 (by kernel_rfl) (by kernel_rfl) (by kernel_rfl) (by kernel_rfl)) ?_
  intro W base args ds gs before hval0 hW hcnd _
  have hval : ∀ (j : Nat) t v, Try.f13.params[j]? = some t → args[j]? = some v → Value.okWide Try.prog W .any base t v := hval0
  have hW' := hW
  obtain ⟨p, q, hA0, hV, rfl, hfz, hnd⟩ := hW
  have hA : DataW.TrodAll enc Try.prog W 0 (fun _ => true) true Try.f13.params.toList args.toList ds p := hA0
  rw [Try.params13] at hA hval
  obtain ⟨v0, vs0, d0, ds0, p0, q0, hargs, rfl, rfl, h0, r0⟩ := trodAll_cons hA
  obtain ⟨v1, vs1, d1, ds1, p1, q1, rfl, rfl, rfl, h1, r1⟩ := trodAll_cons r0
  obtain ⟨rfl, rfl, rfl⟩ := trodAll_nil r1
  obtain rfl : args = #[v0, v1] := by cases args; simp_all
  obtain ⟨rfl, rfl⟩ := trodVars_none hV
  obtain ⟨a0, rfl, rfl, rfl, w0⟩ := open_int Try.underlying2 (hval 0 2 v0 rfl rfl) h0
  obtain ⟨z1, w1, g1⟩ := open_words (P := Try.prog) (by kernel_rfl) (by kernel_rfl) (of_decide_eq_true (by kernel_rfl)) Try.underlying49 Try.underlying22 Try.underlying37 (by kernel_rfl) (by kernel_rfl) (hval 1 49 v1 rfl rfl) h1 (fun x hx => hW'.lt x (by simp [hx]))
  obtain ⟨a1, ha1⟩ : ∃ y, y = v1 := ⟨_, rfl⟩
  subst ha1
  clear hA0 hval0
  simp only [List.append_nil, List.nil_append] at hW'
  refine (walk W a0 a1 z1 w0 w1).mono fun e W' ⟨he, hg⟩ => ?_
  subst he
  exact ⟨_, rfl, law_post rfl rfl hW' hg (fun _ _ _ => (trodAll_cons_mk (shut_bool Try.underlying4 _) trodAll_mk0)) (fun sp hsp => by have t := (trodAll_cons_mk (shut_int Try.underlying2 w0) (trodAll_cons_mk (g1 W' hg sp (fun q hq => hsp q (by simp [hq]))) trodAll_mk0)); simp only [List.append_nil, List.nil_append] at t; exact t) (ok_one (by kernel_rfl) rfl (okWide_bool_mk Try.underlying4 _))⟩

theorem over : Rows.fnExactSpannedByRow.holds Try.pinned (OpenSpec.ofChange Rows.fnExactSpannedBySpec) :=
  OpenClaim.holds_of_wide 13 Try.f13 rfl rfl rfl rfl rfl rfl rfl ⟨rfl, rfl, rfl, rfl, rfl⟩ rfl rfl rfl rfl rfl (by kernel_rfl) Try.func13 (joinedBy 13 Try.f13 Rows.fnExactSpannedBySpec Rows.fnExactSpannedByRow (by kernel_rfl))
    (of_decide_eq_true (by kernel_rfl)) (by unfold Func.isWrapper; first | (rw [if_pos (by decide +kernel)]; kernel_rfl) | (rw [if_neg (by decide +kernel)]; exact ⟨rfl, rfl⟩))
    (fun os started H enc _ => lifted os started H enc)

/-- the statement -/
theorem proved : Rows.FnExactSpannedBySaid :=
  over
end Go.Proofs.Ythhjhfkcgokffaa.fnExactSpannedBy
