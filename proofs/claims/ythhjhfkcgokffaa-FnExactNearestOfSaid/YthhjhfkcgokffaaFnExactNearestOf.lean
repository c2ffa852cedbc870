/-
  The statement Rows.FnExactNearestOfSaid for every input the law returns true; the walk is ours, the rest is the guide's template at this function's number and types.
  Conditions: none.
-/
import Derived.Test.YthhjhfkcgokffaaRows
import Derived.WalkKit
import Derived.ProofKit
import Derived.OpenShut
import Derived.Test.YthhjhfkcgokffaaHead
import Derived.Test.YthhjhfkcgokffaaOpen










import Derived.Test.YthhjhfkcgokffaaYe
namespace Go.Proofs.Ythhjhfkcgokffaa.fnExactNearestOf
open Go.ChangeShapes Go.WideShapes Go.ChangeAt Go.RowKit
set_option linter.unusedVariables false
set_option linter.unusedSimpArgs false

theorem own : ownKnob Try.prog.godebug = none := by kernel_rfl

set_option maxRecDepth 100000 in
set_option maxHeartbeats 1000000 in
theorem walk (w : World) (a0 : Int) (a1 : Value) (z1 : List (List Int)) (a2 : Value) (z2 : List Int) (w0 : (Lit.int .i64 a0).wf = true) (w1 : WL w a1 z1) (w2 : KS .u16 w a2 z2) :
    Calls Try.prog 17 #[.int .i64 a0, a1, a2] w fun e w' => e = .returned (.bool true) ∧ Below w.heap.size w w' := by
  have b0 := bounds_i64 w0
  have HL1 := Lib.hid w1
  clear w1
  by_cases hbig2 : 1048576 < z2.length
  · obtain ⟨A, c, rfl, hm, hw, hc⟩ := w2
    have t2 : decide ((1048576 : Int) < (z2.length : Int)) = true := by simp; omega
    clear hc hw
    go_enter Try.func17, Try.ntmps17
    go_wp2_with fail
    go_ret
    exact ⟨rfl, Below.refl _ _⟩
  have hn2 : z2.length ≤ 1048576 := by omega
  have hs2 := ns_of_ks w2
  obtain ⟨A2, c2, rfl, hm2, hw2, hc2⟩ := w2
  have t2 : decide ((1048576 : Int) < (z2.length : Int)) = false := by simp; omega
  clear hc2 hw2 hbig2
  have HA2 := Lib.hid hs2.all
  have HS2 := Lib.hid hs2
  clear hs2
  by_cases hbig1 : total z1 ≤ 1048576
  case neg =>
    have hz : szV z1 1048576 = .int .i64 (-1) := by unfold szV; rw [if_neg hbig1]
    have HZ := Lib.hid hz
    clear hz
    go_enter Try.func17, Try.ntmps17
    go_wp2_with fail
    refine (szWordS_any a1 z1 1048576 (by omega) _ HL1.out).mono ?_
    rintro e w' ⟨rfl, rfl⟩
    rw [HZ.out]
    go_wp2_with fail
    go_ret
    exact ⟨rfl, Below.refl _ _⟩
  have hz1 : szV z1 1048576 = .int .i64 ((1048576 - total z1 : Nat) : Int) := by unfold szV; rw [if_pos hbig1]
  obtain ⟨y1, hy1⟩ : ∃ y : Nat, y = 1048576 - total z1 := ⟨_, rfl⟩
  rw [← hy1] at hz1
  have hy1b : y1 ≤ 1048576 := by omega
  have TY1 : decide ((y1 : Int) < 0) = false := by simp
  have HZ1 := Lib.hid hz1
  clear hz1 hy1
  have hl1 : z1.length ≤ 1048576 := Nat.le_trans (total_len z1) hbig1
  have HM1 := Lib.hid (fun k (hk : k < z1.length) => Nat.le_trans (total_row z1 k hk) hbig1)
  obtain ⟨vd0, hvd0⟩ : ∃ vd0 : Int, vd0 = neI a0 z1 z2 := ⟨_, rfl⟩
  have Q40 : (vd0 != vd0) = false := by simp
  have HVD0 := Lib.hid hvd0
  clear hvd0
  obtain ⟨vd1, hvd1⟩ : ∃ vd1 : Int, vd1 = neV a0 z1 z2 := ⟨_, rfl⟩
  have Q41 : (vd1 != vd1) = false := by simp
  have HVD1 := Lib.hid hvd1
  clear hvd1
  obtain ⟨vd2, hvd2⟩ : ∃ vd2 : Int, vd2 = neC a0 z1 z2 := ⟨_, rfl⟩
  have Q42 : (vd2 != vd2) = false := by simp
  have HVD2 := Lib.hid hvd2
  clear hvd2
  go_enter Try.func17, Try.ntmps17
  go_wp2_with fail
  refine (szWordS_any a1 z1 1048576 (by omega) _ HL1.out).mono ?_
  rintro e w' ⟨rfl, hw⟩
  obtain rfl : w = w' := hw.symm
  rw [HZ1.out]
  go_wp2_with fail
  have H0 := Lib.hid (Below.refl w.heap.size w)
  refine (toWordS_any _ z1 (by omega) _ (HL1.out.1.below H0.out)).mono ?_
  rintro e w1q ⟨uw1q, rfl, hb, ho⟩
  have H1 := Lib.hid ho
  have H2 := Lib.hid (bchain H0.out hb)
  clear H0
  have SZw1q := Lib.hid hb.size
  clear hb ho
  go_wp2_with fail
  refine (toWord_any _ z2 hn2 _ (HS2.out.below H2.out)).mono ?_
  rintro e w2q ⟨uw2q, rfl, hb, ho⟩
  have H3 := Lib.hid (PO.of_own ho rfl HA2.out)
  have H4 := Lib.hid (bchain H2.out hb)
  clear H2
  have H5 := Lib.hid (H1.out.below hb)
  have SZw2q := Lib.hid hb.size
  clear hb ho
  go_wp2_with fail
  refine (spec_NearestOf a0 uw1q z1 uw2q z2 b0 hl1 HM1.out hn2 _ H5.out.ws H3.out.ns).mono ?_
  rintro e w3q ⟨rfl, hb⟩
  rw [← HVD0.out]
  rw [← HVD1.out]
  rw [← HVD2.out]
  have H6 := Lib.hid (bchain H4.out hb)
  clear H4
  have H7 := Lib.hid (H5.out.below hb)
  clear H5
  have H8 := Lib.hid (H3.out.below hb)
  have SZw3q := Lib.hid hb.size
  clear hb
  go_wp2_with fail
  clear H7 H1
  clear H8 H3
  refine (toWordS_any _ z1 (by omega) _ (HL1.out.1.below H6.out)).mono ?_
  rintro e w4q ⟨uw4q, rfl, hb, ho⟩
  have H9 := Lib.hid ho
  have H10 := Lib.hid (bchain H6.out hb)
  clear H6
  have SZw4q := Lib.hid hb.size
  clear hb ho
  go_wp2_with fail
  refine (toWord_any _ z2 hn2 _ (HS2.out.below H10.out)).mono ?_
  rintro e w5q ⟨uw5q, rfl, hb, ho⟩
  have H11 := Lib.hid (PO.of_own ho rfl HA2.out)
  have H12 := Lib.hid (bchain H10.out hb)
  clear H10
  have H13 := Lib.hid (H9.out.below hb)
  have SZw5q := Lib.hid hb.size
  clear hb ho
  go_wp2_with fail
  refine (impl_NearestOf a0 uw4q z1 uw5q z2 b0 hl1 HM1.out hn2 _ H13.out.wc H11.out.ns).mono ?_
  rintro e w6q ⟨rfl, hb⟩
  rw [← HVD0.out]
  rw [← HVD1.out]
  rw [← HVD2.out]
  have H14 := Lib.hid (bchain H12.out hb)
  clear H12
  have H15 := Lib.hid (H13.out.below hb)
  clear H13
  have H16 := Lib.hid (H11.out.below hb)
  have SZw6q := Lib.hid hb.size
  clear hb
  go_wp2_with fail
  refine (toWordS_any _ z1 (by omega) _ (HL1.out.1.below H14.out)).mono ?_
  rintro e w7q ⟨uw7q, rfl, hb, ho⟩
  have H17 := Lib.hid ho
  have H18 := Lib.hid (bchain H14.out hb)
  clear H14
  have H19 := Lib.hid (H15.out.below hb)
  clear H15
  have H20 := Lib.hid (H16.out.below hb)
  clear H16
  have SZw7q := Lib.hid hb.size
  clear hb ho
  go_wp2_with fail
  refine (eqWordS_any uw4q uw7q z1 z1 (by omega) (by omega) _ (H19.out.ws) (H17.out.ws)).mono ?_
  rintro e w8q ⟨rfl, m, hw⟩
  have hb : Below w7q.heap.size w7q w8q := by rw [hw]; exact bdrewN (Below.refl _ _) m
  clear hw
  rw [geqB_refl]
  have H21 := Lib.hid (bchain H18.out hb)
  clear H18
  have H22 := Lib.hid (H19.out.below hb)
  clear H19
  have H23 := Lib.hid (H20.out.below hb)
  clear H20
  have H24 := Lib.hid (H17.out.below hb)
  have SZw8q := Lib.hid hb.size
  clear hb
  go_wp2_with fail
  clear H24 H17
  refine (toWord_any _ z2 hn2 _ (HS2.out.below H21.out)).mono ?_
  rintro e w9q ⟨uw9q, rfl, hb, ho⟩
  have H25 := Lib.hid (PO.of_own ho rfl HA2.out)
  have H26 := Lib.hid (bchain H21.out hb)
  clear H21
  have H27 := Lib.hid (H22.out.below hb)
  clear H22
  have H28 := Lib.hid (H23.out.below hb)
  clear H23
  have SZw9q := Lib.hid hb.size
  clear hb ho
  go_wp2_with fail
  refine (eqWord_any uw5q uw9q z2 z2 hn2 hn2 _ (H28.out.ns) (H25.out.ns)).mono ?_
  rintro e w10q ⟨rfl, m, hw⟩
  have hb : Below w9q.heap.size w9q w10q := by rw [hw]; exact bdrewN (Below.refl _ _) m
  clear hw
  rw [eqB_refl]
  have H29 := Lib.hid (bchain H26.out hb)
  clear H26
  have H30 := Lib.hid (H27.out.below hb)
  clear H27
  have H31 := Lib.hid (H28.out.below hb)
  clear H28
  have H32 := Lib.hid (H25.out.below hb)
  have SZw10q := Lib.hid hb.size
  clear hb
  go_wp2_with fail
  clear H32 H25
  go_ret
  exact ⟨rfl, H29.out⟩

set_option maxRecDepth 100000 in
theorem lifted (os : Os) (started : os.Started) (H : Type) (enc : TypeId × Value → H) :
    ReturnsInHanded {} Try.checked os 17 .any (Rows.fnExactNearestOfSpec.pre6 enc Try.prog Try.f17 Rows.fnExactNearestOfRow.domain false) (Rows.fnExactNearestOfSpec.post enc Try.prog Try.f17 false true false false) := by
  refine returnsInHanded_of_change (C := Try.checked) own started (by kernel_rfl) Try.func17
    (ChangeSpec.witness6 (enc := enc) (C := Try.checked) false ⟨#[], #[.int .i64 0, .slice none 0 0, .slice none 0 0], []⟩ 8 (by kernel_rfl) (by kernel_rfl) (by kernel_rfl) (by kernel_rfl)) ?_
  intro W base args ds gs before hval0 hW hcnd _
  have hval : ∀ (j : Nat) t v, Try.f17.params[j]? = some t → args[j]? = some v → Value.okWide Try.prog W .any base t v := hval0
  have hW' := hW
  obtain ⟨p, q, hA0, hV, rfl, hfz, hnd⟩ := hW
  have hA : DataW.TrodAll enc Try.prog W 0 (fun _ => true) true Try.f17.params.toList args.toList ds p := hA0
  rw [Try.params17] at hA hval
  obtain ⟨v0, vs0, d0, ds0, p0, q0, hargs, rfl, rfl, h0, r0⟩ := trodAll_cons hA
  obtain ⟨v1, vs1, d1, ds1, p1, q1, rfl, rfl, rfl, h1, r1⟩ := trodAll_cons r0
  obtain ⟨v2, vs2, d2, ds2, p2, q2, rfl, rfl, rfl, h2, r2⟩ := trodAll_cons r1
  obtain ⟨rfl, rfl, rfl⟩ := trodAll_nil r2
  obtain rfl : args = #[v0, v1, v2] := by cases args; simp_all
  obtain ⟨rfl, rfl⟩ := trodVars_none hV
  obtain ⟨a0, rfl, rfl, rfl, w0⟩ := open_int Try.underlying2 (hval 0 2 v0 rfl rfl) h0
  obtain ⟨z1, w1, g1⟩ := open_words (P := Try.prog) (by kernel_rfl) (by kernel_rfl) (of_decide_eq_true (by kernel_rfl)) Try.underlying49 Try.underlying22 Try.underlying37 (by kernel_rfl) (by kernel_rfl) (hval 1 49 v1 rfl rfl) h1 (fun x hx => hW'.lt x (by simp [hx]))
  obtain ⟨a1, ha1⟩ : ∃ y, y = v1 := ⟨_, rfl⟩
  subst ha1
  obtain ⟨z2, w2, g2⟩ := open_row Try.underlying22 Try.underlying37 (by kernel_rfl) (hval 2 22 v2 rfl rfl) h2
  obtain ⟨a2, ha2⟩ : ∃ y, y = v2 := ⟨_, rfl⟩
  subst ha2
  clear hA0 hval0
  simp only [List.append_nil, List.nil_append] at hW'
  refine (walk W a0 a1 z1 a2 z2 w0 w1 w2).mono fun e W' ⟨he, hg⟩ => ?_
  subst he
  exact ⟨_, rfl, law_post rfl rfl hW' hg (fun _ _ _ => (trodAll_cons_mk (shut_bool Try.underlying4 _) trodAll_mk0)) (fun sp hsp => by have t := (trodAll_cons_mk (shut_int Try.underlying2 w0) (trodAll_cons_mk (g1 W' hg sp (fun q hq => hsp q (by simp [hq]))) (trodAll_cons_mk (g2 W' hg sp (fun q hq => hsp q (by simp [hq]))) trodAll_mk0))); simp only [List.append_nil, List.nil_append] at t; exact t) (ok_one (by kernel_rfl) rfl (okWide_bool_mk Try.underlying4 _))⟩

theorem over : Rows.fnExactNearestOfRow.holds Try.pinned (OpenSpec.ofChange Rows.fnExactNearestOfSpec) :=
  OpenClaim.holds_of_wide 17 Try.f17 rfl rfl rfl rfl rfl rfl rfl ⟨rfl, rfl, rfl, rfl, rfl⟩ rfl rfl rfl rfl rfl (by kernel_rfl) Try.func17 (joinedBy 17 Try.f17 Rows.fnExactNearestOfSpec Rows.fnExactNearestOfRow (by kernel_rfl))
    (of_decide_eq_true (by kernel_rfl)) (by unfold Func.isWrapper; first | (rw [if_pos (by decide +kernel)]; kernel_rfl) | (rw [if_neg (by decide +kernel)]; exact ⟨rfl, rfl⟩))
    (fun os started H enc _ => lifted os started H enc)

/-- the statement -/
theorem proved : Rows.FnExactNearestOfSaid :=
  over
end Go.Proofs.Ythhjhfkcgokffaa.fnExactNearestOf
