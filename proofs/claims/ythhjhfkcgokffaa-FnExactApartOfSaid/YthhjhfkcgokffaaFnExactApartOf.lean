/-
  The statement Rows.FnExactApartOfSaid for every input the law returns true; the walk is ours, the rest is the guide's template at this function's number and types.
  Conditions: none.
-/
import Derived.Test.YthhjhfkcgokffaaRows
import Derived.WalkKit
import Derived.ProofKit
import Derived.OpenShut
import Derived.Test.YthhjhfkcgokffaaHead
import Derived.Test.YthhjhfkcgokffaaOpen










import Derived.Test.YthhjhfkcgokffaaWc
namespace Go.Proofs.Ythhjhfkcgokffaa.fnExactApartOf
open Go.ChangeShapes Go.WideShapes Go.ChangeAt Go.RowKit
set_option linter.unusedVariables false
set_option linter.unusedSimpArgs false

theorem own : ownKnob Try.prog.godebug = none := by kernel_rfl

set_option maxRecDepth 100000 in
set_option maxHeartbeats 1000000 in
theorem walk (w : World) (a0 : Value) (z0 : List Int) (a1 : Value) (z1 : List Int) (w0 : KS .u16 w a0 z0) (w1 : KS .u16 w a1 z1) :
    Calls Try.prog 6 #[a0, a1] w fun e w' => e = .returned (.bool true) ∧ Below w.heap.size w w' := by
  have BF : Below w.heap.size w w := Below.refl _ _
  by_cases hbig0 : 1048576 < z0.length
  · obtain ⟨A, c, rfl, hm, hw, hc⟩ := w0
    have t0 : decide ((1048576 : Int) < (z0.length : Int)) = true := by simp; omega
    clear hc hw
    go_enter Try.func6, Try.ntmps6
    go_wp2_with fail
    go_ret
    exact ⟨rfl, Below.refl _ _⟩
  by_cases hbig1 : 1048576 < z1.length
  · obtain ⟨A, c, rfl, hm, hw, hc⟩ := w1
    have t1 : decide ((1048576 : Int) < (z1.length : Int)) = true := by simp; omega
    obtain ⟨A0, c0, rfl⟩ : ∃ A c, a0 = .slice A z0.length c := by
      obtain ⟨A, c, e, _⟩ := w0
      exact ⟨A, c, e⟩
    have t0 : decide ((1048576 : Int) < (z0.length : Int)) = false := by simp; omega
    clear hc hw
    go_enter Try.func6, Try.ntmps6
    go_wp2_with fail
    go_ret
    exact ⟨rfl, Below.refl _ _⟩
  clear BF
  have hn0 : z0.length ≤ 1048576 := by omega
  have hs0 := ns_of_ks w0
  obtain ⟨A0, c0, rfl, hm0, hw0, hc0⟩ := w0
  have t0 : decide ((1048576 : Int) < (z0.length : Int)) = false := by simp; omega
  clear hc0 hw0 hbig0
  have HA0 := Lib.hid hs0.all
  have HS0 := Lib.hid hs0
  clear hs0
  have hn1 : z1.length ≤ 1048576 := by omega
  have hs1 := ns_of_ks w1
  obtain ⟨A1, c1, rfl, hm1, hw1, hc1⟩ := w1
  have t1 : decide ((1048576 : Int) < (z1.length : Int)) = false := by simp; omega
  clear hc1 hw1 hbig1
  have HA1 := Lib.hid hs1.all
  have HS1 := Lib.hid hs1
  clear hs1
  obtain ⟨cd, hcd⟩ : ∃ cd : Int, cd = twoC z0 z1 := ⟨_, rfl⟩
  have Q3 : (cd != cd) = false := by simp
  have HCD := Lib.hid hcd
  clear hcd
  obtain ⟨vd0, hvd0⟩ : ∃ vd0 : Int, vd0 = apI z0 z1 := ⟨_, rfl⟩
  have Q40 : (vd0 != vd0) = false := by simp
  have HVD0 := Lib.hid hvd0
  clear hvd0
  go_enter Try.func6, Try.ntmps6
  go_wp2_with fail
  have H0 := Lib.hid (Below.refl w.heap.size w)
  refine (toWord_any _ z0 hn0 _ (HS0.out.below H0.out)).mono ?_
  rintro e w1q ⟨uw1q, rfl, hb, ho⟩
  have H1 := Lib.hid (PO.of_own ho rfl HA0.out)
  have H2 := Lib.hid (bchain H0.out hb)
  clear H0
  have SZw1q := Lib.hid hb.size
  clear hb ho
  go_wp2_with fail
  refine (toWord_any _ z1 hn1 _ (HS1.out.below H2.out)).mono ?_
  rintro e w2q ⟨uw2q, rfl, hb, ho⟩
  have H3 := Lib.hid (PO.of_own ho rfl HA1.out)
  have H4 := Lib.hid (bchain H2.out hb)
  clear H2
  have H5 := Lib.hid (H1.out.below hb)
  have SZw2q := Lib.hid hb.size
  clear hb ho
  go_wp2_with fail
  refine (spec_ApartOf uw1q uw2q z0 z1  hn0 hn1  _ H5.out.ns H3.out.ns).mono ?_
  rintro e w3q ⟨rfl, hb⟩
  rw [← HCD.out]
  rw [← HVD0.out]
  have H6 := Lib.hid (bchain H4.out hb)
  clear H4
  have H7 := Lib.hid (H5.out.below hb)
  clear H5
  have H8 := Lib.hid (H3.out.below hb)
  have SZw3q := Lib.hid hb.size
  clear hb
  go_wp2_with fail
  clear H7 H1
  clear H8 H3
  refine (toWord_any _ z0 hn0 _ (HS0.out.below H6.out)).mono ?_
  rintro e w4q ⟨uw4q, rfl, hb, ho⟩
  have H9 := Lib.hid (PO.of_own ho rfl HA0.out)
  have H10 := Lib.hid (bchain H6.out hb)
  clear H6
  have SZw4q := Lib.hid hb.size
  clear hb ho
  go_wp2_with fail
  refine (toWord_any _ z1 hn1 _ (HS1.out.below H10.out)).mono ?_
  rintro e w5q ⟨uw5q, rfl, hb, ho⟩
  have H11 := Lib.hid (PO.of_own ho rfl HA1.out)
  have H12 := Lib.hid (bchain H10.out hb)
  clear H10
  have H13 := Lib.hid (H9.out.below hb)
  have SZw5q := Lib.hid hb.size
  clear hb ho
  go_wp2_with fail
  refine (impl_ApartOf uw4q uw5q z0 z1  hn0 hn1  _ H13.out.ns H11.out.ns).mono ?_
  rintro e w6q ⟨rfl, hb⟩
  rw [← HCD.out]
  rw [← HVD0.out]
  have H14 := Lib.hid (bchain H12.out hb)
  clear H12
  have H15 := Lib.hid (H13.out.below hb)
  clear H13
  have H16 := Lib.hid (H11.out.below hb)
  have SZw6q := Lib.hid hb.size
  clear hb
  go_wp2_with fail
  refine (toWord_any _ z0 hn0 _ (HS0.out.below H14.out)).mono ?_
  rintro e w7q ⟨uw7q, rfl, hb, ho⟩
  have H17 := Lib.hid (PO.of_own ho rfl HA0.out)
  have H18 := Lib.hid (bchain H14.out hb)
  clear H14
  have H19 := Lib.hid (H15.out.below hb)
  clear H15
  have H20 := Lib.hid (H16.out.below hb)
  clear H16
  have SZw7q := Lib.hid hb.size
  clear hb ho
  go_wp2_with fail
  refine (eqWord_any uw4q uw7q z0 z0 hn0 hn0 _ H19.out.ns H17.out.ns).mono ?_
  rintro e w8q ⟨rfl, m, hw⟩
  have hb : Below w7q.heap.size w7q w8q := by rw [hw]; exact bdrewN (Below.refl _ _) m
  clear hw
  rw [eqB_refl]
  have H21 := Lib.hid (bchain H18.out hb)
  clear H18
  have H22 := Lib.hid (H19.out.below hb)
  clear H19
  have H23 := Lib.hid (H20.out.below hb)
  clear H20
  have H24 := Lib.hid (H17.out.below hb)
  have SZw8q := Lib.hid hb.size
  clear hb
  go_wp2_with fail
  clear H24 H17
  refine (toWord_any _ z1 hn1 _ (HS1.out.below H21.out)).mono ?_
  rintro e w9q ⟨uw9q, rfl, hb, ho⟩
  have H25 := Lib.hid (PO.of_own ho rfl HA1.out)
  have H26 := Lib.hid (bchain H21.out hb)
  clear H21
  have H27 := Lib.hid (H22.out.below hb)
  clear H22
  have H28 := Lib.hid (H23.out.below hb)
  clear H23
  have SZw9q := Lib.hid hb.size
  clear hb ho
  go_wp2_with fail
  refine (eqWord_any uw5q uw9q z1 z1 hn1 hn1 _ H28.out.ns H25.out.ns).mono ?_
  rintro e w10q ⟨rfl, m, hw⟩
  have hb : Below w9q.heap.size w9q w10q := by rw [hw]; exact bdrewN (Below.refl _ _) m
  clear hw
  rw [eqB_refl]
  have H29 := Lib.hid (bchain H26.out hb)
  clear H26
  have H30 := Lib.hid (H27.out.below hb)
  clear H27
  have H31 := Lib.hid (H28.out.below hb)
  clear H28
  have H32 := Lib.hid (H25.out.below hb)
  have SZw10q := Lib.hid hb.size
  clear hb
  go_wp2_with fail
  clear H32 H25
  go_ret
  exact ⟨rfl, H29.out⟩

set_option maxRecDepth 100000 in
theorem lifted (os : Os) (started : os.Started) (H : Type) (enc : TypeId × Value → H) :
    ReturnsInHanded {} Try.checked os 6 .any (Rows.fnExactApartOfSpec.pre6 enc Try.prog Try.f6 Rows.fnExactApartOfRow.domain false) (Rows.fnExactApartOfSpec.post enc Try.prog Try.f6 false true false false) := by
  refine returnsInHanded_of_change (C := Try.checked) own started (by kernel_rfl) Try.func6
    (ChangeSpec.witness6 (enc := enc) (C := Try.checked) false ⟨#[], #[.slice none 0 0, .slice none 0 0], []⟩ 8 (by kernel_rfl) (by kernel_rfl) (by kernel_rfl) (by kernel_rfl)) ?_
  intro W base args ds gs before hval0 hW hcnd _
  have hval : ∀ (j : Nat) t v, Try.f6.params[j]? = some t → args[j]? = some v → Value.okWide Try.prog W .any base t v := hval0
  have hW' := hW
  obtain ⟨p, q, hA0, hV, rfl, hfz, hnd⟩ := hW
  have hA : DataW.TrodAll enc Try.prog W 0 (fun _ => true) true Try.f6.params.toList args.toList ds p := hA0
  rw [Try.params6] at hA hval
  obtain ⟨v0, vs0, d0, ds0, p0, q0, hargs, rfl, rfl, h0, r0⟩ := trodAll_cons hA
  obtain ⟨v1, vs1, d1, ds1, p1, q1, rfl, rfl, rfl, h1, r1⟩ := trodAll_cons r0
  obtain ⟨rfl, rfl, rfl⟩ := trodAll_nil r1
  obtain rfl : args = #[v0, v1] := by cases args; simp_all
  obtain ⟨rfl, rfl⟩ := trodVars_none hV
  obtain ⟨z0, w0, g0⟩ := open_row Try.underlying22 Try.underlying37 (by kernel_rfl) (hval 0 22 v0 rfl rfl) h0
  obtain ⟨a0, ha0⟩ : ∃ y, y = v0 := ⟨_, rfl⟩
  subst ha0
  obtain ⟨z1, w1, g1⟩ := open_row Try.underlying22 Try.underlying37 (by kernel_rfl) (hval 1 22 v1 rfl rfl) h1
  obtain ⟨a1, ha1⟩ : ∃ y, y = v1 := ⟨_, rfl⟩
  subst ha1
  clear hA0 hval0
  simp only [List.append_nil, List.nil_append] at hW'
  refine (walk W a0 z0 a1 z1 w0 w1).mono fun e W' ⟨he, hg⟩ => ?_
  subst he
  exact ⟨_, rfl, law_post rfl rfl hW' hg (fun _ _ _ => (trodAll_cons_mk (shut_bool Try.underlying4 _) trodAll_mk0)) (fun sp hsp => by have t := (trodAll_cons_mk (g0 W' hg sp (fun q hq => hsp q (by simp [hq]))) (trodAll_cons_mk (g1 W' hg sp (fun q hq => hsp q (by simp [hq]))) trodAll_mk0)); simp only [List.append_nil, List.nil_append] at t; exact t) (ok_one (by kernel_rfl) rfl (okWide_bool_mk Try.underlying4 _))⟩

theorem over : Rows.fnExactApartOfRow.holds Try.pinned (OpenSpec.ofChange Rows.fnExactApartOfSpec) :=
  OpenClaim.holds_of_wide 6 Try.f6 rfl rfl rfl rfl rfl rfl rfl ⟨rfl, rfl, rfl, rfl, rfl⟩ rfl rfl rfl rfl rfl (by kernel_rfl) Try.func6 (joinedBy 6 Try.f6 Rows.fnExactApartOfSpec Rows.fnExactApartOfRow (by kernel_rfl))
    (of_decide_eq_true (by kernel_rfl)) (by unfold Func.isWrapper; first | (rw [if_pos (by decide +kernel)]; kernel_rfl) | (rw [if_neg (by decide +kernel)]; exact ⟨rfl, rfl⟩))
    (fun os started H enc _ => lifted os started H enc)

/-- the statement -/
theorem proved : Rows.FnExactApartOfSaid :=
  over
end Go.Proofs.Ythhjhfkcgokffaa.fnExactApartOf
