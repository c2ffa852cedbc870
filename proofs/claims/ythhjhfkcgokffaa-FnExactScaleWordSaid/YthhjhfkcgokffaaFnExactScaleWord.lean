/-
  The statement Rows.FnExactScaleWordSaid for every input the law returns true; the walk is ours, the rest is the guide's template at this function's number and types.
  Conditions: none.
-/
import Derived.Test.YthhjhfkcgokffaaRows
import Derived.WalkKit
import Derived.ProofKit
import Derived.OpenShut
import Derived.Test.YthhjhfkcgokffaaHead
import Derived.Test.YthhjhfkcgokffaaOpen










import Derived.Test.YthhjhfkcgokffaaWe
namespace Go.Proofs.Ythhjhfkcgokffaa.fnExactScaleWord
open Go.ChangeShapes Go.WideShapes Go.ChangeAt Go.RowKit
set_option linter.unusedVariables false
set_option linter.unusedSimpArgs false

theorem own : ownKnob Try.prog.godebug = none := by kernel_rfl

set_option maxRecDepth 100000 in
set_option maxHeartbeats 1000000 in
theorem walk (w : World) (a0 : Int) (a1 : Value) (z1 : List Int) (w0 : (Lit.int .u16 a0).wf = true) (w1 : KS .u16 w a1 z1) :
    Calls Try.prog 8 #[.int .u16 a0, a1] w fun e w' => e = .returned (.bool true) ∧ Below w.heap.size w w' := by
  have BF : Below w.heap.size w w := Below.refl _ _
  have b0 := bounds_u16 w0
  obtain ⟨s00, s01⟩ : 0 ≤ a0 ∧ a0 < 65536 := ⟨by omega, by omega⟩
  clear b0
  by_cases hbig1 : 1048576 < z1.length
  · obtain ⟨A, c, rfl, hm, hw, hc⟩ := w1
    have t1 : decide ((1048576 : Int) < (z1.length : Int)) = true := by simp; omega
    clear hc hw
    go_enter Try.func8, Try.ntmps8
    go_wp2_with fail
    go_ret
    exact ⟨rfl, Below.refl _ _⟩
  clear BF
  have hn1 : z1.length ≤ 1048576 := by omega
  have hs1 := ns_of_ks w1
  obtain ⟨A1, c1, rfl, hm1, hw1, hc1⟩ := w1
  have t1 : decide ((1048576 : Int) < (z1.length : Int)) = false := by simp; omega
  clear hc1 hw1 hbig1
  have HA1 := Lib.hid hs1.all
  have HS1 := Lib.hid hs1
  clear hs1
  obtain ⟨ans, hans⟩ : ∃ ans, ans = scaleWA z1 a0 := ⟨_, rfl⟩
  have hal : ans.length ≤ 1048576 := by rw [hans]; exact Nat.le_trans (scaleWA_len _ _) (by omega)
  obtain ⟨q1, hq1⟩ : ∃ q1 : Nat, q1 = 1 + ans.length := ⟨_, rfl⟩
  have Q1 : decide ((q1 : Int) < 0) = false := by simp
  have Q2 : ((q1 : Int) != (q1 : Int)) = false := by simp
  have HANS := Lib.hid hans
  have HQ1 := Lib.hid hq1
  clear hans hq1
  obtain ⟨cd, hcd⟩ : ∃ cd : Int, cd = oneC z1 := ⟨_, rfl⟩
  have Q3 : (cd != cd) = false := by simp
  have HCD := Lib.hid hcd
  clear hcd
  go_enter Try.func8, Try.ntmps8
  go_wp2_with fail
  have H0 := Lib.hid (Below.refl w.heap.size w)
  refine (toWord_any _ z1 hn1 _ (HS1.out.below H0.out)).mono ?_
  rintro e w1q ⟨uw1q, rfl, hb, ho⟩
  have H1 := Lib.hid (PO.of_own ho rfl HA1.out)
  have H2 := Lib.hid (bchain H0.out hb)
  clear H0
  have SZw1q := Lib.hid hb.size
  clear hb ho
  go_wp2_with fail
  refine (spec_ScaleWord uw1q z1 a0 hn1 s00 s01 _ H1.out.ns).mono ?_
  rintro e w2q ⟨rw2q, rfl, hp, hb⟩
  rw [← HANS.out] at hp
  rw [← HCD.out]
  have H3 := Lib.hid hp
  clear hp
  have H4 := Lib.hid (bchain H2.out hb)
  clear H2
  have H5 := Lib.hid (H1.out.below hb)
  have SZw2q := Lib.hid hb.size
  clear hb
  go_wp2_with fail
  clear H5 H1
  have H6 := Lib.hid (H3.out.ns)
  clear H3
  have H7 := Lib.hid (Below.refl w2q.heap.size w2q)
  refine (toWord_any _ z1 hn1 _ (HS1.out.below H4.out)).mono ?_
  rintro e w3q ⟨uw3q, rfl, hb, ho⟩
  have H8 := Lib.hid (PO.of_own ho rfl HA1.out)
  have H9 := Lib.hid (bchain H4.out hb)
  clear H4
  have H10 := Lib.hid (bchain H7.out hb)
  clear H7
  have SZw3q := Lib.hid hb.size
  clear hb ho
  go_wp2_with fail
  refine (impl_ScaleWord uw3q z1 a0 hn1 s00 s01 _ H8.out.ns).mono ?_
  rintro e w4q ⟨rw4q, rfl, hp, hb⟩
  rw [← HANS.out] at hp
  rw [← HCD.out]
  have H11 := Lib.hid hp
  clear hp
  have H12 := Lib.hid (bchain H9.out hb)
  clear H9
  have H13 := Lib.hid (bchain H10.out hb)
  clear H10
  have H14 := Lib.hid (H8.out.below hb)
  have SZw4q := Lib.hid hb.size
  clear hb
  go_wp2_with fail
  refine (eqWord_any rw4q rw2q ans ans hal hal _ H11.out.ns (H6.out.below H13.out)).mono ?_
  rintro e w5q ⟨rfl, m, hw⟩
  have hb : Below w4q.heap.size w4q w5q := by rw [hw]; exact bdrewN (Below.refl _ _) m
  clear hw
  rw [eqB_refl]
  have H15 := Lib.hid (bchain H12.out hb)
  clear H12
  have H16 := Lib.hid (bchain H13.out hb)
  clear H13
  have H17 := Lib.hid (H14.out.below hb)
  clear H14
  have H18 := Lib.hid (H11.out.below hb)
  have SZw5q := Lib.hid hb.size
  clear hb
  go_wp2_with fail
  refine (toWord_any _ z1 hn1 _ (HS1.out.below H15.out)).mono ?_
  rintro e w6q ⟨uw6q, rfl, hb, ho⟩
  have H19 := Lib.hid (PO.of_own ho rfl HA1.out)
  have H20 := Lib.hid (bchain H15.out hb)
  clear H15
  have H21 := Lib.hid (bchain H16.out hb)
  clear H16
  have H22 := Lib.hid (H17.out.below hb)
  clear H17
  have H23 := Lib.hid (H18.out.below hb)
  clear H18
  have SZw6q := Lib.hid hb.size
  clear hb ho
  go_wp2_with fail
  refine (eqWord_any uw3q uw6q z1 z1 hn1 hn1 _ H22.out.ns H19.out.ns).mono ?_
  rintro e w7q ⟨rfl, m, hw⟩
  have hb : Below w6q.heap.size w6q w7q := by rw [hw]; exact bdrewN (Below.refl _ _) m
  clear hw
  rw [eqB_refl]
  have H24 := Lib.hid (bchain H20.out hb)
  clear H20
  have H25 := Lib.hid (bchain H21.out hb)
  clear H21
  have H26 := Lib.hid (H22.out.below hb)
  clear H22
  have H27 := Lib.hid (H23.out.below hb)
  clear H23
  have H28 := Lib.hid (H19.out.below hb)
  have SZw7q := Lib.hid hb.size
  clear hb
  go_wp2_with fail
  clear H28 H19
  obtain ⟨k0, hk0⟩ : ∃ k0 : Nat, k0 = 1 + z1.length := ⟨_, rfl⟩
  have hk0b : k0 ≤ 1048577 := by omega
  have K0 : decide ((k0 : Int) < 0) = false := by simp
  have HK0 := Lib.hid hk0
  clear hk0
  refine (markWordO_any uw3q z1 hn1 1 (by omega) w2q.heap.size _ H26.out).mono ?_
  rintro e w8q ⟨rfl, hp, hm⟩
  have hb := hm.below H8.out (by have := SZw1q.out; have := SZw2q.out; have := SZw3q.out; have := SZw4q.out; have := SZw5q.out; have := SZw6q.out; have := SZw7q.out; omega)
  have H29 := Lib.hid (H24.out.trans (hb.mono (by have := SZw1q.out; have := SZw2q.out; have := SZw3q.out; have := SZw4q.out; have := SZw5q.out; have := SZw6q.out; have := SZw7q.out; omega)))
  clear H24
  have H30 := Lib.hid (H25.out.trans (hb.mono (by have := SZw1q.out; have := SZw2q.out; have := SZw3q.out; have := SZw4q.out; have := SZw5q.out; have := SZw6q.out; have := SZw7q.out; omega)))
  clear H25
  have H31 := Lib.hid (hm.kept H8.out (by have := SZw1q.out; have := SZw2q.out; have := SZw3q.out; have := SZw4q.out; have := SZw5q.out; have := SZw6q.out; have := SZw7q.out; omega) H27.out)
  clear H27
  have H32 := Lib.hid hp
  clear H26
  have SZw8q := Lib.hid hb.size
  clear hb hp hm
  rw [← HK0.out]
  go_wp2_with fail
  clear H32 H8
  refine (eqWord_any rw4q rw2q ans ans hal hal _ H31.out.ns (H6.out.below H30.out)).mono ?_
  rintro e w9q ⟨rfl, m, hw⟩
  have hb : Below w8q.heap.size w8q w9q := by rw [hw]; exact bdrewN (Below.refl _ _) m
  clear hw
  rw [eqB_refl]
  have H33 := Lib.hid (bchain H29.out hb)
  clear H29
  have H34 := Lib.hid (bchain H30.out hb)
  clear H30
  have H35 := Lib.hid (H31.out.below hb)
  clear H31
  have SZw9q := Lib.hid hb.size
  clear hb
  go_wp2_with fail
  refine (markWordO_any rw4q ans hal 1 (by omega) w3q.heap.size _ H35.out).mono ?_
  rintro e w10q ⟨rfl, hp, hm⟩
  have hb := hm.below H11.out (by have := SZw1q.out; have := SZw2q.out; have := SZw3q.out; have := SZw4q.out; have := SZw5q.out; have := SZw6q.out; have := SZw7q.out; have := SZw8q.out; have := SZw9q.out; omega)
  have H36 := Lib.hid (H33.out.trans (hb.mono (by have := SZw1q.out; have := SZw2q.out; have := SZw3q.out; have := SZw4q.out; have := SZw5q.out; have := SZw6q.out; have := SZw7q.out; have := SZw8q.out; have := SZw9q.out; omega)))
  clear H33
  have H37 := Lib.hid (H34.out.trans (hb.mono (by have := SZw1q.out; have := SZw2q.out; have := SZw3q.out; have := SZw4q.out; have := SZw5q.out; have := SZw6q.out; have := SZw7q.out; have := SZw8q.out; have := SZw9q.out; omega)))
  clear H34
  have H38 := Lib.hid hp
  clear H35
  have SZw10q := Lib.hid hb.size
  clear hb hp hm
  rw [← HQ1.out]
  go_wp2_with fail
  refine (heldWord_any rw4q ans.length hal 1 (by omega) 0 _ H38.out.ns).mono ?_
  rintro e w' ⟨rfl, rfl⟩
  rw [← HQ1.out]
  go_wp2_with fail
  refine (toWord_any _ z1 hn1 _ (HS1.out.below H36.out)).mono ?_
  rintro e w11q ⟨uw11q, rfl, hb, ho⟩
  have H39 := Lib.hid (PO.of_own ho rfl HA1.out)
  have H40 := Lib.hid (bchain H36.out hb)
  clear H36
  have H41 := Lib.hid (bchain H37.out hb)
  clear H37
  have H42 := Lib.hid (H38.out.below hb)
  clear H38
  have SZw11q := Lib.hid hb.size
  clear hb ho
  go_wp2_with fail
  refine (impl_ScaleWord uw11q z1 a0 hn1 s00 s01 _ H39.out.ns).mono ?_
  rintro e w12q ⟨rw12q, rfl, hp, hb⟩
  rw [← HANS.out] at hp
  rw [← HCD.out]
  have H43 := Lib.hid hp
  clear hp
  have H44 := Lib.hid (bchain H40.out hb)
  clear H40
  have H45 := Lib.hid (bchain H41.out hb)
  clear H41
  have H46 := Lib.hid (H42.out.below hb)
  clear H42
  have H47 := Lib.hid (H39.out.below hb)
  have SZw12q := Lib.hid hb.size
  clear hb
  go_wp2_with fail
  clear H47 H39
  refine (eqWord_any rw12q rw2q ans ans hal hal _ H43.out.ns (H6.out.below H45.out)).mono ?_
  rintro e w13q ⟨rfl, m, hw⟩
  have hb : Below w12q.heap.size w12q w13q := by rw [hw]; exact bdrewN (Below.refl _ _) m
  clear hw
  rw [eqB_refl]
  have H48 := Lib.hid (bchain H44.out hb)
  clear H44
  have H49 := Lib.hid (bchain H45.out hb)
  clear H45
  have H50 := Lib.hid (H46.out.below hb)
  clear H46
  have H51 := Lib.hid (H43.out.below hb)
  have SZw13q := Lib.hid hb.size
  clear hb
  go_wp2_with fail
  refine (heldWord_any rw4q ans.length hal 1 (by omega) 0 _ H50.out.ns).mono ?_
  rintro e w' ⟨rfl, rfl⟩
  rw [← HQ1.out]
  go_wp2_with fail
  go_ret
  exact ⟨rfl, H48.out⟩

set_option maxRecDepth 100000 in
theorem lifted (os : Os) (started : os.Started) (H : Type) (enc : TypeId × Value → H) :
    ReturnsInHanded {} Try.checked os 8 .any (Rows.fnExactScaleWordSpec.pre6 enc Try.prog Try.f8 Rows.fnExactScaleWordRow.domain false) (Rows.fnExactScaleWordSpec.post enc Try.prog Try.f8 false true false false) := by
  refine returnsInHanded_of_change (C := Try.checked) own started (by kernel_rfl) Try.func8
    (ChangeSpec.witness6 (enc := enc) (C := Try.checked) false ⟨#[], #[.int .u16 0, .slice none 0 0], []⟩ 8 (by kernel_rfl) (by kernel_rfl) (by kernel_rfl) (by kernel_rfl)) ?_
  intro W base args ds gs before hval0 hW hcnd _
  have hval : ∀ (j : Nat) t v, Try.f8.params[j]? = some t → args[j]? = some v → Value.okWide Try.prog W .any base t v := hval0
  have hW' := hW
  obtain ⟨p, q, hA0, hV, rfl, hfz, hnd⟩ := hW
  have hA : DataW.TrodAll enc Try.prog W 0 (fun _ => true) true Try.f8.params.toList args.toList ds p := hA0
  rw [Try.params8] at hA hval
  obtain ⟨v0, vs0, d0, ds0, p0, q0, hargs, rfl, rfl, h0, r0⟩ := trodAll_cons hA
  obtain ⟨v1, vs1, d1, ds1, p1, q1, rfl, rfl, rfl, h1, r1⟩ := trodAll_cons r0
  obtain ⟨rfl, rfl, rfl⟩ := trodAll_nil r1
  obtain rfl : args = #[v0, v1] := by cases args; simp_all
  obtain ⟨rfl, rfl⟩ := trodVars_none hV
  obtain ⟨a0, rfl, rfl, rfl, w0⟩ := open_int Try.underlying37 (hval 0 37 v0 rfl rfl) h0
  obtain ⟨z1, w1, g1⟩ := open_row Try.underlying22 Try.underlying37 (by kernel_rfl) (hval 1 22 v1 rfl rfl) h1
  obtain ⟨a1, ha1⟩ : ∃ y, y = v1 := ⟨_, rfl⟩
  subst ha1
  clear hA0 hval0
  simp only [List.append_nil, List.nil_append] at hW'
  refine (walk W a0 a1 z1 w0 w1).mono fun e W' ⟨he, hg⟩ => ?_
  subst he
  exact ⟨_, rfl, law_post rfl rfl hW' hg (fun _ _ _ => (trodAll_cons_mk (shut_bool Try.underlying4 _) trodAll_mk0)) (fun sp hsp => by have t := (trodAll_cons_mk (shut_int Try.underlying37 w0) (trodAll_cons_mk (g1 W' hg sp (fun q hq => hsp q (by simp [hq]))) trodAll_mk0)); simp only [List.append_nil, List.nil_append] at t; exact t) (ok_one (by kernel_rfl) rfl (okWide_bool_mk Try.underlying4 _))⟩

theorem over : Rows.fnExactScaleWordRow.holds Try.pinned (OpenSpec.ofChange Rows.fnExactScaleWordSpec) :=
  OpenClaim.holds_of_wide 8 Try.f8 rfl rfl rfl rfl rfl rfl rfl ⟨rfl, rfl, rfl, rfl, rfl⟩ rfl rfl rfl rfl rfl (by kernel_rfl) Try.func8 (joinedBy 8 Try.f8 Rows.fnExactScaleWordSpec Rows.fnExactScaleWordRow (by kernel_rfl))
    (of_decide_eq_true (by kernel_rfl)) (by unfold Func.isWrapper; first | (rw [if_pos (by decide +kernel)]; kernel_rfl) | (rw [if_neg (by decide +kernel)]; exact ⟨rfl, rfl⟩))
    (fun os started H enc _ => lifted os started H enc)

/-- the statement -/
theorem proved : Rows.FnExactScaleWordSaid :=
  over
end Go.Proofs.Ythhjhfkcgokffaa.fnExactScaleWord
