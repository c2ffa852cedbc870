/-
  The statement Rows.FnExactPlusWordSaid for every input the law returns true; the walk is ours, the rest is the guide's template at this function's number and types.
  Conditions: none.
-/
import Derived.Test.YthhjhfkcgokffaaRows
import Derived.WalkKit
import Derived.ProofKit
import Derived.OpenShut
import Derived.Test.YthhjhfkcgokffaaHead
import Derived.Test.YthhjhfkcgokffaaOpen










import Derived.Test.YthhjhfkcgokffaaWd
namespace Go.Proofs.Ythhjhfkcgokffaa.fnExactPlusWord
open Go.ChangeShapes Go.WideShapes Go.ChangeAt Go.RowKit
set_option linter.unusedVariables false
set_option linter.unusedSimpArgs false

theorem own : ownKnob Try.prog.godebug = none := by kernel_rfl

set_option maxRecDepth 100000 in
set_option maxHeartbeats 1000000 in
theorem walk (w : World) (a0 : Value) (z0 : List Int) (a1 : Value) (z1 : List Int) (w0 : KS .u16 w a0 z0) (w1 : KS .u16 w a1 z1) :
    Calls Try.prog 7 #[a0, a1] w fun e w' => e = .returned (.bool true) ∧ Below w.heap.size w w' := by
  have BF : Below w.heap.size w w := Below.refl _ _
  by_cases hbig0 : 1048576 < z0.length
  · obtain ⟨A, c, rfl, hm, hw, hc⟩ := w0
    have t0 : decide ((1048576 : Int) < (z0.length : Int)) = true := by simp; omega
    clear hc hw
    go_enter Try.func7, Try.ntmps7
    go_wp2_with fail
    go_ret
    exact ⟨rfl, Below.refl _ _⟩
  by_cases hbig1 : 1048576 < z1.length
  · obtain ⟨A, c, rfl, hm, hw, hc⟩ := w1
    have t1 : decide ((1048576 : Int) < (z1.length : Int)) = true := by simp; omega
    obtain ⟨A0, c0, rfl⟩ : ∃ A c, a0 = .slice A z0.length c := by
      obtain ⟨A, c, e, _⟩ := w0
      exact ⟨A, c, e⟩
    have t0 : decide ((1048576 : Int) < (z0.length : Int)) = false := by simp; omega
    clear hc hw
    go_enter Try.func7, Try.ntmps7
    go_wp2_with fail
    go_ret
    exact ⟨rfl, Below.refl _ _⟩
  clear BF
  have hn0 : z0.length ≤ 1048576 := by omega
  have hs0 := ns_of_ks w0
  obtain ⟨A0, c0, rfl, hm0, hw0, hc0⟩ := w0
  have t0 : decide ((1048576 : Int) < (z0.length : Int)) = false := by simp; omega
  clear hc0 hw0 hbig0
  have HA0 := Lib.hid hs0.all
  have HS0 := Lib.hid hs0
  clear hs0
  have hn1 : z1.length ≤ 1048576 := by omega
  have hs1 := ns_of_ks w1
  obtain ⟨A1, c1, rfl, hm1, hw1, hc1⟩ := w1
  have t1 : decide ((1048576 : Int) < (z1.length : Int)) = false := by simp; omega
  clear hc1 hw1 hbig1
  have HA1 := Lib.hid hs1.all
  have HS1 := Lib.hid hs1
  clear hs1
  obtain ⟨ans, hans⟩ : ∃ ans, ans = plusWA z0 z1 := ⟨_, rfl⟩
  have hal : ans.length ≤ 1048576 := by rw [hans]; exact Nat.le_trans (plusWA_len _ _) (by omega)
  obtain ⟨q1, hq1⟩ : ∃ q1 : Nat, q1 = 1 + ans.length := ⟨_, rfl⟩
  have Q1 : decide ((q1 : Int) < 0) = false := by simp
  have Q2 : ((q1 : Int) != (q1 : Int)) = false := by simp
  have HANS := Lib.hid hans
  have HQ1 := Lib.hid hq1
  clear hans hq1
  obtain ⟨cd, hcd⟩ : ∃ cd : Int, cd = twoC z0 z1 := ⟨_, rfl⟩
  have Q3 : (cd != cd) = false := by simp
  have HCD := Lib.hid hcd
  clear hcd
  go_enter Try.func7, Try.ntmps7
  go_wp2_with fail
  have H0 := Lib.hid (Below.refl w.heap.size w)
  refine (toWord_any _ z0 hn0 _ (HS0.out.below H0.out)).mono ?_
  rintro e w1q ⟨uw1q, rfl, hb, ho⟩
  have H1 := Lib.hid (PO.of_own ho rfl HA0.out)
  have H2 := Lib.hid (bchain H0.out hb)
  clear H0
  have SZw1q := Lib.hid hb.size
  clear hb ho
  go_wp2_with fail
  refine (toWord_any _ z1 hn1 _ (HS1.out.below H2.out)).mono ?_
  rintro e w2q ⟨uw2q, rfl, hb, ho⟩
  have H3 := Lib.hid (PO.of_own ho rfl HA1.out)
  have H4 := Lib.hid (bchain H2.out hb)
  clear H2
  have H5 := Lib.hid (H1.out.below hb)
  have SZw2q := Lib.hid hb.size
  clear hb ho
  go_wp2_with fail
  refine (spec_PlusWord uw1q uw2q z0 z1  hn0 hn1  _ H5.out.ns H3.out.ns).mono ?_
  rintro e w3q ⟨rw3q, rfl, hp, hb⟩
  rw [← HANS.out] at hp
  rw [← HCD.out]
  have H6 := Lib.hid hp
  clear hp
  have H7 := Lib.hid (bchain H4.out hb)
  clear H4
  have H8 := Lib.hid (H5.out.below hb)
  clear H5
  have H9 := Lib.hid (H3.out.below hb)
  have SZw3q := Lib.hid hb.size
  clear hb
  go_wp2_with fail
  clear H8 H1
  clear H9 H3
  have H10 := Lib.hid (H6.out.ns)
  clear H6
  have H11 := Lib.hid (Below.refl w3q.heap.size w3q)
  refine (toWord_any _ z0 hn0 _ (HS0.out.below H7.out)).mono ?_
  rintro e w4q ⟨uw4q, rfl, hb, ho⟩
  have H12 := Lib.hid (PO.of_own ho rfl HA0.out)
  have H13 := Lib.hid (bchain H7.out hb)
  clear H7
  have H14 := Lib.hid (bchain H11.out hb)
  clear H11
  have SZw4q := Lib.hid hb.size
  clear hb ho
  go_wp2_with fail
  refine (toWord_any _ z1 hn1 _ (HS1.out.below H13.out)).mono ?_
  rintro e w5q ⟨uw5q, rfl, hb, ho⟩
  have H15 := Lib.hid (PO.of_own ho rfl HA1.out)
  have H16 := Lib.hid (bchain H13.out hb)
  clear H13
  have H17 := Lib.hid (bchain H14.out hb)
  clear H14
  have H18 := Lib.hid (H12.out.below hb)
  have SZw5q := Lib.hid hb.size
  clear hb ho
  go_wp2_with fail
  refine (impl_PlusWord uw4q uw5q z0 z1  hn0 hn1  _ H18.out.ns H15.out.ns).mono ?_
  rintro e w6q ⟨rw6q, rfl, hp, hb⟩
  rw [← HANS.out] at hp
  rw [← HCD.out]
  have H19 := Lib.hid hp
  clear hp
  have H20 := Lib.hid (bchain H16.out hb)
  clear H16
  have H21 := Lib.hid (bchain H17.out hb)
  clear H17
  have H22 := Lib.hid (H18.out.below hb)
  clear H18
  have H23 := Lib.hid (H15.out.below hb)
  have SZw6q := Lib.hid hb.size
  clear hb
  go_wp2_with fail
  refine (eqWord_any rw6q rw3q ans ans hal hal _ H19.out.ns (H10.out.below H21.out)).mono ?_
  rintro e w7q ⟨rfl, m, hw⟩
  have hb : Below w6q.heap.size w6q w7q := by rw [hw]; exact bdrewN (Below.refl _ _) m
  clear hw
  rw [eqB_refl]
  have H24 := Lib.hid (bchain H20.out hb)
  clear H20
  have H25 := Lib.hid (bchain H21.out hb)
  clear H21
  have H26 := Lib.hid (H22.out.below hb)
  clear H22
  have H27 := Lib.hid (H23.out.below hb)
  clear H23
  have H28 := Lib.hid (H19.out.below hb)
  have SZw7q := Lib.hid hb.size
  clear hb
  go_wp2_with fail
  refine (toWord_any _ z0 hn0 _ (HS0.out.below H24.out)).mono ?_
  rintro e w8q ⟨uw8q, rfl, hb, ho⟩
  have H29 := Lib.hid (PO.of_own ho rfl HA0.out)
  have H30 := Lib.hid (bchain H24.out hb)
  clear H24
  have H31 := Lib.hid (bchain H25.out hb)
  clear H25
  have H32 := Lib.hid (H26.out.below hb)
  clear H26
  have H33 := Lib.hid (H27.out.below hb)
  clear H27
  have H34 := Lib.hid (H28.out.below hb)
  clear H28
  have SZw8q := Lib.hid hb.size
  clear hb ho
  go_wp2_with fail
  refine (eqWord_any uw4q uw8q z0 z0 hn0 hn0 _ H32.out.ns H29.out.ns).mono ?_
  rintro e w9q ⟨rfl, m, hw⟩
  have hb : Below w8q.heap.size w8q w9q := by rw [hw]; exact bdrewN (Below.refl _ _) m
  clear hw
  rw [eqB_refl]
  have H35 := Lib.hid (bchain H30.out hb)
  clear H30
  have H36 := Lib.hid (bchain H31.out hb)
  clear H31
  have H37 := Lib.hid (H32.out.below hb)
  clear H32
  have H38 := Lib.hid (H33.out.below hb)
  clear H33
  have H39 := Lib.hid (H34.out.below hb)
  clear H34
  have H40 := Lib.hid (H29.out.below hb)
  have SZw9q := Lib.hid hb.size
  clear hb
  go_wp2_with fail
  clear H40 H29
  refine (toWord_any _ z1 hn1 _ (HS1.out.below H35.out)).mono ?_
  rintro e w10q ⟨uw10q, rfl, hb, ho⟩
  have H41 := Lib.hid (PO.of_own ho rfl HA1.out)
  have H42 := Lib.hid (bchain H35.out hb)
  clear H35
  have H43 := Lib.hid (bchain H36.out hb)
  clear H36
  have H44 := Lib.hid (H37.out.below hb)
  clear H37
  have H45 := Lib.hid (H38.out.below hb)
  clear H38
  have H46 := Lib.hid (H39.out.below hb)
  clear H39
  have SZw10q := Lib.hid hb.size
  clear hb ho
  go_wp2_with fail
  refine (eqWord_any uw5q uw10q z1 z1 hn1 hn1 _ H45.out.ns H41.out.ns).mono ?_
  rintro e w11q ⟨rfl, m, hw⟩
  have hb : Below w10q.heap.size w10q w11q := by rw [hw]; exact bdrewN (Below.refl _ _) m
  clear hw
  rw [eqB_refl]
  have H47 := Lib.hid (bchain H42.out hb)
  clear H42
  have H48 := Lib.hid (bchain H43.out hb)
  clear H43
  have H49 := Lib.hid (H44.out.below hb)
  clear H44
  have H50 := Lib.hid (H45.out.below hb)
  clear H45
  have H51 := Lib.hid (H46.out.below hb)
  clear H46
  have H52 := Lib.hid (H41.out.below hb)
  have SZw11q := Lib.hid hb.size
  clear hb
  go_wp2_with fail
  clear H52 H41
  obtain ⟨k0, hk0⟩ : ∃ k0 : Nat, k0 = 1 + z0.length := ⟨_, rfl⟩
  have hk0b : k0 ≤ 1048577 := by omega
  have K0 : decide ((k0 : Int) < 0) = false := by simp
  have HK0 := Lib.hid hk0
  clear hk0
  refine (markWordO_any uw4q z0 hn0 1 (by omega) w3q.heap.size _ H49.out).mono ?_
  rintro e w12q ⟨rfl, hp, hm⟩
  have hb := hm.below H12.out (by have := SZw1q.out; have := SZw2q.out; have := SZw3q.out; have := SZw4q.out; have := SZw5q.out; have := SZw6q.out; have := SZw7q.out; have := SZw8q.out; have := SZw9q.out; have := SZw10q.out; have := SZw11q.out; omega)
  have H53 := Lib.hid (H47.out.trans (hb.mono (by have := SZw1q.out; have := SZw2q.out; have := SZw3q.out; have := SZw4q.out; have := SZw5q.out; have := SZw6q.out; have := SZw7q.out; have := SZw8q.out; have := SZw9q.out; have := SZw10q.out; have := SZw11q.out; omega)))
  clear H47
  have H54 := Lib.hid (H48.out.trans (hb.mono (by have := SZw1q.out; have := SZw2q.out; have := SZw3q.out; have := SZw4q.out; have := SZw5q.out; have := SZw6q.out; have := SZw7q.out; have := SZw8q.out; have := SZw9q.out; have := SZw10q.out; have := SZw11q.out; omega)))
  clear H48
  have H55 := Lib.hid (hm.kept H12.out (by have := SZw1q.out; have := SZw2q.out; have := SZw3q.out; have := SZw4q.out; have := SZw5q.out; have := SZw6q.out; have := SZw7q.out; have := SZw8q.out; have := SZw9q.out; have := SZw10q.out; have := SZw11q.out; omega) H50.out)
  clear H50
  have H56 := Lib.hid (hm.kept H12.out (by have := SZw1q.out; have := SZw2q.out; have := SZw3q.out; have := SZw4q.out; have := SZw5q.out; have := SZw6q.out; have := SZw7q.out; have := SZw8q.out; have := SZw9q.out; have := SZw10q.out; have := SZw11q.out; omega) H51.out)
  clear H51
  have H57 := Lib.hid hp
  clear H49
  have SZw12q := Lib.hid hb.size
  clear hb hp hm
  rw [← HK0.out]
  go_wp2_with fail
  clear H57 H12
  obtain ⟨k1, hk1⟩ : ∃ k1 : Nat, k1 = k0 + z1.length := ⟨_, rfl⟩
  have hk1b : k1 ≤ 2097154 := by omega
  have K1 : decide ((k1 : Int) < 0) = false := by simp
  have HK1 := Lib.hid hk1
  clear hk1
  refine (markWordO_any uw5q z1 hn1 k0 (by omega) w4q.heap.size _ H55.out).mono ?_
  rintro e w13q ⟨rfl, hp, hm⟩
  have hb := hm.below H15.out (by have := SZw1q.out; have := SZw2q.out; have := SZw3q.out; have := SZw4q.out; have := SZw5q.out; have := SZw6q.out; have := SZw7q.out; have := SZw8q.out; have := SZw9q.out; have := SZw10q.out; have := SZw11q.out; have := SZw12q.out; omega)
  have H58 := Lib.hid (H53.out.trans (hb.mono (by have := SZw1q.out; have := SZw2q.out; have := SZw3q.out; have := SZw4q.out; have := SZw5q.out; have := SZw6q.out; have := SZw7q.out; have := SZw8q.out; have := SZw9q.out; have := SZw10q.out; have := SZw11q.out; have := SZw12q.out; omega)))
  clear H53
  have H59 := Lib.hid (H54.out.trans (hb.mono (by have := SZw1q.out; have := SZw2q.out; have := SZw3q.out; have := SZw4q.out; have := SZw5q.out; have := SZw6q.out; have := SZw7q.out; have := SZw8q.out; have := SZw9q.out; have := SZw10q.out; have := SZw11q.out; have := SZw12q.out; omega)))
  clear H54
  have H60 := Lib.hid (hm.kept H15.out (by have := SZw1q.out; have := SZw2q.out; have := SZw3q.out; have := SZw4q.out; have := SZw5q.out; have := SZw6q.out; have := SZw7q.out; have := SZw8q.out; have := SZw9q.out; have := SZw10q.out; have := SZw11q.out; have := SZw12q.out; omega) H56.out)
  clear H56
  have H61 := Lib.hid hp
  clear H55
  have SZw13q := Lib.hid hb.size
  clear hb hp hm
  rw [← HK1.out]
  go_wp2_with fail
  clear H61 H15
  refine (eqWord_any rw6q rw3q ans ans hal hal _ H60.out.ns (H10.out.below H59.out)).mono ?_
  rintro e w14q ⟨rfl, m, hw⟩
  have hb : Below w13q.heap.size w13q w14q := by rw [hw]; exact bdrewN (Below.refl _ _) m
  clear hw
  rw [eqB_refl]
  have H62 := Lib.hid (bchain H58.out hb)
  clear H58
  have H63 := Lib.hid (bchain H59.out hb)
  clear H59
  have H64 := Lib.hid (H60.out.below hb)
  clear H60
  have SZw14q := Lib.hid hb.size
  clear hb
  go_wp2_with fail
  refine (markWordO_any rw6q ans hal 1 (by omega) w5q.heap.size _ H64.out).mono ?_
  rintro e w15q ⟨rfl, hp, hm⟩
  have hb := hm.below H19.out (by have := SZw1q.out; have := SZw2q.out; have := SZw3q.out; have := SZw4q.out; have := SZw5q.out; have := SZw6q.out; have := SZw7q.out; have := SZw8q.out; have := SZw9q.out; have := SZw10q.out; have := SZw11q.out; have := SZw12q.out; have := SZw13q.out; have := SZw14q.out; omega)
  have H65 := Lib.hid (H62.out.trans (hb.mono (by have := SZw1q.out; have := SZw2q.out; have := SZw3q.out; have := SZw4q.out; have := SZw5q.out; have := SZw6q.out; have := SZw7q.out; have := SZw8q.out; have := SZw9q.out; have := SZw10q.out; have := SZw11q.out; have := SZw12q.out; have := SZw13q.out; have := SZw14q.out; omega)))
  clear H62
  have H66 := Lib.hid (H63.out.trans (hb.mono (by have := SZw1q.out; have := SZw2q.out; have := SZw3q.out; have := SZw4q.out; have := SZw5q.out; have := SZw6q.out; have := SZw7q.out; have := SZw8q.out; have := SZw9q.out; have := SZw10q.out; have := SZw11q.out; have := SZw12q.out; have := SZw13q.out; have := SZw14q.out; omega)))
  clear H63
  have H67 := Lib.hid hp
  clear H64
  have SZw15q := Lib.hid hb.size
  clear hb hp hm
  rw [← HQ1.out]
  go_wp2_with fail
  refine (heldWord_any rw6q ans.length hal 1 (by omega) 0 _ H67.out.ns).mono ?_
  rintro e w' ⟨rfl, rfl⟩
  rw [← HQ1.out]
  go_wp2_with fail
  refine (toWord_any _ z0 hn0 _ (HS0.out.below H65.out)).mono ?_
  rintro e w16q ⟨uw16q, rfl, hb, ho⟩
  have H68 := Lib.hid (PO.of_own ho rfl HA0.out)
  have H69 := Lib.hid (bchain H65.out hb)
  clear H65
  have H70 := Lib.hid (bchain H66.out hb)
  clear H66
  have H71 := Lib.hid (H67.out.below hb)
  clear H67
  have SZw16q := Lib.hid hb.size
  clear hb ho
  go_wp2_with fail
  refine (toWord_any _ z1 hn1 _ (HS1.out.below H69.out)).mono ?_
  rintro e w17q ⟨uw17q, rfl, hb, ho⟩
  have H72 := Lib.hid (PO.of_own ho rfl HA1.out)
  have H73 := Lib.hid (bchain H69.out hb)
  clear H69
  have H74 := Lib.hid (bchain H70.out hb)
  clear H70
  have H75 := Lib.hid (H71.out.below hb)
  clear H71
  have H76 := Lib.hid (H68.out.below hb)
  have SZw17q := Lib.hid hb.size
  clear hb ho
  go_wp2_with fail
  refine (impl_PlusWord uw16q uw17q z0 z1  hn0 hn1  _ H76.out.ns H72.out.ns).mono ?_
  rintro e w18q ⟨rw18q, rfl, hp, hb⟩
  rw [← HANS.out] at hp
  rw [← HCD.out]
  have H77 := Lib.hid hp
  clear hp
  have H78 := Lib.hid (bchain H73.out hb)
  clear H73
  have H79 := Lib.hid (bchain H74.out hb)
  clear H74
  have H80 := Lib.hid (H75.out.below hb)
  clear H75
  have H81 := Lib.hid (H76.out.below hb)
  clear H76
  have H82 := Lib.hid (H72.out.below hb)
  have SZw18q := Lib.hid hb.size
  clear hb
  go_wp2_with fail
  clear H81 H68
  clear H82 H72
  refine (eqWord_any rw18q rw3q ans ans hal hal _ H77.out.ns (H10.out.below H79.out)).mono ?_
  rintro e w19q ⟨rfl, m, hw⟩
  have hb : Below w18q.heap.size w18q w19q := by rw [hw]; exact bdrewN (Below.refl _ _) m
  clear hw
  rw [eqB_refl]
  have H83 := Lib.hid (bchain H78.out hb)
  clear H78
  have H84 := Lib.hid (bchain H79.out hb)
  clear H79
  have H85 := Lib.hid (H80.out.below hb)
  clear H80
  have H86 := Lib.hid (H77.out.below hb)
  have SZw19q := Lib.hid hb.size
  clear hb
  go_wp2_with fail
  refine (heldWord_any rw6q ans.length hal 1 (by omega) 0 _ H85.out.ns).mono ?_
  rintro e w' ⟨rfl, rfl⟩
  rw [← HQ1.out]
  go_wp2_with fail
  go_ret
  exact ⟨rfl, H83.out⟩

set_option maxRecDepth 100000 in
theorem lifted (os : Os) (started : os.Started) (H : Type) (enc : TypeId × Value → H) :
    ReturnsInHanded {} Try.checked os 7 .any (Rows.fnExactPlusWordSpec.pre6 enc Try.prog Try.f7 Rows.fnExactPlusWordRow.domain false) (Rows.fnExactPlusWordSpec.post enc Try.prog Try.f7 false true false false) := by
  refine returnsInHanded_of_change (C := Try.checked) own started (by kernel_rfl) Try.func7
    (ChangeSpec.witness6 (enc := enc) (C := Try.checked) false ⟨#[], #[.slice none 0 0, .slice none 0 0], []⟩ 8 (by kernel_rfl) (by kernel_rfl) (by kernel_rfl) (by kernel_rfl)) ?_
  intro W base args ds gs before hval0 hW hcnd _
  have hval : ∀ (j : Nat) t v, Try.f7.params[j]? = some t → args[j]? = some v → Value.okWide Try.prog W .any base t v := hval0
  have hW' := hW
  obtain ⟨p, q, hA0, hV, rfl, hfz, hnd⟩ := hW
  have hA : DataW.TrodAll enc Try.prog W 0 (fun _ => true) true Try.f7.params.toList args.toList ds p := hA0
  rw [Try.params7] at hA hval
  obtain ⟨v0, vs0, d0, ds0, p0, q0, hargs, rfl, rfl, h0, r0⟩ := trodAll_cons hA
  obtain ⟨v1, vs1, d1, ds1, p1, q1, rfl, rfl, rfl, h1, r1⟩ := trodAll_cons r0
  obtain ⟨rfl, rfl, rfl⟩ := trodAll_nil r1
  obtain rfl : args = #[v0, v1] := by cases args; simp_all
  obtain ⟨rfl, rfl⟩ := trodVars_none hV
  obtain ⟨z0, w0, g0⟩ := open_row Try.underlying22 Try.underlying37 (by kernel_rfl) (hval 0 22 v0 rfl rfl) h0
  obtain ⟨a0, ha0⟩ : ∃ y, y = v0 := ⟨_, rfl⟩
  subst ha0
  obtain ⟨z1, w1, g1⟩ := open_row Try.underlying22 Try.underlying37 (by kernel_rfl) (hval 1 22 v1 rfl rfl) h1
  obtain ⟨a1, ha1⟩ : ∃ y, y = v1 := ⟨_, rfl⟩
  subst ha1
  clear hA0 hval0
  simp only [List.append_nil, List.nil_append] at hW'
  refine (walk W a0 z0 a1 z1 w0 w1).mono fun e W' ⟨he, hg⟩ => ?_
  subst he
  exact ⟨_, rfl, law_post rfl rfl hW' hg (fun _ _ _ => (trodAll_cons_mk (shut_bool Try.underlying4 _) trodAll_mk0)) (fun sp hsp => by have t := (trodAll_cons_mk (g0 W' hg sp (fun q hq => hsp q (by simp [hq]))) (trodAll_cons_mk (g1 W' hg sp (fun q hq => hsp q (by simp [hq]))) trodAll_mk0)); simp only [List.append_nil, List.nil_append] at t; exact t) (ok_one (by kernel_rfl) rfl (okWide_bool_mk Try.underlying4 _))⟩

theorem over : Rows.fnExactPlusWordRow.holds Try.pinned (OpenSpec.ofChange Rows.fnExactPlusWordSpec) :=
  OpenClaim.holds_of_wide 7 Try.f7 rfl rfl rfl rfl rfl rfl rfl ⟨rfl, rfl, rfl, rfl, rfl⟩ rfl rfl rfl rfl rfl (by kernel_rfl) Try.func7 (joinedBy 7 Try.f7 Rows.fnExactPlusWordSpec Rows.fnExactPlusWordRow (by kernel_rfl))
    (of_decide_eq_true (by kernel_rfl)) (by unfold Func.isWrapper; first | (rw [if_pos (by decide +kernel)]; kernel_rfl) | (rw [if_neg (by decide +kernel)]; exact ⟨rfl, rfl⟩))
    (fun os started H enc _ => lifted os started H enc)

/-- the statement -/
theorem proved : Rows.FnExactPlusWordSaid :=
  over
end Go.Proofs.Ythhjhfkcgokffaa.fnExactPlusWord
