/-
  The statement Rows.FnExactBezoutOfSaid for every input the law returns true; the walk is ours, the rest is the guide's template at this function's number and types.
  Conditions: none.
-/
import Derived.Test.YtnpadkkjaeblfaaRows
import Derived.WalkKit
import Derived.ProofKit
import Derived.OpenShut
import Derived.Test.YtnpadkkjaeblfaaHead
import Derived.Test.YtnpadkkjaeblfaaOpen










import Derived.Test.YtnpadkkjaeblfaaPvAg
namespace Go.Proofs.Ytnpadkkjaeblfaa.fnExactBezoutOf
open Go.ChangeShapes Go.WideShapes Go.ChangeAt Go.RowKit
set_option linter.unusedVariables false
set_option linter.unusedSimpArgs false

theorem own : ownKnob Try.prog.godebug = none := by kernel_rfl

set_option maxRecDepth 100000 in
set_option maxHeartbeats 1000000 in
theorem walk (w : World) (a0 : Value) (z0 : List Int) (a1 : Value) (z1 : List Int) (w0 : KS .u16 w a0 z0) (w1 : KS .u16 w a1 z1) :
    Calls Try.prog 12 #[a0, a1] w fun e w' => e = .returned (.bool true) ∧ Below w.heap.size w w' := by
  have BF : Below w.heap.size w w := Below.refl _ _
  by_cases hbig0 : 1048576 < z0.length
  · obtain ⟨A, c, rfl, hm, hw, hc⟩ := w0
    have t0 : decide ((1048576 : Int) < (z0.length : Int)) = true := by simp; omega
    clear hc hw
    go_enter Try.func12, Try.ntmps12
    go_wp2_with fail
    go_ret
    exact ⟨rfl, Below.refl _ _⟩
  by_cases hbig1 : 1048576 < z1.length
  · obtain ⟨A, c, rfl, hm, hw, hc⟩ := w1
    have t1 : decide ((1048576 : Int) < (z1.length : Int)) = true := by simp; omega
    obtain ⟨A0, c0, rfl⟩ : ∃ A c, a0 = .slice A z0.length c := by
      obtain ⟨A, c, e, _⟩ := w0
      exact ⟨A, c, e⟩
    have t0 : decide ((1048576 : Int) < (z0.length : Int)) = false := by simp; omega
    clear hc hw
    go_enter Try.func12, Try.ntmps12
    go_wp2_with fail
    go_ret
    exact ⟨rfl, Below.refl _ _⟩
  clear BF
  have hn0 : z0.length ≤ 1048576 := by omega
  have hs0 := ns_of_ks w0
  obtain ⟨A0, c0, rfl, hm0, hw0, hc0⟩ := w0
  have t0 : decide ((1048576 : Int) < (z0.length : Int)) = false := by simp; omega
  clear hc0 hw0 hbig0
  have HA0 := Lib.hid hs0.all
  have HS0 := Lib.hid hs0
  clear hs0
  have hn1 : z1.length ≤ 1048576 := by omega
  have hs1 := ns_of_ks w1
  obtain ⟨A1, c1, rfl, hm1, hw1, hc1⟩ := w1
  have t1 : decide ((1048576 : Int) < (z1.length : Int)) = false := by simp; omega
  clear hc1 hw1 hbig1
  have HA1 := Lib.hid hs1.all
  have HS1 := Lib.hid hs1
  clear hs1
  obtain ⟨ansA, hansA⟩ : ∃ ans, ans = beU z0 z1 := ⟨_, rfl⟩
  have halA : ansA.length ≤ 1048576 := by rw [hansA]; exact Nat.le_trans (be_len _ _).1 (by omega)
  have HANSA := Lib.hid hansA
  clear hansA
  obtain ⟨ansB, hansB⟩ : ∃ ans, ans = beV z0 z1 := ⟨_, rfl⟩
  have halB : ansB.length ≤ 1048576 := by rw [hansB]; exact Nat.le_trans (be_len _ _).2 (by omega)
  have HANSB := Lib.hid hansB
  clear hansB
  obtain ⟨q1, hq1⟩ : ∃ q1 : Nat, q1 = 1 + ansA.length := ⟨_, rfl⟩
  obtain ⟨q2, hq2⟩ : ∃ q2 : Nat, q2 = q1 + ansB.length := ⟨_, rfl⟩
  have hq1b : q1 ≤ 1048577 := by omega
  have Q1 : decide ((q1 : Int) < 0) = false := by simp
  have Q1b : decide ((q2 : Int) < 0) = false := by simp
  have Q2 : ((q2 : Int) != (q2 : Int)) = false := by simp
  have HQ1 := Lib.hid hq1
  have HQ2 := Lib.hid hq2
  clear hq1 hq2
  obtain ⟨cd, hcd⟩ : ∃ cd : Int, cd = okC2 z0 z1 := ⟨_, rfl⟩
  have Q3 : (cd != cd) = false := by simp
  have HCD := Lib.hid hcd
  clear hcd
  go_enter Try.func12, Try.ntmps12
  go_wp2_with fail
  have H0 := Lib.hid (Below.refl w.heap.size w)
  refine (toPoly_any _ z0 hn0 _ (HS0.out.below H0.out)).mono ?_
  rintro e w1q ⟨uw1q, rfl, hb, ho⟩
  have H1 := Lib.hid (PO.of_own ho rfl HA0.out)
  have H2 := Lib.hid (bchain H0.out hb)
  clear H0
  have SZw1q := Lib.hid hb.size
  clear hb ho
  go_wp2_with fail
  refine (toPoly_any _ z1 hn1 _ (HS1.out.below H2.out)).mono ?_
  rintro e w2q ⟨uw2q, rfl, hb, ho⟩
  have H3 := Lib.hid (PO.of_own ho rfl HA1.out)
  have H4 := Lib.hid (bchain H2.out hb)
  clear H2
  have H5 := Lib.hid (H1.out.below hb)
  have SZw2q := Lib.hid hb.size
  clear hb ho
  go_wp2_with fail
  refine (spec_BezoutOf uw1q uw2q z0 z1  hn0 hn1  _ H5.out.nc H3.out.nc).mono ?_
  rintro e w3q ⟨rw3qa, rw3qb, rfl, hpA, hpB, hb⟩
  rw [← HANSA.out] at hpA
  rw [← HANSB.out] at hpB
  rw [← HCD.out]
  have H6 := Lib.hid hpA
  have H7 := Lib.hid hpB
  clear hpA hpB
  have H8 := Lib.hid (bchain H4.out hb)
  clear H4
  have H9 := Lib.hid (H5.out.below hb)
  clear H5
  have H10 := Lib.hid (H3.out.below hb)
  have SZw3q := Lib.hid hb.size
  clear hb
  go_wp2_with fail
  clear H9 H1
  clear H10 H3
  have H11 := Lib.hid (H6.out.ns)
  clear H6
  have H12 := Lib.hid (H7.out.ns)
  clear H7
  have H13 := Lib.hid (Below.refl w3q.heap.size w3q)
  refine (toPoly_any _ z0 hn0 _ (HS0.out.below H8.out)).mono ?_
  rintro e w4q ⟨uw4q, rfl, hb, ho⟩
  have H14 := Lib.hid (PO.of_own ho rfl HA0.out)
  have H15 := Lib.hid (bchain H8.out hb)
  clear H8
  have H16 := Lib.hid (bchain H13.out hb)
  clear H13
  have SZw4q := Lib.hid hb.size
  clear hb ho
  go_wp2_with fail
  refine (toPoly_any _ z1 hn1 _ (HS1.out.below H15.out)).mono ?_
  rintro e w5q ⟨uw5q, rfl, hb, ho⟩
  have H17 := Lib.hid (PO.of_own ho rfl HA1.out)
  have H18 := Lib.hid (bchain H15.out hb)
  clear H15
  have H19 := Lib.hid (bchain H16.out hb)
  clear H16
  have H20 := Lib.hid (H14.out.below hb)
  have SZw5q := Lib.hid hb.size
  clear hb ho
  go_wp2_with fail
  refine (impl_BezoutOf uw4q uw5q z0 z1  hn0 hn1  _ H20.out.nc H17.out.nc).mono ?_
  rintro e w6q ⟨rw6qa, rw6qb, rfl, hpA, hpB, hb, hs⟩
  rw [← HANSA.out] at hpA
  rw [← HANSB.out] at hpB
  rw [← HANSA.out, ← HANSB.out] at hs
  rw [← HCD.out]
  have H21 := Lib.hid hpA
  have H22 := Lib.hid hpB
  clear hpA hpB
  have H23 := Lib.hid hs
  clear hs
  have H24 := Lib.hid (bchain H18.out hb)
  clear H18
  have H25 := Lib.hid (bchain H19.out hb)
  clear H19
  have H26 := Lib.hid (H20.out.below hb)
  clear H20
  have H27 := Lib.hid (H17.out.below hb)
  have SZw6q := Lib.hid hb.size
  clear hb
  go_wp2_with fail
  refine (eqPoly_any rw6qa rw3qa ansA ansA halA halA _ H21.out.ns (H11.out.below H25.out)).mono ?_
  rintro e w7q ⟨rfl, m, hw⟩
  have hb : Below w6q.heap.size w6q w7q := by rw [hw]; exact bdrewN (Below.refl _ _) m
  clear hw
  rw [eqB_refl]
  have H28 := Lib.hid (bchain H24.out hb)
  clear H24
  have H29 := Lib.hid (bchain H25.out hb)
  clear H25
  have H30 := Lib.hid (H26.out.below hb)
  clear H26
  have H31 := Lib.hid (H27.out.below hb)
  clear H27
  have H32 := Lib.hid (H21.out.below hb)
  have H33 := Lib.hid (H22.out.below hb)
  have SZw7q := Lib.hid hb.size
  clear hb
  go_wp2_with fail
  refine (eqPoly_any rw6qb rw3qb ansB ansB halB halB _ H33.out.ns (H12.out.below H29.out)).mono ?_
  rintro e w8q ⟨rfl, m, hw⟩
  have hb : Below w7q.heap.size w7q w8q := by rw [hw]; exact bdrewN (Below.refl _ _) m
  clear hw
  rw [eqB_refl]
  have H34 := Lib.hid (bchain H28.out hb)
  clear H28
  have H35 := Lib.hid (bchain H29.out hb)
  clear H29
  have H36 := Lib.hid (H30.out.below hb)
  clear H30
  have H37 := Lib.hid (H31.out.below hb)
  clear H31
  have H38 := Lib.hid (H32.out.below hb)
  clear H32
  have H39 := Lib.hid (H33.out.below hb)
  clear H33
  have SZw8q := Lib.hid hb.size
  clear hb
  go_wp2_with fail
  refine (toPoly_any _ z0 hn0 _ (HS0.out.below H34.out)).mono ?_
  rintro e w9q ⟨uw9q, rfl, hb, ho⟩
  have H40 := Lib.hid (PO.of_own ho rfl HA0.out)
  have H41 := Lib.hid (bchain H34.out hb)
  clear H34
  have H42 := Lib.hid (bchain H35.out hb)
  clear H35
  have H43 := Lib.hid (H36.out.below hb)
  clear H36
  have H44 := Lib.hid (H37.out.below hb)
  clear H37
  have H45 := Lib.hid (H38.out.below hb)
  clear H38
  have H46 := Lib.hid (H39.out.below hb)
  clear H39
  have SZw9q := Lib.hid hb.size
  clear hb ho
  go_wp2_with fail
  refine (eqPoly_any uw4q uw9q z0 z0 hn0 hn0 _ H43.out.ns H40.out.ns).mono ?_
  rintro e w10q ⟨rfl, m, hw⟩
  have hb : Below w9q.heap.size w9q w10q := by rw [hw]; exact bdrewN (Below.refl _ _) m
  clear hw
  rw [eqB_refl]
  have H47 := Lib.hid (bchain H41.out hb)
  clear H41
  have H48 := Lib.hid (bchain H42.out hb)
  clear H42
  have H49 := Lib.hid (H43.out.below hb)
  clear H43
  have H50 := Lib.hid (H44.out.below hb)
  clear H44
  have H51 := Lib.hid (H45.out.below hb)
  clear H45
  have H52 := Lib.hid (H46.out.below hb)
  clear H46
  have H53 := Lib.hid (H40.out.below hb)
  have SZw10q := Lib.hid hb.size
  clear hb
  go_wp2_with fail
  clear H53 H40
  refine (toPoly_any _ z1 hn1 _ (HS1.out.below H47.out)).mono ?_
  rintro e w11q ⟨uw11q, rfl, hb, ho⟩
  have H54 := Lib.hid (PO.of_own ho rfl HA1.out)
  have H55 := Lib.hid (bchain H47.out hb)
  clear H47
  have H56 := Lib.hid (bchain H48.out hb)
  clear H48
  have H57 := Lib.hid (H49.out.below hb)
  clear H49
  have H58 := Lib.hid (H50.out.below hb)
  clear H50
  have H59 := Lib.hid (H51.out.below hb)
  clear H51
  have H60 := Lib.hid (H52.out.below hb)
  clear H52
  have SZw11q := Lib.hid hb.size
  clear hb ho
  go_wp2_with fail
  refine (eqPoly_any uw5q uw11q z1 z1 hn1 hn1 _ H58.out.ns H54.out.ns).mono ?_
  rintro e w12q ⟨rfl, m, hw⟩
  have hb : Below w11q.heap.size w11q w12q := by rw [hw]; exact bdrewN (Below.refl _ _) m
  clear hw
  rw [eqB_refl]
  have H61 := Lib.hid (bchain H55.out hb)
  clear H55
  have H62 := Lib.hid (bchain H56.out hb)
  clear H56
  have H63 := Lib.hid (H57.out.below hb)
  clear H57
  have H64 := Lib.hid (H58.out.below hb)
  clear H58
  have H65 := Lib.hid (H59.out.below hb)
  clear H59
  have H66 := Lib.hid (H60.out.below hb)
  clear H60
  have H67 := Lib.hid (H54.out.below hb)
  have SZw12q := Lib.hid hb.size
  clear hb
  go_wp2_with fail
  clear H67 H54
  obtain ⟨k0, hk0⟩ : ∃ k0 : Nat, k0 = 1 + z0.length := ⟨_, rfl⟩
  have hk0b : k0 ≤ 1048577 := by omega
  have K0 : decide ((k0 : Int) < 0) = false := by simp
  have HK0 := Lib.hid hk0
  clear hk0
  refine (markPolyO_any uw4q z0 hn0 1 (by omega) w3q.heap.size _ H63.out).mono ?_
  rintro e w13q ⟨rfl, hp, hm⟩
  have hb := hm.below H14.out (by have := SZw1q.out; have := SZw2q.out; have := SZw3q.out; have := SZw4q.out; have := SZw5q.out; have := SZw6q.out; have := SZw7q.out; have := SZw8q.out; have := SZw9q.out; have := SZw10q.out; have := SZw11q.out; have := SZw12q.out; omega)
  have H68 := Lib.hid (H61.out.trans (hb.mono (by have := SZw1q.out; have := SZw2q.out; have := SZw3q.out; have := SZw4q.out; have := SZw5q.out; have := SZw6q.out; have := SZw7q.out; have := SZw8q.out; have := SZw9q.out; have := SZw10q.out; have := SZw11q.out; have := SZw12q.out; omega)))
  clear H61
  have H69 := Lib.hid (H62.out.trans (hb.mono (by have := SZw1q.out; have := SZw2q.out; have := SZw3q.out; have := SZw4q.out; have := SZw5q.out; have := SZw6q.out; have := SZw7q.out; have := SZw8q.out; have := SZw9q.out; have := SZw10q.out; have := SZw11q.out; have := SZw12q.out; omega)))
  clear H62
  have H70 := Lib.hid (hm.kept H14.out (by have := SZw1q.out; have := SZw2q.out; have := SZw3q.out; have := SZw4q.out; have := SZw5q.out; have := SZw6q.out; have := SZw7q.out; have := SZw8q.out; have := SZw9q.out; have := SZw10q.out; have := SZw11q.out; have := SZw12q.out; omega) H64.out)
  clear H64
  have H71 := Lib.hid (hm.kept H14.out (by have := SZw1q.out; have := SZw2q.out; have := SZw3q.out; have := SZw4q.out; have := SZw5q.out; have := SZw6q.out; have := SZw7q.out; have := SZw8q.out; have := SZw9q.out; have := SZw10q.out; have := SZw11q.out; have := SZw12q.out; omega) H65.out)
  clear H65
  have H72 := Lib.hid (hm.kept H14.out (by have := SZw1q.out; have := SZw2q.out; have := SZw3q.out; have := SZw4q.out; have := SZw5q.out; have := SZw6q.out; have := SZw7q.out; have := SZw8q.out; have := SZw9q.out; have := SZw10q.out; have := SZw11q.out; have := SZw12q.out; omega) H66.out)
  clear H66
  have H73 := Lib.hid hp
  clear H63
  have SZw13q := Lib.hid hb.size
  clear hb hp hm
  rw [← HK0.out]
  go_wp2_with fail
  clear H73 H14
  obtain ⟨k1, hk1⟩ : ∃ k1 : Nat, k1 = k0 + z1.length := ⟨_, rfl⟩
  have hk1b : k1 ≤ 2097154 := by omega
  have K1 : decide ((k1 : Int) < 0) = false := by simp
  have HK1 := Lib.hid hk1
  clear hk1
  refine (markPolyO_any uw5q z1 hn1 k0 (by omega) w4q.heap.size _ H70.out).mono ?_
  rintro e w14q ⟨rfl, hp, hm⟩
  have hb := hm.below H17.out (by have := SZw1q.out; have := SZw2q.out; have := SZw3q.out; have := SZw4q.out; have := SZw5q.out; have := SZw6q.out; have := SZw7q.out; have := SZw8q.out; have := SZw9q.out; have := SZw10q.out; have := SZw11q.out; have := SZw12q.out; have := SZw13q.out; omega)
  have H74 := Lib.hid (H68.out.trans (hb.mono (by have := SZw1q.out; have := SZw2q.out; have := SZw3q.out; have := SZw4q.out; have := SZw5q.out; have := SZw6q.out; have := SZw7q.out; have := SZw8q.out; have := SZw9q.out; have := SZw10q.out; have := SZw11q.out; have := SZw12q.out; have := SZw13q.out; omega)))
  clear H68
  have H75 := Lib.hid (H69.out.trans (hb.mono (by have := SZw1q.out; have := SZw2q.out; have := SZw3q.out; have := SZw4q.out; have := SZw5q.out; have := SZw6q.out; have := SZw7q.out; have := SZw8q.out; have := SZw9q.out; have := SZw10q.out; have := SZw11q.out; have := SZw12q.out; have := SZw13q.out; omega)))
  clear H69
  have H76 := Lib.hid (hm.kept H17.out (by have := SZw1q.out; have := SZw2q.out; have := SZw3q.out; have := SZw4q.out; have := SZw5q.out; have := SZw6q.out; have := SZw7q.out; have := SZw8q.out; have := SZw9q.out; have := SZw10q.out; have := SZw11q.out; have := SZw12q.out; have := SZw13q.out; omega) H71.out)
  clear H71
  have H77 := Lib.hid (hm.kept H17.out (by have := SZw1q.out; have := SZw2q.out; have := SZw3q.out; have := SZw4q.out; have := SZw5q.out; have := SZw6q.out; have := SZw7q.out; have := SZw8q.out; have := SZw9q.out; have := SZw10q.out; have := SZw11q.out; have := SZw12q.out; have := SZw13q.out; omega) H72.out)
  clear H72
  have H78 := Lib.hid hp
  clear H70
  have SZw14q := Lib.hid hb.size
  clear hb hp hm
  rw [← HK1.out]
  go_wp2_with fail
  clear H78 H17
  refine (eqPoly_any rw6qa rw3qa ansA ansA halA halA _ H76.out.ns (H11.out.below H75.out)).mono ?_
  rintro e w15q ⟨rfl, m, hw⟩
  have hb : Below w14q.heap.size w14q w15q := by rw [hw]; exact bdrewN (Below.refl _ _) m
  clear hw
  rw [eqB_refl]
  have H79 := Lib.hid (bchain H74.out hb)
  clear H74
  have H80 := Lib.hid (bchain H75.out hb)
  clear H75
  have H81 := Lib.hid (H76.out.below hb)
  clear H76
  have H82 := Lib.hid (H77.out.below hb)
  clear H77
  have SZw15q := Lib.hid hb.size
  clear hb
  go_wp2_with fail
  refine (eqPoly_any rw6qb rw3qb ansB ansB halB halB _ H82.out.ns (H12.out.below H80.out)).mono ?_
  rintro e w16q ⟨rfl, m, hw⟩
  have hb : Below w15q.heap.size w15q w16q := by rw [hw]; exact bdrewN (Below.refl _ _) m
  clear hw
  rw [eqB_refl]
  have H83 := Lib.hid (bchain H79.out hb)
  clear H79
  have H84 := Lib.hid (bchain H80.out hb)
  clear H80
  have H85 := Lib.hid (H81.out.below hb)
  clear H81
  have H86 := Lib.hid (H82.out.below hb)
  clear H82
  have SZw16q := Lib.hid hb.size
  clear hb
  go_wp2_with fail
  refine (markPolyO_any rw6qa ansA halA 1 (by omega) w5q.heap.size _ H85.out).mono ?_
  rintro e w17q ⟨rfl, hp, hm⟩
  have hb := hm.below H21.out (by have := SZw1q.out; have := SZw2q.out; have := SZw3q.out; have := SZw4q.out; have := SZw5q.out; have := SZw6q.out; have := SZw7q.out; have := SZw8q.out; have := SZw9q.out; have := SZw10q.out; have := SZw11q.out; have := SZw12q.out; have := SZw13q.out; have := SZw14q.out; have := SZw15q.out; have := SZw16q.out; omega)
  have H87 := Lib.hid (H83.out.trans (hb.mono (by have := SZw1q.out; have := SZw2q.out; have := SZw3q.out; have := SZw4q.out; have := SZw5q.out; have := SZw6q.out; have := SZw7q.out; have := SZw8q.out; have := SZw9q.out; have := SZw10q.out; have := SZw11q.out; have := SZw12q.out; have := SZw13q.out; have := SZw14q.out; have := SZw15q.out; have := SZw16q.out; omega)))
  clear H83
  have H88 := Lib.hid (H84.out.trans (hb.mono (by have := SZw1q.out; have := SZw2q.out; have := SZw3q.out; have := SZw4q.out; have := SZw5q.out; have := SZw6q.out; have := SZw7q.out; have := SZw8q.out; have := SZw9q.out; have := SZw10q.out; have := SZw11q.out; have := SZw12q.out; have := SZw13q.out; have := SZw14q.out; have := SZw15q.out; have := SZw16q.out; omega)))
  clear H84
  have H89 := Lib.hid (hm.apart (H23.out) H86.out)
  clear H86
  have H90 := Lib.hid hp
  clear H85
  have SZw17q := Lib.hid hb.size
  clear hb hp hm
  rw [← HQ1.out]
  go_wp2_with fail
  refine (markPolyO_any rw6qb ansB halB q1 (by omega) w5q.heap.size _ H89.out).mono ?_
  rintro e w18q ⟨rfl, hp, hm⟩
  have hb := hm.below H22.out (by have := SZw1q.out; have := SZw2q.out; have := SZw3q.out; have := SZw4q.out; have := SZw5q.out; have := SZw6q.out; have := SZw7q.out; have := SZw8q.out; have := SZw9q.out; have := SZw10q.out; have := SZw11q.out; have := SZw12q.out; have := SZw13q.out; have := SZw14q.out; have := SZw15q.out; have := SZw16q.out; have := SZw17q.out; omega)
  have H91 := Lib.hid (H87.out.trans (hb.mono (by have := SZw1q.out; have := SZw2q.out; have := SZw3q.out; have := SZw4q.out; have := SZw5q.out; have := SZw6q.out; have := SZw7q.out; have := SZw8q.out; have := SZw9q.out; have := SZw10q.out; have := SZw11q.out; have := SZw12q.out; have := SZw13q.out; have := SZw14q.out; have := SZw15q.out; have := SZw16q.out; have := SZw17q.out; omega)))
  clear H87
  have H92 := Lib.hid (H88.out.trans (hb.mono (by have := SZw1q.out; have := SZw2q.out; have := SZw3q.out; have := SZw4q.out; have := SZw5q.out; have := SZw6q.out; have := SZw7q.out; have := SZw8q.out; have := SZw9q.out; have := SZw10q.out; have := SZw11q.out; have := SZw12q.out; have := SZw13q.out; have := SZw14q.out; have := SZw15q.out; have := SZw16q.out; have := SZw17q.out; omega)))
  clear H88
  have H93 := Lib.hid (hm.apart (fun h1 h2 k h3 h4 => H23.out (by rw [mark16_len] at h2; exact h2) h1 k h4 h3) H90.out)
  clear H90
  have H94 := Lib.hid hp
  clear H89
  have SZw18q := Lib.hid hb.size
  clear hb hp hm
  rw [← HQ2.out]
  go_wp2_with fail
  refine (heldPoly_any rw6qa ansA.length halA 1 (by omega) 0 _ H93.out.ns).mono ?_
  rintro e w' ⟨rfl, rfl⟩
  rw [← HQ1.out]
  go_wp2_with fail
  refine (heldPoly_any rw6qb ansB.length halB q1 (by omega) 0 _ H94.out.ns).mono ?_
  rintro e w' ⟨rfl, rfl⟩
  rw [← HQ2.out]
  go_wp2_with fail
  refine (toPoly_any _ z0 hn0 _ (HS0.out.below H91.out)).mono ?_
  rintro e w19q ⟨uw19q, rfl, hb, ho⟩
  have H95 := Lib.hid (PO.of_own ho rfl HA0.out)
  have H96 := Lib.hid (bchain H91.out hb)
  clear H91
  have H97 := Lib.hid (bchain H92.out hb)
  clear H92
  have H98 := Lib.hid (H93.out.below hb)
  clear H93
  have H99 := Lib.hid (H94.out.below hb)
  clear H94
  have SZw19q := Lib.hid hb.size
  clear hb ho
  go_wp2_with fail
  refine (toPoly_any _ z1 hn1 _ (HS1.out.below H96.out)).mono ?_
  rintro e w20q ⟨uw20q, rfl, hb, ho⟩
  have H100 := Lib.hid (PO.of_own ho rfl HA1.out)
  have H101 := Lib.hid (bchain H96.out hb)
  clear H96
  have H102 := Lib.hid (bchain H97.out hb)
  clear H97
  have H103 := Lib.hid (H98.out.below hb)
  clear H98
  have H104 := Lib.hid (H99.out.below hb)
  clear H99
  have H105 := Lib.hid (H95.out.below hb)
  have SZw20q := Lib.hid hb.size
  clear hb ho
  go_wp2_with fail
  refine (impl_BezoutOf uw19q uw20q z0 z1  hn0 hn1  _ H105.out.nc H100.out.nc).mono ?_
  rintro e w21q ⟨rw21qa, rw21qb, rfl, hpA, hpB, hb, hs⟩
  rw [← HANSA.out] at hpA
  rw [← HANSB.out] at hpB
  rw [← HANSA.out, ← HANSB.out] at hs
  rw [← HCD.out]
  have H106 := Lib.hid hpA
  have H107 := Lib.hid hpB
  clear hpA hpB
  have H108 := Lib.hid hs
  clear hs
  have H109 := Lib.hid (bchain H101.out hb)
  clear H101
  have H110 := Lib.hid (bchain H102.out hb)
  clear H102
  have H111 := Lib.hid (H103.out.below hb)
  clear H103
  have H112 := Lib.hid (H104.out.below hb)
  clear H104
  have H113 := Lib.hid (H105.out.below hb)
  clear H105
  have H114 := Lib.hid (H100.out.below hb)
  have SZw21q := Lib.hid hb.size
  clear hb
  go_wp2_with fail
  clear H113 H95
  clear H114 H100
  refine (eqPoly_any rw21qa rw3qa ansA ansA halA halA _ H106.out.ns (H11.out.below H110.out)).mono ?_
  rintro e w22q ⟨rfl, m, hw⟩
  have hb : Below w21q.heap.size w21q w22q := by rw [hw]; exact bdrewN (Below.refl _ _) m
  clear hw
  rw [eqB_refl]
  have H115 := Lib.hid (bchain H109.out hb)
  clear H109
  have H116 := Lib.hid (bchain H110.out hb)
  clear H110
  have H117 := Lib.hid (H111.out.below hb)
  clear H111
  have H118 := Lib.hid (H112.out.below hb)
  clear H112
  have H119 := Lib.hid (H106.out.below hb)
  have H120 := Lib.hid (H107.out.below hb)
  have SZw22q := Lib.hid hb.size
  clear hb
  go_wp2_with fail
  refine (eqPoly_any rw21qb rw3qb ansB ansB halB halB _ H120.out.ns (H12.out.below H116.out)).mono ?_
  rintro e w23q ⟨rfl, m, hw⟩
  have hb : Below w22q.heap.size w22q w23q := by rw [hw]; exact bdrewN (Below.refl _ _) m
  clear hw
  rw [eqB_refl]
  have H121 := Lib.hid (bchain H115.out hb)
  clear H115
  have H122 := Lib.hid (bchain H116.out hb)
  clear H116
  have H123 := Lib.hid (H117.out.below hb)
  clear H117
  have H124 := Lib.hid (H118.out.below hb)
  clear H118
  have H125 := Lib.hid (H119.out.below hb)
  clear H119
  have H126 := Lib.hid (H120.out.below hb)
  clear H120
  have SZw23q := Lib.hid hb.size
  clear hb
  go_wp2_with fail
  refine (heldPoly_any rw6qa ansA.length halA 1 (by omega) 0 _ H123.out.ns).mono ?_
  rintro e w' ⟨rfl, rfl⟩
  rw [← HQ1.out]
  go_wp2_with fail
  refine (heldPoly_any rw6qb ansB.length halB q1 (by omega) 0 _ H124.out.ns).mono ?_
  rintro e w' ⟨rfl, rfl⟩
  rw [← HQ2.out]
  go_wp2_with fail
  go_ret
  exact ⟨rfl, H121.out⟩

set_option maxRecDepth 100000 in
theorem lifted (os : Os) (started : os.Started) (H : Type) (enc : TypeId × Value → H) :
    ReturnsInHanded {} Try.checked os 12 .any (Rows.fnExactBezoutOfSpec.pre6 enc Try.prog Try.f12 Rows.fnExactBezoutOfRow.domain false) (Rows.fnExactBezoutOfSpec.post enc Try.prog Try.f12 false true false false) := by
  refine returnsInHanded_of_change (C := Try.checked) own started (by kernel_rfl) Try.func12
    (ChangeSpec.witness6 (enc := enc) (C := Try.checked) false ⟨#[], #[.slice none 0 0, .slice none 0 0], []⟩ 8 (by kernel_rfl) (by kernel_rfl) (by kernel_rfl) (by kernel_rfl)) ?_
  intro W base args ds gs before hval0 hW hcnd _
  have hval : ∀ (j : Nat) t v, Try.f12.params[j]? = some t → args[j]? = some v → Value.okWide Try.prog W .any base t v := hval0
  have hW' := hW
  obtain ⟨p, q, hA0, hV, rfl, hfz, hnd⟩ := hW
  have hA : DataW.TrodAll enc Try.prog W 0 (fun _ => true) true Try.f12.params.toList args.toList ds p := hA0
  rw [Try.params12] at hA hval
  obtain ⟨v0, vs0, d0, ds0, p0, q0, hargs, rfl, rfl, h0, r0⟩ := trodAll_cons hA
  obtain ⟨v1, vs1, d1, ds1, p1, q1, rfl, rfl, rfl, h1, r1⟩ := trodAll_cons r0
  obtain ⟨rfl, rfl, rfl⟩ := trodAll_nil r1
  obtain rfl : args = #[v0, v1] := by cases args; simp_all
  obtain ⟨rfl, rfl⟩ := trodVars_none hV
  obtain ⟨z0, w0, g0⟩ := open_row Try.underlying22 Try.underlying39 (by kernel_rfl) (hval 0 22 v0 rfl rfl) h0
  obtain ⟨a0, ha0⟩ : ∃ y, y = v0 := ⟨_, rfl⟩
  subst ha0
  obtain ⟨z1, w1, g1⟩ := open_row Try.underlying22 Try.underlying39 (by kernel_rfl) (hval 1 22 v1 rfl rfl) h1
  obtain ⟨a1, ha1⟩ : ∃ y, y = v1 := ⟨_, rfl⟩
  subst ha1
  clear hA0 hval0
  simp only [List.append_nil, List.nil_append] at hW'
  refine (walk W a0 z0 a1 z1 w0 w1).mono fun e W' ⟨he, hg⟩ => ?_
  subst he
  exact ⟨_, rfl, law_post rfl rfl hW' hg (fun _ _ _ => (trodAll_cons_mk (shut_bool Try.underlying4 _) trodAll_mk0)) (fun sp hsp => by have t := (trodAll_cons_mk (g0 W' hg sp (fun q hq => hsp q (by simp [hq]))) (trodAll_cons_mk (g1 W' hg sp (fun q hq => hsp q (by simp [hq]))) trodAll_mk0)); simp only [List.append_nil, List.nil_append] at t; exact t) (ok_one (by kernel_rfl) rfl (okWide_bool_mk Try.underlying4 _))⟩

theorem over : Rows.fnExactBezoutOfRow.holds Try.pinned (OpenSpec.ofChange Rows.fnExactBezoutOfSpec) :=
  OpenClaim.holds_of_wide 12 Try.f12 rfl rfl rfl rfl rfl rfl rfl ⟨rfl, rfl, rfl, rfl, rfl⟩ rfl rfl rfl rfl rfl (by kernel_rfl) Try.func12 (joinedBy 12 Try.f12 Rows.fnExactBezoutOfSpec Rows.fnExactBezoutOfRow (by kernel_rfl))
    (of_decide_eq_true (by kernel_rfl)) (by unfold Func.isWrapper; first | (rw [if_pos (by decide +kernel)]; kernel_rfl) | (rw [if_neg (by decide +kernel)]; exact ⟨rfl, rfl⟩))
    (fun os started H enc _ => lifted os started H enc)

/-- the statement -/
theorem proved : Rows.FnExactBezoutOfSaid :=
  over
end Go.Proofs.Ytnpadkkjaeblfaa.fnExactBezoutOf
