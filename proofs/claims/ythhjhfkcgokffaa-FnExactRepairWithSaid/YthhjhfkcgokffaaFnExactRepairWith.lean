/-
  The statement Rows.FnExactRepairWithSaid for every input the law returns true; the walk is ours, the rest is the guide's template at this function's number and types.
  Conditions: none.
-/
import Derived.Test.YthhjhfkcgokffaaRows
import Derived.WalkKit
import Derived.ProofKit
import Derived.OpenShut
import Derived.Test.YthhjhfkcgokffaaHead
import Derived.Test.YthhjhfkcgokffaaOpen










import Derived.Test.YthhjhfkcgokffaaYh
import Derived.Test.YthhjhfkcgokffaaYm
namespace Go.Proofs.Ythhjhfkcgokffaa.fnExactRepairWith
open Go.ChangeShapes Go.WideShapes Go.ChangeAt Go.RowKit
set_option linter.unusedVariables false
set_option linter.unusedSimpArgs false

theorem own : ownKnob Try.prog.godebug = none := by kernel_rfl

set_option maxRecDepth 100000 in
set_option maxHeartbeats 1000000 in
theorem walk (w : World) (a0 : Int) (a1 : Value) (z1 : List (List Int)) (a2 : Value) (z2 : List Int) (a3 : Int) (w0 : (Lit.int .i64 a0).wf = true) (w1 : WL w a1 z1) (w2 : KS .u16 w a2 z2) (w3 : (Lit.int .i64 a3).wf = true) :
    Calls Try.prog 18 #[.int .i64 a0, a1, a2, .int .i64 a3] w fun e w' => e = .returned (.bool true) ∧ Below w.heap.size w w' := by
  have b0 := bounds_i64 w0
  have b3 := bounds_i64 w3
  have HL1 := Lib.hid w1
  clear w1
  by_cases hbig2 : 1048576 < z2.length
  · obtain ⟨A, c, rfl, hm, hw, hc⟩ := w2
    have t2 : decide ((1048576 : Int) < (z2.length : Int)) = true := by simp; omega
    clear hc hw
    go_enter Try.func18, Try.ntmps18
    go_wp2_with fail
    go_ret
    exact ⟨rfl, Below.refl _ _⟩
  have hn2 : z2.length ≤ 1048576 := by omega
  have hs2 := ns_of_ks w2
  obtain ⟨A2, c2, rfl, hm2, hw2, hc2⟩ := w2
  have t2 : decide ((1048576 : Int) < (z2.length : Int)) = false := by simp; omega
  clear hc2 hw2 hbig2
  have HA2 := Lib.hid hs2.all
  have HS2 := Lib.hid hs2
  clear hs2
  by_cases hbig1 : total z1 ≤ 1048576
  case neg =>
    have hz : szV z1 1048576 = .int .i64 (-1) := by unfold szV; rw [if_neg hbig1]
    have HZ := Lib.hid hz
    clear hz
    go_enter Try.func18, Try.ntmps18
    go_wp2_with fail
    refine (szWordS_any a1 z1 1048576 (by omega) _ HL1.out).mono ?_
    rintro e w' ⟨rfl, rfl⟩
    rw [HZ.out]
    go_wp2_with fail
    go_ret
    exact ⟨rfl, Below.refl _ _⟩
  have hz1 : szV z1 1048576 = .int .i64 ((1048576 - total z1 : Nat) : Int) := by unfold szV; rw [if_pos hbig1]
  obtain ⟨y1, hy1⟩ : ∃ y : Nat, y = 1048576 - total z1 := ⟨_, rfl⟩
  rw [← hy1] at hz1
  have hy1b : y1 ≤ 1048576 := by omega
  have TY1 : decide ((y1 : Int) < 0) = false := by simp
  have HZ1 := Lib.hid hz1
  clear hz1 hy1
  have hl1 : z1.length ≤ 1048576 := Nat.le_trans (total_len z1) hbig1
  have HM1 := Lib.hid (fun k (hk : k < z1.length) => Nat.le_trans (total_row z1 k hk) hbig1)
  obtain ⟨ans, hans⟩ : ∃ ans, ans = rpA a0 z1 z2 a3 := ⟨_, rfl⟩
  have hal : ans.length ≤ 1048576 := by rw [hans]; exact rpA_len a0 z1 z2 a3 HM1.out
  obtain ⟨q1, hq1⟩ : ∃ q1 : Nat, q1 = 1 + ans.length := ⟨_, rfl⟩
  have Q1 : decide ((q1 : Int) < 0) = false := by simp
  have Q2 : ((q1 : Int) != (q1 : Int)) = false := by simp
  have HANS := Lib.hid hans
  have HQ1 := Lib.hid hq1
  clear hans hq1
  obtain ⟨vd0, hvd0⟩ : ∃ vd0 : Int, vd0 = rpC a0 z1 z2 a3 := ⟨_, rfl⟩
  have Q40 : (vd0 != vd0) = false := by simp
  have HVD0 := Lib.hid hvd0
  clear hvd0
  go_enter Try.func18, Try.ntmps18
  go_wp2_with fail
  refine (szWordS_any a1 z1 1048576 (by omega) _ HL1.out).mono ?_
  rintro e w' ⟨rfl, hw⟩
  obtain rfl : w = w' := hw.symm
  rw [HZ1.out]
  go_wp2_with fail
  have H0 := Lib.hid (Below.refl w.heap.size w)
  refine (toWordS_any _ z1 (by omega) _ (HL1.out.1.below H0.out)).mono ?_
  rintro e w1q ⟨uw1q, rfl, hb, ho⟩
  have H1 := Lib.hid ho
  have H2 := Lib.hid (bchain H0.out hb)
  clear H0
  have SZw1q := Lib.hid hb.size
  clear hb ho
  go_wp2_with fail
  refine (toWord_any _ z2 hn2 _ (HS2.out.below H2.out)).mono ?_
  rintro e w2q ⟨uw2q, rfl, hb, ho⟩
  have H3 := Lib.hid (PO.of_own ho rfl HA2.out)
  have H4 := Lib.hid (bchain H2.out hb)
  clear H2
  have H5 := Lib.hid (H1.out.below hb)
  have SZw2q := Lib.hid hb.size
  clear hb ho
  go_wp2_with fail
  refine (spec_RepairWith a0 uw1q z1 uw2q z2 a3 b0 hl1 HM1.out hn2 b3 _ H5.out.ws H3.out.ns).mono ?_
  rintro e w3q ⟨rw3q, rfl, hp, hb⟩
  rw [← HANS.out] at hp
  rw [← HVD0.out]
  have H6 := Lib.hid hp
  clear hp
  have H7 := Lib.hid (bchain H4.out hb)
  clear H4
  have H8 := Lib.hid (H5.out.below hb)
  clear H5
  have H9 := Lib.hid (H3.out.below hb)
  have SZw3q := Lib.hid hb.size
  have H10 := Lib.hid (Below.refl w3q.heap.size w3q)
  clear hb
  go_wp2_with fail
  clear H8 H1
  clear H9 H3
  refine (toWordS_any _ z1 (by omega) _ (HL1.out.1.below H7.out)).mono ?_
  rintro e w4q ⟨uw4q, rfl, hb, ho⟩
  have H11 := Lib.hid ho
  have H12 := Lib.hid (bchain H7.out hb)
  clear H7
  have H13 := Lib.hid (bchain H10.out hb)
  clear H10
  have SZw4q := Lib.hid hb.size
  clear hb ho
  go_wp2_with fail
  refine (toWord_any _ z2 hn2 _ (HS2.out.below H12.out)).mono ?_
  rintro e w5q ⟨uw5q, rfl, hb, ho⟩
  have H14 := Lib.hid (PO.of_own ho rfl HA2.out)
  have H15 := Lib.hid (bchain H12.out hb)
  clear H12
  have H16 := Lib.hid (bchain H13.out hb)
  clear H13
  have H17 := Lib.hid (H11.out.below hb)
  have SZw5q := Lib.hid hb.size
  clear hb ho
  go_wp2_with fail
  refine (impl_RepairWith a0 uw4q z1 uw5q z2 a3 b0 hl1 HM1.out hn2 b3 _ H17.out.wc H14.out.ns).mono ?_
  rintro e w6q ⟨rw6q, rfl, hp, hb⟩
  rw [← HANS.out] at hp
  rw [← HVD0.out]
  have H18 := Lib.hid hp
  clear hp
  have H19 := Lib.hid (bchain H15.out hb)
  clear H15
  have H20 := Lib.hid (bchain H16.out hb)
  clear H16
  have H21 := Lib.hid (H17.out.below hb)
  clear H17
  have H22 := Lib.hid (H14.out.below hb)
  have SZw6q := Lib.hid hb.size
  clear hb
  go_wp2_with fail
  refine (eqWord_any rw6q rw3q ans ans hal hal _ (H18.out.ns) (H6.out.below H20.out)).mono ?_
  rintro e w7q ⟨rfl, m, hw⟩
  have hb : Below w6q.heap.size w6q w7q := by rw [hw]; exact bdrewN (Below.refl _ _) m
  clear hw
  rw [eqB_refl]
  have H23 := Lib.hid (bchain H19.out hb)
  clear H19
  have H24 := Lib.hid (bchain H20.out hb)
  clear H20
  have H25 := Lib.hid (H21.out.below hb)
  clear H21
  have H26 := Lib.hid (H22.out.below hb)
  clear H22
  have H27 := Lib.hid (H18.out.below hb)
  have SZw7q := Lib.hid hb.size
  clear hb
  go_wp2_with fail
  refine (toWordS_any _ z1 (by omega) _ (HL1.out.1.below H23.out)).mono ?_
  rintro e w8q ⟨uw8q, rfl, hb, ho⟩
  have H28 := Lib.hid ho
  have H29 := Lib.hid (bchain H23.out hb)
  clear H23
  have H30 := Lib.hid (bchain H24.out hb)
  clear H24
  have H31 := Lib.hid (H25.out.below hb)
  clear H25
  have H32 := Lib.hid (H26.out.below hb)
  clear H26
  have H33 := Lib.hid (H27.out.below hb)
  clear H27
  have SZw8q := Lib.hid hb.size
  clear hb ho
  go_wp2_with fail
  refine (eqWordS_any uw4q uw8q z1 z1 (by omega) (by omega) _ (H31.out.ws) (H28.out.ws)).mono ?_
  rintro e w9q ⟨rfl, m, hw⟩
  have hb : Below w8q.heap.size w8q w9q := by rw [hw]; exact bdrewN (Below.refl _ _) m
  clear hw
  rw [geqB_refl]
  have H34 := Lib.hid (bchain H29.out hb)
  clear H29
  have H35 := Lib.hid (bchain H30.out hb)
  clear H30
  have H36 := Lib.hid (H31.out.below hb)
  clear H31
  have H37 := Lib.hid (H32.out.below hb)
  clear H32
  have H38 := Lib.hid (H33.out.below hb)
  clear H33
  have H39 := Lib.hid (H28.out.below hb)
  have SZw9q := Lib.hid hb.size
  clear hb
  go_wp2_with fail
  clear H39 H28
  refine (toWord_any _ z2 hn2 _ (HS2.out.below H34.out)).mono ?_
  rintro e w10q ⟨uw10q, rfl, hb, ho⟩
  have H40 := Lib.hid (PO.of_own ho rfl HA2.out)
  have H41 := Lib.hid (bchain H34.out hb)
  clear H34
  have H42 := Lib.hid (bchain H35.out hb)
  clear H35
  have H43 := Lib.hid (H36.out.below hb)
  clear H36
  have H44 := Lib.hid (H37.out.below hb)
  clear H37
  have H45 := Lib.hid (H38.out.below hb)
  clear H38
  have SZw10q := Lib.hid hb.size
  clear hb ho
  go_wp2_with fail
  refine (eqWord_any uw5q uw10q z2 z2 hn2 hn2 _ (H44.out.ns) (H40.out.ns)).mono ?_
  rintro e w11q ⟨rfl, m, hw⟩
  have hb : Below w10q.heap.size w10q w11q := by rw [hw]; exact bdrewN (Below.refl _ _) m
  clear hw
  rw [eqB_refl]
  have H46 := Lib.hid (bchain H41.out hb)
  clear H41
  have H47 := Lib.hid (bchain H42.out hb)
  clear H42
  have H48 := Lib.hid (H43.out.below hb)
  clear H43
  have H49 := Lib.hid (H44.out.below hb)
  clear H44
  have H50 := Lib.hid (H45.out.below hb)
  clear H45
  have H51 := Lib.hid (H40.out.below hb)
  have SZw11q := Lib.hid hb.size
  clear hb
  go_wp2_with fail
  clear H51 H40
  obtain ⟨k0, hk0⟩ : ∃ k0 : Nat, k0 = mkEnd 1 z1 := ⟨_, rfl⟩
  have mk0 := mkEnd_le 1 z1
  have hk0b : k0 ≤ 1048577 := by omega
  have K0 : decide ((k0 : Int) < 0) = false := by simp
  have HK0 := Lib.hid hk0
  clear hk0
  refine (markWordS_any uw4q z1 (by omega) 1 (by omega) w3q.heap.size w4q.heap.size _ H48.out).mono ?_
  rintro e w12q ⟨rfl, hp, hm⟩
  have hb := hm.below (Nat.le_refl _) (by have := SZw1q.out; have := SZw2q.out; have := SZw3q.out; have := SZw4q.out; have := SZw5q.out; have := SZw6q.out; have := SZw7q.out; have := SZw8q.out; have := SZw9q.out; have := SZw10q.out; have := SZw11q.out; omega)
  have H52 := Lib.hid (H46.out.trans (hb.mono (by have := SZw1q.out; have := SZw2q.out; have := SZw3q.out; have := SZw4q.out; have := SZw5q.out; have := SZw6q.out; have := SZw7q.out; have := SZw8q.out; have := SZw9q.out; have := SZw10q.out; have := SZw11q.out; omega)))
  clear H46
  have H53 := Lib.hid (H47.out.trans (hb.mono (by have := SZw1q.out; have := SZw2q.out; have := SZw3q.out; have := SZw4q.out; have := SZw5q.out; have := SZw6q.out; have := SZw7q.out; have := SZw8q.out; have := SZw9q.out; have := SZw10q.out; have := SZw11q.out; omega)))
  clear H47
  have H54 := Lib.hid (H49.out.btw_hi hm (by have := SZw1q.out; have := SZw2q.out; have := SZw3q.out; have := SZw4q.out; have := SZw5q.out; have := SZw6q.out; have := SZw7q.out; have := SZw8q.out; have := SZw9q.out; have := SZw10q.out; have := SZw11q.out; omega))
  clear H49
  have H55 := Lib.hid (H50.out.btw_hi hm (by have := SZw1q.out; have := SZw2q.out; have := SZw3q.out; have := SZw4q.out; have := SZw5q.out; have := SZw6q.out; have := SZw7q.out; have := SZw8q.out; have := SZw9q.out; have := SZw10q.out; have := SZw11q.out; omega))
  clear H50
  have H56 := Lib.hid hp
  clear H48
  have SZw12q := Lib.hid hb.size
  clear hb hp hm
  rw [← HK0.out]
  go_wp2_with fail
  clear H56 H11
  obtain ⟨k1, hk1⟩ : ∃ k1 : Nat, k1 = k0 + z2.length := ⟨_, rfl⟩
  have hk1b : k1 ≤ 2097154 := by omega
  have K1 : decide ((k1 : Int) < 0) = false := by simp
  have HK1 := Lib.hid hk1
  clear hk1
  refine (markWordO_any uw5q z2 hn2 k0 (by omega) w4q.heap.size _ H54.out).mono ?_
  rintro e w13q ⟨rfl, hp, hm0⟩
  have hm := btw_of_mk hm0 H14.out
  have hb := hm.below (Nat.le_refl _) (by have := SZw1q.out; have := SZw2q.out; have := SZw3q.out; have := SZw4q.out; have := SZw5q.out; have := SZw6q.out; have := SZw7q.out; have := SZw8q.out; have := SZw9q.out; have := SZw10q.out; have := SZw11q.out; have := SZw12q.out; omega)
  have H57 := Lib.hid (H52.out.trans (hb.mono (by have := SZw1q.out; have := SZw2q.out; have := SZw3q.out; have := SZw4q.out; have := SZw5q.out; have := SZw6q.out; have := SZw7q.out; have := SZw8q.out; have := SZw9q.out; have := SZw10q.out; have := SZw11q.out; have := SZw12q.out; omega)))
  clear H52
  have H58 := Lib.hid (H53.out.trans (hb.mono (by have := SZw1q.out; have := SZw2q.out; have := SZw3q.out; have := SZw4q.out; have := SZw5q.out; have := SZw6q.out; have := SZw7q.out; have := SZw8q.out; have := SZw9q.out; have := SZw10q.out; have := SZw11q.out; have := SZw12q.out; omega)))
  clear H53
  have H59 := Lib.hid (H55.out.btw_hi hm (by have := SZw1q.out; have := SZw2q.out; have := SZw3q.out; have := SZw4q.out; have := SZw5q.out; have := SZw6q.out; have := SZw7q.out; have := SZw8q.out; have := SZw9q.out; have := SZw10q.out; have := SZw11q.out; have := SZw12q.out; omega))
  clear H55
  have H60 := Lib.hid hp
  clear H54
  have SZw13q := Lib.hid hb.size
  clear hb hp hm hm0
  rw [← HK1.out]
  go_wp2_with fail
  clear H60 H14
  refine (eqWord_any rw6q rw3q ans ans hal hal _ (H59.out.ns) (H6.out.below H58.out)).mono ?_
  rintro e w14q ⟨rfl, m, hw⟩
  have hb : Below w13q.heap.size w13q w14q := by rw [hw]; exact bdrewN (Below.refl _ _) m
  clear hw
  rw [eqB_refl]
  have H61 := Lib.hid (bchain H57.out hb)
  clear H57
  have H62 := Lib.hid (bchain H58.out hb)
  clear H58
  have H63 := Lib.hid (H59.out.below hb)
  clear H59
  have SZw14q := Lib.hid hb.size
  clear hb
  go_wp2_with fail
  refine (markWordO_any rw6q ans hal 1 (by omega) w5q.heap.size _ H63.out).mono ?_
  rintro e w15q ⟨rfl, hp, hm0⟩
  have hm := btw_of_mk hm0 H18.out
  have hb := hm.below (Nat.le_refl _) (by have := SZw1q.out; have := SZw2q.out; have := SZw3q.out; have := SZw4q.out; have := SZw5q.out; have := SZw6q.out; have := SZw7q.out; have := SZw8q.out; have := SZw9q.out; have := SZw10q.out; have := SZw11q.out; have := SZw12q.out; have := SZw13q.out; have := SZw14q.out; omega)
  have H64 := Lib.hid (H61.out.trans (hb.mono (by have := SZw1q.out; have := SZw2q.out; have := SZw3q.out; have := SZw4q.out; have := SZw5q.out; have := SZw6q.out; have := SZw7q.out; have := SZw8q.out; have := SZw9q.out; have := SZw10q.out; have := SZw11q.out; have := SZw12q.out; have := SZw13q.out; have := SZw14q.out; omega)))
  clear H61
  have H65 := Lib.hid (H62.out.trans (hb.mono (by have := SZw1q.out; have := SZw2q.out; have := SZw3q.out; have := SZw4q.out; have := SZw5q.out; have := SZw6q.out; have := SZw7q.out; have := SZw8q.out; have := SZw9q.out; have := SZw10q.out; have := SZw11q.out; have := SZw12q.out; have := SZw13q.out; have := SZw14q.out; omega)))
  clear H62
  have H66 := Lib.hid hp
  clear H63
  have SZw15q := Lib.hid hb.size
  clear hb hp hm hm0
  rw [← HQ1.out]
  go_wp2_with fail
  refine (heldWord_any rw6q ans.length hal 1 (by omega) 0 _ H66.out.ns).mono ?_
  rintro e w' ⟨rfl, rfl⟩
  rw [← HQ1.out]
  go_wp2_with fail
  refine (toWordS_any _ z1 (by omega) _ (HL1.out.1.below H64.out)).mono ?_
  rintro e w16q ⟨uw16q, rfl, hb, ho⟩
  have H67 := Lib.hid ho
  have H68 := Lib.hid (bchain H64.out hb)
  clear H64
  have H69 := Lib.hid (bchain H65.out hb)
  clear H65
  have H70 := Lib.hid (H66.out.below hb)
  clear H66
  have SZw16q := Lib.hid hb.size
  clear hb ho
  go_wp2_with fail
  refine (toWord_any _ z2 hn2 _ (HS2.out.below H68.out)).mono ?_
  rintro e w17q ⟨uw17q, rfl, hb, ho⟩
  have H71 := Lib.hid (PO.of_own ho rfl HA2.out)
  have H72 := Lib.hid (bchain H68.out hb)
  clear H68
  have H73 := Lib.hid (bchain H69.out hb)
  clear H69
  have H74 := Lib.hid (H70.out.below hb)
  clear H70
  have H75 := Lib.hid (H67.out.below hb)
  have SZw17q := Lib.hid hb.size
  clear hb ho
  go_wp2_with fail
  refine (impl_RepairWith a0 uw16q z1 uw17q z2 a3 b0 hl1 HM1.out hn2 b3 _ H75.out.wc H71.out.ns).mono ?_
  rintro e w18q ⟨rw18q, rfl, hp, hb⟩
  rw [← HANS.out] at hp
  rw [← HVD0.out]
  have H76 := Lib.hid hp
  clear hp
  have H77 := Lib.hid (bchain H72.out hb)
  clear H72
  have H78 := Lib.hid (bchain H73.out hb)
  clear H73
  have H79 := Lib.hid (H74.out.below hb)
  clear H74
  have H80 := Lib.hid (H75.out.below hb)
  clear H75
  have H81 := Lib.hid (H71.out.below hb)
  have SZw18q := Lib.hid hb.size
  clear hb
  go_wp2_with fail
  clear H80 H67
  clear H81 H71
  refine (eqWord_any rw18q rw3q ans ans hal hal _ (H76.out.ns) (H6.out.below H78.out)).mono ?_
  rintro e w19q ⟨rfl, m, hw⟩
  have hb : Below w18q.heap.size w18q w19q := by rw [hw]; exact bdrewN (Below.refl _ _) m
  clear hw
  rw [eqB_refl]
  have H82 := Lib.hid (bchain H77.out hb)
  clear H77
  have H83 := Lib.hid (bchain H78.out hb)
  clear H78
  have H84 := Lib.hid (H79.out.below hb)
  clear H79
  have H85 := Lib.hid (H76.out.below hb)
  have SZw19q := Lib.hid hb.size
  clear hb
  go_wp2_with fail
  refine (heldWord_any rw6q ans.length hal 1 (by omega) 0 _ H84.out.ns).mono ?_
  rintro e w' ⟨rfl, rfl⟩
  rw [← HQ1.out]
  go_wp2_with fail
  go_ret
  exact ⟨rfl, H82.out⟩

set_option maxRecDepth 100000 in
theorem lifted (os : Os) (started : os.Started) (H : Type) (enc : TypeId × Value → H) :
    ReturnsInHanded {} Try.checked os 18 .any (Rows.fnExactRepairWithSpec.pre6 enc Try.prog Try.f18 Rows.fnExactRepairWithRow.domain false) (Rows.fnExactRepairWithSpec.post enc Try.prog Try.f18 false true false false) := by
  refine returnsInHanded_of_change (C := Try.checked) own started (by kernel_rfl) Try.func18
    (ChangeSpec.witness6 (enc := enc) (C := Try.checked) false ⟨#[], #[.int .i64 0, .slice none 0 0, .slice none 0 0, .int .i64 0], []⟩ 8 (by kernel_rfl) (by kernel_rfl) (by kernel_rfl) (by kernel_rfl)) ?_
  intro W base args ds gs before hval0 hW hcnd _
  have hval : ∀ (j : Nat) t v, Try.f18.params[j]? = some t → args[j]? = some v → Value.okWide Try.prog W .any base t v := hval0
  have hW' := hW
  obtain ⟨p, q, hA0, hV, rfl, hfz, hnd⟩ := hW
  have hA : DataW.TrodAll enc Try.prog W 0 (fun _ => true) true Try.f18.params.toList args.toList ds p := hA0
  rw [Try.params18] at hA hval
  obtain ⟨v0, vs0, d0, ds0, p0, q0, hargs, rfl, rfl, h0, r0⟩ := trodAll_cons hA
  obtain ⟨v1, vs1, d1, ds1, p1, q1, rfl, rfl, rfl, h1, r1⟩ := trodAll_cons r0
  obtain ⟨v2, vs2, d2, ds2, p2, q2, rfl, rfl, rfl, h2, r2⟩ := trodAll_cons r1
  obtain ⟨v3, vs3, d3, ds3, p3, q3, rfl, rfl, rfl, h3, r3⟩ := trodAll_cons r2
  obtain ⟨rfl, rfl, rfl⟩ := trodAll_nil r3
  obtain rfl : args = #[v0, v1, v2, v3] := by cases args; simp_all
  obtain ⟨rfl, rfl⟩ := trodVars_none hV
  obtain ⟨a0, rfl, rfl, rfl, w0⟩ := open_int Try.underlying2 (hval 0 2 v0 rfl rfl) h0
  obtain ⟨z1, w1, g1⟩ := open_words (P := Try.prog) (by kernel_rfl) (by kernel_rfl) (of_decide_eq_true (by kernel_rfl)) Try.underlying49 Try.underlying22 Try.underlying37 (by kernel_rfl) (by kernel_rfl) (hval 1 49 v1 rfl rfl) h1 (fun x hx => hW'.lt x (by simp [hx]))
  obtain ⟨a1, ha1⟩ : ∃ y, y = v1 := ⟨_, rfl⟩
  subst ha1
  obtain ⟨z2, w2, g2⟩ := open_row Try.underlying22 Try.underlying37 (by kernel_rfl) (hval 2 22 v2 rfl rfl) h2
  obtain ⟨a2, ha2⟩ : ∃ y, y = v2 := ⟨_, rfl⟩
  subst ha2
  obtain ⟨a3, rfl, rfl, rfl, w3⟩ := open_int Try.underlying2 (hval 3 2 v3 rfl rfl) h3
  clear hA0 hval0
  simp only [List.append_nil, List.nil_append] at hW'
  refine (walk W a0 a1 z1 a2 z2 a3 w0 w1 w2 w3).mono fun e W' ⟨he, hg⟩ => ?_
  subst he
  exact ⟨_, rfl, law_post rfl rfl hW' hg (fun _ _ _ => (trodAll_cons_mk (shut_bool Try.underlying4 _) trodAll_mk0)) (fun sp hsp => by have t := (trodAll_cons_mk (shut_int Try.underlying2 w0) (trodAll_cons_mk (g1 W' hg sp (fun q hq => hsp q (by simp [hq]))) (trodAll_cons_mk (g2 W' hg sp (fun q hq => hsp q (by simp [hq]))) (trodAll_cons_mk (shut_int Try.underlying2 w3) trodAll_mk0)))); simp only [List.append_nil, List.nil_append] at t; exact t) (ok_one (by kernel_rfl) rfl (okWide_bool_mk Try.underlying4 _))⟩

theorem over : Rows.fnExactRepairWithRow.holds Try.pinned (OpenSpec.ofChange Rows.fnExactRepairWithSpec) :=
  OpenClaim.holds_of_wide 18 Try.f18 rfl rfl rfl rfl rfl rfl rfl ⟨rfl, rfl, rfl, rfl, rfl⟩ rfl rfl rfl rfl rfl (by kernel_rfl) Try.func18 (joinedBy 18 Try.f18 Rows.fnExactRepairWithSpec Rows.fnExactRepairWithRow (by kernel_rfl))
    (of_decide_eq_true (by kernel_rfl)) (by unfold Func.isWrapper; first | (rw [if_pos (by decide +kernel)]; kernel_rfl) | (rw [if_neg (by decide +kernel)]; exact ⟨rfl, rfl⟩))
    (fun os started H enc _ => lifted os started H enc)

/-- the statement -/
theorem proved : Rows.FnExactRepairWithSaid :=
  over
end Go.Proofs.Ythhjhfkcgokffaa.fnExactRepairWith
