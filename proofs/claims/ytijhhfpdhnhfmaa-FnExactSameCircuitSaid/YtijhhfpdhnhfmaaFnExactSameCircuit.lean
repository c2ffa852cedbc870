/-
  The statement Rows.FnExactSameCircuitSaid for every input the law returns true; the walk is ours, the rest is the guide's template at this function's number and types.
  Conditions: none.
-/
import Derived.Test.YtijhhfpdhnhfmaaRows
import Derived.WalkKit
import Derived.ProofKit
import Derived.OpenShut
import Derived.Test.YtijhhfpdhnhfmaaHead
import Derived.Test.YtijhhfpdhnhfmaaOpen










import Derived.Test.YtijhhfpdhnhfmaaCs
import Derived.Deep.RegionHeld
namespace Go.Proofs.Ytijhhfpdhnhfmaa.fnExactSameCircuit
open Go.ChangeShapes Go.WideShapes Go.ChangeAt Go.RowKit
set_option linter.unusedVariables false
set_option linter.unusedSimpArgs false

theorem own : ownKnob Try.prog.godebug = none := by kernel_rfl

set_option maxRecDepth 100000 in
set_option maxHeartbeats 10000000 in
theorem walk (w : World) (a0 : Value) (N0 : Int) (G0 : List G3) (O0 : List Int) (a1 : Value) (N1 : Int) (G1 : List G3) (O1 : List Int) (w0 : CI w a0 N0 G0 O0) (w1 : CI w a1 N1 G1 O1) :
    Calls Try.prog 4 #[a0, a1] w fun e w' => e = .returned (.bool true) ∧ Below w.heap.size w w' := by
  obtain ⟨GV0, OV0, rfl, hn0, hg0, ho0⟩ := w0
  have HL0 := Lib.hid (And.intro hg0.long ho0.long)
  obtain ⟨A0, c0, rfl⟩ := hg0.form
  obtain ⟨B0, d0, rfl⟩ := ho0.form
  have HC0 := Lib.hid (show CI w (.agg #[.int .i8 N0, .slice A0 G0.length c0, .slice B0 O0.length d0]) N0 G0 O0 from ⟨_, _, rfl, hn0, hg0, ho0⟩)
  clear hg0 ho0
  obtain ⟨GV1, OV1, rfl, hn1, hg1, ho1⟩ := w1
  have HL1 := Lib.hid (And.intro hg1.long ho1.long)
  obtain ⟨A1, c1, rfl⟩ := hg1.form
  obtain ⟨B1, d1, rfl⟩ := ho1.form
  have HC1 := Lib.hid (show CI w (.agg #[.int .i8 N1, .slice A1 G1.length c1, .slice B1 O1.length d1]) N1 G1 O1 from ⟨_, _, rfl, hn1, hg1, ho1⟩)
  clear hg1 ho1
  obtain ⟨vd0, hvd0⟩ : ∃ vd0 : Bool, vd0 = sameB N0 G0 O0 N1 G1 O1 := ⟨_, rfl⟩
  have Q40 : (vd0 != vd0) = false := by simp
  have HVD0 := Lib.hid hvd0
  clear hvd0
  go_enter Try.func4, Try.ntmps4
  go_wp2_with fail
  obtain ⟨z1, z4, z2, z3⟩ := nw2 w (.cells #[.int .i8 N0, .slice A0 G0.length c0, .slice B0 O0.length d0] 26) (.cells #[.int .i8 N1, .slice A1 G1.length c1, .slice B1 O1.length d1] 26)
  generalize World.alloc (World.alloc w _) _ = w1 at z1 z2 z3 z4 ⊢
  have HX0 : Hid (BX w1 w.heap.size (.int .i8 N0) (.slice A0 G0.length c0) (.slice B0 O0.length d0)) := Lib.hid ⟨_, z1⟩
  have HX1 : Hid (BX w1 (w.heap.size + 1) (.int .i8 N1) (.slice A1 G1.length c1) (.slice B1 O1.length d1)) := Lib.hid ⟨_, z4⟩
  have HB := Lib.hid z2
  clear z1 z2 z3 z4
  by_cases big0 : G0.length + O0.length ≤ 1048576
  rotate_left
  · refine (szCircuit_any N0 _ _ _ _ HL0.out.1 HL0.out.2 1048576 (by omega) _ ⟨_, _, rfl⟩ ⟨_, _, rfl⟩).mono ?_
    rintro e w2 ⟨rfl, hb⟩
    rw [show szC G0.length O0.length 1048576 = .int .i64 (-1) from by unfold szC; rw [if_neg big0]]
    replace HB := Lib.hid (HB.out.trans (hb.mono HB.out.size))
    clear hb
    have m0 := HX0.out
    have m1 := HX1.out
    go_wp2_with fail
    go_ret
    exact ⟨rfl, HB.out⟩
  refine (szCircuit_any N0 _ _ _ _ HL0.out.1 HL0.out.2 1048576 (by omega) _ ⟨_, _, rfl⟩ ⟨_, _, rfl⟩).mono ?_
  rintro e w2 ⟨rfl, hb⟩
  obtain ⟨y0, hy0⟩ : ∃ y0 : Nat, y0 = 1048576 - (G0.length + O0.length) := ⟨_, rfl⟩
  rw [show szC G0.length O0.length 1048576 = .int .i64 (y0 : Int) from by unfold szC; rw [if_pos big0, hy0]]
  have ty0 : decide ((y0 : Int) < 0) = false := by simp
  have ly0 : y0 ≤ 1048576 := by omega
  have hs0 : G0.length + O0.length ≤ 1048576 := by omega
  clear hy0 big0
  have hbB := Lib.hid (hb)
  clear hb
  replace HX0 := Lib.hid (HX0.out.below hbB.out)
  replace HX1 := Lib.hid (HX1.out.below hbB.out)
  replace HB := Lib.hid (HB.out.trans (hbB.out.mono HB.out.size))
  clear hbB
  have k00 := HX0.out.c0
  have k01 := HX0.out.c1
  have k02 := HX0.out.c2
  have k10 := HX1.out.c0
  have k11 := HX1.out.c1
  have k12 := HX1.out.c2
  go_wp2_with fail
  clear k00 k01 k02 k10 k11 k12
  by_cases big1 : G1.length + O1.length ≤ y0
  rotate_left
  · refine (szCircuit_any N1 _ _ _ _ HL1.out.1 HL1.out.2 y0 (by omega) _ ⟨_, _, rfl⟩ ⟨_, _, rfl⟩).mono ?_
    rintro e w3 ⟨rfl, hb⟩
    rw [show szC G1.length O1.length y0 = .int .i64 (-1) from by unfold szC; rw [if_neg big1]]
    replace HB := Lib.hid (HB.out.trans (hb.mono HB.out.size))
    clear hb
    have m0 := HX0.out
    have m1 := HX1.out
    go_wp2_with fail
    go_ret
    exact ⟨rfl, HB.out⟩
  refine (szCircuit_any N1 _ _ _ _ HL1.out.1 HL1.out.2 y0 (by omega) _ ⟨_, _, rfl⟩ ⟨_, _, rfl⟩).mono ?_
  rintro e w3 ⟨rfl, hb⟩
  obtain ⟨y1, hy1⟩ : ∃ y1 : Nat, y1 = y0 - (G1.length + O1.length) := ⟨_, rfl⟩
  rw [show szC G1.length O1.length y0 = .int .i64 (y1 : Int) from by unfold szC; rw [if_pos big1, hy1]]
  have ty1 : decide ((y1 : Int) < 0) = false := by simp
  have ly1 : y1 ≤ 1048576 := by omega
  have hs1 : G1.length + O1.length ≤ 1048576 := by omega
  clear hy1 big1
  have hbB := Lib.hid (hb)
  clear hb
  replace HX0 := Lib.hid (HX0.out.below hbB.out)
  replace HX1 := Lib.hid (HX1.out.below hbB.out)
  replace HB := Lib.hid (HB.out.trans (hbB.out.mono HB.out.size))
  clear hbB
  have k00 := HX0.out.c0
  have k01 := HX0.out.c1
  have k02 := HX0.out.c2
  have k10 := HX1.out.c0
  have k11 := HX1.out.c1
  have k12 := HX1.out.c2
  go_wp2_with fail
  clear k00 k01 k02 k10 k11 k12
  have k00 := HX0.out.c0
  have k01 := HX0.out.c1
  have k02 := HX0.out.c2
  have k10 := HX1.out.c0
  have k11 := HX1.out.c1
  have k12 := HX1.out.c2
  go_upto_region 8 with fail
  have KX := Lib.hid (fun (W : World) (hW : Below w3.heap.size w3 W) => And.intro (HX0.out.below hW) (HX1.out.below hW))
  have HT0 := Lib.hid (fun (W : World) (hW : Below w3.heap.size w3 W) => toCircuit_any _ N0 G0 O0 hs0 W (HC0.out.below (HB.out.trans (hW.mono HB.out.size))))
  have HT1 := Lib.hid (fun (W : World) (hW : Below w3.heap.size w3 W) => toCircuit_any _ N1 G1 O1 hs1 W (HC1.out.below (HB.out.trans (hW.mono HB.out.size))))
  go_region_held (fun W => W.cell? ⟨w.heap.size, 0, none⟩ = some (.int .i8 N0) ∧ W.cell? ⟨w.heap.size, 1, none⟩ = some (.slice A0 G0.length c0) ∧ W.cell? ⟨w.heap.size, 2, none⟩ = some (.slice B0 O0.length d0) ∧ W.cell? ⟨w.heap.size + 1, 0, none⟩ = some (.int .i8 N1) ∧ W.cell? ⟨w.heap.size + 1, 1, none⟩ = some (.slice A1 G1.length c1) ∧ W.cell? ⟨w.heap.size + 1, 2, none⟩ = some (.slice B1 O1.length d1) ∧ Hid (Below w3.heap.size w3 W)) (first | exact keep6 (KX.out _ HKC.out).1 (KX.out _ HKC.out).2 HKC | exact keep6 (KX.out _ HKB.out).1 (KX.out _ HKB.out).2 HKB | exact keep6 (KX.out _ HKA.out).1 (KX.out _ HKA.out).2 HKA | exact keep6 (KX.out _ (bdrew1 w3)).1 (KX.out _ (bdrew1 w3)).2 (Lib.hid (bdrew1 w3))) (first | (go_at_call 10; have hkb := HKAB.out; refine (spec_SameCircuit uA N0 G0 O0 uB N1 G1 O1   hs0 _ (HOA.out.below hkb).ci HOB.out.ci).mono ?_; rintro e wC ⟨rfl, hbC⟩; rw [← HVD0.out]; have HKC := Lib.hid (HKB.out.trans (hbC.mono HKB.out.size)); clear hbC hkb) | (go_at_call 7; have hka := HKA.out; refine (HT1.out _ hka).mono ?_; rintro e wB ⟨uB, rfl, hbB, hoB⟩; have HKB := Lib.hid (hka.trans (hbB.mono hka.size)); have HKAB := Lib.hid hbB; have HOB := Lib.hid hoB; clear hbB hoB hka) | (go_at_call 7; refine (HT0.out _ (bdrew1 w3)).mono ?_; rintro e wA ⟨uA, rfl, hbA, hoA⟩; have HKA := Lib.hid ((bdrew1 w3).trans (hbA.mono (Nat.le_refl _))); have HOA := Lib.hid hoA; clear hbA hoA))
  clear k00 k01 k02 k10 k11 k12
  replace HB := Lib.hid (HB.out.trans (HKC.out.mono HB.out.size))
  replace HX0 := Lib.hid (HX0.out.below HKC.out)
  replace HX1 := Lib.hid (HX1.out.below HKC.out)
  clear HKA HKB HKC HKAB HOA HOB KX HT0 HT1
  have k00 := HX0.out.c0
  have k01 := HX0.out.c1
  have k02 := HX0.out.c2
  have k10 := HX1.out.c0
  have k11 := HX1.out.c1
  have k12 := HX1.out.c2
  go_wp2_with fail
  clear k00 k01 k02 k10 k11 k12
  refine (toCircuit_any _ N0 G0 O0 hs0 _ (HC0.out.below HB.out)).mono ?_
  rintro e w4 ⟨uw4, rfl, hb, ho⟩
  have Huw4 := Lib.hid ho
  clear ho
  have hbB := Lib.hid (hb)
  clear hb
  replace HX0 := Lib.hid (HX0.out.below hbB.out)
  replace HX1 := Lib.hid (HX1.out.below hbB.out)
  replace HB := Lib.hid (HB.out.trans (hbB.out.mono HB.out.size))
  clear hbB
  have HIuw4 := Lib.hid Huw4.out.ci
  obtain ⟨gv0, ov0, e0, _, fg0, fo0⟩ := Huw4.out.ci
  obtain ⟨ga0, gb0, rfl⟩ := fg0.form
  obtain ⟨oa0, ob0, rfl⟩ := fo0.form
  subst e0
  clear fg0 fo0 HIuw4
  have qx := HX1.out.below (nw1 w4 (.cells #[.int .i8 N0, .slice ga0 G0.length gb0, .slice oa0 O0.length ob0] 31)).2.1
  have qx0 := qx.c0; have qx1 := qx.c1; have qx2 := qx.c2
  clear qx
  have k00 := HX0.out.c0
  have k01 := HX0.out.c1
  have k02 := HX0.out.c2
  have k10 := HX1.out.c0
  have k11 := HX1.out.c1
  have k12 := HX1.out.c2
  go_wp2_with fail
  clear k00 k01 k02 k10 k11 k12
  clear qx0 qx1 qx2
  obtain ⟨z1, z2, z3⟩ := nw1 w4 (.cells #[.int .i8 N0, .slice ga0 G0.length gb0, .slice oa0 O0.length ob0] 31)
  generalize World.alloc w4 _ = w5 at z1 z2 z3 ⊢
  have XV0 : Hid (BX w5 w4.heap.size (.int .i8 N0) (.slice ga0 G0.length gb0) (.slice oa0 O0.length ob0)) := Lib.hid ⟨_, z1⟩
  clear z1 z3
  have hbB := Lib.hid (z2)
  clear z2
  replace HX0 := Lib.hid (HX0.out.below hbB.out)
  replace HX1 := Lib.hid (HX1.out.below hbB.out)
  replace Huw4 := Lib.hid (Huw4.out.below hbB.out)
  replace HB := Lib.hid (HB.out.trans (hbB.out.mono HB.out.size))
  clear hbB
  refine (toCircuit_any _ N1 G1 O1 hs1 _ (HC1.out.below HB.out)).mono ?_
  rintro e w6 ⟨uw6, rfl, hb, ho⟩
  have Huw6 := Lib.hid ho
  clear ho
  have hbB := Lib.hid (hb)
  clear hb
  replace HX0 := Lib.hid (HX0.out.below hbB.out)
  replace HX1 := Lib.hid (HX1.out.below hbB.out)
  replace Huw4 := Lib.hid (Huw4.out.below hbB.out)
  replace XV0 := Lib.hid (XV0.out.below hbB.out)
  replace HB := Lib.hid (HB.out.trans (hbB.out.mono HB.out.size))
  clear hbB
  have HIuw6 := Lib.hid Huw6.out.ci
  obtain ⟨gv1, ov1, e1, _, fg1, fo1⟩ := Huw6.out.ci
  obtain ⟨ga1, gb1, rfl⟩ := fg1.form
  obtain ⟨oa1, ob1, rfl⟩ := fo1.form
  subst e1
  clear fg1 fo1 HIuw6
  have qx := XV0.out.below (nw1 w6 (.cells #[.int .i8 N1, .slice ga1 G1.length gb1, .slice oa1 O1.length ob1] 31)).2.1
  have qx0 := qx.c0; have qx1 := qx.c1; have qx2 := qx.c2
  clear qx
  have k00 := HX0.out.c0
  have k01 := HX0.out.c1
  have k02 := HX0.out.c2
  have k10 := HX1.out.c0
  have k11 := HX1.out.c1
  have k12 := HX1.out.c2
  have XV00 := XV0.out.c0
  have XV01 := XV0.out.c1
  have XV02 := XV0.out.c2
  go_wp2_with fail
  clear k00 k01 k02 k10 k11 k12 XV00 XV01 XV02
  clear qx0 qx1 qx2
  obtain ⟨z1, z2, z3⟩ := nw1 w6 (.cells #[.int .i8 N1, .slice ga1 G1.length gb1, .slice oa1 O1.length ob1] 31)
  generalize World.alloc w6 _ = w7 at z1 z2 z3 ⊢
  have XV1 : Hid (BX w7 w6.heap.size (.int .i8 N1) (.slice ga1 G1.length gb1) (.slice oa1 O1.length ob1)) := Lib.hid ⟨_, z1⟩
  clear z1 z3
  have hbB := Lib.hid (z2)
  clear z2
  replace HX0 := Lib.hid (HX0.out.below hbB.out)
  replace HX1 := Lib.hid (HX1.out.below hbB.out)
  replace Huw4 := Lib.hid (Huw4.out.below hbB.out)
  replace XV0 := Lib.hid (XV0.out.below hbB.out)
  replace Huw6 := Lib.hid (Huw6.out.below hbB.out)
  replace HB := Lib.hid (HB.out.trans (hbB.out.mono HB.out.size))
  clear hbB
  refine (impl_SameCircuit (.agg #[.int .i8 N0, .slice ga0 G0.length gb0, .slice oa0 O0.length ob0]) N0 G0 O0 (.agg #[.int .i8 N1, .slice ga1 G1.length gb1, .slice oa1 O1.length ob1]) N1 G1 O1   hs0 _ Huw4.out.ci Huw6.out.ci).mono ?_
  rintro e w8 ⟨rfl, hb⟩
  rw [← HVD0.out]
  have hbB := Lib.hid (hb)
  clear hb
  replace HX0 := Lib.hid (HX0.out.below hbB.out)
  replace HX1 := Lib.hid (HX1.out.below hbB.out)
  replace Huw4 := Lib.hid (Huw4.out.below hbB.out)
  replace XV0 := Lib.hid (XV0.out.below hbB.out)
  replace Huw6 := Lib.hid (Huw6.out.below hbB.out)
  replace XV1 := Lib.hid (XV1.out.below hbB.out)
  replace HB := Lib.hid (HB.out.trans (hbB.out.mono HB.out.size))
  clear hbB
  have k00 := HX0.out.c0
  have k01 := HX0.out.c1
  have k02 := HX0.out.c2
  have k10 := HX1.out.c0
  have k11 := HX1.out.c1
  have k12 := HX1.out.c2
  have XV00 := XV0.out.c0
  have XV01 := XV0.out.c1
  have XV02 := XV0.out.c2
  have XV10 := XV1.out.c0
  have XV11 := XV1.out.c1
  have XV12 := XV1.out.c2
  go_upto_region 14 with fail
  have HT := Lib.hid (fun (W : World) (hW : Below w8.heap.size w8 W) => toCircuit_any _ N0 G0 O0 hs0 W (HC0.out.below (HB.out.trans (hW.mono HB.out.size))))
  have KX := Lib.hid (fun (W : World) (hW : Below w8.heap.size w8 W) => And.intro (HX0.out.below hW) (XV0.out.below hW))
  go_region_held (fun W => W.cell? ⟨w.heap.size, 0, none⟩ = some (.int .i8 N0) ∧ W.cell? ⟨w.heap.size, 1, none⟩ = some (.slice A0 G0.length c0) ∧ W.cell? ⟨w.heap.size, 2, none⟩ = some (.slice B0 O0.length d0) ∧ W.cell? ⟨w4.heap.size, 0, none⟩ = some (.int .i8 N0) ∧ W.cell? ⟨w4.heap.size, 1, none⟩ = some (.slice ga0 G0.length gb0) ∧ W.cell? ⟨w4.heap.size, 2, none⟩ = some (.slice oa0 O0.length ob0) ∧ Hid (Below w8.heap.size w8 W)) (first | exact keep6 (KX.out _ HKB.out).1 (KX.out _ HKB.out).2 HKB | exact keep6 (KX.out _ HKA.out).1 (KX.out _ HKA.out).2 HKA | exact keep6 (KX.out _ (bdrew1 w8)).1 (KX.out _ (bdrew1 w8)).2 (Lib.hid (bdrew1 w8))) (first | (go_at_call 7; refine (HT.out _ (bdrew1 w8)).mono ?_; rintro e wA ⟨uA, rfl, hbA, hoA⟩; have HKA := Lib.hid ((bdrew1 w8).trans (hbA.mono (Nat.le_refl _))); have HOA := Lib.hid hoA; clear hbA hoA) | (go_at_call 9; refine (eqCircuit_refl _ _ N0 G0 O0 hs0 _ ((Huw4.out.below HKA.out).ci) HOA.out.ci).mono ?_; rintro e wB ⟨rfl, hbB⟩; have HKB := Lib.hid (HKA.out.trans (hbB.mono HKA.out.size)); clear hbB))
  clear k00 k01 k02 k10 k11 k12 XV00 XV01 XV02 XV10 XV11 XV12
  replace HB := Lib.hid (HB.out.trans (HKB.out.mono HB.out.size))
  replace HX0 := Lib.hid (HX0.out.below HKB.out)
  replace HX1 := Lib.hid (HX1.out.below HKB.out)
  replace Huw4 := Lib.hid (Huw4.out.below HKB.out)
  replace XV0 := Lib.hid (XV0.out.below HKB.out)
  replace Huw6 := Lib.hid (Huw6.out.below HKB.out)
  replace XV1 := Lib.hid (XV1.out.below HKB.out)
  clear HKA HOA HKB HT KX
  have k00 := HX0.out.c0
  have k01 := HX0.out.c1
  have k02 := HX0.out.c2
  have k10 := HX1.out.c0
  have k11 := HX1.out.c1
  have k12 := HX1.out.c2
  have XV00 := XV0.out.c0
  have XV01 := XV0.out.c1
  have XV02 := XV0.out.c2
  have XV10 := XV1.out.c0
  have XV11 := XV1.out.c1
  have XV12 := XV1.out.c2
  go_upto_region 16 with fail
  have HT := Lib.hid (fun (W : World) (hW : Below wB.heap.size wB W) => toCircuit_any _ N1 G1 O1 hs1 W (HC1.out.below (HB.out.trans (hW.mono HB.out.size))))
  have KX := Lib.hid (fun (W : World) (hW : Below wB.heap.size wB W) => And.intro (HX1.out.below hW) (XV1.out.below hW))
  go_region_held (fun W => W.cell? ⟨w.heap.size + 1, 0, none⟩ = some (.int .i8 N1) ∧ W.cell? ⟨w.heap.size + 1, 1, none⟩ = some (.slice A1 G1.length c1) ∧ W.cell? ⟨w.heap.size + 1, 2, none⟩ = some (.slice B1 O1.length d1) ∧ W.cell? ⟨w6.heap.size, 0, none⟩ = some (.int .i8 N1) ∧ W.cell? ⟨w6.heap.size, 1, none⟩ = some (.slice ga1 G1.length gb1) ∧ W.cell? ⟨w6.heap.size, 2, none⟩ = some (.slice oa1 O1.length ob1) ∧ Hid (Below wB.heap.size wB W)) (first | exact keep6 (KX.out _ HKB.out).1 (KX.out _ HKB.out).2 HKB | exact keep6 (KX.out _ HKA.out).1 (KX.out _ HKA.out).2 HKA | exact keep6 (KX.out _ (bdrew1 wB)).1 (KX.out _ (bdrew1 wB)).2 (Lib.hid (bdrew1 wB))) (first | (go_at_call 7; refine (HT.out _ (bdrew1 wB)).mono ?_; rintro e wA ⟨uA, rfl, hbA, hoA⟩; have HKA := Lib.hid ((bdrew1 wB).trans (hbA.mono (Nat.le_refl _))); have HOA := Lib.hid hoA; clear hbA hoA) | (go_at_call 9; refine (eqCircuit_refl _ _ N1 G1 O1 hs1 _ ((Huw6.out.below HKA.out).ci) HOA.out.ci).mono ?_; rintro e wB ⟨rfl, hbB⟩; have HKB := Lib.hid (HKA.out.trans (hbB.mono HKA.out.size)); clear hbB))
  clear k00 k01 k02 k10 k11 k12 XV00 XV01 XV02 XV10 XV11 XV12
  replace HB := Lib.hid (HB.out.trans (HKB.out.mono HB.out.size))
  replace HX0 := Lib.hid (HX0.out.below HKB.out)
  replace HX1 := Lib.hid (HX1.out.below HKB.out)
  replace Huw4 := Lib.hid (Huw4.out.below HKB.out)
  replace XV0 := Lib.hid (XV0.out.below HKB.out)
  replace Huw6 := Lib.hid (Huw6.out.below HKB.out)
  replace XV1 := Lib.hid (XV1.out.below HKB.out)
  clear HKA HOA HKB HT KX
  go_wp2_with fail
  go_ret
  exact ⟨rfl, HB.out⟩

set_option maxRecDepth 100000 in
theorem lifted (os : Os) (started : os.Started) (H : Type) (enc : TypeId × Value → H) :
    ReturnsInHanded {} Try.checked os 4 .any (Rows.fnExactSameCircuitSpec.pre6 enc Try.prog Try.f4 Rows.fnExactSameCircuitRow.domain false) (Rows.fnExactSameCircuitSpec.post enc Try.prog Try.f4 false true false false) := by
  refine returnsInHanded_of_change (C := Try.checked) own started (by kernel_rfl) Try.func4
    (ChangeSpec.witness6 (enc := enc) (C := Try.checked) false ⟨#[], #[.agg #[.int .i8 0, .slice none 0 0, .slice none 0 0], .agg #[.int .i8 0, .slice none 0 0, .slice none 0 0]], []⟩ 8 (by kernel_rfl) (by kernel_rfl) (by kernel_rfl) (by kernel_rfl)) ?_
  intro W base args ds gs before hval0 hW hcnd _
  have hval : ∀ (j : Nat) t v, Try.f4.params[j]? = some t → args[j]? = some v → Value.okWide Try.prog W .any base t v := hval0
  have hW' := hW
  obtain ⟨p, q, hA0, hV, rfl, hfz, hnd⟩ := hW
  have hA : DataW.TrodAll enc Try.prog W 0 (fun _ => true) true Try.f4.params.toList args.toList ds p := hA0
  rw [Try.params4] at hA hval
  obtain ⟨v0, vs0, d0, ds0, p0, q0, hargs, rfl, rfl, h0, r0⟩ := trodAll_cons hA
  obtain ⟨v1, vs1, d1, ds1, p1, q1, rfl, rfl, rfl, h1, r1⟩ := trodAll_cons r0
  obtain ⟨rfl, rfl, rfl⟩ := trodAll_nil r1
  obtain rfl : args = #[v0, v1] := by cases args; simp_all
  obtain ⟨rfl, rfl⟩ := trodVars_none hV
  obtain ⟨N0, G0, O0, w0, g0⟩ := open_circ (P := Try.prog) (ti := 22) (tj := 42) (tg := 23) (te := 55) (to := 24) (by kernel_rfl) (by kernel_rfl) (of_decide_eq_true (by kernel_rfl)) Try.underlying26 (by kernel_rfl) ⟨rfl, rfl⟩ ⟨rfl, rfl⟩ ⟨rfl, rfl⟩ (by kernel_rfl) (by kernel_rfl) (by kernel_rfl) (by kernel_rfl) (by kernel_rfl) (by kernel_rfl) (by kernel_rfl) (by kernel_rfl) Try.underlying55 (by kernel_rfl) ⟨rfl, rfl⟩ ⟨rfl, rfl⟩ ⟨rfl, rfl⟩ (hval 0 26 v0 rfl rfl) h0 (fun x hx => hW'.lt x (by simp [hx]))
  obtain ⟨a0, ha0⟩ : ∃ y, y = v0 := ⟨_, rfl⟩
  subst ha0
  obtain ⟨N1, G1, O1, w1, g1⟩ := open_circ (P := Try.prog) (ti := 22) (tj := 42) (tg := 23) (te := 55) (to := 24) (by kernel_rfl) (by kernel_rfl) (of_decide_eq_true (by kernel_rfl)) Try.underlying26 (by kernel_rfl) ⟨rfl, rfl⟩ ⟨rfl, rfl⟩ ⟨rfl, rfl⟩ (by kernel_rfl) (by kernel_rfl) (by kernel_rfl) (by kernel_rfl) (by kernel_rfl) (by kernel_rfl) (by kernel_rfl) (by kernel_rfl) Try.underlying55 (by kernel_rfl) ⟨rfl, rfl⟩ ⟨rfl, rfl⟩ ⟨rfl, rfl⟩ (hval 1 26 v1 rfl rfl) h1 (fun x hx => hW'.lt x (by simp [hx]))
  obtain ⟨a1, ha1⟩ : ∃ y, y = v1 := ⟨_, rfl⟩
  subst ha1
  clear hA0 hval0
  simp only [List.append_nil, List.nil_append] at hW'
  refine (walk W a0 N0 G0 O0 a1 N1 G1 O1 w0 w1).mono fun e W' ⟨he, hg⟩ => ?_
  subst he
  exact ⟨_, rfl, law_post rfl rfl hW' hg (fun _ _ _ => (trodAll_cons_mk (shut_bool Try.underlying4 _) trodAll_mk0)) (fun sp hsp => by have t := (trodAll_cons_mk (g0 W' hg sp (fun q hq => hsp q (by simp [hq]))) (trodAll_cons_mk (g1 W' hg sp (fun q hq => hsp q (by simp [hq]))) trodAll_mk0)); simp only [List.append_nil, List.nil_append] at t; exact t) (ok_one (by kernel_rfl) rfl (okWide_bool_mk Try.underlying4 _))⟩

theorem over : Rows.fnExactSameCircuitRow.holds Try.pinned (OpenSpec.ofChange Rows.fnExactSameCircuitSpec) :=
  OpenClaim.holds_of_wide 4 Try.f4 rfl rfl rfl rfl rfl rfl rfl ⟨rfl, rfl, rfl, rfl, rfl⟩ rfl rfl rfl rfl rfl (by kernel_rfl) Try.func4 (joinedBy 4 Try.f4 Rows.fnExactSameCircuitSpec Rows.fnExactSameCircuitRow (by kernel_rfl))
    (of_decide_eq_true (by kernel_rfl)) (by unfold Func.isWrapper; first | (rw [if_pos (by decide +kernel)]; kernel_rfl) | (rw [if_neg (by decide +kernel)]; exact ⟨rfl, rfl⟩))
    (fun os started H enc _ => lifted os started H enc)

/-- the statement -/
theorem proved : Rows.FnExactSameCircuitSaid :=
  over
end Go.Proofs.Ytijhhfpdhnhfmaa.fnExactSameCircuit
