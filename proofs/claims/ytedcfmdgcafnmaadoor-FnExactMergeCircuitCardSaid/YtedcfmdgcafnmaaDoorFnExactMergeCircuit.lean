/-
  The statement Rows.FnExactMergeCircuitSaid for every input the law returns true; the walk is ours, the rest is the guide's template at this function's number and types.
  Conditions: none.
-/
import Derived.Test.YtedcfmdgcafnmaaDoorRows
import Derived.WalkKit
import Derived.ProofKit
import Derived.OpenShut
import Derived.Test.YtedcfmdgcafnmaaDoorHead
import Derived.Test.YtedcfmdgcafnmaaDoorOpen



import Derived.Test.YtedcfmdgcafnmaaDoorCards
import Derived.Test.YtedcfmdgcafnmaaDoorTie
import Derived.LaidMore

import Derived.Stop.Joined
import Derived.SevenTiedAt

import Derived.Test.YtedcfmdgcafnmaaDoorCj
import Derived.Deep.RegionHeld
import Derived.Test.YtedcfmdgcafnmaaDoorEp
namespace Go.Proofs.YtedcfmdgcafnmaaDoor.fnExactMergeCircuit
open Go.ChangeShapes Go.WideShapes Go.ChangeAt Go.RowKit
set_option linter.unusedVariables false
set_option linter.unusedSimpArgs false

theorem own : ownKnob Tryd.prog.godebug = none := by kernel_rfl
theorem door_met (os : Os) (args : Array Value) : laidMetH Tryd.prog Rows.fnExactMergeCircuitRow.laid ((World.doorLaid Tryd.prog 4000 os).forCall (fun _ _ => 0) ⟨#[], args, []⟩).memory :=
  laidMetH_of_parts3 (fuel := 10) (laidMet_of_run' 10 (by kernel_rfl) (by kernel_rfl)) (by kernel_rfl) (by kernel_rfl)

set_option maxRecDepth 100000 in
set_option maxHeartbeats 10000000 in
theorem walk (w : World) (a0 : Value) (N0 : Int) (G0 : List G3) (O0 : List Int) (w0 : CI w a0 N0 G0 O0) (hL : laidMetH Tryd.prog Rows.fnExactMergeCircuitRow.laid w) :
    Calls Tryd.prog 3 #[a0] w fun e w' => e = .returned (.bool true) ∧ Below w.heap.size w w' := by
  have hE := Lib.hid (et_of_laid hL)
  clear hL
  obtain ⟨GV0, OV0, rfl, hn0, hg0, ho0⟩ := w0
  have HL0 := Lib.hid (And.intro hg0.long ho0.long)
  obtain ⟨A0, c0, rfl⟩ := hg0.form
  obtain ⟨B0, d0, rfl⟩ := ho0.form
  have HC0 := Lib.hid (show CI w (.agg #[.int .i8 N0, .slice A0 G0.length c0, .slice B0 O0.length d0]) N0 G0 O0 from ⟨_, _, rfl, hn0, hg0, ho0⟩)
  clear hg0 ho0
  obtain ⟨vd0, hvd0⟩ : ∃ vd0 : Int, vd0 = mcN N0 G0 O0 := ⟨_, rfl⟩
  obtain ⟨vd1, hvd1⟩ : ∃ vd1 : List G3, vd1 = mcG N0 G0 O0 := ⟨_, rfl⟩
  obtain ⟨vd2, hvd2⟩ : ∃ vd2 : List Int, vd2 = mcO N0 G0 O0 := ⟨_, rfl⟩
  obtain ⟨vd3, hvd3⟩ : ∃ vd3 : Int, vd3 = okC N0 G0 O0 := ⟨_, rfl⟩
  have Q4 : (vd3 != vd3) = false := by simp
  have hlen : vd1.length + vd2.length ≤ 1048576 := by rw [hvd1, hvd2]; exact mc_len _ _ _
  have Hvd0 := Lib.hid hvd0
  clear hvd0
  have Hvd1 := Lib.hid hvd1
  clear hvd1
  have Hvd2 := Lib.hid hvd2
  clear hvd2
  have Hvd3 := Lib.hid hvd3
  clear hvd3
  have HLEN := Lib.hid hlen
  clear hlen
  obtain ⟨mm, hmm⟩ : ∃ mm : Nat, mm = 1 + 3 * vd1.length + vd2.length := ⟨_, rfl⟩
  have HMM := Lib.hid hmm
  clear hmm
  have tmm : decide ((mm : Int) < 0) = false := by simp
  have smm : ((mm : Int) != (mm : Int)) = false := by simp
  obtain ⟨kk, hkk⟩ : ∃ kk : Nat, kk = 1 + 3 * G0.length + O0.length := ⟨_, rfl⟩
  have HKK := Lib.hid hkk
  clear hkk
  have tkk : decide ((kk : Int) < 0) = false := by simp
  have HB := Lib.hid (Below.refl w.heap.size w)
  go_enter Tryd.func3, Tryd.ntmps3
  go_wp2_with fail
  obtain ⟨z1, z2, z3⟩ := nw1 w (.cells #[.int .i8 N0, .slice A0 G0.length c0, .slice B0 O0.length d0] 26)
  generalize World.alloc w _ = w1 at z1 z2 z3 ⊢
  have HX0 : Hid (BX w1 w.heap.size (.int .i8 N0) (.slice A0 G0.length c0) (.slice B0 O0.length d0)) := Lib.hid ⟨_, z1⟩
  clear z1
  have hbB := Lib.hid (z2)
  clear z2
  replace HB := Lib.hid (HB.out.trans (hbB.out.mono HB.out.size))
  have HZ0 := Lib.hid (z3)
  clear hbB z3
  by_cases big0 : G0.length + O0.length ≤ 1048576
  rotate_left
  · refine (szCircuit_any N0 _ _ _ _ HL0.out.1 HL0.out.2 1048576 (by omega) _ ⟨_, _, rfl⟩ ⟨_, _, rfl⟩).mono ?_
    rintro e w2 ⟨rfl, hb⟩
    rw [show szC G0.length O0.length 1048576 = .int .i64 (-1) from by unfold szC; rw [if_neg big0]]
    replace HB := Lib.hid (HB.out.trans (hb.mono HB.out.size))
    clear hb
    have m0 := HX0.out
    go_wp2_with fail
    go_ret
    exact ⟨rfl, HB.out⟩
  refine (szCircuit_any N0 _ _ _ _ HL0.out.1 HL0.out.2 1048576 (by omega) _ ⟨_, _, rfl⟩ ⟨_, _, rfl⟩).mono ?_
  rintro e w2 ⟨rfl, hb⟩
  obtain ⟨y0, hy0⟩ : ∃ y0 : Nat, y0 = 1048576 - (G0.length + O0.length) := ⟨_, rfl⟩
  rw [show szC G0.length O0.length 1048576 = .int .i64 (y0 : Int) from by unfold szC; rw [if_pos big0, hy0]]
  have ty0 : decide ((y0 : Int) < 0) = false := by simp
  have ly0 : y0 ≤ 1048576 := by omega
  have hs0 : G0.length + O0.length ≤ 1048576 := by omega
  clear hy0 big0
  have hbB := Lib.hid (hb)
  clear hb
  replace HX0 := Lib.hid (HX0.out.below hbB.out)
  replace HB := Lib.hid (HB.out.trans (hbB.out.mono HB.out.size))
  have HZ1 := Lib.hid (hbB.out.size)
  clear hbB
  have HX0c0 := HX0.out.c0
  have HX0c1 := HX0.out.c1
  have HX0c2 := HX0.out.c2
  go_wp2_with fail
  clear HX0c0 HX0c1 HX0c2
  refine (toCircuit_any _ N0 G0 O0 hs0 _ (HC0.out.below HB.out)).mono ?_
  rintro e w3 ⟨uw3, rfl, hb, ho⟩
  have Huw3 := Lib.hid ho
  clear ho
  have hbB := Lib.hid (hb)
  clear hb
  replace HX0 := Lib.hid (HX0.out.below hbB.out)
  replace HB := Lib.hid (HB.out.trans (hbB.out.mono HB.out.size))
  have HZ2 := Lib.hid (hbB.out.size)
  clear hbB
  have HX0c0 := HX0.out.c0
  have HX0c1 := HX0.out.c1
  have HX0c2 := HX0.out.c2
  go_wp2_with fail
  clear HX0c0 HX0c1 HX0c2
  refine (spec_MergeCircuit uw3 N0 G0 O0   _ Huw3.out.ci ).mono ?_
  rintro e w4 ⟨us, rfl, hb, ho⟩
  rw [← Hvd0.out] at ho
  rw [← Hvd1.out] at ho
  rw [← Hvd2.out] at ho
  rw [← Hvd3.out]
  have Hus := Lib.hid ho
  clear ho
  have hbB := Lib.hid (hb)
  clear hb
  replace HX0 := Lib.hid (HX0.out.below hbB.out)
  replace Huw3 := Lib.hid (Huw3.out.below hbB.out)
  replace HB := Lib.hid (HB.out.trans (hbB.out.mono HB.out.size))
  have HZ3 := Lib.hid (hbB.out.size)
  clear hbB
  obtain ⟨gus, ous, eus, _, fgus, fous⟩ := Hus.out.ci
  obtain ⟨gaus, gbus, rfl⟩ := fgus.form
  obtain ⟨oaus, obus, rfl⟩ := fous.form
  subst eus
  clear fgus fous
  clear Huw3
  have HX0c0 := HX0.out.c0
  have HX0c1 := HX0.out.c1
  have HX0c2 := HX0.out.c2
  have qx := HX0.out.below (nw1 w4 (.cells #[.int .i8 vd0, .slice gaus vd1.length gbus, .slice oaus vd2.length obus] 30)).2.1
  have HX0q0 := qx.c0
  have HX0q1 := qx.c1
  have HX0q2 := qx.c2
  clear qx
  go_wp2_with fail
  clear HX0c0 HX0c1 HX0c2 HX0q0 HX0q1 HX0q2
  obtain ⟨z1, z2, z3⟩ := nw1 w4 (.cells #[.int .i8 vd0, .slice gaus vd1.length gbus, .slice oaus vd2.length obus] 30)
  generalize World.alloc w4 _ = w5 at z1 z2 z3 ⊢
  have XS : Hid (BX w5 w4.heap.size (.int .i8 vd0) (.slice gaus vd1.length gbus) (.slice oaus vd2.length obus)) := Lib.hid ⟨_, z1⟩
  clear z1
  have hbB := Lib.hid (z2)
  clear z2
  replace HX0 := Lib.hid (HX0.out.below hbB.out)
  replace Hus := Lib.hid (Hus.out.below hbB.out)
  replace HB := Lib.hid (HB.out.trans (hbB.out.mono HB.out.size))
  have HZ4 := Lib.hid (z3)
  clear hbB z3
  have HX0c0 := HX0.out.c0
  have HX0c1 := HX0.out.c1
  have HX0c2 := HX0.out.c2
  have XSc0 := XS.out.c0
  have XSc1 := XS.out.c1
  have XSc2 := XS.out.c2
  go_wp2_with fail
  clear HX0c0 HX0c1 HX0c2 XSc0 XSc1 XSc2
  refine (toCircuit_any _ N0 G0 O0 hs0 _ (HC0.out.below HB.out)).mono ?_
  rintro e w6 ⟨uw6, rfl, hb, ho⟩
  have Huw6 := Lib.hid ho
  clear ho
  have hbB := Lib.hid (hb)
  clear hb
  replace HX0 := Lib.hid (HX0.out.below hbB.out)
  replace Hus := Lib.hid (Hus.out.below hbB.out)
  replace XS := Lib.hid (XS.out.below hbB.out)
  replace HB := Lib.hid (HB.out.trans (hbB.out.mono HB.out.size))
  have HZ5 := Lib.hid (hbB.out.size)
  clear hbB
  obtain ⟨gv0, ov0, e0, _, fg0, fo0⟩ := Huw6.out.ci
  obtain ⟨ga0, gb0, rfl⟩ := fg0.form
  obtain ⟨oa0, ob0, rfl⟩ := fo0.form
  subst e0
  clear fg0 fo0
  have HX0c0 := HX0.out.c0
  have HX0c1 := HX0.out.c1
  have HX0c2 := HX0.out.c2
  have XSc0 := XS.out.c0
  have XSc1 := XS.out.c1
  have XSc2 := XS.out.c2
  have qx := HX0.out.below (nw1 w6 (.cells #[.int .i8 N0, .slice ga0 G0.length gb0, .slice oa0 O0.length ob0] 30)).2.1
  have HX0q0 := qx.c0
  have HX0q1 := qx.c1
  have HX0q2 := qx.c2
  clear qx
  have qx := XS.out.below (nw1 w6 (.cells #[.int .i8 N0, .slice ga0 G0.length gb0, .slice oa0 O0.length ob0] 30)).2.1
  have XSq0 := qx.c0
  have XSq1 := qx.c1
  have XSq2 := qx.c2
  clear qx
  go_wp2_with fail
  clear HX0c0 HX0c1 HX0c2 XSc0 XSc1 XSc2 HX0q0 HX0q1 HX0q2 XSq0 XSq1 XSq2
  obtain ⟨z1, z2, z3⟩ := nw1 w6 (.cells #[.int .i8 N0, .slice ga0 G0.length gb0, .slice oa0 O0.length ob0] 30)
  generalize World.alloc w6 _ = w7 at z1 z2 z3 ⊢
  have XV0 : Hid (BX w7 w6.heap.size (.int .i8 N0) (.slice ga0 G0.length gb0) (.slice oa0 O0.length ob0)) := Lib.hid ⟨_, z1⟩
  clear z1
  have hbB := Lib.hid (z2)
  clear z2
  replace HX0 := Lib.hid (HX0.out.below hbB.out)
  replace Hus := Lib.hid (Hus.out.below hbB.out)
  replace XS := Lib.hid (XS.out.below hbB.out)
  replace Huw6 := Lib.hid (Huw6.out.below hbB.out)
  replace HB := Lib.hid (HB.out.trans (hbB.out.mono HB.out.size))
  have HZ6 := Lib.hid (z3)
  clear hbB z3
  have HX0c0 := HX0.out.c0
  have HX0c1 := HX0.out.c1
  have HX0c2 := HX0.out.c2
  have XSc0 := XS.out.c0
  have XSc1 := XS.out.c1
  have XSc2 := XS.out.c2
  have XV0c0 := XV0.out.c0
  have XV0c1 := XV0.out.c1
  have XV0c2 := XV0.out.c2
  try (go_wp2_with fail)
  clear HX0c0 HX0c1 HX0c2 XSc0 XSc1 XSc2 XV0c0 XV0c1 XV0c2
  refine (impl_MergeCircuit (.agg #[.int .i8 N0, .slice ga0 G0.length gb0, .slice oa0 O0.length ob0]) N0 G0 O0   _ Huw6.out.ci (hE.out.below HB.out)).mono ?_
  rintro e w8 ⟨ug, rfl, hb, ho⟩
  rw [← Hvd0.out] at ho
  rw [← Hvd1.out] at ho
  rw [← Hvd2.out] at ho
  rw [← Hvd3.out]
  have Hug := Lib.hid ho
  clear ho
  have hbB := Lib.hid (hb)
  clear hb
  replace HX0 := Lib.hid (HX0.out.below hbB.out)
  replace Hus := Lib.hid (Hus.out.below hbB.out)
  replace XS := Lib.hid (XS.out.below hbB.out)
  replace Huw6 := Lib.hid (Huw6.out.below hbB.out)
  replace XV0 := Lib.hid (XV0.out.below hbB.out)
  replace HB := Lib.hid (HB.out.trans (hbB.out.mono HB.out.size))
  have HZ7 := Lib.hid (hbB.out.size)
  clear hbB
  obtain ⟨gug, oug, eug, _, fgug, foug⟩ := Hug.out.ci
  obtain ⟨gaug, gbug, rfl⟩ := fgug.form
  obtain ⟨oaug, obug, rfl⟩ := foug.form
  subst eug
  clear fgug foug
  have HX0c0 := HX0.out.c0
  have HX0c1 := HX0.out.c1
  have HX0c2 := HX0.out.c2
  have XSc0 := XS.out.c0
  have XSc1 := XS.out.c1
  have XSc2 := XS.out.c2
  have XV0c0 := XV0.out.c0
  have XV0c1 := XV0.out.c1
  have XV0c2 := XV0.out.c2
  have qx := HX0.out.below (nw1 w8 (.cells #[.int .i8 vd0, .slice gaug vd1.length gbug, .slice oaug vd2.length obug] 30)).2.1
  have HX0q0 := qx.c0
  have HX0q1 := qx.c1
  have HX0q2 := qx.c2
  clear qx
  have qx := XS.out.below (nw1 w8 (.cells #[.int .i8 vd0, .slice gaug vd1.length gbug, .slice oaug vd2.length obug] 30)).2.1
  have XSq0 := qx.c0
  have XSq1 := qx.c1
  have XSq2 := qx.c2
  clear qx
  have qx := XV0.out.below (nw1 w8 (.cells #[.int .i8 vd0, .slice gaug vd1.length gbug, .slice oaug vd2.length obug] 30)).2.1
  have XV0q0 := qx.c0
  have XV0q1 := qx.c1
  have XV0q2 := qx.c2
  clear qx
  go_wp2_with fail
  clear HX0c0 HX0c1 HX0c2 XSc0 XSc1 XSc2 XV0c0 XV0c1 XV0c2 HX0q0 HX0q1 HX0q2 XSq0 XSq1 XSq2 XV0q0 XV0q1 XV0q2
  obtain ⟨z1, z2, z3⟩ := nw1 w8 (.cells #[.int .i8 vd0, .slice gaug vd1.length gbug, .slice oaug vd2.length obug] 30)
  generalize World.alloc w8 _ = w9 at z1 z2 z3 ⊢
  have XG : Hid (BX w9 w8.heap.size (.int .i8 vd0) (.slice gaug vd1.length gbug) (.slice oaug vd2.length obug)) := Lib.hid ⟨_, z1⟩
  clear z1
  have hbB := Lib.hid (z2)
  clear z2
  replace HX0 := Lib.hid (HX0.out.below hbB.out)
  replace Hus := Lib.hid (Hus.out.below hbB.out)
  replace XS := Lib.hid (XS.out.below hbB.out)
  replace Huw6 := Lib.hid (Huw6.out.below hbB.out)
  replace XV0 := Lib.hid (XV0.out.below hbB.out)
  replace Hug := Lib.hid (Hug.out.below hbB.out)
  replace HB := Lib.hid (HB.out.trans (hbB.out.mono HB.out.size))
  have HZ8 := Lib.hid (z3)
  clear hbB z3
  have HX0c0 := HX0.out.c0
  have HX0c1 := HX0.out.c1
  have HX0c2 := HX0.out.c2
  have XSc0 := XS.out.c0
  have XSc1 := XS.out.c1
  have XSc2 := XS.out.c2
  have XV0c0 := XV0.out.c0
  have XV0c1 := XV0.out.c1
  have XV0c2 := XV0.out.c2
  have XGc0 := XG.out.c0
  have XGc1 := XG.out.c1
  have XGc2 := XG.out.c2
  go_wp2_with fail
  clear HX0c0 HX0c1 HX0c2 XSc0 XSc1 XSc2 XV0c0 XV0c1 XV0c2 XGc0 XGc1 XGc2
  refine (eqCircuit_refl _ _ vd0 vd1 vd2 HLEN.out _ Hug.out.ci Hus.out.ci).mono ?_
  rintro e w10 ⟨rfl, hb⟩
  have hbB := Lib.hid (hb)
  clear hb
  replace HX0 := Lib.hid (HX0.out.below hbB.out)
  replace Hus := Lib.hid (Hus.out.below hbB.out)
  replace XS := Lib.hid (XS.out.below hbB.out)
  replace Huw6 := Lib.hid (Huw6.out.below hbB.out)
  replace XV0 := Lib.hid (XV0.out.below hbB.out)
  replace Hug := Lib.hid (Hug.out.below hbB.out)
  replace XG := Lib.hid (XG.out.below hbB.out)
  replace HB := Lib.hid (HB.out.trans (hbB.out.mono HB.out.size))
  have HZ9 := Lib.hid (hbB.out.size)
  clear hbB
  have HX0c0 := HX0.out.c0
  have HX0c1 := HX0.out.c1
  have HX0c2 := HX0.out.c2
  have XSc0 := XS.out.c0
  have XSc1 := XS.out.c1
  have XSc2 := XS.out.c2
  have XV0c0 := XV0.out.c0
  have XV0c1 := XV0.out.c1
  have XV0c2 := XV0.out.c2
  have XGc0 := XG.out.c0
  have XGc1 := XG.out.c1
  have XGc2 := XG.out.c2
  go_upto_region 10 with fail
  have HT := Lib.hid (fun (W : World) (hW : Below w10.heap.size w10 W) => toCircuit_any _ N0 G0 O0 hs0 W (HC0.out.below (HB.out.trans (hW.mono HB.out.size))))
  have KX := Lib.hid (fun (W : World) (hW : Below w10.heap.size w10 W) => And.intro (HX0.out.below hW) (XV0.out.below hW))
  go_region_held (fun W => W.cell? ⟨w.heap.size, 0, none⟩ = some (.int .i8 N0) ∧ W.cell? ⟨w.heap.size, 1, none⟩ = some (.slice A0 G0.length c0) ∧ W.cell? ⟨w.heap.size, 2, none⟩ = some (.slice B0 O0.length d0) ∧ W.cell? ⟨w6.heap.size, 0, none⟩ = some (.int .i8 N0) ∧ W.cell? ⟨w6.heap.size, 1, none⟩ = some (.slice ga0 G0.length gb0) ∧ W.cell? ⟨w6.heap.size, 2, none⟩ = some (.slice oa0 O0.length ob0) ∧ Hid (Below w10.heap.size w10 W)) (first | exact keep6 (KX.out _ HKB.out).1 (KX.out _ HKB.out).2 HKB | exact keep6 (KX.out _ HKA.out).1 (KX.out _ HKA.out).2 HKA | exact keep6 (KX.out _ (bdrew1 w10)).1 (KX.out _ (bdrew1 w10)).2 (Lib.hid (bdrew1 w10))) (first | (go_at_call 11; refine (HT.out _ (bdrew1 w10)).mono ?_; rintro e wA ⟨uA, rfl, hbA, hoA⟩; have HKA := Lib.hid ((bdrew1 w10).trans (hbA.mono (Nat.le_refl _))); have HOA := Lib.hid hoA; clear hbA hoA) | (go_at_call 13; refine (eqCircuit_refl _ _ N0 G0 O0 hs0 _ ((Huw6.out.below HKA.out).ci) HOA.out.ci).mono ?_; rintro e wB ⟨rfl, hbB⟩; have HKB := Lib.hid (HKA.out.trans (hbB.mono HKA.out.size)); clear hbB))
  clear HX0c0 HX0c1 HX0c2 XSc0 XSc1 XSc2 XV0c0 XV0c1 XV0c2 XGc0 XGc1 XGc2
  have hkb := HKB.out
  clear HKA HOA HKB HT KX
  have hbB := Lib.hid (hkb)
  clear hkb
  replace HX0 := Lib.hid (HX0.out.below hbB.out)
  replace Hus := Lib.hid (Hus.out.below hbB.out)
  replace XS := Lib.hid (XS.out.below hbB.out)
  replace Huw6 := Lib.hid (Huw6.out.below hbB.out)
  replace XV0 := Lib.hid (XV0.out.below hbB.out)
  replace Hug := Lib.hid (Hug.out.below hbB.out)
  replace XG := Lib.hid (XG.out.below hbB.out)
  replace HB := Lib.hid (HB.out.trans (hbB.out.mono HB.out.size))
  have HZ10 := Lib.hid (hbB.out.size)
  clear hbB
  have HX0c0 := HX0.out.c0
  have HX0c1 := HX0.out.c1
  have HX0c2 := HX0.out.c2
  have XSc0 := XS.out.c0
  have XSc1 := XS.out.c1
  have XSc2 := XS.out.c2
  have XV0c0 := XV0.out.c0
  have XV0c1 := XV0.out.c1
  have XV0c2 := XV0.out.c2
  have XGc0 := XG.out.c0
  have XGc1 := XG.out.c1
  have XGc2 := XG.out.c2
  go_wp2_with fail
  clear HX0c0 HX0c1 HX0c2 XSc0 XSc1 XSc2 XV0c0 XV0c1 XV0c2 XGc0 XGc1 XGc2
  have hmk := markCircuit_any (.agg #[.int .i8 N0, .slice ga0 G0.length gb0, .slice oa0 O0.length ob0]) N0 G0 O0 hs0 w5.heap.size w6.heap.size 1 (by omega) _ Huw6.out (by have := HZ0.out; have := HZ1.out; have := HZ2.out; have := HZ3.out; have := HZ4.out; have := HZ5.out; have := HZ6.out; have := HZ7.out; have := HZ8.out; have := HZ9.out; have := HZ10.out; omega)
  rw [← HKK.out] at hmk
  refine hmk.mono ?_
  rintro e w11 ⟨rfl, _, hm⟩
  clear hmk
  clear Huw6
  have hmB := Lib.hid (hm)
  clear hm
  replace HX0 := Lib.hid (HX0.out.mid hmB.out (by have := HZ0.out; have := HZ1.out; have := HZ2.out; have := HZ3.out; have := HZ4.out; have := HZ5.out; have := HZ6.out; have := HZ7.out; have := HZ8.out; have := HZ9.out; have := HZ10.out; omega))
  replace Hus := Lib.hid (Hus.out.mid hmB.out (by have := HZ0.out; have := HZ1.out; have := HZ2.out; have := HZ3.out; have := HZ4.out; have := HZ5.out; have := HZ6.out; have := HZ7.out; have := HZ8.out; have := HZ9.out; have := HZ10.out; omega))
  replace XS := Lib.hid (XS.out.mid hmB.out (by have := HZ0.out; have := HZ1.out; have := HZ2.out; have := HZ3.out; have := HZ4.out; have := HZ5.out; have := HZ6.out; have := HZ7.out; have := HZ8.out; have := HZ9.out; have := HZ10.out; omega))
  replace XV0 := Lib.hid (XV0.out.mid hmB.out (by have := HZ0.out; have := HZ1.out; have := HZ2.out; have := HZ3.out; have := HZ4.out; have := HZ5.out; have := HZ6.out; have := HZ7.out; have := HZ8.out; have := HZ9.out; have := HZ10.out; omega))
  replace Hug := Lib.hid (Hug.out.mid hmB.out (by have := HZ0.out; have := HZ1.out; have := HZ2.out; have := HZ3.out; have := HZ4.out; have := HZ5.out; have := HZ6.out; have := HZ7.out; have := HZ8.out; have := HZ9.out; have := HZ10.out; omega))
  replace XG := Lib.hid (XG.out.mid hmB.out (by have := HZ0.out; have := HZ1.out; have := HZ2.out; have := HZ3.out; have := HZ4.out; have := HZ5.out; have := HZ6.out; have := HZ7.out; have := HZ8.out; have := HZ9.out; have := HZ10.out; omega))
  replace HB := Lib.hid (HB.out.trans (hmB.out.1.mono (by have := HZ0.out; have := HZ1.out; have := HZ2.out; have := HZ3.out; have := HZ4.out; have := HZ5.out; have := HZ6.out; have := HZ7.out; have := HZ8.out; have := HZ9.out; have := HZ10.out; omega)))
  have HZ11 := Lib.hid (hmB.out.1.size)
  clear hmB
  have HX0c0 := HX0.out.c0
  have HX0c1 := HX0.out.c1
  have HX0c2 := HX0.out.c2
  have XSc0 := XS.out.c0
  have XSc1 := XS.out.c1
  have XSc2 := XS.out.c2
  have XV0c0 := XV0.out.c0
  have XV0c1 := XV0.out.c1
  have XV0c2 := XV0.out.c2
  have XGc0 := XG.out.c0
  have XGc1 := XG.out.c1
  have XGc2 := XG.out.c2
  go_wp2_with fail
  clear HX0c0 HX0c1 HX0c2 XSc0 XSc1 XSc2 XV0c0 XV0c1 XV0c2 XGc0 XGc1 XGc2
  refine (eqCircuit_refl _ _ vd0 vd1 vd2 HLEN.out _ Hug.out.ci Hus.out.ci).mono ?_
  rintro e w12 ⟨rfl, hb⟩
  have hbB := Lib.hid (hb)
  clear hb
  replace HX0 := Lib.hid (HX0.out.below hbB.out)
  replace Hus := Lib.hid (Hus.out.below hbB.out)
  replace XS := Lib.hid (XS.out.below hbB.out)
  replace XV0 := Lib.hid (XV0.out.below hbB.out)
  replace Hug := Lib.hid (Hug.out.below hbB.out)
  replace XG := Lib.hid (XG.out.below hbB.out)
  replace HB := Lib.hid (HB.out.trans (hbB.out.mono HB.out.size))
  have HZ12 := Lib.hid (hbB.out.size)
  clear hbB
  have HX0c0 := HX0.out.c0
  have HX0c1 := HX0.out.c1
  have HX0c2 := HX0.out.c2
  have XSc0 := XS.out.c0
  have XSc1 := XS.out.c1
  have XSc2 := XS.out.c2
  have XV0c0 := XV0.out.c0
  have XV0c1 := XV0.out.c1
  have XV0c2 := XV0.out.c2
  have XGc0 := XG.out.c0
  have XGc1 := XG.out.c1
  have XGc2 := XG.out.c2
  go_wp2_with fail
  clear HX0c0 HX0c1 HX0c2 XSc0 XSc1 XSc2 XV0c0 XV0c1 XV0c2 XGc0 XGc1 XGc2
  have hmk := markCircuit_any (.agg #[.int .i8 vd0, .slice gaug vd1.length gbug, .slice oaug vd2.length obug]) vd0 vd1 vd2 HLEN.out w7.heap.size w8.heap.size 1 (by omega) _ Hug.out (by have := HZ0.out; have := HZ1.out; have := HZ2.out; have := HZ3.out; have := HZ4.out; have := HZ5.out; have := HZ6.out; have := HZ7.out; have := HZ8.out; have := HZ9.out; have := HZ10.out; have := HZ11.out; have := HZ12.out; omega)
  rw [← HMM.out] at hmk
  refine hmk.mono ?_
  rintro e w13 ⟨rfl, hco, hm⟩
  clear hmk
  clear Hug
  have Hug := Lib.hid hco
  clear hco
  have hmB := Lib.hid (hm)
  clear hm
  replace HX0 := Lib.hid (HX0.out.mid hmB.out (by have := HZ0.out; have := HZ1.out; have := HZ2.out; have := HZ3.out; have := HZ4.out; have := HZ5.out; have := HZ6.out; have := HZ7.out; have := HZ8.out; have := HZ9.out; have := HZ10.out; have := HZ11.out; have := HZ12.out; omega))
  replace Hus := Lib.hid (Hus.out.mid hmB.out (by have := HZ0.out; have := HZ1.out; have := HZ2.out; have := HZ3.out; have := HZ4.out; have := HZ5.out; have := HZ6.out; have := HZ7.out; have := HZ8.out; have := HZ9.out; have := HZ10.out; have := HZ11.out; have := HZ12.out; omega))
  replace XS := Lib.hid (XS.out.mid hmB.out (by have := HZ0.out; have := HZ1.out; have := HZ2.out; have := HZ3.out; have := HZ4.out; have := HZ5.out; have := HZ6.out; have := HZ7.out; have := HZ8.out; have := HZ9.out; have := HZ10.out; have := HZ11.out; have := HZ12.out; omega))
  replace XV0 := Lib.hid (XV0.out.mid hmB.out (by have := HZ0.out; have := HZ1.out; have := HZ2.out; have := HZ3.out; have := HZ4.out; have := HZ5.out; have := HZ6.out; have := HZ7.out; have := HZ8.out; have := HZ9.out; have := HZ10.out; have := HZ11.out; have := HZ12.out; omega))
  replace XG := Lib.hid (XG.out.mid hmB.out (by have := HZ0.out; have := HZ1.out; have := HZ2.out; have := HZ3.out; have := HZ4.out; have := HZ5.out; have := HZ6.out; have := HZ7.out; have := HZ8.out; have := HZ9.out; have := HZ10.out; have := HZ11.out; have := HZ12.out; omega))
  replace HB := Lib.hid (HB.out.trans (hmB.out.1.mono (by have := HZ0.out; have := HZ1.out; have := HZ2.out; have := HZ3.out; have := HZ4.out; have := HZ5.out; have := HZ6.out; have := HZ7.out; have := HZ8.out; have := HZ9.out; have := HZ10.out; have := HZ11.out; have := HZ12.out; omega)))
  have HZ13 := Lib.hid (hmB.out.1.size)
  clear hmB
  have HX0c0 := HX0.out.c0
  have HX0c1 := HX0.out.c1
  have HX0c2 := HX0.out.c2
  have XSc0 := XS.out.c0
  have XSc1 := XS.out.c1
  have XSc2 := XS.out.c2
  have XV0c0 := XV0.out.c0
  have XV0c1 := XV0.out.c1
  have XV0c2 := XV0.out.c2
  have XGc0 := XG.out.c0
  have XGc1 := XG.out.c1
  have XGc2 := XG.out.c2
  go_wp2_with fail
  clear HX0c0 HX0c1 HX0c2 XSc0 XSc1 XSc2 XV0c0 XV0c1 XV0c2 XGc0 XGc1 XGc2
  have hhd := heldCircuit_any _ vd0 _ _ HLEN.out 1 (by omega) _ Hug.out.ci
  rw [← HMM.out] at hhd
  refine hhd.mono ?_
  rintro e w14 ⟨rfl, hb⟩
  clear hhd
  have hbB := Lib.hid (hb)
  clear hb
  replace HX0 := Lib.hid (HX0.out.below hbB.out)
  replace Hus := Lib.hid (Hus.out.below hbB.out)
  replace XS := Lib.hid (XS.out.below hbB.out)
  replace XV0 := Lib.hid (XV0.out.below hbB.out)
  replace XG := Lib.hid (XG.out.below hbB.out)
  replace Hug := Lib.hid (Hug.out.below hbB.out)
  replace HB := Lib.hid (HB.out.trans (hbB.out.mono HB.out.size))
  have HZ14 := Lib.hid (hbB.out.size)
  clear hbB
  have HX0c0 := HX0.out.c0
  have HX0c1 := HX0.out.c1
  have HX0c2 := HX0.out.c2
  have XSc0 := XS.out.c0
  have XSc1 := XS.out.c1
  have XSc2 := XS.out.c2
  have XV0c0 := XV0.out.c0
  have XV0c1 := XV0.out.c1
  have XV0c2 := XV0.out.c2
  have XGc0 := XG.out.c0
  have XGc1 := XG.out.c1
  have XGc2 := XG.out.c2
  go_wp2_with fail
  clear HX0c0 HX0c1 HX0c2 XSc0 XSc1 XSc2 XV0c0 XV0c1 XV0c2 XGc0 XGc1 XGc2
  refine (toCircuit_any _ N0 G0 O0 hs0 _ (HC0.out.below HB.out)).mono ?_
  rintro e w15 ⟨uw15, rfl, hb, ho⟩
  have Huw15 := Lib.hid ho
  clear ho
  have hbB := Lib.hid (hb)
  clear hb
  replace HX0 := Lib.hid (HX0.out.below hbB.out)
  replace Hus := Lib.hid (Hus.out.below hbB.out)
  replace XS := Lib.hid (XS.out.below hbB.out)
  replace XV0 := Lib.hid (XV0.out.below hbB.out)
  replace XG := Lib.hid (XG.out.below hbB.out)
  replace Hug := Lib.hid (Hug.out.below hbB.out)
  replace HB := Lib.hid (HB.out.trans (hbB.out.mono HB.out.size))
  have HZ15 := Lib.hid (hbB.out.size)
  clear hbB
  have HX0c0 := HX0.out.c0
  have HX0c1 := HX0.out.c1
  have HX0c2 := HX0.out.c2
  have XSc0 := XS.out.c0
  have XSc1 := XS.out.c1
  have XSc2 := XS.out.c2
  have XV0c0 := XV0.out.c0
  have XV0c1 := XV0.out.c1
  have XV0c2 := XV0.out.c2
  have XGc0 := XG.out.c0
  have XGc1 := XG.out.c1
  have XGc2 := XG.out.c2
  go_wp2_with fail
  clear HX0c0 HX0c1 HX0c2 XSc0 XSc1 XSc2 XV0c0 XV0c1 XV0c2 XGc0 XGc1 XGc2
  refine (impl_MergeCircuit uw15 N0 G0 O0   _ Huw15.out.ci (hE.out.below HB.out)).mono ?_
  rintro e w16 ⟨uh, rfl, hb, ho⟩
  rw [← Hvd0.out] at ho
  rw [← Hvd1.out] at ho
  rw [← Hvd2.out] at ho
  rw [← Hvd3.out]
  have Huh := Lib.hid ho
  clear ho
  have hbB := Lib.hid (hb)
  clear hb
  replace HX0 := Lib.hid (HX0.out.below hbB.out)
  replace Hus := Lib.hid (Hus.out.below hbB.out)
  replace XS := Lib.hid (XS.out.below hbB.out)
  replace XV0 := Lib.hid (XV0.out.below hbB.out)
  replace XG := Lib.hid (XG.out.below hbB.out)
  replace Hug := Lib.hid (Hug.out.below hbB.out)
  replace Huw15 := Lib.hid (Huw15.out.below hbB.out)
  replace HB := Lib.hid (HB.out.trans (hbB.out.mono HB.out.size))
  have HZ16 := Lib.hid (hbB.out.size)
  clear hbB
  obtain ⟨guh, ouh, euh, _, fguh, fouh⟩ := Huh.out.ci
  obtain ⟨gauh, gbuh, rfl⟩ := fguh.form
  obtain ⟨oauh, obuh, rfl⟩ := fouh.form
  subst euh
  clear fguh fouh
  clear Huw15
  have HX0c0 := HX0.out.c0
  have HX0c1 := HX0.out.c1
  have HX0c2 := HX0.out.c2
  have XSc0 := XS.out.c0
  have XSc1 := XS.out.c1
  have XSc2 := XS.out.c2
  have XV0c0 := XV0.out.c0
  have XV0c1 := XV0.out.c1
  have XV0c2 := XV0.out.c2
  have XGc0 := XG.out.c0
  have XGc1 := XG.out.c1
  have XGc2 := XG.out.c2
  have qx := HX0.out.below (nw1 w16 (.cells #[.int .i8 vd0, .slice gauh vd1.length gbuh, .slice oauh vd2.length obuh] 30)).2.1
  have HX0q0 := qx.c0
  have HX0q1 := qx.c1
  have HX0q2 := qx.c2
  clear qx
  have qx := XS.out.below (nw1 w16 (.cells #[.int .i8 vd0, .slice gauh vd1.length gbuh, .slice oauh vd2.length obuh] 30)).2.1
  have XSq0 := qx.c0
  have XSq1 := qx.c1
  have XSq2 := qx.c2
  clear qx
  have qx := XV0.out.below (nw1 w16 (.cells #[.int .i8 vd0, .slice gauh vd1.length gbuh, .slice oauh vd2.length obuh] 30)).2.1
  have XV0q0 := qx.c0
  have XV0q1 := qx.c1
  have XV0q2 := qx.c2
  clear qx
  have qx := XG.out.below (nw1 w16 (.cells #[.int .i8 vd0, .slice gauh vd1.length gbuh, .slice oauh vd2.length obuh] 30)).2.1
  have XGq0 := qx.c0
  have XGq1 := qx.c1
  have XGq2 := qx.c2
  clear qx
  go_wp2_with fail
  clear HX0c0 HX0c1 HX0c2 XSc0 XSc1 XSc2 XV0c0 XV0c1 XV0c2 XGc0 XGc1 XGc2 HX0q0 HX0q1 HX0q2 XSq0 XSq1 XSq2 XV0q0 XV0q1 XV0q2 XGq0 XGq1 XGq2
  obtain ⟨z1, z2, z3⟩ := nw1 w16 (.cells #[.int .i8 vd0, .slice gauh vd1.length gbuh, .slice oauh vd2.length obuh] 30)
  generalize World.alloc w16 _ = w17 at z1 z2 z3 ⊢
  have XH : Hid (BX w17 w16.heap.size (.int .i8 vd0) (.slice gauh vd1.length gbuh) (.slice oauh vd2.length obuh)) := Lib.hid ⟨_, z1⟩
  clear z1
  have hbB := Lib.hid (z2)
  clear z2
  replace HX0 := Lib.hid (HX0.out.below hbB.out)
  replace Hus := Lib.hid (Hus.out.below hbB.out)
  replace XS := Lib.hid (XS.out.below hbB.out)
  replace XV0 := Lib.hid (XV0.out.below hbB.out)
  replace XG := Lib.hid (XG.out.below hbB.out)
  replace Hug := Lib.hid (Hug.out.below hbB.out)
  replace Huh := Lib.hid (Huh.out.below hbB.out)
  replace HB := Lib.hid (HB.out.trans (hbB.out.mono HB.out.size))
  have HZ17 := Lib.hid (z3)
  clear hbB z3
  have HX0c0 := HX0.out.c0
  have HX0c1 := HX0.out.c1
  have HX0c2 := HX0.out.c2
  have XSc0 := XS.out.c0
  have XSc1 := XS.out.c1
  have XSc2 := XS.out.c2
  have XV0c0 := XV0.out.c0
  have XV0c1 := XV0.out.c1
  have XV0c2 := XV0.out.c2
  have XGc0 := XG.out.c0
  have XGc1 := XG.out.c1
  have XGc2 := XG.out.c2
  have XHc0 := XH.out.c0
  have XHc1 := XH.out.c1
  have XHc2 := XH.out.c2
  go_wp2_with fail
  clear HX0c0 HX0c1 HX0c2 XSc0 XSc1 XSc2 XV0c0 XV0c1 XV0c2 XGc0 XGc1 XGc2 XHc0 XHc1 XHc2
  refine (eqCircuit_refl _ _ vd0 vd1 vd2 HLEN.out _ Huh.out.ci Hus.out.ci).mono ?_
  rintro e w18 ⟨rfl, hb⟩
  have hbB := Lib.hid (hb)
  clear hb
  replace HX0 := Lib.hid (HX0.out.below hbB.out)
  replace Hus := Lib.hid (Hus.out.below hbB.out)
  replace XS := Lib.hid (XS.out.below hbB.out)
  replace XV0 := Lib.hid (XV0.out.below hbB.out)
  replace XG := Lib.hid (XG.out.below hbB.out)
  replace Hug := Lib.hid (Hug.out.below hbB.out)
  replace Huh := Lib.hid (Huh.out.below hbB.out)
  replace XH := Lib.hid (XH.out.below hbB.out)
  replace HB := Lib.hid (HB.out.trans (hbB.out.mono HB.out.size))
  have HZ18 := Lib.hid (hbB.out.size)
  clear hbB
  have HX0c0 := HX0.out.c0
  have HX0c1 := HX0.out.c1
  have HX0c2 := HX0.out.c2
  have XSc0 := XS.out.c0
  have XSc1 := XS.out.c1
  have XSc2 := XS.out.c2
  have XV0c0 := XV0.out.c0
  have XV0c1 := XV0.out.c1
  have XV0c2 := XV0.out.c2
  have XGc0 := XG.out.c0
  have XGc1 := XG.out.c1
  have XGc2 := XG.out.c2
  have XHc0 := XH.out.c0
  have XHc1 := XH.out.c1
  have XHc2 := XH.out.c2
  go_wp2_with fail
  clear HX0c0 HX0c1 HX0c2 XSc0 XSc1 XSc2 XV0c0 XV0c1 XV0c2 XGc0 XGc1 XGc2 XHc0 XHc1 XHc2
  have hhd := heldCircuit_any _ vd0 _ _ HLEN.out 1 (by omega) _ Hug.out.ci
  rw [← HMM.out] at hhd
  refine hhd.mono ?_
  rintro e w19 ⟨rfl, hb⟩
  clear hhd
  have hbB := Lib.hid (hb)
  clear hb
  replace HX0 := Lib.hid (HX0.out.below hbB.out)
  replace Hus := Lib.hid (Hus.out.below hbB.out)
  replace XS := Lib.hid (XS.out.below hbB.out)
  replace XV0 := Lib.hid (XV0.out.below hbB.out)
  replace XG := Lib.hid (XG.out.below hbB.out)
  replace Hug := Lib.hid (Hug.out.below hbB.out)
  replace Huh := Lib.hid (Huh.out.below hbB.out)
  replace XH := Lib.hid (XH.out.below hbB.out)
  replace HB := Lib.hid (HB.out.trans (hbB.out.mono HB.out.size))
  have HZ19 := Lib.hid (hbB.out.size)
  clear hbB
  have HX0c0 := HX0.out.c0
  have HX0c1 := HX0.out.c1
  have HX0c2 := HX0.out.c2
  have XSc0 := XS.out.c0
  have XSc1 := XS.out.c1
  have XSc2 := XS.out.c2
  have XV0c0 := XV0.out.c0
  have XV0c1 := XV0.out.c1
  have XV0c2 := XV0.out.c2
  have XGc0 := XG.out.c0
  have XGc1 := XG.out.c1
  have XGc2 := XG.out.c2
  have XHc0 := XH.out.c0
  have XHc1 := XH.out.c1
  have XHc2 := XH.out.c2
  go_wp2_with fail
  clear HX0c0 HX0c1 HX0c2 XSc0 XSc1 XSc2 XV0c0 XV0c1 XV0c2 XGc0 XGc1 XGc2 XHc0 XHc1 XHc2
  go_ret
  exact ⟨rfl, HB.out⟩

set_option maxRecDepth 100000 in
theorem lifted (os : Os) (started : os.Started) (H : Type) (enc : TypeId × Value → H) :
    ReturnsInHanded {} Tryd.checked os 3 .any (fun w args => (Rows.fnExactMergeCircuitSpec.pre enc Tryd.prog Tryd.f3 Rows.fnExactMergeCircuitRow.domain false w args ∧ laidMetH Tryd.prog Rows.fnExactMergeCircuitRow.laid w) ∧ sizedMet enc Tryd.prog Tryd.f3 (OpenSpec.ofChange Rows.fnExactMergeCircuitSpec) false w args)
      (Rows.fnExactMergeCircuitSpec.post enc Tryd.prog Tryd.f3 false true false false) := by
  refine returnsInHanded_of_change_and (C := Tryd.checked) (X := fun w _ => laidMetH Tryd.prog Rows.fnExactMergeCircuitRow.laid w) (fun _ _ _ hh h => h.of_heap hh) own started (by kernel_rfl) Tryd.func3
    (ChangeSpec.witness_shaped (enc := enc) (C := Tryd.checked) (os := os) (X := fun w _ => laidMetH Tryd.prog Rows.fnExactMergeCircuitRow.laid w) false (World.doorLaid Tryd.prog 4000 os) #[.agg #[.int .i8 0, .slice none 0 0, .slice none 0 0]] 8 rfl (World.shaped_of_RefB (by kernel_rfl) (by kernel_rfl)) (by kernel_rfl) (by kernel_rfl) (by kernel_rfl) (door_met os _)) ?_
  intro W base args ds gs before hval0 hW _ _ hL _
  have hval : ∀ (j : Nat) t v, Tryd.f3.params[j]? = some t → args[j]? = some v → Value.okWide Tryd.prog W .any base t v := hval0
  have hW' := hW
  obtain ⟨p, q, hA0, hV, rfl, hfz, hnd⟩ := hW
  have hA : DataW.TrodAll enc Tryd.prog W 0 (fun _ => true) true Tryd.f3.params.toList args.toList ds p := hA0
  rw [Tryd.params3] at hA hval
  obtain ⟨v0, vs0, d0, ds0, p0, q0, hargs, rfl, rfl, h0, r0⟩ := trodAll_cons hA
  obtain ⟨rfl, rfl, rfl⟩ := trodAll_nil r0
  obtain rfl : args = #[v0] := by cases args; simp_all
  obtain ⟨rfl, rfl⟩ := trodVars_none hV
  obtain ⟨N0, G0, O0, w0, g0⟩ := open_circ (P := Tryd.prog) (ti := 22) (tj := 65) (tg := 23) (te := 149) (to := 24) (by kernel_rfl) (by kernel_rfl) (of_decide_eq_true (by kernel_rfl)) Tryd.underlying26 (by kernel_rfl) ⟨rfl, rfl⟩ ⟨rfl, rfl⟩ ⟨rfl, rfl⟩ (by kernel_rfl) (by kernel_rfl) (by kernel_rfl) (by kernel_rfl) (by kernel_rfl) (by kernel_rfl) (by kernel_rfl) (by kernel_rfl) Tryd.underlying149 (by kernel_rfl) ⟨rfl, rfl⟩ ⟨rfl, rfl⟩ ⟨rfl, rfl⟩ (hval 0 26 v0 rfl rfl) h0 (fun x hx => hW'.lt x (by simp [hx]))
  obtain ⟨a0, ha0⟩ : ∃ y, y = v0 := ⟨_, rfl⟩
  subst ha0
  clear hA0 hval0
  simp only [List.append_nil] at hW'
  refine (walk W a0 N0 G0 O0 w0 hL).mono fun e W' ⟨he, hg⟩ => ?_
  subst he
  exact ⟨_, rfl, law_post rfl rfl hW' hg (fun _ _ _ => (trodAll_cons_mk (shut_bool Tryd.underlying4 _) trodAll_mk0)) (fun sp hsp => by have t := (trodAll_cons_mk (g0 W' hg sp (fun q hq => hsp q (by simp [hq]))) trodAll_mk0); simp only [List.append_nil, List.nil_append] at t; exact t) (ok_one (by kernel_rfl) rfl (okWide_bool_mk Tryd.underlying4 _))⟩

theorem over : Rows.fnExactMergeCircuitRow.holds Tryd.pinned (OpenSpec.ofChange Rows.fnExactMergeCircuitSpec) :=
  OpenClaim.holds_of_wide 3 Tryd.f3 rfl rfl rfl rfl rfl rfl rfl ⟨rfl, rfl, rfl, rfl, rfl⟩ rfl rfl rfl rfl rfl (by kernel_rfl) Tryd.func3 (joinedBy 3 Tryd.f3 Rows.fnExactMergeCircuitSpec Rows.fnExactMergeCircuitRow (by kernel_rfl))
    (of_decide_eq_true (by kernel_rfl)) (by unfold Func.isWrapper; first | (rw [if_pos (by decide +kernel)]; kernel_rfl) | (rw [if_neg (by decide +kernel)]; exact ⟨rfl, rfl⟩))
    (fun os started H enc _ => lifted os started H enc)

/-- the statement -/
theorem proved : Rows.FnExactMergeCircuitCardSaid :=
  Claim7.holds_tied_plain_at .later [] [.handle] true (true, "7ffc0cc08baea1ca18703eae9b7e17db7c1df789dc4f311e8ca786ca86ab6654") true
    over (fun _ h => by cases h) (by kernel_rfl) (fun _ h => by cases h) fnExactMergeCircuit_row_tie rfl ⟨rfl, rfl⟩ (by kernel_rfl) rfl
    (fun f fn hf hfn => by
      obtain rfl : f = 3 := Option.some.inj ((show Tryd.prog.funcNamed "loop.example/g01307/laws.FnExactMergeCircuit" = some 3 by kernel_rfl).symm.trans hf) |>.symm
      obtain rfl : fn = Tryd.f3 := (Option.some.inj (Tryd.func3.symm.trans hfn)).symm
      exact ⟨by kernel_rfl, fun j t ht => by
        rw [Tryd.params3] at ht
        have hm : t ∈ [26] := by simpa using Array.mem_of_getElem? ht
        have hall : ([26].all fun u => !Tryd.prog.wantsStandIn u) = true := by kernel_rfl
        exact (show Tryd.prog.wantsStandIn t = false by simpa using List.all_eq_true.1 hall t hm)⟩)
    (by kernel_rfl)
end Go.Proofs.YtedcfmdgcafnmaaDoor.fnExactMergeCircuit
