/-
  The statement Rows.FnExactNeededGatesSaid for every input the law returns true; the walk is ours, the rest is the guide's template at this function's number and types.
  Conditions: none.
-/
import Derived.Test.YtngaelifkhelbaaDoorRows
import Derived.WalkKit
import Derived.ProofKit
import Derived.OpenShut
import Derived.Test.YtngaelifkhelbaaDoorHead
import Derived.Test.YtngaelifkhelbaaDoorOpen



import Derived.Test.YtngaelifkhelbaaDoorCards
import Derived.Test.YtngaelifkhelbaaDoorTie
import Derived.LaidMore

import Derived.Stop.Joined
import Derived.SevenTiedAt

import Derived.Test.YtngaelifkhelbaaDoorCj
import Derived.Deep.RegionHeld
import Derived.Test.YtngaelifkhelbaaDoorCy
namespace Go.Proofs.YtngaelifkhelbaaDoor.fnExactNeededGates
open Go.ChangeShapes Go.WideShapes Go.ChangeAt Go.RowKit
set_option linter.unusedVariables false
set_option linter.unusedSimpArgs false

theorem own : ownKnob Tryd.prog.godebug = none := by kernel_rfl
theorem door_met (os : Os) (args : Array Value) : laidMetH Tryd.prog Rows.fnExactNeededGatesRow.laid ((World.doorLaid Tryd.prog 4000 os).forCall (fun _ _ => 0) ⟨#[], args, []⟩).memory :=
  laidMetH_of_parts3 (fuel := 10) (laidMet_of_run' 10 (by kernel_rfl) (by kernel_rfl)) (by kernel_rfl) (by kernel_rfl)

set_option maxRecDepth 100000 in
set_option maxHeartbeats 10000000 in
theorem walk (w : World) (a0 : Value) (N0 : Int) (G0 : List G3) (O0 : List Int) (w0 : CI w a0 N0 G0 O0) (hL : laidMetH Tryd.prog Rows.fnExactNeededGatesRow.laid w) :
    Calls Tryd.prog 7 #[a0] w fun e w' => e = .returned (.bool true) ∧ Below w.heap.size w w' := by
  have hE := Lib.hid (et_of_laid hL)
  clear hL
  obtain ⟨GV0, OV0, rfl, hn0, hg0, ho0⟩ := w0
  have HL0 := Lib.hid (And.intro hg0.long ho0.long)
  obtain ⟨A0, c0, rfl⟩ := hg0.form
  obtain ⟨B0, d0, rfl⟩ := ho0.form
  have HC0 := Lib.hid (show CI w (.agg #[.int .i8 N0, .slice A0 G0.length c0, .slice B0 O0.length d0]) N0 G0 O0 from ⟨_, _, rfl, hn0, hg0, ho0⟩)
  clear hg0 ho0
  obtain ⟨vd0, hvd0⟩ : ∃ vd0 : List Int, vd0 = ngL N0 G0 O0 := ⟨_, rfl⟩
  obtain ⟨vd1, hvd1⟩ : ∃ vd1 : Int, vd1 = okC N0 G0 O0 := ⟨_, rfl⟩
  have Q4 : (vd1 != vd1) = false := by simp
  have hlen : vd0.length ≤ 1048576 := by rw [hvd0]; exact ngL_len _ _ _
  have Hvd0 := Lib.hid hvd0
  clear hvd0
  have Hvd1 := Lib.hid hvd1
  clear hvd1
  have HLEN := Lib.hid hlen
  clear hlen
  obtain ⟨mm, hmm⟩ : ∃ mm : Nat, mm = 1 + vd0.length := ⟨_, rfl⟩
  have HMM := Lib.hid hmm
  clear hmm
  have tmm : decide ((mm : Int) < 0) = false := by simp
  have smm : ((mm : Int) != (mm : Int)) = false := by simp
  obtain ⟨kk, hkk⟩ : ∃ kk : Nat, kk = 1 + 3 * G0.length + O0.length := ⟨_, rfl⟩
  have HKK := Lib.hid hkk
  clear hkk
  have tkk : decide ((kk : Int) < 0) = false := by simp
  have HB := Lib.hid (Below.refl w.heap.size w)
  go_enter Tryd.func7, Tryd.ntmps7
  go_wp2_with fail
  obtain ⟨z1, z2, z3⟩ := nw1 w (.cells #[.int .i8 N0, .slice A0 G0.length c0, .slice B0 O0.length d0] 26)
  generalize World.alloc w _ = w1 at z1 z2 z3 ⊢
  have HX0 : Hid (BX w1 w.heap.size (.int .i8 N0) (.slice A0 G0.length c0) (.slice B0 O0.length d0)) := Lib.hid ⟨_, z1⟩
  clear z1
  have hbB := Lib.hid (z2)
  clear z2
  replace HB := Lib.hid (HB.out.trans (hbB.out.mono HB.out.size))
  have HZ0 := Lib.hid (z3)
  clear hbB z3
  by_cases big0 : G0.length + O0.length ≤ 1048576
  rotate_left
  · refine (szCircuit_any N0 _ _ _ _ HL0.out.1 HL0.out.2 1048576 (by omega) _ ⟨_, _, rfl⟩ ⟨_, _, rfl⟩).mono ?_
    rintro e w2 ⟨rfl, hb⟩
    rw [show szC G0.length O0.length 1048576 = .int .i64 (-1) from by unfold szC; rw [if_neg big0]]
    replace HB := Lib.hid (HB.out.trans (hb.mono HB.out.size))
    clear hb
    have m0 := HX0.out
    go_wp2_with fail
    go_ret
    exact ⟨rfl, HB.out⟩
  refine (szCircuit_any N0 _ _ _ _ HL0.out.1 HL0.out.2 1048576 (by omega) _ ⟨_, _, rfl⟩ ⟨_, _, rfl⟩).mono ?_
  rintro e w2 ⟨rfl, hb⟩
  obtain ⟨y0, hy0⟩ : ∃ y0 : Nat, y0 = 1048576 - (G0.length + O0.length) := ⟨_, rfl⟩
  rw [show szC G0.length O0.length 1048576 = .int .i64 (y0 : Int) from by unfold szC; rw [if_pos big0, hy0]]
  have ty0 : decide ((y0 : Int) < 0) = false := by simp
  have ly0 : y0 ≤ 1048576 := by omega
  have hs0 : G0.length + O0.length ≤ 1048576 := by omega
  clear hy0 big0
  have hbB := Lib.hid (hb)
  clear hb
  replace HX0 := Lib.hid (HX0.out.below hbB.out)
  replace HB := Lib.hid (HB.out.trans (hbB.out.mono HB.out.size))
  have HZ1 := Lib.hid (hbB.out.size)
  clear hbB
  have HX0c0 := HX0.out.c0
  have HX0c1 := HX0.out.c1
  have HX0c2 := HX0.out.c2
  go_wp2_with fail
  clear HX0c0 HX0c1 HX0c2
  refine (toCircuit_any _ N0 G0 O0 hs0 _ (HC0.out.below HB.out)).mono ?_
  rintro e w3 ⟨uw3, rfl, hb, ho⟩
  have Huw3 := Lib.hid ho
  clear ho
  have hbB := Lib.hid (hb)
  clear hb
  replace HX0 := Lib.hid (HX0.out.below hbB.out)
  replace HB := Lib.hid (HB.out.trans (hbB.out.mono HB.out.size))
  have HZ2 := Lib.hid (hbB.out.size)
  clear hbB
  have HX0c0 := HX0.out.c0
  have HX0c1 := HX0.out.c1
  have HX0c2 := HX0.out.c2
  go_wp2_with fail
  clear HX0c0 HX0c1 HX0c2
  refine (spec_NeededGates uw3 N0 G0 O0   _ Huw3.out.ci ).mono ?_
  rintro e w4 ⟨us, rfl, hb, ho⟩
  rw [← Hvd0.out] at ho
  rw [← Hvd1.out]
  have Hus := Lib.hid ho
  clear ho
  have hbB := Lib.hid (hb)
  clear hb
  replace HX0 := Lib.hid (HX0.out.below hbB.out)
  replace Huw3 := Lib.hid (Huw3.out.below hbB.out)
  replace HB := Lib.hid (HB.out.trans (hbB.out.mono HB.out.size))
  have HZ3 := Lib.hid (hbB.out.size)
  clear hbB
  obtain ⟨gaus, gbus, rfl⟩ := Hus.out.form
  clear Huw3
  have HX0c0 := HX0.out.c0
  have HX0c1 := HX0.out.c1
  have HX0c2 := HX0.out.c2
  go_wp2_with fail
  clear HX0c0 HX0c1 HX0c2
  refine (toCircuit_any _ N0 G0 O0 hs0 _ (HC0.out.below HB.out)).mono ?_
  rintro e w5 ⟨uw5, rfl, hb, ho⟩
  have Huw5 := Lib.hid ho
  clear ho
  have hbB := Lib.hid (hb)
  clear hb
  replace HX0 := Lib.hid (HX0.out.below hbB.out)
  replace Hus := Lib.hid (Hus.out.below hbB.out)
  replace HB := Lib.hid (HB.out.trans (hbB.out.mono HB.out.size))
  have HZ4 := Lib.hid (hbB.out.size)
  clear hbB
  obtain ⟨gv0, ov0, e0, _, fg0, fo0⟩ := Huw5.out.ci
  obtain ⟨ga0, gb0, rfl⟩ := fg0.form
  obtain ⟨oa0, ob0, rfl⟩ := fo0.form
  subst e0
  clear fg0 fo0
  have HX0c0 := HX0.out.c0
  have HX0c1 := HX0.out.c1
  have HX0c2 := HX0.out.c2
  have qx := HX0.out.below (nw1 w5 (.cells #[.int .i8 N0, .slice ga0 G0.length gb0, .slice oa0 O0.length ob0] 33)).2.1
  have HX0q0 := qx.c0
  have HX0q1 := qx.c1
  have HX0q2 := qx.c2
  clear qx
  go_wp2_with fail
  clear HX0c0 HX0c1 HX0c2 HX0q0 HX0q1 HX0q2
  obtain ⟨z1, z2, z3⟩ := nw1 w5 (.cells #[.int .i8 N0, .slice ga0 G0.length gb0, .slice oa0 O0.length ob0] 33)
  generalize World.alloc w5 _ = w6 at z1 z2 z3 ⊢
  have XV0 : Hid (BX w6 w5.heap.size (.int .i8 N0) (.slice ga0 G0.length gb0) (.slice oa0 O0.length ob0)) := Lib.hid ⟨_, z1⟩
  clear z1
  have hbB := Lib.hid (z2)
  clear z2
  replace HX0 := Lib.hid (HX0.out.below hbB.out)
  replace Hus := Lib.hid (Hus.out.below hbB.out)
  replace Huw5 := Lib.hid (Huw5.out.below hbB.out)
  replace HB := Lib.hid (HB.out.trans (hbB.out.mono HB.out.size))
  have HZ5 := Lib.hid (z3)
  clear hbB z3
  have HX0c0 := HX0.out.c0
  have HX0c1 := HX0.out.c1
  have HX0c2 := HX0.out.c2
  have XV0c0 := XV0.out.c0
  have XV0c1 := XV0.out.c1
  have XV0c2 := XV0.out.c2
  try (go_wp2_with fail)
  clear HX0c0 HX0c1 HX0c2 XV0c0 XV0c1 XV0c2
  refine (impl_NeededGates (.agg #[.int .i8 N0, .slice ga0 G0.length gb0, .slice oa0 O0.length ob0]) N0 G0 O0   _ Huw5.out.ci (hE.out.below HB.out)).mono ?_
  rintro e w7 ⟨ug, rfl, hb, ho⟩
  rw [← Hvd0.out] at ho
  rw [← Hvd1.out]
  have Hug := Lib.hid ho
  clear ho
  have hbB := Lib.hid (hb)
  clear hb
  replace HX0 := Lib.hid (HX0.out.below hbB.out)
  replace Hus := Lib.hid (Hus.out.below hbB.out)
  replace Huw5 := Lib.hid (Huw5.out.below hbB.out)
  replace XV0 := Lib.hid (XV0.out.below hbB.out)
  replace HB := Lib.hid (HB.out.trans (hbB.out.mono HB.out.size))
  have HZ6 := Lib.hid (hbB.out.size)
  clear hbB
  obtain ⟨gaug, gbug, rfl⟩ := Hug.out.form
  have HX0c0 := HX0.out.c0
  have HX0c1 := HX0.out.c1
  have HX0c2 := HX0.out.c2
  have XV0c0 := XV0.out.c0
  have XV0c1 := XV0.out.c1
  have XV0c2 := XV0.out.c2
  go_wp2_with fail
  clear HX0c0 HX0c1 HX0c2 XV0c0 XV0c1 XV0c2
  refine (eqInt64S_refl _ _ vd0 HLEN.out _ (LS.of_own Hug.out.1) (LS.of_own Hus.out.1)).mono ?_
  rintro e w8 ⟨rfl, hb⟩
  have hbB := Lib.hid (hb)
  clear hb
  replace HX0 := Lib.hid (HX0.out.below hbB.out)
  replace Hus := Lib.hid (Hus.out.below hbB.out)
  replace Huw5 := Lib.hid (Huw5.out.below hbB.out)
  replace XV0 := Lib.hid (XV0.out.below hbB.out)
  replace Hug := Lib.hid (Hug.out.below hbB.out)
  replace HB := Lib.hid (HB.out.trans (hbB.out.mono HB.out.size))
  have HZ7 := Lib.hid (hbB.out.size)
  clear hbB
  have HX0c0 := HX0.out.c0
  have HX0c1 := HX0.out.c1
  have HX0c2 := HX0.out.c2
  have XV0c0 := XV0.out.c0
  have XV0c1 := XV0.out.c1
  have XV0c2 := XV0.out.c2
  go_upto_region 10 with fail
  have HT := Lib.hid (fun (W : World) (hW : Below w8.heap.size w8 W) => toCircuit_any _ N0 G0 O0 hs0 W (HC0.out.below (HB.out.trans (hW.mono HB.out.size))))
  have KX := Lib.hid (fun (W : World) (hW : Below w8.heap.size w8 W) => And.intro (HX0.out.below hW) (XV0.out.below hW))
  go_region_held (fun W => W.cell? ⟨w.heap.size, 0, none⟩ = some (.int .i8 N0) ∧ W.cell? ⟨w.heap.size, 1, none⟩ = some (.slice A0 G0.length c0) ∧ W.cell? ⟨w.heap.size, 2, none⟩ = some (.slice B0 O0.length d0) ∧ W.cell? ⟨w5.heap.size, 0, none⟩ = some (.int .i8 N0) ∧ W.cell? ⟨w5.heap.size, 1, none⟩ = some (.slice ga0 G0.length gb0) ∧ W.cell? ⟨w5.heap.size, 2, none⟩ = some (.slice oa0 O0.length ob0) ∧ Hid (Below w8.heap.size w8 W)) (first | exact keep6 (KX.out _ HKB.out).1 (KX.out _ HKB.out).2 HKB | exact keep6 (KX.out _ HKA.out).1 (KX.out _ HKA.out).2 HKA | exact keep6 (KX.out _ (bdrew1 w8)).1 (KX.out _ (bdrew1 w8)).2 (Lib.hid (bdrew1 w8))) (first | (go_at_call 17; refine (HT.out _ (bdrew1 w8)).mono ?_; rintro e wA ⟨uA, rfl, hbA, hoA⟩; have HKA := Lib.hid ((bdrew1 w8).trans (hbA.mono (Nat.le_refl _))); have HOA := Lib.hid hoA; clear hbA hoA) | (go_at_call 19; refine (eqCircuit_refl _ _ N0 G0 O0 hs0 _ ((Huw5.out.below HKA.out).ci) HOA.out.ci).mono ?_; rintro e wB ⟨rfl, hbB⟩; have HKB := Lib.hid (HKA.out.trans (hbB.mono HKA.out.size)); clear hbB))
  clear HX0c0 HX0c1 HX0c2 XV0c0 XV0c1 XV0c2
  have hkb := HKB.out
  clear HKA HOA HKB HT KX
  have hbB := Lib.hid (hkb)
  clear hkb
  replace HX0 := Lib.hid (HX0.out.below hbB.out)
  replace Hus := Lib.hid (Hus.out.below hbB.out)
  replace Huw5 := Lib.hid (Huw5.out.below hbB.out)
  replace XV0 := Lib.hid (XV0.out.below hbB.out)
  replace Hug := Lib.hid (Hug.out.below hbB.out)
  replace HB := Lib.hid (HB.out.trans (hbB.out.mono HB.out.size))
  have HZ8 := Lib.hid (hbB.out.size)
  clear hbB
  have HX0c0 := HX0.out.c0
  have HX0c1 := HX0.out.c1
  have HX0c2 := HX0.out.c2
  have XV0c0 := XV0.out.c0
  have XV0c1 := XV0.out.c1
  have XV0c2 := XV0.out.c2
  go_wp2_with fail
  clear HX0c0 HX0c1 HX0c2 XV0c0 XV0c1 XV0c2
  have hmk := markCircuit_any (.agg #[.int .i8 N0, .slice ga0 G0.length gb0, .slice oa0 O0.length ob0]) N0 G0 O0 hs0 w4.heap.size w5.heap.size 1 (by omega) _ Huw5.out (by have := HZ0.out; have := HZ1.out; have := HZ2.out; have := HZ3.out; have := HZ4.out; have := HZ5.out; have := HZ6.out; have := HZ7.out; have := HZ8.out; omega)
  rw [← HKK.out] at hmk
  refine hmk.mono ?_
  rintro e w9 ⟨rfl, _, hm⟩
  clear hmk
  clear Huw5
  have hmB := Lib.hid (hm)
  clear hm
  replace HX0 := Lib.hid (HX0.out.mid hmB.out (by have := HZ0.out; have := HZ1.out; have := HZ2.out; have := HZ3.out; have := HZ4.out; have := HZ5.out; have := HZ6.out; have := HZ7.out; have := HZ8.out; omega))
  replace Hus := Lib.hid (Hus.out.mid hmB.out (by have := HZ0.out; have := HZ1.out; have := HZ2.out; have := HZ3.out; have := HZ4.out; have := HZ5.out; have := HZ6.out; have := HZ7.out; have := HZ8.out; omega))
  replace XV0 := Lib.hid (XV0.out.mid hmB.out (by have := HZ0.out; have := HZ1.out; have := HZ2.out; have := HZ3.out; have := HZ4.out; have := HZ5.out; have := HZ6.out; have := HZ7.out; have := HZ8.out; omega))
  replace Hug := Lib.hid (Hug.out.mid hmB.out (by have := HZ0.out; have := HZ1.out; have := HZ2.out; have := HZ3.out; have := HZ4.out; have := HZ5.out; have := HZ6.out; have := HZ7.out; have := HZ8.out; omega))
  replace HB := Lib.hid (HB.out.trans (hmB.out.1.mono (by have := HZ0.out; have := HZ1.out; have := HZ2.out; have := HZ3.out; have := HZ4.out; have := HZ5.out; have := HZ6.out; have := HZ7.out; have := HZ8.out; omega)))
  have HZ9 := Lib.hid (hmB.out.1.size)
  clear hmB
  have HX0c0 := HX0.out.c0
  have HX0c1 := HX0.out.c1
  have HX0c2 := HX0.out.c2
  have XV0c0 := XV0.out.c0
  have XV0c1 := XV0.out.c1
  have XV0c2 := XV0.out.c2
  go_wp2_with fail
  clear HX0c0 HX0c1 HX0c2 XV0c0 XV0c1 XV0c2
  refine (eqInt64S_refl _ _ vd0 HLEN.out _ (LS.of_own Hug.out.1) (LS.of_own Hus.out.1)).mono ?_
  rintro e w10 ⟨rfl, hb⟩
  have hbB := Lib.hid (hb)
  clear hb
  replace HX0 := Lib.hid (HX0.out.below hbB.out)
  replace Hus := Lib.hid (Hus.out.below hbB.out)
  replace XV0 := Lib.hid (XV0.out.below hbB.out)
  replace Hug := Lib.hid (Hug.out.below hbB.out)
  replace HB := Lib.hid (HB.out.trans (hbB.out.mono HB.out.size))
  have HZ10 := Lib.hid (hbB.out.size)
  clear hbB
  have HX0c0 := HX0.out.c0
  have HX0c1 := HX0.out.c1
  have HX0c2 := HX0.out.c2
  have XV0c0 := XV0.out.c0
  have XV0c1 := XV0.out.c1
  have XV0c2 := XV0.out.c2
  go_wp2_with fail
  clear HX0c0 HX0c1 HX0c2 XV0c0 XV0c1 XV0c2
  have hmk := markInt64S_any (.slice gaug vd0.length gbug) vd0 HLEN.out 1 (by omega) w6.heap.size _ Hug.out.1
  rw [← HMM.out] at hmk
  refine hmk.mono ?_
  rintro e w11 ⟨rfl, hro, hgr⟩
  clear hmk
  have hm := Mid.of_grown hgr (lo := w6.heap.size) (hi := w7.heap.size) (fun k hk => ⟨(own_block Hug.out.1 k hk).1, Hug.out.2 k hk⟩) (by have := HZ0.out; have := HZ1.out; have := HZ2.out; have := HZ3.out; have := HZ4.out; have := HZ5.out; have := HZ6.out; have := HZ7.out; have := HZ8.out; have := HZ9.out; have := HZ10.out; omega)
  have hco : OR w6.heap.size w7.heap.size w11 2 1 (.slice gaug vd0.length gbug) vd0.length ((mks (mkl 1) vd0.length).map (Value.int .i64)) := ⟨hro, Hug.out.2⟩
  clear hro hgr
  clear Hug
  have Hug := Lib.hid hco
  clear hco
  have hmB := Lib.hid (hm)
  clear hm
  replace HX0 := Lib.hid (HX0.out.mid hmB.out (by have := HZ0.out; have := HZ1.out; have := HZ2.out; have := HZ3.out; have := HZ4.out; have := HZ5.out; have := HZ6.out; have := HZ7.out; have := HZ8.out; have := HZ9.out; have := HZ10.out; omega))
  replace Hus := Lib.hid (Hus.out.mid hmB.out (by have := HZ0.out; have := HZ1.out; have := HZ2.out; have := HZ3.out; have := HZ4.out; have := HZ5.out; have := HZ6.out; have := HZ7.out; have := HZ8.out; have := HZ9.out; have := HZ10.out; omega))
  replace XV0 := Lib.hid (XV0.out.mid hmB.out (by have := HZ0.out; have := HZ1.out; have := HZ2.out; have := HZ3.out; have := HZ4.out; have := HZ5.out; have := HZ6.out; have := HZ7.out; have := HZ8.out; have := HZ9.out; have := HZ10.out; omega))
  replace HB := Lib.hid (HB.out.trans (hmB.out.1.mono (by have := HZ0.out; have := HZ1.out; have := HZ2.out; have := HZ3.out; have := HZ4.out; have := HZ5.out; have := HZ6.out; have := HZ7.out; have := HZ8.out; have := HZ9.out; have := HZ10.out; omega)))
  have HZ11 := Lib.hid (hmB.out.1.size)
  clear hmB
  have HX0c0 := HX0.out.c0
  have HX0c1 := HX0.out.c1
  have HX0c2 := HX0.out.c2
  have XV0c0 := XV0.out.c0
  have XV0c1 := XV0.out.c1
  have XV0c2 := XV0.out.c2
  go_wp2_with fail
  clear HX0c0 HX0c1 HX0c2 XV0c0 XV0c1 XV0c2
  have hhd := heldInt64S_any _ _ HLEN.out 1 (by omega) _ (LS.of_own Hug.out.1)
  rw [← HMM.out] at hhd
  refine hhd.mono ?_
  rintro e w12 ⟨rfl, hw⟩
  subst hw
  clear hhd
  have HX0c0 := HX0.out.c0
  have HX0c1 := HX0.out.c1
  have HX0c2 := HX0.out.c2
  have XV0c0 := XV0.out.c0
  have XV0c1 := XV0.out.c1
  have XV0c2 := XV0.out.c2
  go_wp2_with fail
  clear HX0c0 HX0c1 HX0c2 XV0c0 XV0c1 XV0c2
  refine (toCircuit_any _ N0 G0 O0 hs0 _ (HC0.out.below HB.out)).mono ?_
  rintro e w12 ⟨uw12, rfl, hb, ho⟩
  have Huw12 := Lib.hid ho
  clear ho
  have hbB := Lib.hid (hb)
  clear hb
  replace HX0 := Lib.hid (HX0.out.below hbB.out)
  replace Hus := Lib.hid (Hus.out.below hbB.out)
  replace XV0 := Lib.hid (XV0.out.below hbB.out)
  replace Hug := Lib.hid (Hug.out.below hbB.out)
  replace HB := Lib.hid (HB.out.trans (hbB.out.mono HB.out.size))
  have HZ12 := Lib.hid (hbB.out.size)
  clear hbB
  have HX0c0 := HX0.out.c0
  have HX0c1 := HX0.out.c1
  have HX0c2 := HX0.out.c2
  have XV0c0 := XV0.out.c0
  have XV0c1 := XV0.out.c1
  have XV0c2 := XV0.out.c2
  go_wp2_with fail
  clear HX0c0 HX0c1 HX0c2 XV0c0 XV0c1 XV0c2
  refine (impl_NeededGates uw12 N0 G0 O0   _ Huw12.out.ci (hE.out.below HB.out)).mono ?_
  rintro e w13 ⟨uh, rfl, hb, ho⟩
  rw [← Hvd0.out] at ho
  rw [← Hvd1.out]
  have Huh := Lib.hid ho
  clear ho
  have hbB := Lib.hid (hb)
  clear hb
  replace HX0 := Lib.hid (HX0.out.below hbB.out)
  replace Hus := Lib.hid (Hus.out.below hbB.out)
  replace XV0 := Lib.hid (XV0.out.below hbB.out)
  replace Hug := Lib.hid (Hug.out.below hbB.out)
  replace Huw12 := Lib.hid (Huw12.out.below hbB.out)
  replace HB := Lib.hid (HB.out.trans (hbB.out.mono HB.out.size))
  have HZ13 := Lib.hid (hbB.out.size)
  clear hbB
  obtain ⟨gauh, gbuh, rfl⟩ := Huh.out.form
  clear Huw12
  have HX0c0 := HX0.out.c0
  have HX0c1 := HX0.out.c1
  have HX0c2 := HX0.out.c2
  have XV0c0 := XV0.out.c0
  have XV0c1 := XV0.out.c1
  have XV0c2 := XV0.out.c2
  go_wp2_with fail
  clear HX0c0 HX0c1 HX0c2 XV0c0 XV0c1 XV0c2
  refine (eqInt64S_refl _ _ vd0 HLEN.out _ (LS.of_own Huh.out.1) (LS.of_own Hus.out.1)).mono ?_
  rintro e w14 ⟨rfl, hb⟩
  have hbB := Lib.hid (hb)
  clear hb
  replace HX0 := Lib.hid (HX0.out.below hbB.out)
  replace Hus := Lib.hid (Hus.out.below hbB.out)
  replace XV0 := Lib.hid (XV0.out.below hbB.out)
  replace Hug := Lib.hid (Hug.out.below hbB.out)
  replace Huh := Lib.hid (Huh.out.below hbB.out)
  replace HB := Lib.hid (HB.out.trans (hbB.out.mono HB.out.size))
  have HZ14 := Lib.hid (hbB.out.size)
  clear hbB
  have HX0c0 := HX0.out.c0
  have HX0c1 := HX0.out.c1
  have HX0c2 := HX0.out.c2
  have XV0c0 := XV0.out.c0
  have XV0c1 := XV0.out.c1
  have XV0c2 := XV0.out.c2
  go_wp2_with fail
  clear HX0c0 HX0c1 HX0c2 XV0c0 XV0c1 XV0c2
  have hhd := heldInt64S_any _ _ HLEN.out 1 (by omega) _ (LS.of_own Hug.out.1)
  rw [← HMM.out] at hhd
  refine hhd.mono ?_
  rintro e w15 ⟨rfl, hw⟩
  subst hw
  clear hhd
  have HX0c0 := HX0.out.c0
  have HX0c1 := HX0.out.c1
  have HX0c2 := HX0.out.c2
  have XV0c0 := XV0.out.c0
  have XV0c1 := XV0.out.c1
  have XV0c2 := XV0.out.c2
  go_wp2_with fail
  clear HX0c0 HX0c1 HX0c2 XV0c0 XV0c1 XV0c2
  go_ret
  exact ⟨rfl, HB.out⟩

set_option maxRecDepth 100000 in
theorem lifted (os : Os) (started : os.Started) (H : Type) (enc : TypeId × Value → H) :
    ReturnsInHanded {} Tryd.checked os 7 .any (fun w args => (Rows.fnExactNeededGatesSpec.pre enc Tryd.prog Tryd.f7 Rows.fnExactNeededGatesRow.domain false w args ∧ laidMetH Tryd.prog Rows.fnExactNeededGatesRow.laid w) ∧ sizedMet enc Tryd.prog Tryd.f7 (OpenSpec.ofChange Rows.fnExactNeededGatesSpec) false w args)
      (Rows.fnExactNeededGatesSpec.post enc Tryd.prog Tryd.f7 false true false false) := by
  refine returnsInHanded_of_change_and (C := Tryd.checked) (X := fun w _ => laidMetH Tryd.prog Rows.fnExactNeededGatesRow.laid w) (fun _ _ _ hh h => h.of_heap hh) own started (by kernel_rfl) Tryd.func7
    (ChangeSpec.witness_shaped (enc := enc) (C := Tryd.checked) (os := os) (X := fun w _ => laidMetH Tryd.prog Rows.fnExactNeededGatesRow.laid w) false (World.doorLaid Tryd.prog 4000 os) #[.agg #[.int .i8 0, .slice none 0 0, .slice none 0 0]] 8 rfl (World.shaped_of_RefB (by kernel_rfl) (by kernel_rfl)) (by kernel_rfl) (by kernel_rfl) (by kernel_rfl) (door_met os _)) ?_
  intro W base args ds gs before hval0 hW _ _ hL _
  have hval : ∀ (j : Nat) t v, Tryd.f7.params[j]? = some t → args[j]? = some v → Value.okWide Tryd.prog W .any base t v := hval0
  have hW' := hW
  obtain ⟨p, q, hA0, hV, rfl, hfz, hnd⟩ := hW
  have hA : DataW.TrodAll enc Tryd.prog W 0 (fun _ => true) true Tryd.f7.params.toList args.toList ds p := hA0
  rw [Tryd.params7] at hA hval
  obtain ⟨v0, vs0, d0, ds0, p0, q0, hargs, rfl, rfl, h0, r0⟩ := trodAll_cons hA
  obtain ⟨rfl, rfl, rfl⟩ := trodAll_nil r0
  obtain rfl : args = #[v0] := by cases args; simp_all
  obtain ⟨rfl, rfl⟩ := trodVars_none hV
  obtain ⟨N0, G0, O0, w0, g0⟩ := open_circ (P := Tryd.prog) (ti := 22) (tj := 86) (tg := 23) (te := 118) (to := 24) (by kernel_rfl) (by kernel_rfl) (of_decide_eq_true (by kernel_rfl)) Tryd.underlying26 (by kernel_rfl) ⟨rfl, rfl⟩ ⟨rfl, rfl⟩ ⟨rfl, rfl⟩ (by kernel_rfl) (by kernel_rfl) (by kernel_rfl) (by kernel_rfl) (by kernel_rfl) (by kernel_rfl) (by kernel_rfl) (by kernel_rfl) Tryd.underlying118 (by kernel_rfl) ⟨rfl, rfl⟩ ⟨rfl, rfl⟩ ⟨rfl, rfl⟩ (hval 0 26 v0 rfl rfl) h0 (fun x hx => hW'.lt x (by simp [hx]))
  obtain ⟨a0, ha0⟩ : ∃ y, y = v0 := ⟨_, rfl⟩
  subst ha0
  clear hA0 hval0
  simp only [List.append_nil] at hW'
  refine (walk W a0 N0 G0 O0 w0 hL).mono fun e W' ⟨he, hg⟩ => ?_
  subst he
  exact ⟨_, rfl, law_post rfl rfl hW' hg (fun _ _ _ => (trodAll_cons_mk (shut_bool Tryd.underlying4 _) trodAll_mk0)) (fun sp hsp => by have t := (trodAll_cons_mk (g0 W' hg sp (fun q hq => hsp q (by simp [hq]))) trodAll_mk0); simp only [List.append_nil, List.nil_append] at t; exact t) (ok_one (by kernel_rfl) rfl (okWide_bool_mk Tryd.underlying4 _))⟩

theorem over : Rows.fnExactNeededGatesRow.holds Tryd.pinned (OpenSpec.ofChange Rows.fnExactNeededGatesSpec) :=
  OpenClaim.holds_of_wide 7 Tryd.f7 rfl rfl rfl rfl rfl rfl rfl ⟨rfl, rfl, rfl, rfl, rfl⟩ rfl rfl rfl rfl rfl (by kernel_rfl) Tryd.func7 (joinedBy 7 Tryd.f7 Rows.fnExactNeededGatesSpec Rows.fnExactNeededGatesRow (by kernel_rfl))
    (of_decide_eq_true (by kernel_rfl)) (by unfold Func.isWrapper; first | (rw [if_pos (by decide +kernel)]; kernel_rfl) | (rw [if_neg (by decide +kernel)]; exact ⟨rfl, rfl⟩))
    (fun os started H enc _ => lifted os started H enc)

/-- the statement -/
theorem proved : Rows.FnExactNeededGatesCardSaid :=
  Claim7.holds_tied_plain_at .later [] [.handle] true (true, "c6fc56939207693e2f9fa1330dc8b7113433b2fbc50fc7af69271ea081f816ea") true
    over (fun _ h => by cases h) (by kernel_rfl) (fun _ h => by cases h) fnExactNeededGates_row_tie rfl ⟨rfl, rfl⟩ (by kernel_rfl) rfl
    (fun f fn hf hfn => by
      obtain rfl : f = 7 := Option.some.inj ((show Tryd.prog.funcNamed "loop.example/g01307/laws.FnExactNeededGates" = some 7 by kernel_rfl).symm.trans hf) |>.symm
      obtain rfl : fn = Tryd.f7 := (Option.some.inj (Tryd.func7.symm.trans hfn)).symm
      exact ⟨by kernel_rfl, fun j t ht => by
        rw [Tryd.params7] at ht
        have hm : t ∈ [26] := by simpa using Array.mem_of_getElem? ht
        have hall : ([26].all fun u => !Tryd.prog.wantsStandIn u) = true := by kernel_rfl
        exact (show Tryd.prog.wantsStandIn t = false by simpa using List.all_eq_true.1 hall t hm)⟩)
    (by kernel_rfl)
end Go.Proofs.YtngaelifkhelbaaDoor.fnExactNeededGates
