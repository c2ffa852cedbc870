/-
  The statement Rows.FnExactTimesCircuitSaid for every input the law returns true; the walk is ours, the rest is the guide's template at this function's number and types.
  Conditions: none.
-/
import Derived.Test.YtngaelifkhelbaaDoorRows
import Derived.WalkKit
import Derived.ProofKit
import Derived.OpenShut
import Derived.Test.YtngaelifkhelbaaDoorHead
import Derived.Test.YtngaelifkhelbaaDoorOpen



import Derived.Test.YtngaelifkhelbaaDoorCards
import Derived.Test.YtngaelifkhelbaaDoorTie
import Derived.LaidMore

import Derived.Stop.Joined
import Derived.SevenTiedAt

import Derived.Test.YtngaelifkhelbaaDoorCj
import Derived.Deep.RegionHeld
import Derived.Test.YtngaelifkhelbaaDoorDk
namespace Go.Proofs.YtngaelifkhelbaaDoor.fnExactTimesCircuit
open Go.ChangeShapes Go.WideShapes Go.ChangeAt Go.RowKit
set_option linter.unusedVariables false
set_option linter.unusedSimpArgs false

theorem own : ownKnob Tryd.prog.godebug = none := by kernel_rfl
theorem door_met (os : Os) (args : Array Value) : laidMetH Tryd.prog Rows.fnExactTimesCircuitRow.laid ((World.doorLaid Tryd.prog 4000 os).forCall (fun _ _ => 0) ⟨#[], args, []⟩).memory :=
  laidMetH_of_parts3 (fuel := 10) (laidMet_of_run' 10 (by kernel_rfl) (by kernel_rfl)) (by kernel_rfl) (by kernel_rfl)

set_option maxRecDepth 100000 in
set_option maxHeartbeats 10000000 in
theorem walk (w : World) (a0 : Int) (w0 : (Lit.int .i64 a0).wf = true) (hL : laidMetH Tryd.prog Rows.fnExactTimesCircuitRow.laid w) :
    Calls Tryd.prog 12 #[.int .i64 a0] w fun e w' => e = .returned (.bool true) ∧ Below w.heap.size w w' := by
  have hE := Lib.hid (et_of_laid hL)
  clear hL
  have b0 := bounds_i64 w0
  obtain ⟨vd0, hvd0⟩ : ∃ vd0 : Int, vd0 = mdN a0 := ⟨_, rfl⟩
  obtain ⟨vd1, hvd1⟩ : ∃ vd1 : List G3, vd1 = mdG timesG a0 := ⟨_, rfl⟩
  obtain ⟨vd2, hvd2⟩ : ∃ vd2 : List Int, vd2 = mdO timesG a0 := ⟨_, rfl⟩
  obtain ⟨vd3, hvd3⟩ : ∃ vd3 : Int, vd3 = mdK a0 := ⟨_, rfl⟩
  have Q4 : (vd3 != vd3) = false := by simp
  have hlen : vd1.length + vd2.length ≤ 1048576 := by rw [hvd1, hvd2]; exact lenTimesCircuit _
  have Hvd0 := Lib.hid hvd0
  clear hvd0
  have Hvd1 := Lib.hid hvd1
  clear hvd1
  have Hvd2 := Lib.hid hvd2
  clear hvd2
  have Hvd3 := Lib.hid hvd3
  clear hvd3
  have HLEN := Lib.hid hlen
  clear hlen
  obtain ⟨mm, hmm⟩ : ∃ mm : Nat, mm = 1 + 3 * vd1.length + vd2.length := ⟨_, rfl⟩
  have HMM := Lib.hid hmm
  clear hmm
  have tmm : decide ((mm : Int) < 0) = false := by simp
  have smm : ((mm : Int) != (mm : Int)) = false := by simp
  have HB := Lib.hid (Below.refl w.heap.size w)
  go_enter Tryd.func12, Tryd.ntmps12
  go_wp2_with fail
  refine (spec_TimesCircuit a0 b0 _ ).mono ?_
  rintro e w1 ⟨us, rfl, hb, ho⟩
  rw [← Hvd0.out] at ho
  rw [← Hvd1.out] at ho
  rw [← Hvd2.out] at ho
  rw [← Hvd3.out]
  have Hus := Lib.hid ho
  clear ho
  have hbB := Lib.hid (hb)
  clear hb
  replace HB := Lib.hid (HB.out.trans (hbB.out.mono HB.out.size))
  have HZ0 := Lib.hid (hbB.out.size)
  clear hbB
  obtain ⟨gus, ous, eus, _, fgus, fous⟩ := Hus.out.ci
  obtain ⟨gaus, gbus, rfl⟩ := fgus.form
  obtain ⟨oaus, obus, rfl⟩ := fous.form
  subst eus
  clear fgus fous
  go_wp2_with fail
  obtain ⟨z1, z2, z3⟩ := nw1 w1 (.cells #[.int .i8 vd0, .slice gaus vd1.length gbus, .slice oaus vd2.length obus] 33)
  generalize World.alloc w1 _ = w2 at z1 z2 z3 ⊢
  have XS : Hid (BX w2 w1.heap.size (.int .i8 vd0) (.slice gaus vd1.length gbus) (.slice oaus vd2.length obus)) := Lib.hid ⟨_, z1⟩
  clear z1
  have hbB := Lib.hid (z2)
  clear z2
  replace Hus := Lib.hid (Hus.out.below hbB.out)
  replace HB := Lib.hid (HB.out.trans (hbB.out.mono HB.out.size))
  have HZ1 := Lib.hid (z3)
  clear hbB z3
  have XSc0 := XS.out.c0
  have XSc1 := XS.out.c1
  have XSc2 := XS.out.c2
  go_wp2_with fail
  clear XSc0 XSc1 XSc2
  refine (impl_TimesCircuit a0 b0 _ (hE.out.below HB.out)).mono ?_
  rintro e w3 ⟨ug, rfl, hb, ho⟩
  rw [← Hvd0.out] at ho
  rw [← Hvd1.out] at ho
  rw [← Hvd2.out] at ho
  rw [← Hvd3.out]
  have Hug := Lib.hid ho
  clear ho
  have hbB := Lib.hid (hb)
  clear hb
  replace Hus := Lib.hid (Hus.out.below hbB.out)
  replace XS := Lib.hid (XS.out.below hbB.out)
  replace HB := Lib.hid (HB.out.trans (hbB.out.mono HB.out.size))
  have HZ2 := Lib.hid (hbB.out.size)
  clear hbB
  obtain ⟨gug, oug, eug, _, fgug, foug⟩ := Hug.out.ci
  obtain ⟨gaug, gbug, rfl⟩ := fgug.form
  obtain ⟨oaug, obug, rfl⟩ := foug.form
  subst eug
  clear fgug foug
  have XSc0 := XS.out.c0
  have XSc1 := XS.out.c1
  have XSc2 := XS.out.c2
  have qx := XS.out.below (nw1 w3 (.cells #[.int .i8 vd0, .slice gaug vd1.length gbug, .slice oaug vd2.length obug] 33)).2.1
  have XSq0 := qx.c0
  have XSq1 := qx.c1
  have XSq2 := qx.c2
  clear qx
  go_wp2_with fail
  clear XSc0 XSc1 XSc2 XSq0 XSq1 XSq2
  obtain ⟨z1, z2, z3⟩ := nw1 w3 (.cells #[.int .i8 vd0, .slice gaug vd1.length gbug, .slice oaug vd2.length obug] 33)
  generalize World.alloc w3 _ = w4 at z1 z2 z3 ⊢
  have XG : Hid (BX w4 w3.heap.size (.int .i8 vd0) (.slice gaug vd1.length gbug) (.slice oaug vd2.length obug)) := Lib.hid ⟨_, z1⟩
  clear z1
  have hbB := Lib.hid (z2)
  clear z2
  replace Hus := Lib.hid (Hus.out.below hbB.out)
  replace XS := Lib.hid (XS.out.below hbB.out)
  replace Hug := Lib.hid (Hug.out.below hbB.out)
  replace HB := Lib.hid (HB.out.trans (hbB.out.mono HB.out.size))
  have HZ3 := Lib.hid (z3)
  clear hbB z3
  have XSc0 := XS.out.c0
  have XSc1 := XS.out.c1
  have XSc2 := XS.out.c2
  have XGc0 := XG.out.c0
  have XGc1 := XG.out.c1
  have XGc2 := XG.out.c2
  go_wp2_with fail
  clear XSc0 XSc1 XSc2 XGc0 XGc1 XGc2
  refine (eqCircuit_refl _ _ vd0 vd1 vd2 HLEN.out _ Hug.out.ci Hus.out.ci).mono ?_
  rintro e w5 ⟨rfl, hb⟩
  have hbB := Lib.hid (hb)
  clear hb
  replace Hus := Lib.hid (Hus.out.below hbB.out)
  replace XS := Lib.hid (XS.out.below hbB.out)
  replace Hug := Lib.hid (Hug.out.below hbB.out)
  replace XG := Lib.hid (XG.out.below hbB.out)
  replace HB := Lib.hid (HB.out.trans (hbB.out.mono HB.out.size))
  have HZ4 := Lib.hid (hbB.out.size)
  clear hbB
  have XSc0 := XS.out.c0
  have XSc1 := XS.out.c1
  have XSc2 := XS.out.c2
  have XGc0 := XG.out.c0
  have XGc1 := XG.out.c1
  have XGc2 := XG.out.c2
  go_wp2_with fail
  clear XSc0 XSc1 XSc2 XGc0 XGc1 XGc2
  have hmk := markCircuit_any (.agg #[.int .i8 vd0, .slice gaug vd1.length gbug, .slice oaug vd2.length obug]) vd0 vd1 vd2 HLEN.out w2.heap.size w3.heap.size 1 (by omega) _ Hug.out (by have := HZ0.out; have := HZ1.out; have := HZ2.out; have := HZ3.out; have := HZ4.out; omega)
  rw [← HMM.out] at hmk
  refine hmk.mono ?_
  rintro e w6 ⟨rfl, hco, hm⟩
  clear hmk
  clear Hug
  have Hug := Lib.hid hco
  clear hco
  have hmB := Lib.hid (hm)
  clear hm
  replace Hus := Lib.hid (Hus.out.mid hmB.out (by have := HZ0.out; have := HZ1.out; have := HZ2.out; have := HZ3.out; have := HZ4.out; omega))
  replace XS := Lib.hid (XS.out.mid hmB.out (by have := HZ0.out; have := HZ1.out; have := HZ2.out; have := HZ3.out; have := HZ4.out; omega))
  replace XG := Lib.hid (XG.out.mid hmB.out (by have := HZ0.out; have := HZ1.out; have := HZ2.out; have := HZ3.out; have := HZ4.out; omega))
  replace HB := Lib.hid (HB.out.trans (hmB.out.1.mono (by have := HZ0.out; have := HZ1.out; have := HZ2.out; have := HZ3.out; have := HZ4.out; omega)))
  have HZ5 := Lib.hid (hmB.out.1.size)
  clear hmB
  have XSc0 := XS.out.c0
  have XSc1 := XS.out.c1
  have XSc2 := XS.out.c2
  have XGc0 := XG.out.c0
  have XGc1 := XG.out.c1
  have XGc2 := XG.out.c2
  go_wp2_with fail
  clear XSc0 XSc1 XSc2 XGc0 XGc1 XGc2
  have hhd := heldCircuit_any _ vd0 _ _ HLEN.out 1 (by omega) _ Hug.out.ci
  rw [← HMM.out] at hhd
  refine hhd.mono ?_
  rintro e w7 ⟨rfl, hb⟩
  clear hhd
  have hbB := Lib.hid (hb)
  clear hb
  replace Hus := Lib.hid (Hus.out.below hbB.out)
  replace XS := Lib.hid (XS.out.below hbB.out)
  replace XG := Lib.hid (XG.out.below hbB.out)
  replace Hug := Lib.hid (Hug.out.below hbB.out)
  replace HB := Lib.hid (HB.out.trans (hbB.out.mono HB.out.size))
  have HZ6 := Lib.hid (hbB.out.size)
  clear hbB
  have XSc0 := XS.out.c0
  have XSc1 := XS.out.c1
  have XSc2 := XS.out.c2
  have XGc0 := XG.out.c0
  have XGc1 := XG.out.c1
  have XGc2 := XG.out.c2
  go_wp2_with fail
  clear XSc0 XSc1 XSc2 XGc0 XGc1 XGc2
  refine (impl_TimesCircuit a0 b0 _ (hE.out.below HB.out)).mono ?_
  rintro e w8 ⟨uh, rfl, hb, ho⟩
  rw [← Hvd0.out] at ho
  rw [← Hvd1.out] at ho
  rw [← Hvd2.out] at ho
  rw [← Hvd3.out]
  have Huh := Lib.hid ho
  clear ho
  have hbB := Lib.hid (hb)
  clear hb
  replace Hus := Lib.hid (Hus.out.below hbB.out)
  replace XS := Lib.hid (XS.out.below hbB.out)
  replace XG := Lib.hid (XG.out.below hbB.out)
  replace Hug := Lib.hid (Hug.out.below hbB.out)
  replace HB := Lib.hid (HB.out.trans (hbB.out.mono HB.out.size))
  have HZ7 := Lib.hid (hbB.out.size)
  clear hbB
  obtain ⟨guh, ouh, euh, _, fguh, fouh⟩ := Huh.out.ci
  obtain ⟨gauh, gbuh, rfl⟩ := fguh.form
  obtain ⟨oauh, obuh, rfl⟩ := fouh.form
  subst euh
  clear fguh fouh
  have XSc0 := XS.out.c0
  have XSc1 := XS.out.c1
  have XSc2 := XS.out.c2
  have XGc0 := XG.out.c0
  have XGc1 := XG.out.c1
  have XGc2 := XG.out.c2
  have qx := XS.out.below (nw1 w8 (.cells #[.int .i8 vd0, .slice gauh vd1.length gbuh, .slice oauh vd2.length obuh] 33)).2.1
  have XSq0 := qx.c0
  have XSq1 := qx.c1
  have XSq2 := qx.c2
  clear qx
  have qx := XG.out.below (nw1 w8 (.cells #[.int .i8 vd0, .slice gauh vd1.length gbuh, .slice oauh vd2.length obuh] 33)).2.1
  have XGq0 := qx.c0
  have XGq1 := qx.c1
  have XGq2 := qx.c2
  clear qx
  go_wp2_with fail
  clear XSc0 XSc1 XSc2 XGc0 XGc1 XGc2 XSq0 XSq1 XSq2 XGq0 XGq1 XGq2
  obtain ⟨z1, z2, z3⟩ := nw1 w8 (.cells #[.int .i8 vd0, .slice gauh vd1.length gbuh, .slice oauh vd2.length obuh] 33)
  generalize World.alloc w8 _ = w9 at z1 z2 z3 ⊢
  have XH : Hid (BX w9 w8.heap.size (.int .i8 vd0) (.slice gauh vd1.length gbuh) (.slice oauh vd2.length obuh)) := Lib.hid ⟨_, z1⟩
  clear z1
  have hbB := Lib.hid (z2)
  clear z2
  replace Hus := Lib.hid (Hus.out.below hbB.out)
  replace XS := Lib.hid (XS.out.below hbB.out)
  replace XG := Lib.hid (XG.out.below hbB.out)
  replace Hug := Lib.hid (Hug.out.below hbB.out)
  replace Huh := Lib.hid (Huh.out.below hbB.out)
  replace HB := Lib.hid (HB.out.trans (hbB.out.mono HB.out.size))
  have HZ8 := Lib.hid (z3)
  clear hbB z3
  have XSc0 := XS.out.c0
  have XSc1 := XS.out.c1
  have XSc2 := XS.out.c2
  have XGc0 := XG.out.c0
  have XGc1 := XG.out.c1
  have XGc2 := XG.out.c2
  have XHc0 := XH.out.c0
  have XHc1 := XH.out.c1
  have XHc2 := XH.out.c2
  go_wp2_with fail
  clear XSc0 XSc1 XSc2 XGc0 XGc1 XGc2 XHc0 XHc1 XHc2
  refine (eqCircuit_refl _ _ vd0 vd1 vd2 HLEN.out _ Huh.out.ci Hus.out.ci).mono ?_
  rintro e w10 ⟨rfl, hb⟩
  have hbB := Lib.hid (hb)
  clear hb
  replace Hus := Lib.hid (Hus.out.below hbB.out)
  replace XS := Lib.hid (XS.out.below hbB.out)
  replace XG := Lib.hid (XG.out.below hbB.out)
  replace Hug := Lib.hid (Hug.out.below hbB.out)
  replace Huh := Lib.hid (Huh.out.below hbB.out)
  replace XH := Lib.hid (XH.out.below hbB.out)
  replace HB := Lib.hid (HB.out.trans (hbB.out.mono HB.out.size))
  have HZ9 := Lib.hid (hbB.out.size)
  clear hbB
  have XSc0 := XS.out.c0
  have XSc1 := XS.out.c1
  have XSc2 := XS.out.c2
  have XGc0 := XG.out.c0
  have XGc1 := XG.out.c1
  have XGc2 := XG.out.c2
  have XHc0 := XH.out.c0
  have XHc1 := XH.out.c1
  have XHc2 := XH.out.c2
  go_wp2_with fail
  clear XSc0 XSc1 XSc2 XGc0 XGc1 XGc2 XHc0 XHc1 XHc2
  have hhd := heldCircuit_any _ vd0 _ _ HLEN.out 1 (by omega) _ Hug.out.ci
  rw [← HMM.out] at hhd
  refine hhd.mono ?_
  rintro e w11 ⟨rfl, hb⟩
  clear hhd
  have hbB := Lib.hid (hb)
  clear hb
  replace Hus := Lib.hid (Hus.out.below hbB.out)
  replace XS := Lib.hid (XS.out.below hbB.out)
  replace XG := Lib.hid (XG.out.below hbB.out)
  replace Hug := Lib.hid (Hug.out.below hbB.out)
  replace Huh := Lib.hid (Huh.out.below hbB.out)
  replace XH := Lib.hid (XH.out.below hbB.out)
  replace HB := Lib.hid (HB.out.trans (hbB.out.mono HB.out.size))
  have HZ10 := Lib.hid (hbB.out.size)
  clear hbB
  have XSc0 := XS.out.c0
  have XSc1 := XS.out.c1
  have XSc2 := XS.out.c2
  have XGc0 := XG.out.c0
  have XGc1 := XG.out.c1
  have XGc2 := XG.out.c2
  have XHc0 := XH.out.c0
  have XHc1 := XH.out.c1
  have XHc2 := XH.out.c2
  go_wp2_with fail
  clear XSc0 XSc1 XSc2 XGc0 XGc1 XGc2 XHc0 XHc1 XHc2
  go_ret
  exact ⟨rfl, HB.out⟩

set_option maxRecDepth 100000 in
theorem lifted (os : Os) (started : os.Started) (H : Type) (enc : TypeId × Value → H) :
    ReturnsInHanded {} Tryd.checked os 12 .any (fun w args => (Rows.fnExactTimesCircuitSpec.pre enc Tryd.prog Tryd.f12 Rows.fnExactTimesCircuitRow.domain false w args ∧ laidMetH Tryd.prog Rows.fnExactTimesCircuitRow.laid w) ∧ sizedMet enc Tryd.prog Tryd.f12 (OpenSpec.ofChange Rows.fnExactTimesCircuitSpec) false w args)
      (Rows.fnExactTimesCircuitSpec.post enc Tryd.prog Tryd.f12 false true false false) := by
  refine returnsInHanded_of_change_and (C := Tryd.checked) (X := fun w _ => laidMetH Tryd.prog Rows.fnExactTimesCircuitRow.laid w) (fun _ _ _ hh h => h.of_heap hh) own started (by kernel_rfl) Tryd.func12
    (ChangeSpec.witness_shaped (enc := enc) (C := Tryd.checked) (os := os) (X := fun w _ => laidMetH Tryd.prog Rows.fnExactTimesCircuitRow.laid w) false (World.doorLaid Tryd.prog 4000 os) #[.int .i64 0] 8 rfl (World.shaped_of_RefB (by kernel_rfl) (by kernel_rfl)) (by kernel_rfl) (by kernel_rfl) (by kernel_rfl) (door_met os _)) ?_
  intro W base args ds gs before hval0 hW _ _ hL _
  have hval : ∀ (j : Nat) t v, Tryd.f12.params[j]? = some t → args[j]? = some v → Value.okWide Tryd.prog W .any base t v := hval0
  have hW' := hW
  obtain ⟨p, q, hA0, hV, rfl, hfz, hnd⟩ := hW
  have hA : DataW.TrodAll enc Tryd.prog W 0 (fun _ => true) true Tryd.f12.params.toList args.toList ds p := hA0
  rw [Tryd.params12] at hA hval
  obtain ⟨v0, vs0, d0, ds0, p0, q0, hargs, rfl, rfl, h0, r0⟩ := trodAll_cons hA
  obtain ⟨rfl, rfl, rfl⟩ := trodAll_nil r0
  obtain rfl : args = #[v0] := by cases args; simp_all
  obtain ⟨rfl, rfl⟩ := trodVars_none hV
  obtain ⟨a0, rfl, rfl, rfl, w0⟩ := open_int Tryd.underlying2 (hval 0 2 v0 rfl rfl) h0
  clear hA0 hval0
  simp only [List.append_nil] at hW'
  refine (walk W a0 w0 hL).mono fun e W' ⟨he, hg⟩ => ?_
  subst he
  exact ⟨_, rfl, law_post rfl rfl hW' hg (fun _ _ _ => (trodAll_cons_mk (shut_bool Tryd.underlying4 _) trodAll_mk0)) (fun sp _ => (trodAll_cons_mk (shut_int Tryd.underlying2 w0) trodAll_mk0)) (ok_one (by kernel_rfl) rfl (okWide_bool_mk Tryd.underlying4 _))⟩

theorem over : Rows.fnExactTimesCircuitRow.holds Tryd.pinned (OpenSpec.ofChange Rows.fnExactTimesCircuitSpec) :=
  OpenClaim.holds_of_wide 12 Tryd.f12 rfl rfl rfl rfl rfl rfl rfl ⟨rfl, rfl, rfl, rfl, rfl⟩ rfl rfl rfl rfl rfl (by kernel_rfl) Tryd.func12 (joinedBy 12 Tryd.f12 Rows.fnExactTimesCircuitSpec Rows.fnExactTimesCircuitRow (by kernel_rfl))
    (of_decide_eq_true (by kernel_rfl)) (by unfold Func.isWrapper; first | (rw [if_pos (by decide +kernel)]; kernel_rfl) | (rw [if_neg (by decide +kernel)]; exact ⟨rfl, rfl⟩))
    (fun os started H enc _ => lifted os started H enc)

/-- the statement -/
theorem proved : Rows.FnExactTimesCircuitCardSaid :=
  Claim7.holds_tied_plain_at .later [] [.handle] true (true, "c6fc56939207693e2f9fa1330dc8b7113433b2fbc50fc7af69271ea081f816ea") true
    over (fun _ h => by cases h) (by kernel_rfl) (fun _ h => by cases h) fnExactTimesCircuit_row_tie rfl ⟨rfl, rfl⟩ (by kernel_rfl) rfl
    (fun f fn hf hfn => by
      obtain rfl : f = 12 := Option.some.inj ((show Tryd.prog.funcNamed "loop.example/g01307/laws.FnExactTimesCircuit" = some 12 by kernel_rfl).symm.trans hf) |>.symm
      obtain rfl : fn = Tryd.f12 := (Option.some.inj (Tryd.func12.symm.trans hfn)).symm
      exact ⟨by kernel_rfl, fun j t ht => by
        rw [Tryd.params12] at ht
        have hm : t ∈ [2] := by simpa using Array.mem_of_getElem? ht
        have hall : ([2].all fun u => !Tryd.prog.wantsStandIn u) = true := by kernel_rfl
        exact (show Tryd.prog.wantsStandIn t = false by simpa using List.all_eq_true.1 hall t hm)⟩)
    (by kernel_rfl)
end Go.Proofs.YtngaelifkhelbaaDoor.fnExactTimesCircuit
