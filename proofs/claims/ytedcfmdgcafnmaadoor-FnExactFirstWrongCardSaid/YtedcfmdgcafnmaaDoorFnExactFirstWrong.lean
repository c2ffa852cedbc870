/-
  The statement Rows.FnExactFirstWrongSaid for every input the law returns true; the walk is ours, the rest is the guide's template at this function's number and types.
  Conditions: none.
-/
import Derived.Test.YtedcfmdgcafnmaaDoorRows
import Derived.WalkKit
import Derived.ProofKit
import Derived.OpenShut
import Derived.Test.YtedcfmdgcafnmaaDoorHead
import Derived.Test.YtedcfmdgcafnmaaDoorOpen



import Derived.Test.YtedcfmdgcafnmaaDoorCards
import Derived.Test.YtedcfmdgcafnmaaDoorTie
import Derived.LaidMore

import Derived.Stop.Joined
import Derived.SevenTiedAt

import Derived.Test.YtedcfmdgcafnmaaDoorCj
import Derived.Test.YtedcfmdgcafnmaaDoorEd
import Derived.Deep.RegionHeld
namespace Go.Proofs.YtedcfmdgcafnmaaDoor.fnExactFirstWrong
open Go.ChangeShapes Go.WideShapes Go.ChangeAt Go.RowKit
set_option linter.unusedVariables false
set_option linter.unusedSimpArgs false

theorem own : ownKnob Tryd.prog.godebug = none := by kernel_rfl
theorem door_met (os : Os) (args : Array Value) : laidMetH Tryd.prog Rows.fnExactFirstWrongRow.laid ((World.doorLaid Tryd.prog 4000 os).forCall (fun _ _ => 0) ⟨#[], args, []⟩).memory :=
  laidMetH_of_parts3 (fuel := 10) (laidMet_of_run' 10 (by kernel_rfl) (by kernel_rfl)) (by kernel_rfl) (by kernel_rfl)

set_option maxRecDepth 100000 in
set_option maxHeartbeats 10000000 in
theorem walk (w : World) (a0 : Value) (N0 : Int) (G0 : List G3) (O0 : List Int) (a1 : Int) (a2 : Int) (w0 : CI w a0 N0 G0 O0) (w1 : (Lit.int .i64 a1).wf = true) (w2 : (Lit.int .i64 a2).wf = true) (hL : laidMetH Tryd.prog Rows.fnExactFirstWrongRow.laid w) :
    Calls Tryd.prog 5 #[a0, .int .i64 a1, .int .i64 a2] w fun e w' => e = .returned (.bool true) ∧ Below w.heap.size w w' := by
  have hE := Lib.hid (et_of_laid hL)
  clear hL
  have b1 := bounds_i64 w1
  have b2 := bounds_i64 w2
  obtain ⟨GV0, OV0, rfl, hn0, hg0, ho0⟩ := w0
  have HL0 := Lib.hid (And.intro hg0.long ho0.long)
  obtain ⟨A0, c0, rfl⟩ := hg0.form
  obtain ⟨B0, d0, rfl⟩ := ho0.form
  have HC0 := Lib.hid (show CI w (.agg #[.int .i8 N0, .slice A0 G0.length c0, .slice B0 O0.length d0]) N0 G0 O0 from ⟨_, _, rfl, hn0, hg0, ho0⟩)
  clear hg0 ho0
  obtain ⟨vd0, hvd0⟩ : ∃ vd0 : Int, vd0 = (fwO N0 G0 O0 a1 a2).1 := ⟨_, rfl⟩
  have Q40 : (vd0 != vd0) = false := by simp
  have HVD0 := Lib.hid hvd0
  clear hvd0
  obtain ⟨vd1, hvd1⟩ : ∃ vd1 : Int, vd1 = (fwO N0 G0 O0 a1 a2).2.1 := ⟨_, rfl⟩
  have Q41 : (vd1 != vd1) = false := by simp
  have HVD1 := Lib.hid hvd1
  clear hvd1
  obtain ⟨vd2, hvd2⟩ : ∃ vd2 : Int, vd2 = (fwO N0 G0 O0 a1 a2).2.2 := ⟨_, rfl⟩
  have Q42 : (vd2 != vd2) = false := by simp
  have HVD2 := Lib.hid hvd2
  clear hvd2
  go_enter Tryd.func5, Tryd.ntmps5
  go_wp2_with fail
  obtain ⟨z1, z2, z3⟩ := nw1 w (.cells #[.int .i8 N0, .slice A0 G0.length c0, .slice B0 O0.length d0] 26)
  generalize World.alloc w _ = w1 at z1 z2 z3 ⊢
  have HX0 : Hid (BX w1 w.heap.size (.int .i8 N0) (.slice A0 G0.length c0) (.slice B0 O0.length d0)) := Lib.hid ⟨_, z1⟩
  have HB := Lib.hid z2
  clear z1 z2 z3
  by_cases big0 : G0.length + O0.length ≤ 1048576
  rotate_left
  · refine (szCircuit_any N0 _ _ _ _ HL0.out.1 HL0.out.2 1048576 (by omega) _ ⟨_, _, rfl⟩ ⟨_, _, rfl⟩).mono ?_
    rintro e w2 ⟨rfl, hb⟩
    rw [show szC G0.length O0.length 1048576 = .int .i64 (-1) from by unfold szC; rw [if_neg big0]]
    replace HB := Lib.hid (HB.out.trans (hb.mono HB.out.size))
    clear hb
    have m0 := HX0.out
    go_wp2_with fail
    go_ret
    exact ⟨rfl, HB.out⟩
  refine (szCircuit_any N0 _ _ _ _ HL0.out.1 HL0.out.2 1048576 (by omega) _ ⟨_, _, rfl⟩ ⟨_, _, rfl⟩).mono ?_
  rintro e w2 ⟨rfl, hb⟩
  obtain ⟨y0, hy0⟩ : ∃ y0 : Nat, y0 = 1048576 - (G0.length + O0.length) := ⟨_, rfl⟩
  rw [show szC G0.length O0.length 1048576 = .int .i64 (y0 : Int) from by unfold szC; rw [if_pos big0, hy0]]
  have ty0 : decide ((y0 : Int) < 0) = false := by simp
  have ly0 : y0 ≤ 1048576 := by omega
  have hs0 : G0.length + O0.length ≤ 1048576 := by omega
  clear hy0 big0
  have hbB := Lib.hid (hb)
  clear hb
  replace HX0 := Lib.hid (HX0.out.below hbB.out)
  replace HB := Lib.hid (HB.out.trans (hbB.out.mono HB.out.size))
  clear hbB
  have k00 := HX0.out.c0
  have k01 := HX0.out.c1
  have k02 := HX0.out.c2
  go_wp2_with fail
  clear k00 k01 k02
  refine (toCircuit_any _ N0 G0 O0 hs0 _ (HC0.out.below HB.out)).mono ?_
  rintro e w3 ⟨uw3, rfl, hb, ho⟩
  have Huw3 := Lib.hid ho
  clear ho
  have hbB := Lib.hid (hb)
  clear hb
  replace HX0 := Lib.hid (HX0.out.below hbB.out)
  replace HB := Lib.hid (HB.out.trans (hbB.out.mono HB.out.size))
  clear hbB
  have k00 := HX0.out.c0
  have k01 := HX0.out.c1
  have k02 := HX0.out.c2
  go_wp2_with fail
  clear k00 k01 k02
  refine (spec_FirstWrong uw3 N0 G0 O0 a1 a2 b1 b2 _ Huw3.out.ci).mono ?_
  rintro e w4 ⟨rfl, hb⟩
  rw [← HVD0.out]
  rw [← HVD1.out]
  rw [← HVD2.out]
  have hbB := Lib.hid (hb)
  clear hb
  replace HX0 := Lib.hid (HX0.out.below hbB.out)
  replace Huw3 := Lib.hid (Huw3.out.below hbB.out)
  replace HB := Lib.hid (HB.out.trans (hbB.out.mono HB.out.size))
  clear hbB
  clear Huw3
  have k00 := HX0.out.c0
  have k01 := HX0.out.c1
  have k02 := HX0.out.c2
  go_wp2_with fail
  clear k00 k01 k02
  refine (toCircuit_any _ N0 G0 O0 hs0 _ (HC0.out.below HB.out)).mono ?_
  rintro e w5 ⟨uw5, rfl, hb, ho⟩
  have Huw5 := Lib.hid ho
  clear ho
  have hbB := Lib.hid (hb)
  clear hb
  replace HX0 := Lib.hid (HX0.out.below hbB.out)
  replace HB := Lib.hid (HB.out.trans (hbB.out.mono HB.out.size))
  clear hbB
  have HIuw5 := Lib.hid Huw5.out.ci
  obtain ⟨gv0, ov0, e0, _, fg0, fo0⟩ := Huw5.out.ci
  obtain ⟨ga0, gb0, rfl⟩ := fg0.form
  obtain ⟨oa0, ob0, rfl⟩ := fo0.form
  subst e0
  clear fg0 fo0 HIuw5
  have k00 := HX0.out.c0
  have k01 := HX0.out.c1
  have k02 := HX0.out.c2
  go_wp2_with fail
  clear k00 k01 k02
  obtain ⟨z1, z2, z3⟩ := nw1 w5 (.cells #[.int .i8 N0, .slice ga0 G0.length gb0, .slice oa0 O0.length ob0] 30)
  generalize World.alloc w5 _ = w6 at z1 z2 z3 ⊢
  have XV0 : Hid (BX w6 w5.heap.size (.int .i8 N0) (.slice ga0 G0.length gb0) (.slice oa0 O0.length ob0)) := Lib.hid ⟨_, z1⟩
  clear z1 z3
  have hbB := Lib.hid (z2)
  clear z2
  replace HX0 := Lib.hid (HX0.out.below hbB.out)
  replace Huw5 := Lib.hid (Huw5.out.below hbB.out)
  replace HB := Lib.hid (HB.out.trans (hbB.out.mono HB.out.size))
  clear hbB
  refine (impl_FirstWrong (.agg #[.int .i8 N0, .slice ga0 G0.length gb0, .slice oa0 O0.length ob0]) N0 G0 O0 a1 a2 b1 b2 _ Huw5.out.ci (hE.out.below HB.out)).mono ?_
  rintro e w7 ⟨rfl, hb⟩
  rw [← HVD0.out]
  rw [← HVD1.out]
  rw [← HVD2.out]
  have hbB := Lib.hid (hb)
  clear hb
  replace HX0 := Lib.hid (HX0.out.below hbB.out)
  replace Huw5 := Lib.hid (Huw5.out.below hbB.out)
  replace XV0 := Lib.hid (XV0.out.below hbB.out)
  replace HB := Lib.hid (HB.out.trans (hbB.out.mono HB.out.size))
  clear hbB
  have k00 := HX0.out.c0
  have k01 := HX0.out.c1
  have k02 := HX0.out.c2
  have XV00 := XV0.out.c0
  have XV01 := XV0.out.c1
  have XV02 := XV0.out.c2
  go_upto_region 10 with fail
  have HT := Lib.hid (fun (W : World) (hW : Below w7.heap.size w7 W) => toCircuit_any _ N0 G0 O0 hs0 W (HC0.out.below (HB.out.trans (hW.mono HB.out.size))))
  have KX := Lib.hid (fun (W : World) (hW : Below w7.heap.size w7 W) => And.intro (HX0.out.below hW) (XV0.out.below hW))
  go_region_held (fun W => W.cell? ⟨w.heap.size, 0, none⟩ = some (.int .i8 N0) ∧ W.cell? ⟨w.heap.size, 1, none⟩ = some (.slice A0 G0.length c0) ∧ W.cell? ⟨w.heap.size, 2, none⟩ = some (.slice B0 O0.length d0) ∧ W.cell? ⟨w5.heap.size, 0, none⟩ = some (.int .i8 N0) ∧ W.cell? ⟨w5.heap.size, 1, none⟩ = some (.slice ga0 G0.length gb0) ∧ W.cell? ⟨w5.heap.size, 2, none⟩ = some (.slice oa0 O0.length ob0) ∧ Hid (Below w7.heap.size w7 W)) (first | exact keep6 (KX.out _ HKB.out).1 (KX.out _ HKB.out).2 HKB | exact keep6 (KX.out _ HKA.out).1 (KX.out _ HKA.out).2 HKA | exact keep6 (KX.out _ (bdrew1 w7)).1 (KX.out _ (bdrew1 w7)).2 (Lib.hid (bdrew1 w7))) (first | (go_at_call 11; refine (HT.out _ (bdrew1 w7)).mono ?_; rintro e wA ⟨uA, rfl, hbA, hoA⟩; have HKA := Lib.hid ((bdrew1 w7).trans (hbA.mono (Nat.le_refl _))); have HOA := Lib.hid hoA; clear hbA hoA) | (go_at_call 13; refine (eqCircuit_refl _ _ N0 G0 O0 hs0 _ ((Huw5.out.below HKA.out).ci) HOA.out.ci).mono ?_; rintro e wB ⟨rfl, hbB⟩; have HKB := Lib.hid (HKA.out.trans (hbB.mono HKA.out.size)); clear hbB))
  clear k00 k01 k02 XV00 XV01 XV02
  replace HB := Lib.hid (HB.out.trans (HKB.out.mono HB.out.size))
  replace HX0 := Lib.hid (HX0.out.below HKB.out)
  replace Huw5 := Lib.hid (Huw5.out.below HKB.out)
  replace XV0 := Lib.hid (XV0.out.below HKB.out)
  clear HKA HOA HKB HT KX
  go_wp2_with fail
  go_ret
  exact ⟨rfl, HB.out⟩

set_option maxRecDepth 100000 in
theorem lifted (os : Os) (started : os.Started) (H : Type) (enc : TypeId × Value → H) :
    ReturnsInHanded {} Tryd.checked os 5 .any (fun w args => (Rows.fnExactFirstWrongSpec.pre enc Tryd.prog Tryd.f5 Rows.fnExactFirstWrongRow.domain false w args ∧ laidMetH Tryd.prog Rows.fnExactFirstWrongRow.laid w) ∧ sizedMet enc Tryd.prog Tryd.f5 (OpenSpec.ofChange Rows.fnExactFirstWrongSpec) false w args)
      (Rows.fnExactFirstWrongSpec.post enc Tryd.prog Tryd.f5 false true false false) := by
  refine returnsInHanded_of_change_and (C := Tryd.checked) (X := fun w _ => laidMetH Tryd.prog Rows.fnExactFirstWrongRow.laid w) (fun _ _ _ hh h => h.of_heap hh) own started (by kernel_rfl) Tryd.func5
    (ChangeSpec.witness_shaped (enc := enc) (C := Tryd.checked) (os := os) (X := fun w _ => laidMetH Tryd.prog Rows.fnExactFirstWrongRow.laid w) false (World.doorLaid Tryd.prog 4000 os) #[.agg #[.int .i8 0, .slice none 0 0, .slice none 0 0], .int .i64 0, .int .i64 0] 8 rfl (World.shaped_of_RefB (by kernel_rfl) (by kernel_rfl)) (by kernel_rfl) (by kernel_rfl) (by kernel_rfl) (door_met os _)) ?_
  intro W base args ds gs before hval0 hW _ _ hL _
  have hval : ∀ (j : Nat) t v, Tryd.f5.params[j]? = some t → args[j]? = some v → Value.okWide Tryd.prog W .any base t v := hval0
  have hW' := hW
  obtain ⟨p, q, hA0, hV, rfl, hfz, hnd⟩ := hW
  have hA : DataW.TrodAll enc Tryd.prog W 0 (fun _ => true) true Tryd.f5.params.toList args.toList ds p := hA0
  rw [Tryd.params5] at hA hval
  obtain ⟨v0, vs0, d0, ds0, p0, q0, hargs, rfl, rfl, h0, r0⟩ := trodAll_cons hA
  obtain ⟨v1, vs1, d1, ds1, p1, q1, rfl, rfl, rfl, h1, r1⟩ := trodAll_cons r0
  obtain ⟨v2, vs2, d2, ds2, p2, q2, rfl, rfl, rfl, h2, r2⟩ := trodAll_cons r1
  obtain ⟨rfl, rfl, rfl⟩ := trodAll_nil r2
  obtain rfl : args = #[v0, v1, v2] := by cases args; simp_all
  obtain ⟨rfl, rfl⟩ := trodVars_none hV
  obtain ⟨N0, G0, O0, w0, g0⟩ := open_circ (P := Tryd.prog) (ti := 22) (tj := 65) (tg := 23) (te := 149) (to := 24) (by kernel_rfl) (by kernel_rfl) (of_decide_eq_true (by kernel_rfl)) Tryd.underlying26 (by kernel_rfl) ⟨rfl, rfl⟩ ⟨rfl, rfl⟩ ⟨rfl, rfl⟩ (by kernel_rfl) (by kernel_rfl) (by kernel_rfl) (by kernel_rfl) (by kernel_rfl) (by kernel_rfl) (by kernel_rfl) (by kernel_rfl) Tryd.underlying149 (by kernel_rfl) ⟨rfl, rfl⟩ ⟨rfl, rfl⟩ ⟨rfl, rfl⟩ (hval 0 26 v0 rfl rfl) h0 (fun x hx => hW'.lt x (by simp [hx]))
  obtain ⟨a0, ha0⟩ : ∃ y, y = v0 := ⟨_, rfl⟩
  subst ha0
  obtain ⟨a1, rfl, rfl, rfl, w1⟩ := open_int Tryd.underlying2 (hval 1 2 v1 rfl rfl) h1
  obtain ⟨a2, rfl, rfl, rfl, w2⟩ := open_int Tryd.underlying2 (hval 2 2 v2 rfl rfl) h2
  clear hA0 hval0
  simp only [List.append_nil, List.nil_append] at hW'
  refine (walk W a0 N0 G0 O0 a1 a2 w0 w1 w2 hL).mono fun e W' ⟨he, hg⟩ => ?_
  subst he
  exact ⟨_, rfl, law_post rfl rfl hW' hg (fun _ _ _ => (trodAll_cons_mk (shut_bool Tryd.underlying4 _) trodAll_mk0)) (fun sp hsp => by have t := (trodAll_cons_mk (g0 W' hg sp (fun q hq => hsp q (by simp [hq]))) (trodAll_cons_mk (shut_int Tryd.underlying2 w1) (trodAll_cons_mk (shut_int Tryd.underlying2 w2) trodAll_mk0))); simp only [List.append_nil, List.nil_append] at t; exact t) (ok_one (by kernel_rfl) rfl (okWide_bool_mk Tryd.underlying4 _))⟩

theorem over : Rows.fnExactFirstWrongRow.holds Tryd.pinned (OpenSpec.ofChange Rows.fnExactFirstWrongSpec) :=
  OpenClaim.holds_of_wide 5 Tryd.f5 rfl rfl rfl rfl rfl rfl rfl ⟨rfl, rfl, rfl, rfl, rfl⟩ rfl rfl rfl rfl rfl (by kernel_rfl) Tryd.func5 (joinedBy 5 Tryd.f5 Rows.fnExactFirstWrongSpec Rows.fnExactFirstWrongRow (by kernel_rfl))
    (of_decide_eq_true (by kernel_rfl)) (by unfold Func.isWrapper; first | (rw [if_pos (by decide +kernel)]; kernel_rfl) | (rw [if_neg (by decide +kernel)]; exact ⟨rfl, rfl⟩))
    (fun os started H enc _ => lifted os started H enc)

/-- the statement -/
theorem proved : Rows.FnExactFirstWrongCardSaid :=
  Claim7.holds_tied_plain_at .later [] [.handle] true (true, "7ffc0cc08baea1ca18703eae9b7e17db7c1df789dc4f311e8ca786ca86ab6654") true
    over (fun _ h => by cases h) (by kernel_rfl) (fun _ h => by cases h) fnExactFirstWrong_row_tie rfl ⟨rfl, rfl⟩ (by kernel_rfl) rfl
    (fun f fn hf hfn => by
      obtain rfl : f = 5 := Option.some.inj ((show Tryd.prog.funcNamed "loop.example/g01307/laws.FnExactFirstWrong" = some 5 by kernel_rfl).symm.trans hf) |>.symm
      obtain rfl : fn = Tryd.f5 := (Option.some.inj (Tryd.func5.symm.trans hfn)).symm
      exact ⟨by kernel_rfl, fun j t ht => by
        rw [Tryd.params5] at ht
        have hm : t ∈ [26, 2, 2] := by simpa using Array.mem_of_getElem? ht
        have hall : ([26, 2, 2].all fun u => !Tryd.prog.wantsStandIn u) = true := by kernel_rfl
        exact (show Tryd.prog.wantsStandIn t = false by simpa using List.all_eq_true.1 hall t hm)⟩)
    (by kernel_rfl)
end Go.Proofs.YtedcfmdgcafnmaaDoor.fnExactFirstWrong
