/-
  The statement Rows.FnExactGameTextSaid for every input the law returns true; the walk is ours, the rest is the guide's template at this function's number and types.
  Conditions: none.
-/
import Derived.Test.YtklddmmbbaaliaaDoorRows
import Derived.WalkKit
import Derived.ProofKit
import Derived.OpenShut
import Derived.Test.YtklddmmbbaaliaaDoorHead
import Derived.Test.YtklddmmbbaaliaaDoorOpen



import Derived.Test.YtklddmmbbaaliaaDoorCards
import Derived.Test.YtklddmmbbaaliaaDoorTie
import Derived.LaidMore

import Derived.Stop.Joined
import Derived.SevenTiedAt

import Derived.Test.YtklddmmbbaaliaaDoorGTxt
namespace Go.Proofs.YtklddmmbbaaliaaDoor.fnExactGameText
open Go.ChangeShapes Go.WideShapes Go.ChangeAt Go.RowKit
set_option linter.unusedVariables false
set_option linter.unusedSimpArgs false

theorem own : ownKnob Tryd.prog.godebug = none := by kernel_rfl
theorem door_met (os : Os) (args : Array Value) : laidMetH Tryd.prog Rows.fnExactGameTextRow.laid ((World.doorLaid Tryd.prog 4000 os).forCall (fun _ _ => 0) ⟨#[], args, []⟩).memory :=
  laidMetH_of_parts3 (fuel := 10) (laidMet_of_run' 10 (by kernel_rfl) (by kernel_rfl)) (by kernel_rfl) (by kernel_rfl)

set_option maxRecDepth 100000 in
set_option maxHeartbeats 1000000 in
theorem walk (w : World) (a0 : Value) (z0 : List (List Int)) (w0 : GS 0 w a0 z0) (hL : laidMetH Tryd.prog Rows.fnExactGameTextRow.laid w) :
    Calls Tryd.prog 11 #[a0] w fun e w' => e = .returned (.bool true) ∧ Below w.heap.size w w' := by
  clear hL
  have HS := Lib.hid w0; clear w0
  by_cases hbig : total z0 ≤ 1048576
  · have hz : szV z0 1048576 = .int .i64 ((1048576 - total z0 : Nat) : Int) := by unfold szV; rw [if_pos hbig]
    obtain ⟨y, hy⟩ : ∃ y : Nat, y = 1048576 - total z0 := ⟨_, rfl⟩
    rw [← hy] at hz
    have hy2 : y ≤ 1048576 := by omega
    have T1 : decide ((y : Int) < 0) = false := by simp
    have HZ := Lib.hid hz
    clear hz hy
    go_enter Tryd.func11, Tryd.ntmps11
    go_wp2_with fail
    refine (szGame_any a0 z0 1048576 (by omega) _ HS.out).mono ?_
    rintro e w' ⟨rfl, rfl⟩
    rw [HZ.out]
    go_wp2_with fail
    refine (toGame_any a0 z0 hbig _ HS.out).mono ?_
    rintro e w1 ⟨u1, rfl, hb1, hg1⟩
    have HB1 := Lib.hid hb1
    have HG1 := Lib.hid hg1
    clear hb1 hg1
    go_wp2_with fail
    refine (spec_GameText u1 z0 hbig _ _ HG1.out).mono ?_
    rintro e w2 ⟨rfl, hb2⟩
    have HB2 := Lib.hid (bchain HB1.out hb2)
    clear hb2 HB1 HG1
    go_wp2_with fail
    refine (toGame_any a0 z0 hbig _ (HS.out.below HB2.out)).mono ?_
    rintro e w3 ⟨u3, rfl, hb3, hg3⟩
    have HB3 := Lib.hid (bchain HB2.out hb3)
    have HG3 := Lib.hid hg3
    clear hb3 hg3 HB2
    go_wp2_with fail
    refine (impl_GameText u3 z0 hbig _ _ HG3.out).mono ?_
    rintro e w4 ⟨rfl, hb4⟩
    have HB4 := Lib.hid (bchain HB3.out hb4)
    have HG4 := Lib.hid (HG3.out.below hb4)
    obtain ⟨s, hs⟩ : ∃ s : ByteArray, s = ⟨(gtx z0).toArray⟩ := ⟨_, rfl⟩
    rw [← hs]
    clear hs hb4 HB3 HG3
    go_wp2_with fail
    refine (toGame_any a0 z0 hbig _ (HS.out.below HB4.out)).mono ?_
    rintro e w5 ⟨u5, rfl, hb5, hg5⟩
    have HB5 := Lib.hid (bchain HB4.out hb5)
    have HG5 := Lib.hid hg5
    have HG6 := Lib.hid (HG4.out.below hb5)
    clear hb5 hg5 HB4 HG4
    go_wp2_with fail
    refine (eqGame_any u3 u5 z0 z0 hbig hbig _ _ _ HG6.out HG5.out).mono ?_
    rintro e w6 ⟨rfl, m, rfl⟩
    rw [geqB_refl]
    go_wp2_with fail
    go_ret
    exact ⟨rfl, bdrewN HB5.out m⟩
  · have hz : szV z0 1048576 = .int .i64 (-1) := by unfold szV; rw [if_neg hbig]
    have HZ := Lib.hid hz
    clear hz
    go_enter Tryd.func11, Tryd.ntmps11
    go_wp2_with fail
    refine (szGame_any a0 z0 1048576 (by omega) _ HS.out).mono ?_
    rintro e w' ⟨rfl, rfl⟩
    rw [HZ.out]
    go_wp2_with fail
    go_ret
    exact ⟨rfl, Below.refl _ _⟩

set_option maxRecDepth 100000 in
theorem lifted (os : Os) (started : os.Started) (H : Type) (enc : TypeId × Value → H) :
    ReturnsInHanded {} Tryd.checked os 11 .any (fun w args => (Rows.fnExactGameTextSpec.pre enc Tryd.prog Tryd.f11 Rows.fnExactGameTextRow.domain false w args ∧ laidMetH Tryd.prog Rows.fnExactGameTextRow.laid w) ∧ sizedMet enc Tryd.prog Tryd.f11 (OpenSpec.ofChange Rows.fnExactGameTextSpec) false w args)
      (Rows.fnExactGameTextSpec.post enc Tryd.prog Tryd.f11 false true false false) := by
  refine returnsInHanded_of_change_and (C := Tryd.checked) (X := fun w _ => laidMetH Tryd.prog Rows.fnExactGameTextRow.laid w) (fun _ _ _ hh h => h.of_heap hh) own started (by kernel_rfl) Tryd.func11
    (ChangeSpec.witness_shaped (enc := enc) (C := Tryd.checked) (os := os) (X := fun w _ => laidMetH Tryd.prog Rows.fnExactGameTextRow.laid w) false (World.doorLaid Tryd.prog 4000 os) #[.slice none 0 0] 8 rfl (World.shaped_of_RefB (by kernel_rfl) (by kernel_rfl)) (by kernel_rfl) (by kernel_rfl) (by kernel_rfl) (door_met os _)) ?_
  intro W base args ds gs before hval0 hW _ _ hL _
  have hval : ∀ (j : Nat) t v, Tryd.f11.params[j]? = some t → args[j]? = some v → Value.okWide Tryd.prog W .any base t v := hval0
  have hW' := hW
  obtain ⟨p, q, hA0, hV, rfl, hfz, hnd⟩ := hW
  have hA : DataW.TrodAll enc Tryd.prog W 0 (fun _ => true) true Tryd.f11.params.toList args.toList ds p := hA0
  rw [Tryd.params11] at hA hval
  obtain ⟨v0, vs0, d0, ds0, p0, q0, hargs, rfl, rfl, h0, r0⟩ := trodAll_cons hA
  obtain ⟨rfl, rfl, rfl⟩ := trodAll_nil r0
  obtain rfl : args = #[v0] := by cases args; simp_all
  obtain ⟨rfl, rfl⟩ := trodVars_none hV
  obtain ⟨z0, w0, g0⟩ := open_game (P := Tryd.prog) (by kernel_rfl) (by kernel_rfl) (of_decide_eq_true (by kernel_rfl)) Tryd.underlying72 Tryd.underlying124 Tryd.underlying57 (by kernel_rfl) (by kernel_rfl) (hval 0 72 v0 rfl rfl) h0 (fun x hx => hW'.lt x (by simp [hx]))
  obtain ⟨a0, ha0⟩ : ∃ y, y = v0 := ⟨_, rfl⟩
  subst ha0
  clear hA0 hval0
  simp only [List.append_nil] at hW'
  refine (walk W a0 z0 w0 hL).mono fun e W' ⟨he, hg⟩ => ?_
  subst he
  exact ⟨_, rfl, law_post rfl rfl hW' hg (fun _ _ _ => (trodAll_cons_mk (shut_bool Tryd.underlying4 _) trodAll_mk0)) (fun sp hsp => by have t := (trodAll_cons_mk (g0 W' hg sp (fun q hq => hsp q (by simp [hq]))) trodAll_mk0); simp only [List.append_nil, List.nil_append] at t; exact t) (ok_one (by kernel_rfl) rfl (okWide_bool_mk Tryd.underlying4 _))⟩

theorem over : Rows.fnExactGameTextRow.holds Tryd.pinned (OpenSpec.ofChange Rows.fnExactGameTextSpec) :=
  OpenClaim.holds_of_wide 11 Tryd.f11 rfl rfl rfl rfl rfl rfl rfl ⟨rfl, rfl, rfl, rfl, rfl⟩ rfl rfl rfl rfl rfl (by kernel_rfl) Tryd.func11 (joinedBy 11 Tryd.f11 Rows.fnExactGameTextSpec Rows.fnExactGameTextRow (by kernel_rfl))
    (of_decide_eq_true (by kernel_rfl)) (by unfold Func.isWrapper; first | (rw [if_pos (by decide +kernel)]; kernel_rfl) | (rw [if_neg (by decide +kernel)]; exact ⟨rfl, rfl⟩))
    (fun os started H enc _ => lifted os started H enc)

/-- the statement -/
theorem proved : Rows.FnExactGameTextCardSaid :=
  Claim7.holds_tied_plain_at .later [] [.data, .data, .data] true (true, "c543b37fbccc467cc8084a48a07c1237361c59837c6c8b939cf9a745f5fff814") true
    over (fun _ h => by cases h) (by kernel_rfl) (fun _ h => by cases h) fnExactGameText_row_tie rfl ⟨rfl, rfl⟩ (by kernel_rfl) rfl
    (fun f fn hf hfn => by
      obtain rfl : f = 11 := Option.some.inj ((show Tryd.prog.funcNamed "loop.example/g01307/laws.FnExactGameText" = some 11 by kernel_rfl).symm.trans hf) |>.symm
      obtain rfl : fn = Tryd.f11 := (Option.some.inj (Tryd.func11.symm.trans hfn)).symm
      exact ⟨by kernel_rfl, fun j t ht => by
        rw [Tryd.params11] at ht
        have hm : t ∈ [72] := by simpa using Array.mem_of_getElem? ht
        have hall : ([72].all fun u => !Tryd.prog.wantsStandIn u) = true := by kernel_rfl
        exact (show Tryd.prog.wantsStandIn t = false by simpa using List.all_eq_true.1 hall t hm)⟩)
    (by kernel_rfl)
end Go.Proofs.YtklddmmbbaaliaaDoor.fnExactGameText
