/-
  The statement Rows.FnExactNimsTextSaid for every input the law returns true; the walk is ours, the rest is the guide's template at this function's number and types.
  Conditions: none.
-/
import Derived.Test.YtklddmmbbaaliaaDoorRows
import Derived.WalkKit
import Derived.ProofKit
import Derived.OpenShut
import Derived.Test.YtklddmmbbaaliaaDoorHead
import Derived.Test.YtklddmmbbaaliaaDoorOpen


import Derived.Test.YtklddmmbbaaliaaDoorCards
import Derived.Test.YtklddmmbbaaliaaDoorTie
import Derived.LaidMore
import Derived.Stop.Joined
import Derived.SevenTiedAt
import Derived.Test.YtklddmmbbaaliaaDoorNims
namespace Go.Proofs.YtklddmmbbaaliaaDoor.fnExactNimsText
open Go.ChangeShapes Go.WideShapes Go.ChangeAt Go.RowKit
set_option linter.unusedVariables false
set_option linter.unusedSimpArgs false

theorem own : ownKnob Tryd.prog.godebug = none := by kernel_rfl
theorem door_met (os : Os) (args : Array Value) : laidMetH Tryd.prog Rows.fnExactNimsTextRow.laid ((World.doorLaid Tryd.prog 4000 os).forCall (fun _ _ => 0) ⟨#[], args, []⟩).memory :=
  laidMetH_of_parts3 (fuel := 10) (laidMet_of_run' 10 (by kernel_rfl) (by kernel_rfl)) (by kernel_rfl) (by kernel_rfl)

set_option maxRecDepth 100000 in
set_option maxHeartbeats 1000000 in
theorem walk (w : World) (a0 : Value) (z0 : List Int) (w0 : KS .u16 w a0 z0) (hL : laidMetH Tryd.prog Rows.fnExactNimsTextRow.laid w) :
    Calls Tryd.prog 5 #[a0] w fun e w' => e = .returned (.bool true) ∧ Below w.heap.size w w' := by
  have HT := Lib.hid (pow_of_laid hL)
  clear hL
  by_cases hbig : 1048576 < z0.length
  · obtain ⟨A, c, rfl, hm, hw, hc⟩ := w0
    have t1 : decide ((1048576 : Int) < (z0.length : Int)) = true := by simp; omega
    clear hc hw
    go_enter Tryd.func5, Tryd.ntmps5
    go_wp2_with fail
    go_ret
    exact ⟨rfl, Below.refl _ _⟩
  · have hn : z0.length ≤ 1048576 := by omega
    have hs := ns_of_ks w0
    obtain ⟨A, c, rfl, hm, hw, hc⟩ := w0
    have t1 : decide ((1048576 : Int) < (z0.length : Int)) = false := by simp; omega
    clear hc hw hbig
    have HA := Lib.hid hs.all
    have HS := Lib.hid hs; clear hs
    obtain ⟨s, hs⟩ : ∃ s : ByteArray, s = ⟨(jn z0 z0.length).toArray⟩ := ⟨_, rfl⟩
    have HV := Lib.hid hs
    clear hs
    go_enter Tryd.func5, Tryd.ntmps5
    go_wp2_with fail
    refine (toNimberS_any _ z0 hn _ HS.out).mono ?_
    rintro e w1 ⟨u1, rfl, hb1, ho1⟩
    have HB1 := Lib.hid hb1
    have HS1 := Lib.hid (NS.of_own ho1 HA.out)
    clear hb1 ho1
    go_wp2_with fail
    refine (spec_NimsText u1 z0 hn _ HS1.out).mono ?_
    rintro e w2 ⟨rfl, hb2⟩
    rw [← HV.out]
    have HB2 := Lib.hid (bchain HB1.out hb2)
    clear hb2 HS1 HB1
    go_wp2_with fail
    refine (toNimberS_any _ z0 hn _ (HS.out.below HB2.out)).mono ?_
    rintro e w3 ⟨u3, rfl, hb3, ho3⟩
    have HB3 := Lib.hid (bchain HB2.out hb3)
    have HS3 := Lib.hid (NS.of_own ho3 HA.out)
    have HT3 := Lib.hid (HT.out.below HB3.out)
    clear hb3 ho3 HB2
    go_wp2_with fail
    refine (impl_NimsText u3 z0 hn _ HS3.out HT3.out).mono ?_
    rintro e w4 ⟨rfl, hb4⟩
    rw [← HV.out]
    have HB4 := Lib.hid (bchain HB3.out hb4)
    have HS4 := Lib.hid (HS3.out.below hb4)
    clear hb4 HS3 HB3 HT3
    go_wp2_with fail
    refine (toNimberS_any _ z0 hn _ (HS.out.below HB4.out)).mono ?_
    rintro e w5 ⟨u5, rfl, hb5, ho5⟩
    have HB5 := Lib.hid (bchain HB4.out hb5)
    have HS5 := Lib.hid (NS.of_own ho5 HA.out)
    have HS6 := Lib.hid (HS4.out.below hb5)
    clear hb5 ho5 HB4 HS4
    go_wp2_with fail
    refine (eqNimberS_any u3 u5 z0 z0 hn hn _ HS6.out HS5.out).mono ?_
    rintro e w6 ⟨rfl, m, rfl⟩
    rw [eqB_refl]
    go_wp2_with fail
    go_ret
    exact ⟨rfl, bdrewN HB5.out m⟩

set_option maxRecDepth 100000 in
theorem lifted (os : Os) (started : os.Started) (H : Type) (enc : TypeId × Value → H) :
    ReturnsInHanded {} Tryd.checked os 5 .any (fun w args => (Rows.fnExactNimsTextSpec.pre enc Tryd.prog Tryd.f5 Rows.fnExactNimsTextRow.domain false w args ∧ laidMetH Tryd.prog Rows.fnExactNimsTextRow.laid w) ∧ sizedMet enc Tryd.prog Tryd.f5 (OpenSpec.ofChange Rows.fnExactNimsTextSpec) false w args)
      (Rows.fnExactNimsTextSpec.post enc Tryd.prog Tryd.f5 false true false false) := by
  refine returnsInHanded_of_change_and (C := Tryd.checked) (X := fun w _ => laidMetH Tryd.prog Rows.fnExactNimsTextRow.laid w) (fun _ _ _ hh h => h.of_heap hh) own started (by kernel_rfl) Tryd.func5
    (ChangeSpec.witness_shaped (enc := enc) (C := Tryd.checked) (os := os) (X := fun w _ => laidMetH Tryd.prog Rows.fnExactNimsTextRow.laid w) false (World.doorLaid Tryd.prog 4000 os) #[.slice none 0 0] 8 rfl (World.shaped_of_RefB (by kernel_rfl) (by kernel_rfl)) (by kernel_rfl) (by kernel_rfl) (by kernel_rfl) (door_met os _)) ?_
  intro W base args ds gs before hval0 hW _ _ hL _
  have hval : ∀ (j : Nat) t v, Tryd.f5.params[j]? = some t → args[j]? = some v → Value.okWide Tryd.prog W .any base t v := hval0
  have hW' := hW
  obtain ⟨p, q, hA0, hV, rfl, hfz, hnd⟩ := hW
  have hA : DataW.TrodAll enc Tryd.prog W 0 (fun _ => true) true Tryd.f5.params.toList args.toList ds p := hA0
  rw [Tryd.params5] at hA hval
  obtain ⟨v0, vs0, d0, ds0, p0, q0, hargs, rfl, rfl, h0, r0⟩ := trodAll_cons hA
  obtain ⟨rfl, rfl, rfl⟩ := trodAll_nil r0
  obtain rfl : args = #[v0] := by cases args; simp_all
  obtain ⟨rfl, rfl⟩ := trodVars_none hV
  obtain ⟨z0, w0, g0⟩ := open_row Tryd.underlying29 Tryd.underlying22 (by kernel_rfl) (hval 0 29 v0 rfl rfl) h0
  obtain ⟨a0, ha0⟩ : ∃ y, y = v0 := ⟨_, rfl⟩
  subst ha0
  clear hA0 hval0
  simp only [List.append_nil] at hW'
  refine (walk W a0 z0 w0 hL).mono fun e W' ⟨he, hg⟩ => ?_
  subst he
  exact ⟨_, rfl, law_post rfl rfl hW' hg (fun _ _ _ => (trodAll_cons_mk (shut_bool Tryd.underlying4 _) trodAll_mk0)) (fun sp hsp => by have t := (trodAll_cons_mk (g0 W' hg sp (fun q hq => hsp q (by simp [hq]))) trodAll_mk0); simp only [List.append_nil, List.nil_append] at t; exact t) (ok_one (by kernel_rfl) rfl (okWide_bool_mk Tryd.underlying4 _))⟩

theorem over : Rows.fnExactNimsTextRow.holds Tryd.pinned (OpenSpec.ofChange Rows.fnExactNimsTextSpec) :=
  OpenClaim.holds_of_wide 5 Tryd.f5 rfl rfl rfl rfl rfl rfl rfl ⟨rfl, rfl, rfl, rfl, rfl⟩ rfl rfl rfl rfl rfl (by kernel_rfl) Tryd.func5 (joinedBy 5 Tryd.f5 Rows.fnExactNimsTextSpec Rows.fnExactNimsTextRow (by kernel_rfl))
    (of_decide_eq_true (by kernel_rfl)) (by unfold Func.isWrapper; first | (rw [if_pos (by decide +kernel)]; kernel_rfl) | (rw [if_neg (by decide +kernel)]; exact ⟨rfl, rfl⟩))
    (fun os started H enc _ => lifted os started H enc)

/-- the statement -/
theorem proved : Rows.FnExactNimsTextCardSaid :=
  Claim7.holds_tied_plain_at .later [] [.data, .data, .data] true (true, "c543b37fbccc467cc8084a48a07c1237361c59837c6c8b939cf9a745f5fff814") true
    over (fun _ h => by cases h) (by kernel_rfl) (fun _ h => by cases h) fnExactNimsText_row_tie rfl ⟨rfl, rfl⟩ (by kernel_rfl) rfl
    (fun f fn hf hfn => by
      obtain rfl : f = 5 := Option.some.inj ((show Tryd.prog.funcNamed "loop.example/g01307/laws.FnExactNimsText" = some 5 by kernel_rfl).symm.trans hf) |>.symm
      obtain rfl : fn = Tryd.f5 := (Option.some.inj (Tryd.func5.symm.trans hfn)).symm
      exact ⟨by kernel_rfl, fun j t ht => by
        rw [Tryd.params5] at ht
        have hm : t ∈ [29] := by simpa using Array.mem_of_getElem? ht
        have hall : ([29].all fun u => !Tryd.prog.wantsStandIn u) = true := by kernel_rfl
        exact (show Tryd.prog.wantsStandIn t = false by simpa using List.all_eq_true.1 hall t hm)⟩)
    (by kernel_rfl)
end Go.Proofs.YtklddmmbbaaliaaDoor.fnExactNimsText
