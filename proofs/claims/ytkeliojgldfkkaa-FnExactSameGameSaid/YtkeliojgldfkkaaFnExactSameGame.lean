/-
  The statement Rows.FnExactSameGameSaid for every input the law returns true; the walk is ours, the rest is the guide's template at this function's number and types.
  Conditions: none.
-/
import Derived.Test.YtkeliojgldfkkaaRows
import Derived.WalkKit
import Derived.ProofKit
import Derived.OpenShut
import Derived.Test.YtkeliojgldfkkaaHead
import Derived.Test.YtkeliojgldfkkaaOpen


import Derived.Test.YtkeliojgldfkkaaValid
namespace Go.Proofs.Ytkeliojgldfkkaa.fnExactSameGame
open Go.ChangeShapes Go.WideShapes Go.ChangeAt Go.RowKit
set_option linter.unusedVariables false
set_option linter.unusedSimpArgs false

theorem own : ownKnob Try.prog.godebug = none := by kernel_rfl

set_option maxRecDepth 100000 in
set_option maxHeartbeats 1000000 in
theorem walk (w : World) (a0 : Value) (z0 : List (List Int)) (a1 : Value) (z1 : List (List Int)) (w0 : GS 0 w a0 z0) (w1 : GS 0 w a1 z1) :
    Calls Try.prog 4 #[a0, a1] w fun e w' => e = .returned (.bool true) ∧ Below w.heap.size w w' := by
  have HS := Lib.hid w0; clear w0
  have HS' := Lib.hid w1; clear w1
  by_cases hbig : total z0 ≤ 1048576
  · have hz : szV z0 1048576 = .int .i64 ((1048576 - total z0 : Nat) : Int) := by unfold szV; rw [if_pos hbig]
    obtain ⟨y, hy⟩ : ∃ y : Nat, y = 1048576 - total z0 := ⟨_, rfl⟩
    rw [← hy] at hz
    have hy2 : y ≤ 1048576 := by omega
    have T1 : decide ((y : Int) < 0) = false := by simp
    have HZ := Lib.hid hz
    clear hz hy
    by_cases hbig2 : total z1 ≤ y
    · have hz : szV z1 y = .int .i64 ((y - total z1 : Nat) : Int) := by unfold szV; rw [if_pos hbig2]
      have hbig3 : total z1 ≤ 1048576 := by omega
      obtain ⟨x, hx⟩ : ∃ x : Nat, x = y - total z1 := ⟨_, rfl⟩
      rw [← hx] at hz
      have hx2 : x ≤ 1048576 := by omega
      have T2 : decide ((x : Int) < 0) = false := by simp
      have HZ2 := Lib.hid hz
      clear hz hx hbig2
      go_enter Try.func4, Try.ntmps4
      go_wp2_with fail
      refine (szGame_any a0 z0 1048576 (by omega) _ HS.out).mono ?_
      rintro e w' ⟨rfl, rfl⟩
      rw [HZ.out]
      go_wp2_with fail
      refine (szGame_any a1 z1 y (by omega) _ HS'.out).mono ?_
      rintro e w' ⟨rfl, rfl⟩
      rw [HZ2.out]
      go_wp2_with fail
      refine (toGame_any a0 z0 hbig _ HS.out).mono ?_
      rintro e w1 ⟨u1, rfl, hb1, hg1⟩
      have HB1 := Lib.hid hb1
      have HG1 := Lib.hid hg1
      clear hb1 hg1
      go_wp2_with fail
      refine (toGame_any a1 z1 hbig3 _ (HS'.out.below HB1.out)).mono ?_
      rintro e w2 ⟨u2, rfl, hb2, hg2⟩
      have HB2 := Lib.hid (bchain HB1.out hb2)
      have HG2 := Lib.hid hg2
      have HG1' := Lib.hid (HG1.out.below hb2)
      clear hb2 hg2 HB1 HG1
      go_wp2_with fail
      refine (spec_SameGame u1 u2 z0 z1 hbig hbig3 _ _ _ HG1'.out HG2.out).mono ?_
      rintro e w3 ⟨rfl, m1, rfl⟩
      have HB3 := Lib.hid (bdrewN HB2.out m1)
      clear HB2 HG2 HG1'
      obtain ⟨bv, hbv⟩ : ∃ bv, bv = geqB z0 z1 := ⟨_, rfl⟩
      have HBV := Lib.hid hbv
      rw [← hbv]
      clear hbv
      have hne : (bv != bv) = false := by simp
      go_wp2_with fail
      refine (toGame_any a0 z0 hbig _ (HS.out.below HB3.out)).mono ?_
      rintro e w4 ⟨u4, rfl, hb4, hg4⟩
      have HB4 := Lib.hid (bchain HB3.out hb4)
      have HG4 := Lib.hid hg4
      clear hb4 hg4 HB3
      go_wp2_with fail
      refine (toGame_any a1 z1 hbig3 _ (HS'.out.below HB4.out)).mono ?_
      rintro e w5 ⟨u5, rfl, hb5, hg5⟩
      have HB5 := Lib.hid (bchain HB4.out hb5)
      have HG5 := Lib.hid hg5
      have HG4' := Lib.hid (HG4.out.below hb5)
      clear hb5 hg5 HB4 HG4
      go_wp2_with fail
      refine (impl_SameGame u4 u5 z0 z1 hbig hbig3 _ _ _ HG4'.out HG5.out).mono ?_
      rintro e w6 ⟨rfl, m2, rfl⟩
      rw [← HBV.out]
      have HB6 := Lib.hid (bdrewN HB5.out m2)
      have HG5' := Lib.hid (HG5.out.below (bdrewN (Below.refl _ w5) m2))
      have HG4'' := Lib.hid (HG4'.out.below (bdrewN (Below.refl _ w5) m2))
      clear HB5 HG5 HG4'
      go_wp2_with fail
      refine (toGame_any a0 z0 hbig _ (HS.out.below HB6.out)).mono ?_
      rintro e w7 ⟨u7, rfl, hb7, hg7⟩
      have HB7 := Lib.hid (bchain HB6.out hb7)
      have HG7 := Lib.hid hg7
      have HG8 := Lib.hid (HG4''.out.below hb7)
      have HG9 := Lib.hid (HG5'.out.below hb7)
      clear hb7 hg7 HB6 HG4'' HG5'
      go_wp2_with fail
      refine (eqGame_any u4 u7 z0 z0 hbig hbig _ _ _ HG8.out HG7.out).mono ?_
      rintro e w8 ⟨rfl, m3, rfl⟩
      rw [geqB_refl]
      have HB8 := Lib.hid (bdrewN HB7.out m3)
      have HG10 := Lib.hid (HG9.out.below (bdrewN (Below.refl _ w7) m3))
      clear HB7 HG7 HG8 HG9
      go_wp2_with fail
      refine (toGame_any a1 z1 hbig3 _ (HS'.out.below HB8.out)).mono ?_
      rintro e w9 ⟨u9, rfl, hb9, hg9⟩
      have HB9 := Lib.hid (bchain HB8.out hb9)
      have HG11 := Lib.hid hg9
      have HG12 := Lib.hid (HG10.out.below hb9)
      clear hb9 hg9 HB8 HG10
      go_wp2_with fail
      refine (eqGame_any u5 u9 z1 z1 hbig3 hbig3 _ _ _ HG12.out HG11.out).mono ?_
      rintro e w10 ⟨rfl, m4, rfl⟩
      rw [geqB_refl]
      go_wp2_with fail
      go_ret
      exact ⟨rfl, bdrewN HB9.out m4⟩
    · have hz : szV z1 y = .int .i64 (-1) := by unfold szV; rw [if_neg hbig2]
      have HZ2 := Lib.hid hz
      clear hz hbig2
      go_enter Try.func4, Try.ntmps4
      go_wp2_with fail
      refine (szGame_any a0 z0 1048576 (by omega) _ HS.out).mono ?_
      rintro e w' ⟨rfl, rfl⟩
      rw [HZ.out]
      go_wp2_with fail
      refine (szGame_any a1 z1 y (by omega) _ HS'.out).mono ?_
      rintro e w' ⟨rfl, rfl⟩
      rw [HZ2.out]
      go_wp2_with fail
      go_ret
      exact ⟨rfl, Below.refl _ _⟩
  · have hz : szV z0 1048576 = .int .i64 (-1) := by unfold szV; rw [if_neg hbig]
    have HZ := Lib.hid hz
    clear hz
    go_enter Try.func4, Try.ntmps4
    go_wp2_with fail
    refine (szGame_any a0 z0 1048576 (by omega) _ HS.out).mono ?_
    rintro e w' ⟨rfl, rfl⟩
    rw [HZ.out]
    go_wp2_with fail
    go_ret
    exact ⟨rfl, Below.refl _ _⟩

set_option maxRecDepth 100000 in
theorem lifted (os : Os) (started : os.Started) (H : Type) (enc : TypeId × Value → H) :
    ReturnsInHanded {} Try.checked os 4 .any (Rows.fnExactSameGameSpec.pre6 enc Try.prog Try.f4 Rows.fnExactSameGameRow.domain false) (Rows.fnExactSameGameSpec.post enc Try.prog Try.f4 false true false false) := by
  refine returnsInHanded_of_change (C := Try.checked) own started (by kernel_rfl) Try.func4
    (ChangeSpec.witness6 (enc := enc) (C := Try.checked) false ⟨#[], #[.slice none 0 0, .slice none 0 0], []⟩ 8 (by kernel_rfl) (by kernel_rfl) (by kernel_rfl) (by kernel_rfl)) ?_
  intro W base args ds gs before hval0 hW hcnd _
  have hval : ∀ (j : Nat) t v, Try.f4.params[j]? = some t → args[j]? = some v → Value.okWide Try.prog W .any base t v := hval0
  have hW' := hW
  obtain ⟨p, q, hA0, hV, rfl, hfz, hnd⟩ := hW
  have hA : DataW.TrodAll enc Try.prog W 0 (fun _ => true) true Try.f4.params.toList args.toList ds p := hA0
  rw [Try.params4] at hA hval
  obtain ⟨v0, vs0, d0, ds0, p0, q0, hargs, rfl, rfl, h0, r0⟩ := trodAll_cons hA
  obtain ⟨v1, vs1, d1, ds1, p1, q1, rfl, rfl, rfl, h1, r1⟩ := trodAll_cons r0
  obtain ⟨rfl, rfl, rfl⟩ := trodAll_nil r1
  obtain rfl : args = #[v0, v1] := by cases args; simp_all
  obtain ⟨rfl, rfl⟩ := trodVars_none hV
  obtain ⟨z0, w0, g0⟩ := open_game (P := Try.prog) (by kernel_rfl) (by kernel_rfl) (of_decide_eq_true (by kernel_rfl)) Try.underlying22 Try.underlying43 Try.underlying45 (by kernel_rfl) (by kernel_rfl) (hval 0 22 v0 rfl rfl) h0 (fun x hx => hW'.lt x (by simp [hx]))
  obtain ⟨a0, ha0⟩ : ∃ y, y = v0 := ⟨_, rfl⟩
  subst ha0
  obtain ⟨z1, w1, g1⟩ := open_game (P := Try.prog) (by kernel_rfl) (by kernel_rfl) (of_decide_eq_true (by kernel_rfl)) Try.underlying22 Try.underlying43 Try.underlying45 (by kernel_rfl) (by kernel_rfl) (hval 1 22 v1 rfl rfl) h1 (fun x hx => hW'.lt x (by simp [hx]))
  obtain ⟨a1, ha1⟩ : ∃ y, y = v1 := ⟨_, rfl⟩
  subst ha1
  clear hA0 hval0
  simp only [List.append_nil, List.nil_append] at hW'
  refine (walk W a0 z0 a1 z1 w0 w1).mono fun e W' ⟨he, hg⟩ => ?_
  subst he
  exact ⟨_, rfl, law_post rfl rfl hW' hg (fun _ _ _ => (trodAll_cons_mk (shut_bool Try.underlying4 _) trodAll_mk0)) (fun sp hsp => by have t := (trodAll_cons_mk (g0 W' hg sp (fun q hq => hsp q (by simp [hq]))) (trodAll_cons_mk (g1 W' hg sp (fun q hq => hsp q (by simp [hq]))) trodAll_mk0)); simp only [List.append_nil, List.nil_append] at t; exact t) (ok_one (by kernel_rfl) rfl (okWide_bool_mk Try.underlying4 _))⟩

theorem over : Rows.fnExactSameGameRow.holds Try.pinned (OpenSpec.ofChange Rows.fnExactSameGameSpec) :=
  OpenClaim.holds_of_wide 4 Try.f4 rfl rfl rfl rfl rfl rfl rfl ⟨rfl, rfl, rfl, rfl, rfl⟩ rfl rfl rfl rfl rfl (by kernel_rfl) Try.func4 (joinedBy 4 Try.f4 Rows.fnExactSameGameSpec Rows.fnExactSameGameRow (by kernel_rfl))
    (of_decide_eq_true (by kernel_rfl)) (by unfold Func.isWrapper; first | (rw [if_pos (by decide +kernel)]; kernel_rfl) | (rw [if_neg (by decide +kernel)]; exact ⟨rfl, rfl⟩))
    (fun os started H enc _ => lifted os started H enc)

/-- the statement -/
theorem proved : Rows.FnExactSameGameSaid :=
  over
end Go.Proofs.Ytkeliojgldfkkaa.fnExactSameGame
