/-
  The statement Rows.FnExactAddGamesSaid for every input the law returns true; the walk is ours, the rest is the guide's template at this function's number and types.
  Conditions: none.
-/
import Derived.Test.YtkeliojgldfkkaaRows
import Derived.WalkKit
import Derived.ProofKit
import Derived.OpenShut
import Derived.Test.YtkeliojgldfkkaaHead
import Derived.Test.YtkeliojgldfkkaaOpen


import Derived.Test.YtkeliojgldfkkaaAddG1
import Derived.Test.YtkeliojgldfkkaaAddG2
namespace Go.Proofs.Ytkeliojgldfkkaa.fnExactAddGames
open Go.ChangeShapes Go.WideShapes Go.ChangeAt Go.RowKit
set_option linter.unusedVariables false
set_option linter.unusedSimpArgs false

theorem own : ownKnob Try.prog.godebug = none := by kernel_rfl

set_option maxRecDepth 100000 in
set_option maxHeartbeats 1000000 in
theorem walk (w : World) (a0 : Value) (z0 : List (List Int)) (a1 : Value) (z1 : List (List Int)) (w0 : GS 0 w a0 z0) (w1 : GS 0 w a1 z1) :
    Calls Try.prog 6 #[a0, a1] w fun e w' => e = .returned (.bool true) ∧ Below w.heap.size w w' := by
  have HS := Lib.hid w0; clear w0
  have HS' := Lib.hid w1; clear w1
  by_cases hbig : total z0 ≤ 1048576
  · have hz : szV z0 1048576 = .int .i64 ((1048576 - total z0 : Nat) : Int) := by unfold szV; rw [if_pos hbig]
    obtain ⟨y, hy⟩ : ∃ y : Nat, y = 1048576 - total z0 := ⟨_, rfl⟩
    rw [← hy] at hz
    have hy2 : y ≤ 1048576 := by omega
    have T1 : decide ((y : Int) < 0) = false := by simp
    have HZ := Lib.hid hz
    clear hz hy
    by_cases hbig2 : total z1 ≤ y
    · have hz : szV z1 y = .int .i64 ((y - total z1 : Nat) : Int) := by unfold szV; rw [if_pos hbig2]
      have hbig3 : total z1 ≤ 1048576 := by omega
      obtain ⟨x, hx⟩ : ∃ x : Nat, x = y - total z1 := ⟨_, rfl⟩
      rw [← hx] at hz
      have hx2 : x ≤ 1048576 := by omega
      have T2 : decide ((x : Int) < 0) = false := by simp
      have HZ2 := Lib.hid hz
      clear hz hx hbig2
      have hT := addG_total z0 z1
      have hS := sum_of_total hT
      have hL := Nat.le_trans (total_len _) hT
      have hS0 := sum_of_total hbig
      have hL0 := Nat.le_trans (total_len _) hbig
      have hS1 := sum_of_total hbig3
      have hL1 := Nat.le_trans (total_len _) hbig3
      obtain ⟨gs, hgs⟩ : ∃ gs, gs = addG z0 z1 := ⟨_, rfl⟩
      obtain ⟨c, hc⟩ : ∃ c, c = addC z0 z1 := ⟨_, rfl⟩
      rw [← hgs] at hT hS hL
      have HGS := Lib.hid hgs
      have HC := Lib.hid hc
      have T3 : (c != c) = false := by simp
      have T4 : decide ((((1 + sumTo gs gs.length : Nat) : Int)) < 0) = false := by simp; omega
      have T5 : ((((1 + sumTo gs gs.length : Nat) : Int)) != ((1 + sumTo gs gs.length : Nat) : Int)) = false := by simp
      have T6 : decide ((((1 + sumTo z0 z0.length + sumTo z1 z1.length : Nat) : Int)) < 0) = false := by simp; omega
      clear hgs hc
      go_enter Try.func6, Try.ntmps6
      go_wp2_with fail
      refine (szGame_any a0 z0 1048576 (by omega) _ HS.out).mono ?_
      rintro e w' ⟨rfl, rfl⟩
      rw [HZ.out]
      go_wp2_with fail
      refine (szGame_any a1 z1 y (by omega) _ HS'.out).mono ?_
      rintro e w' ⟨rfl, rfl⟩
      rw [HZ2.out]
      go_wp2_with fail
      refine (toGame_any a0 z0 hbig _ HS.out).mono ?_
      rintro e w1 ⟨u1, rfl, hb1, hg1⟩
      have HB1 := Lib.hid hb1
      have HG1 := Lib.hid hg1
      clear hb1 hg1
      go_wp2_with fail
      refine (toGame_any a1 z1 hbig3 _ (HS'.out.below HB1.out)).mono ?_
      rintro e w2 ⟨u2, rfl, hb2, hg2⟩
      have HB2 := Lib.hid (bchain HB1.out hb2)
      have HG2 := Lib.hid hg2
      have HG1' := Lib.hid (HG1.out.below hb2)
      clear hb2 hg2 HB1 HG1
      go_wp2_with fail
      refine (spec_AddGames u1 u2 z0 z1 hbig hbig3 _ _ _ HG1'.out HG2.out).mono ?_
      rintro e ws ⟨v0, U0, rfl, hg0, hb0⟩
      rw [← HGS.out] at hg0
      rw [← HC.out]
      have HG0 := Lib.hid hg0.gs
      have HBS := Lib.hid (bchain HB2.out hb0)
      clear hg0 hb0 HB2 HG2 HG1'
      go_wp2_with fail
      refine (toGame_own a0 z0 hbig _ (HS.out.below HBS.out)).mono ?_
      rintro e wx ⟨x0, X0, rfl, hbx, hgx⟩
      have HBX := Lib.hid hbx
      have HX0 := Lib.hid hgx
      have HTOP := Lib.hid hgx.lows
      clear hbx hgx
      go_wp2_with fail
      refine (toGame_own a1 z1 hbig3 _ (HS'.out.below (bchain HBS.out HBX.out))).mono ?_
      rintro e wy ⟨x1, X1, rfl, hby, hgy⟩
      have HBY := Lib.hid (bchain HBX.out hby)
      have HX1 := Lib.hid hgy
      have HX0' := Lib.hid (HX0.out.below hby)
      have HXY := Lib.hid hby.size
      have HTOP2 := Lib.hid hgy.lows
      clear hby hgy HX0
      go_wp2_with fail
      refine (impl_AddGames x0 x1 z0 z1 hbig hbig3 _ _ _ HX0'.out.gs HX1.out.gs).mono ?_
      rintro e wi ⟨v1, U1, rfl, hg1, hb1⟩
      rw [← HGS.out] at hg1
      rw [← HC.out]
      have HG1 := Lib.hid hg1
      have HB1 := Lib.hid (bchain HBY.out hb1)
      have HX2 := Lib.hid (HX0'.out.below hb1)
      have HX3 := Lib.hid (HX1.out.below hb1)
      have HXS := Lib.hid hb1.size
      clear hg1 hb1 HX0' HX1
      go_wp2_with fail
      refine (eqGame_any v1 v0 gs gs hT hT _ _ _ HG1.out.gs (HG0.out.below HB1.out)).mono ?_
      rintro e w6 ⟨rfl, m1, rfl⟩
      rw [geqB_refl]
      have HB2 := Lib.hid (bdrewN HB1.out m1)
      have HG2 := Lib.hid (HG1.out.below (bdrewN (Below.refl _ wi) m1))
      have HX4 := Lib.hid (HX2.out.below (bdrewN (Below.refl _ wi) m1))
      have HX5 := Lib.hid (HX3.out.below (bdrewN (Below.refl _ wi) m1))
      clear HB1 HG1 HX2 HX3
      go_wp2_with fail
      refine (toGame_any a0 z0 hbig _ (HS.out.below (bchain HBS.out HB2.out))).mono ?_
      rintro e w7 ⟨u7, rfl, hb7, hg7⟩
      have HB7 := Lib.hid (bchain HB2.out hb7)
      have HG7 := Lib.hid hg7
      have HG3 := Lib.hid (HG2.out.below hb7)
      have HX6 := Lib.hid (HX4.out.below hb7)
      have HX7 := Lib.hid (HX5.out.below hb7)
      clear hb7 hg7 HB2 HG2 HX4 HX5
      go_wp2_with fail
      refine (eqGame_any x0 u7 z0 z0 hbig hbig _ _ _ HX6.out.gs HG7.out).mono ?_
      rintro e w8 ⟨rfl, m2, rfl⟩
      rw [geqB_refl]
      have HB8 := Lib.hid (bdrewN HB7.out m2)
      have HG4 := Lib.hid (HG3.out.below (bdrewN (Below.refl _ w7) m2))
      have HX8 := Lib.hid (HX6.out.below (bdrewN (Below.refl _ w7) m2))
      have HX9 := Lib.hid (HX7.out.below (bdrewN (Below.refl _ w7) m2))
      clear HB7 HG3 HX6 HX7 HG7
      go_wp2_with fail
      refine (toGame_any a1 z1 hbig3 _ (HS'.out.below (bchain HBS.out HB8.out))).mono ?_
      rintro e w9 ⟨u9, rfl, hb9, hg9⟩
      have HB9 := Lib.hid (bchain HB8.out hb9)
      have HG9 := Lib.hid hg9
      have HG5 := Lib.hid (HG4.out.below hb9)
      have HXA := Lib.hid (HX8.out.below hb9)
      have HXB := Lib.hid (HX9.out.below hb9)
      clear hb9 hg9 HB8 HG4 HX8 HX9
      go_wp2_with fail
      refine (eqGame_any x1 u9 z1 z1 hbig3 hbig3 _ _ _ HXB.out.gs HG9.out).mono ?_
      rintro e wA ⟨rfl, m3, rfl⟩
      rw [geqB_refl]
      have HBA := Lib.hid (bdrewN HB9.out m3)
      have HG6 := Lib.hid (HG5.out.below (bdrewN (Below.refl _ w9) m3))
      have HXC := Lib.hid (HXA.out.below (bdrewN (Below.refl _ w9) m3))
      have HXD := Lib.hid (HXB.out.below (bdrewN (Below.refl _ w9) m3))
      clear HB9 HG5 HXA HXB HG9
      go_wp2_with fail
      refine (markGame_any X0 x0 z0 hS0 hL0 1 (by omega) _ _ HXC.out).mono ?_
      rintro e wB ⟨rfl, _, hbB, hamB⟩
      have HAM := hamB _ HTOP.out
      have HBB := Lib.hid (HBA.out.trans hbB)
      have HG7 := Lib.hid (HG6.out.amid HAM (by have := HXY.out; omega))
      have HXE := Lib.hid (HXD.out.amid HAM (Nat.le_refl _))
      clear hbB hamB HAM HBA HG6 HXC HXD HTOP
      go_wp2_with fail
      refine (markGame_any X1 x1 z1 hS1 hL1 (1 + sumTo z0 z0.length) (by omega) _ _ HXE.out).mono ?_
      rintro e wC ⟨rfl, _, hbC, hamC⟩
      have HAM := hamC _ HTOP2.out
      have HBC := Lib.hid (HBB.out.trans (hbC.mono HBX.out.size))
      have HG8 := Lib.hid (HG7.out.amid HAM (Nat.le_refl _))
      clear hbC hamC HAM HBB HG7 HXE HTOP2
      go_wp2_with fail
      refine (eqGame_any v1 v0 gs gs hT hT _ _ _ HG8.out.gs (HG0.out.below HBC.out)).mono ?_
      rintro e wD ⟨rfl, m4, rfl⟩
      rw [geqB_refl]
      have HBD := Lib.hid (bdrewN HBC.out m4)
      have HG9 := Lib.hid (HG8.out.below (bdrewN (Below.refl _ wC) m4))
      clear HBC HG8
      go_wp2_with fail
      refine (markGame_any U1 v1 gs hS hL 1 (by omega) _ _ HG9.out).mono ?_
      rintro e wm ⟨rfl, hg3, hb3, _⟩
      have HGA := Lib.hid hg3
      have HBE := Lib.hid (HBD.out.trans (hb3.mono HBY.out.size))
      clear hg3 hb3 HG9 HBD
      go_wp2_with fail
      refine (heldGame_any v1 gs hS hL 1 (by omega) _ _ HGA.out.gs).mono ?_
      rintro e wn ⟨rfl, rfl⟩
      go_wp2_with fail
      refine (toGame_any a0 z0 hbig _ (HS.out.below (bchain HBS.out HBE.out))).mono ?_
      rintro e wE ⟨uE, rfl, hbE, hgE⟩
      have HBF := Lib.hid (bchain HBE.out hbE)
      have HGE := Lib.hid hgE
      have HGB := Lib.hid (HGA.out.below hbE)
      clear hbE hgE HBE HGA
      go_wp2_with fail
      refine (toGame_any a1 z1 hbig3 _ (HS'.out.below (bchain HBS.out HBF.out))).mono ?_
      rintro e wF ⟨uF, rfl, hbF, hgF⟩
      have HBG := Lib.hid (bchain HBF.out hbF)
      have HGF := Lib.hid hgF
      have HGC := Lib.hid (HGB.out.below hbF)
      have HGE2 := Lib.hid (HGE.out.below hbF)
      clear hbF hgF HBF HGB HGE
      go_wp2_with fail
      refine (impl_AddGames uE uF z0 z1 hbig hbig3 _ _ _ HGE2.out HGF.out).mono ?_
      rintro e wG ⟨v5, U5, rfl, hg5, hb5⟩
      rw [← HGS.out] at hg5
      rw [← HC.out]
      have HG5 := Lib.hid hg5
      have HBH := Lib.hid (bchain HBG.out hb5)
      have HGD := Lib.hid (HGC.out.below hb5)
      clear hg5 hb5 HBG HGC HGE2 HGF
      go_wp2_with fail
      refine (eqGame_any v5 v0 gs gs hT hT _ _ _ HG5.out.gs (HG0.out.below HBH.out)).mono ?_
      rintro e wH ⟨rfl, m5, rfl⟩
      rw [geqB_refl]
      have HBI := Lib.hid (bdrewN HBH.out m5)
      have HGG := Lib.hid (HGD.out.below (bdrewN (Below.refl _ wG) m5))
      clear HBH HGD HG5
      go_wp2_with fail
      refine (heldGame_any v1 gs hS hL 1 (by omega) _ _ HGG.out.gs).mono ?_
      rintro e wn ⟨rfl, rfl⟩
      go_wp2_with fail
      go_ret
      exact ⟨rfl, bchain HBS.out HBI.out⟩
    · have hz : szV z1 y = .int .i64 (-1) := by unfold szV; rw [if_neg hbig2]
      have HZ2 := Lib.hid hz
      clear hz hbig2
      go_enter Try.func6, Try.ntmps6
      go_wp2_with fail
      refine (szGame_any a0 z0 1048576 (by omega) _ HS.out).mono ?_
      rintro e w' ⟨rfl, rfl⟩
      rw [HZ.out]
      go_wp2_with fail
      refine (szGame_any a1 z1 y (by omega) _ HS'.out).mono ?_
      rintro e w' ⟨rfl, rfl⟩
      rw [HZ2.out]
      go_wp2_with fail
      go_ret
      exact ⟨rfl, Below.refl _ _⟩
  · have hz : szV z0 1048576 = .int .i64 (-1) := by unfold szV; rw [if_neg hbig]
    have HZ := Lib.hid hz
    clear hz
    go_enter Try.func6, Try.ntmps6
    go_wp2_with fail
    refine (szGame_any a0 z0 1048576 (by omega) _ HS.out).mono ?_
    rintro e w' ⟨rfl, rfl⟩
    rw [HZ.out]
    go_wp2_with fail
    go_ret
    exact ⟨rfl, Below.refl _ _⟩

set_option maxRecDepth 100000 in
theorem lifted (os : Os) (started : os.Started) (H : Type) (enc : TypeId × Value → H) :
    ReturnsInHanded {} Try.checked os 6 .any (Rows.fnExactAddGamesSpec.pre6 enc Try.prog Try.f6 Rows.fnExactAddGamesRow.domain false) (Rows.fnExactAddGamesSpec.post enc Try.prog Try.f6 false true false false) := by
  refine returnsInHanded_of_change (C := Try.checked) own started (by kernel_rfl) Try.func6
    (ChangeSpec.witness6 (enc := enc) (C := Try.checked) false ⟨#[], #[.slice none 0 0, .slice none 0 0], []⟩ 8 (by kernel_rfl) (by kernel_rfl) (by kernel_rfl) (by kernel_rfl)) ?_
  intro W base args ds gs before hval0 hW hcnd _
  have hval : ∀ (j : Nat) t v, Try.f6.params[j]? = some t → args[j]? = some v → Value.okWide Try.prog W .any base t v := hval0
  have hW' := hW
  obtain ⟨p, q, hA0, hV, rfl, hfz, hnd⟩ := hW
  have hA : DataW.TrodAll enc Try.prog W 0 (fun _ => true) true Try.f6.params.toList args.toList ds p := hA0
  rw [Try.params6] at hA hval
  obtain ⟨v0, vs0, d0, ds0, p0, q0, hargs, rfl, rfl, h0, r0⟩ := trodAll_cons hA
  obtain ⟨v1, vs1, d1, ds1, p1, q1, rfl, rfl, rfl, h1, r1⟩ := trodAll_cons r0
  obtain ⟨rfl, rfl, rfl⟩ := trodAll_nil r1
  obtain rfl : args = #[v0, v1] := by cases args; simp_all
  obtain ⟨rfl, rfl⟩ := trodVars_none hV
  obtain ⟨z0, w0, g0⟩ := open_game (P := Try.prog) (by kernel_rfl) (by kernel_rfl) (of_decide_eq_true (by kernel_rfl)) Try.underlying22 Try.underlying43 Try.underlying45 (by kernel_rfl) (by kernel_rfl) (hval 0 22 v0 rfl rfl) h0 (fun x hx => hW'.lt x (by simp [hx]))
  obtain ⟨a0, ha0⟩ : ∃ y, y = v0 := ⟨_, rfl⟩
  subst ha0
  obtain ⟨z1, w1, g1⟩ := open_game (P := Try.prog) (by kernel_rfl) (by kernel_rfl) (of_decide_eq_true (by kernel_rfl)) Try.underlying22 Try.underlying43 Try.underlying45 (by kernel_rfl) (by kernel_rfl) (hval 1 22 v1 rfl rfl) h1 (fun x hx => hW'.lt x (by simp [hx]))
  obtain ⟨a1, ha1⟩ : ∃ y, y = v1 := ⟨_, rfl⟩
  subst ha1
  clear hA0 hval0
  simp only [List.append_nil, List.nil_append] at hW'
  refine (walk W a0 z0 a1 z1 w0 w1).mono fun e W' ⟨he, hg⟩ => ?_
  subst he
  exact ⟨_, rfl, law_post rfl rfl hW' hg (fun _ _ _ => (trodAll_cons_mk (shut_bool Try.underlying4 _) trodAll_mk0)) (fun sp hsp => by have t := (trodAll_cons_mk (g0 W' hg sp (fun q hq => hsp q (by simp [hq]))) (trodAll_cons_mk (g1 W' hg sp (fun q hq => hsp q (by simp [hq]))) trodAll_mk0)); simp only [List.append_nil, List.nil_append] at t; exact t) (ok_one (by kernel_rfl) rfl (okWide_bool_mk Try.underlying4 _))⟩

theorem over : Rows.fnExactAddGamesRow.holds Try.pinned (OpenSpec.ofChange Rows.fnExactAddGamesSpec) :=
  OpenClaim.holds_of_wide 6 Try.f6 rfl rfl rfl rfl rfl rfl rfl ⟨rfl, rfl, rfl, rfl, rfl⟩ rfl rfl rfl rfl rfl (by kernel_rfl) Try.func6 (joinedBy 6 Try.f6 Rows.fnExactAddGamesSpec Rows.fnExactAddGamesRow (by kernel_rfl))
    (of_decide_eq_true (by kernel_rfl)) (by unfold Func.isWrapper; first | (rw [if_pos (by decide +kernel)]; kernel_rfl) | (rw [if_neg (by decide +kernel)]; exact ⟨rfl, rfl⟩))
    (fun os started H enc _ => lifted os started H enc)

/-- the statement -/
theorem proved : Rows.FnExactAddGamesSaid :=
  over
end Go.Proofs.Ytkeliojgldfkkaa.fnExactAddGames
