/-
  The statement Rows.FnExactReadGameSaid for every input the law returns true; the walk is ours, the rest is the guide's template at this function's number and types.
  Conditions: none.
-/
import Derived.Test.YtklddmmbbaaliaaDoorRows
import Derived.WalkKit
import Derived.ProofKit
import Derived.OpenShut
import Derived.Test.YtklddmmbbaaliaaDoorHead
import Derived.Test.YtklddmmbbaaliaaDoorOpen
import Derived.ChangeMaps5


import Derived.Test.YtklddmmbbaaliaaDoorCards
import Derived.Test.YtklddmmbbaaliaaDoorTie
import Derived.LaidMore
import Derived.Lay
import Derived.Stop.Joined
import Derived.SevenTiedAt
import Derived.Test.YtklddmmbbaaliaaDoorShaped
import Derived.Test.YtklddmmbbaaliaaDoorRGI
namespace Go.Proofs.YtklddmmbbaaliaaDoor.fnExactReadGame
open Go.ChangeShapes Go.WideShapes Go.ChangeAt Go.RowKit Go.ChangeMaps
set_option linter.unusedVariables false
set_option linter.unusedSimpArgs false

theorem own : ownKnob Tryd.prog.godebug = none := by kernel_rfl
theorem errs_of_laidG {W : World} (h : laidMetH Tryd.prog Rows.fnExactReadGameRow.laid W) : ERRS W := by
  rw [MakeChecks.laidMetH_plain _ _ _ (by kernel_rfl)] at h
  have h3 := h.tail.tail
  have h4 := h3.tail.tail
  have h5 := h4.tail
  obtain ⟨a, ha⟩ := err_head h4 (g := 2) (by kernel_rfl) (by kernel_rfl)
  obtain ⟨b, hb⟩ := err_head h5 (g := 1) (by kernel_rfl) (by kernel_rfl)
  exact ⟨⟨_, _, hb⟩, ⟨_, _, ha⟩⟩
theorem gtx_inj {l : List UInt8} {gs gs' : List (List Int)} (h : GTX l gs) (h' : GTX l gs') : gs = gs' := by
  obtain ⟨h1, h2⟩ := gtx_rows h
  obtain ⟨h3, h4⟩ := gtx_rows h'
  refine List.ext_getElem (by omega) fun i q1 q2 => ?_
  obtain ⟨us, e, hs⟩ := h2 i q1
  obtain ⟨vs, e', hs'⟩ := h4 i q2
  have e1 : gs.getD i [] = gs[i] := by simp [List.getD, q1]
  have e2 : gs'.getD i [] = gs'[i] := by simp [List.getD, q2]
  rw [← e1, ← e2, e, e', hs.inj hs']
theorem gtx_total {l : List UInt8} {gs : List (List Int)} (h : GTX l gs) (hs : l.length ≤ 1048576) : total gs ≤ 1048576 :=
  total_of_parts (gtx_rows h).1.symm (fun i hi => by
    obtain ⟨us, e, hs⟩ := (gtx_rows h).2 i hi
    rw [e, uI_len]
    exact hs.room) hs
theorem sum_totalG {gs : List (List Int)} : ∀ i, lensTo gs i = gs.length + sumTo gs i := by
  intro i
  induction i with
  | zero => rfl
  | succ i ih => show lensTo gs i + _ = gs.length + (sumTo gs i + _); rw [ih]; omega

set_option maxRecDepth 100000 in
set_option maxHeartbeats 1000000 in
theorem walk (w : World) (a0 : ByteArray) (w0 : a0.size ≤ maxLen) (hL : laidMetH Tryd.prog Rows.fnExactReadGameRow.laid w) (hsh : w.ShapedOpen Tryd.prog) :
    Calls Tryd.prog 12 #[.string a0] w fun e w' => e = .returned (.bool true) ∧ Below w.heap.size w w' := by
  obtain ⟨mm, hmm⟩ : ∃ m, w.cell? ⟨3, 0, none⟩ = some (.int .i64 m) := Tryd.laysM146.s1_3 w hsh
  have HE := Lib.hid (errs_of_laidG hL)
  have HM := Lib.hid hmm
  clear hL hmm hsh
  by_cases hbig : 1048576 < a0.size
  · have t1 : decide ((1048576 : Int) < (a0.size : Int)) = true := by simp; omega
    go_enter Tryd.func12, Tryd.ntmps12
    go_wp2_with fail
    go_ret
    exact ⟨rfl, Below.refl _ _⟩
  have t1 : decide ((1048576 : Int) < (a0.size : Int)) = false := by simp; omega
  have hsz : a0.size ≤ 1048576 := by omega
  clear hbig
  go_enter Tryd.func12, Tryd.ntmps12
  go_wp2_with fail
  refine (spec_ReadGame a0 hsz _).mono ?_
  rintro e ws ⟨hd, hb0⟩
  have HE1 := Lib.hid (HE.out.below HE.out.size hb0)
  have HM1 : Hid (ws.cell? ⟨3, 0, none⟩ = some (.int .i64 mm)) := Lib.hid ((hb0.cell (p := ⟨3, 0, none⟩) (block_of_cell HM.out)).trans HM.out)
  have HB0 := Lib.hid hb0
  clear hb0 HE HM
  obtain ⟨gs, code, v0, rfl, hg0, hT, hkind⟩ : ∃ (gs : List (List Int)) (code : Int) (v0 : Value), e = .returned (.tuple #[v0, .int .i64 code]) ∧ GS w.heap.size ws v0 gs ∧ total gs ≤ 1048576 ∧ ((GTX a0.data.toList gs ∧ code = 0) ∨ ((¬ ∃ gs, GTX a0.data.toList gs) ∧ code = 5 ∧ gs = [])) := by
    rcases hd with ⟨gs, v, h1, rfl, h2⟩ | ⟨h1, v, rfl, h2⟩
    · exact ⟨gs, 0, v, rfl, h2, gtx_total h1 (by simpa using hsz), .inl ⟨h1, rfl⟩⟩
    · exact ⟨[], 5, v, rfl, h2, by decide, .inr ⟨h1, rfl, rfl⟩⟩
  have himpl : ∀ w2 : World, ERRS w2 → w2.cell? ⟨3, 0, none⟩ = some (.int .i64 mm) → Calls Tryd.prog 63 #[.string a0] w2 fun e w' => (∃ v U, e = .returned (.tuple #[v, .int .i64 code]) ∧ OGU U w2.heap.size w' v gs) ∧ Below w2.heap.size w2 w' := by
    intro w2 x2 x3
    refine (impl_ReadGame a0 hsz mm w2 x2 x3).mono ?_
    rintro e w3 ⟨⟨gs2, v, U, h1, rfl, h2⟩ | ⟨h1, v, U, rfl, h2⟩, hb⟩
    · rcases hkind with ⟨k1, k2⟩ | ⟨k1, _, _⟩
      · obtain rfl := gtx_inj h1 k1
        exact ⟨⟨v, U, by rw [k2], h2⟩, hb⟩
      · exact absurd ⟨_, h1⟩ k1
    · rcases hkind with ⟨k1, _⟩ | ⟨_, k2, k3⟩
      · exact absurd ⟨_, k1⟩ h1
      · subst k3
        exact ⟨⟨v, U, by rw [k2], h2⟩, hb⟩
  have HIMP := Lib.hid himpl
  have hL : gs.length ≤ 1048576 := Nat.le_trans (total_len _) hT
  have hS : sumTo gs gs.length ≤ 1048576 := by
    have := sum_totalG (gs := gs) gs.length
    unfold total at hT
    omega
  have HG0 := Lib.hid hg0
  have T1 : (code != code) = false := by simp
  have T2 : decide ((((1 + sumTo gs gs.length : Nat) : Int)) < 0) = false := by simp; omega
  have T3 : ((((1 + sumTo gs gs.length : Nat) : Int)) != ((1 + sumTo gs gs.length : Nat) : Int)) = false := by simp
  clear himpl hkind hd hg0
  go_wp2_with fail
  refine (HIMP.out _ HE1.out HM1.out).mono ?_
  rintro e wi ⟨⟨v1, U1, rfl, hg1⟩, hb1⟩
  have HG1 := Lib.hid hg1
  have HB1 := Lib.hid hb1
  clear hg1 hb1
  go_wp2_with fail
  refine (eqGame_any v1 v0 gs gs hT hT _ _ _ HG1.out.gs (HG0.out.below HB1.out)).mono ?_
  rintro e w2 ⟨rfl, m1, rfl⟩
  rw [geqB_refl]
  have HG2 := Lib.hid (HG1.out.below (bdrewN (Below.refl _ wi) m1))
  have HB2 := Lib.hid (bdrewN HB1.out m1)
  clear HG1 HB1
  go_wp2_with fail
  refine (markGame_any U1 v1 gs hS hL 1 (by omega) _ _ HG2.out).mono ?_
  rintro e wm ⟨rfl, hg3, hb3, _⟩
  have HG3 := Lib.hid hg3
  have HB3 := Lib.hid (HB2.out.trans hb3)
  clear hg3 hb3 HG2 HB2
  go_wp2_with fail
  refine (heldGame_any v1 gs hS hL 1 (by omega) _ _ HG3.out.gs).mono ?_
  rintro e wn ⟨rfl, rfl⟩
  have HE5 := Lib.hid (HE1.out.below HE1.out.size HB3.out)
  have HM5 : Hid (wn.cell? ⟨3, 0, none⟩ = some (.int .i64 mm)) := Lib.hid ((HB3.out.cell (p := ⟨3, 0, none⟩) (block_of_cell HM1.out)).trans HM1.out)
  go_wp2_with fail
  refine (HIMP.out _ HE5.out HM5.out).mono ?_
  rintro e w5 ⟨⟨v5, U5, rfl, hg5⟩, hb5⟩
  have HG5 := Lib.hid hg5
  have HB5 := Lib.hid (bchain HB3.out hb5)
  have HG6 := Lib.hid (HG3.out.below hb5)
  clear hg5 hb5 HG3 HB3
  go_wp2_with fail
  refine (eqGame_any v5 v0 gs gs hT hT _ _ _ HG5.out.gs (HG0.out.below HB5.out)).mono ?_
  rintro e w6 ⟨rfl, m2, rfl⟩
  rw [geqB_refl]
  have HG7 := Lib.hid (HG6.out.below (bdrewN (Below.refl _ w5) m2))
  have HB7 := Lib.hid (bdrewN HB5.out m2)
  clear HG6 HB5 HG5
  go_wp2_with fail
  refine (heldGame_any v1 gs hS hL 1 (by omega) _ _ HG7.out.gs).mono ?_
  rintro e wn ⟨rfl, rfl⟩
  go_wp2_with fail
  go_ret
  exact ⟨rfl, bchain HB0.out HB7.out⟩

set_option maxRecDepth 100000 in
theorem lifted (os : Os) (started : os.Started) (H : Type) (enc : TypeId × Value → H) :
    ReturnsInHanded {} Tryd.checked os 12 .any (fun w args => (Rows.fnExactReadGameSpec.pre enc Tryd.prog Tryd.f12 Rows.fnExactReadGameRow.domain false w args ∧ laidMetH Tryd.prog Rows.fnExactReadGameRow.laid w) ∧ sizedMet enc Tryd.prog Tryd.f12 (OpenSpec.ofChange Rows.fnExactReadGameSpec) false w args)
      (Rows.fnExactReadGameSpec.post enc Tryd.prog Tryd.f12 false true false false) := by
  refine handed_and_shaped (C := Tryd.checked) (X := fun w _ => laidMetH Tryd.prog Rows.fnExactReadGameRow.laid w) (fun _ _ _ hh h => h.of_heap hh) own started (by kernel_rfl) Tryd.func12
    (ChangeSpec.witness_shaped (enc := enc) (C := Tryd.checked) (os := os) (X := fun w _ => laidMetH Tryd.prog Rows.fnExactReadGameRow.laid w) false (World.laidAll Tryd.prog os Rows.fnExactReadGameRow.laid) #[.string ⟨#[]⟩] 8 (World.laidAll_os _ _ _) (World.shaped_of_ZipB (by kernel_rfl) (by kernel_rfl)) (by kernel_rfl) (by kernel_rfl) (by kernel_rfl) (by rw [MakeChecks.laidMetH_plain _ _ _ (by kernel_rfl)]; exact laidMet_laidAll _ (by kernel_rfl) (by kernel_rfl))) ?_
  intro W base args ds gs before hval0 hW _ _ hL hsh _
  have hval : ∀ (j : Nat) t v, Tryd.f12.params[j]? = some t → args[j]? = some v → Value.okWide Tryd.prog W .any base t v := hval0
  have hW' := hW
  obtain ⟨p, q, hA0, hV, rfl, hfz, hnd⟩ := hW
  have hA : DataW.TrodAll enc Tryd.prog W 0 (fun _ => true) true Tryd.f12.params.toList args.toList ds p := hA0
  rw [Tryd.params12] at hA hval
  obtain ⟨v0, vs0, d0, ds0, p0, q0, hargs, rfl, rfl, h0, r0⟩ := trodAll_cons hA
  obtain ⟨rfl, rfl, rfl⟩ := trodAll_nil r0
  obtain rfl : args = #[v0] := by cases args; simp_all
  obtain ⟨rfl, rfl⟩ := trodVars_none hV
  obtain ⟨a0, rfl, rfl, rfl, w0⟩ := open_string Tryd.underlying9 (hval 0 9 v0 rfl rfl) h0
  clear hA0 hval0
  simp only [List.append_nil] at hW'
  refine (walk W a0 w0 hL hsh).mono fun e W' ⟨he, hg⟩ => ?_
  subst he
  exact ⟨_, rfl, law_post rfl rfl hW' hg (fun _ _ _ => (trodAll_cons_mk (shut_bool Tryd.underlying4 _) trodAll_mk0)) (fun sp _ => (trodAll_cons_mk (shut_string Tryd.underlying9 w0) trodAll_mk0)) (ok_one (by kernel_rfl) rfl (okWide_bool_mk Tryd.underlying4 _))⟩

theorem over : Rows.fnExactReadGameRow.holds Tryd.pinned (OpenSpec.ofChange Rows.fnExactReadGameSpec) :=
  OpenClaim.holds_of_wide 12 Tryd.f12 rfl rfl rfl rfl rfl rfl rfl ⟨rfl, rfl, rfl, rfl, rfl⟩ rfl rfl rfl rfl rfl (by kernel_rfl) Tryd.func12 (joinedBy 12 Tryd.f12 Rows.fnExactReadGameSpec Rows.fnExactReadGameRow (by kernel_rfl))
    (of_decide_eq_true (by kernel_rfl)) (by unfold Func.isWrapper; first | (rw [if_pos (by decide +kernel)]; kernel_rfl) | (rw [if_neg (by decide +kernel)]; exact ⟨rfl, rfl⟩))
    (fun os started H enc _ => lifted os started H enc)

/-- the statement -/
theorem proved : Rows.FnExactReadGameCardSaid :=
  Claim7.holds_tied_plain_at .later [] [.data, .data, .data, .data, .sentinel, .sentinel, .pinned] true (true, "c543b37fbccc467cc8084a48a07c1237361c59837c6c8b939cf9a745f5fff814") true
    over (fun _ h => by cases h) (by kernel_rfl) (fun _ h => by cases h) fnExactReadGame_row_tie rfl ⟨rfl, rfl⟩ (by kernel_rfl) rfl
    (fun f fn hf hfn => by
      obtain rfl : f = 12 := Option.some.inj ((show Tryd.prog.funcNamed "loop.example/g01307/laws.FnExactReadGame" = some 12 by kernel_rfl).symm.trans hf) |>.symm
      obtain rfl : fn = Tryd.f12 := (Option.some.inj (Tryd.func12.symm.trans hfn)).symm
      exact ⟨by kernel_rfl, fun j t ht => by
        rw [Tryd.params12] at ht
        have hm : t ∈ [9] := by simpa using Array.mem_of_getElem? ht
        have hall : ([9].all fun u => !Tryd.prog.wantsStandIn u) = true := by kernel_rfl
        exact (show Tryd.prog.wantsStandIn t = false by simpa using List.all_eq_true.1 hall t hm)⟩)
    (by kernel_rfl)
end Go.Proofs.YtklddmmbbaaliaaDoor.fnExactReadGame
