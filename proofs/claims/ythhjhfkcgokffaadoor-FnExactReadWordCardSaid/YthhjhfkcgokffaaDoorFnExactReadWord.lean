/-
  The statement Rows.FnExactReadWordSaid for every input the law returns true; the walk is ours, the rest is the guide's template at this function's number and types.
  Conditions: none.
-/
import Derived.Test.YthhjhfkcgokffaaDoorRows
import Derived.WalkKit
import Derived.ProofKit
import Derived.OpenShut
import Derived.Test.YthhjhfkcgokffaaDoorHead
import Derived.Test.YthhjhfkcgokffaaDoorOpen
import Derived.ChangeMaps5


import Derived.Test.YthhjhfkcgokffaaDoorCards
import Derived.Test.YthhjhfkcgokffaaDoorTie
import Derived.LaidMore
import Derived.Lay
import Derived.Stop.Joined
import Derived.SevenTiedAt
import Derived.Test.YthhjhfkcgokffaaDoorShaped
import Derived.Test.YthhjhfkcgokffaaDoorWtD
namespace Go.Proofs.YthhjhfkcgokffaaDoor.fnExactReadWord
open Go.ChangeShapes Go.WideShapes Go.ChangeAt Go.RowKit Go.ChangeMaps
set_option linter.unusedVariables false
set_option linter.unusedSimpArgs false

theorem own : ownKnob Tryd.prog.godebug = none := by kernel_rfl
theorem errs_of_laid7 {W : World} (h : laidMetH Tryd.prog Rows.fnExactReadWordRow.laid W) : POW W ∧ ERRS W := by
  rw [MakeChecks.laidMetH_plain _ _ _ (by kernel_rfl)] at h
  have h3 := h.tail.tail
  have h4 := h3.tail.tail
  have h5 := h4.tail
  have hp : POW W := Lib.tabIs_of_head (n := 20) (t := 94) (e := 47) gPow (by kernel_rfl) (by kernel_rfl) (by kernel_rfl) (by kernel_rfl) (by kernel_rfl) h3
  obtain ⟨a, ha⟩ := err_head h4 (g := 3) (by kernel_rfl) (by kernel_rfl)
  obtain ⟨b, hb⟩ := err_head h5 (g := 2) (by kernel_rfl) (by kernel_rfl)
  exact ⟨hp, ⟨⟨_, _, hb⟩, ⟨_, _, ha⟩⟩⟩

set_option maxRecDepth 100000 in
set_option maxHeartbeats 1000000 in
theorem walk (w : World) (a0 : ByteArray) (w0 : a0.size ≤ maxLen) (hL : laidMetH Tryd.prog Rows.fnExactReadWordRow.laid w) (hsh : w.ShapedOpen Tryd.prog) :
    Calls Tryd.prog 4 #[.string a0] w fun e w' => e = .returned (.bool true) ∧ Below w.heap.size w w' := by
  obtain ⟨mm, hmm⟩ : ∃ m, w.cell? ⟨1, 0, none⟩ = some (.int .i64 m) := Tryd.laysM146.s1_3 w hsh
  have hlaid := errs_of_laid7 hL
  have HT := Lib.hid hlaid.1
  have HE := Lib.hid hlaid.2
  have HM := Lib.hid hmm
  clear hL hlaid hmm hsh
  have BF : Below w.heap.size w w := Below.refl _ _
  clear BF
  by_cases hbig0 : 1048576 < a0.size
  · have t0 : decide ((1048576 : Int) < (a0.size : Int)) = true := by simp; omega
    go_enter Tryd.func4, Tryd.ntmps4
    go_wp2_with fail
    go_ret
    exact ⟨rfl, Below.refl _ _⟩
  have t0 : decide ((1048576 : Int) < (a0.size : Int)) = false := by simp; omega
  have b0 : a0.size ≤ 1048576 := by omega
  clear hbig0
  obtain ⟨ans, hans⟩ : ∃ ans, ans = wrZ a0 := ⟨_, rfl⟩
  have hal : ans.length ≤ 1048576 := by rw [hans]; exact wrZ_len b0
  obtain ⟨q1, hq1⟩ : ∃ q1 : Nat, q1 = 1 + ans.length := ⟨_, rfl⟩
  have Q1 : decide ((q1 : Int) < 0) = false := by simp
  have Q2 : ((q1 : Int) != (q1 : Int)) = false := by simp
  have HANS := Lib.hid hans
  have HQ1 := Lib.hid hq1
  clear hans hq1
  obtain ⟨cd, hcd⟩ : ∃ cd : Int, cd = wrC a0 := ⟨_, rfl⟩
  have Q3 : (cd != cd) = false := by simp
  have HCD := Lib.hid hcd
  clear hcd
  go_enter Tryd.func4, Tryd.ntmps4
  go_wp2_with fail
  have H0 := Lib.hid (Below.refl w.heap.size w)
  refine (spec_ReadWord   a0  b0 _ ).mono ?_
  rintro e w1q ⟨rw1q, rfl, hp, hb⟩
  rw [← HANS.out] at hp
  rw [← HCD.out]
  have H1 := Lib.hid hp
  clear hp
  have H2 := Lib.hid (bchain H0.out hb)
  clear H0
  have SZw1q := Lib.hid hb.size
  clear hb
  go_wp2_with fail
  have H3 := Lib.hid (H1.out.ns)
  clear H1
  have H4 := Lib.hid (Below.refl w1q.heap.size w1q)
  refine (impl_ReadWord   a0  b0 mm _  (HT.out.below H2.out) (HE.out.below HE.out.size H2.out) ((H2.out.cell (p := ⟨1, 0, none⟩) (block_of_cell HM.out)).trans HM.out)).mono ?_
  rintro e w2q ⟨rw2q, rfl, hp, hb⟩
  rw [← HANS.out] at hp
  rw [← HCD.out]
  have H5 := Lib.hid hp
  clear hp
  have H6 := Lib.hid (bchain H2.out hb)
  clear H2
  have H7 := Lib.hid (bchain H4.out hb)
  clear H4
  have SZw2q := Lib.hid hb.size
  clear hb
  go_wp2_with fail
  refine (eqWord_any rw2q rw1q ans ans hal hal _ H5.out.ns (H3.out.below H7.out)).mono ?_
  rintro e w3q ⟨rfl, m, hw⟩
  have hb : Below w2q.heap.size w2q w3q := by rw [hw]; exact bdrewN (Below.refl _ _) m
  clear hw
  rw [eqB_refl]
  have H8 := Lib.hid (bchain H6.out hb)
  clear H6
  have H9 := Lib.hid (bchain H7.out hb)
  clear H7
  have H10 := Lib.hid (H5.out.below hb)
  have SZw3q := Lib.hid hb.size
  clear hb
  go_wp2_with fail
  refine (markWordO_any rw2q ans hal 1 (by omega) w1q.heap.size _ H10.out).mono ?_
  rintro e w4q ⟨rfl, hp, hm⟩
  have hb := hm.below H5.out (by have := SZw1q.out; have := SZw2q.out; have := SZw3q.out; omega)
  have H11 := Lib.hid (H8.out.trans (hb.mono (by have := SZw1q.out; have := SZw2q.out; have := SZw3q.out; omega)))
  clear H8
  have H12 := Lib.hid (H9.out.trans (hb.mono (by have := SZw1q.out; have := SZw2q.out; have := SZw3q.out; omega)))
  clear H9
  have H13 := Lib.hid hp
  clear H10
  have SZw4q := Lib.hid hb.size
  clear hb hp hm
  rw [← HQ1.out]
  go_wp2_with fail
  refine (heldWord_any rw2q ans.length hal 1 (by omega) 0 _ H13.out.ns).mono ?_
  rintro e w' ⟨rfl, rfl⟩
  rw [← HQ1.out]
  go_wp2_with fail
  refine (impl_ReadWord   a0  b0 mm _  (HT.out.below H11.out) (HE.out.below HE.out.size H11.out) ((H11.out.cell (p := ⟨1, 0, none⟩) (block_of_cell HM.out)).trans HM.out)).mono ?_
  rintro e w5q ⟨rw5q, rfl, hp, hb⟩
  rw [← HANS.out] at hp
  rw [← HCD.out]
  have H14 := Lib.hid hp
  clear hp
  have H15 := Lib.hid (bchain H11.out hb)
  clear H11
  have H16 := Lib.hid (bchain H12.out hb)
  clear H12
  have H17 := Lib.hid (H13.out.below hb)
  clear H13
  have SZw5q := Lib.hid hb.size
  clear hb
  go_wp2_with fail
  refine (eqWord_any rw5q rw1q ans ans hal hal _ H14.out.ns (H3.out.below H16.out)).mono ?_
  rintro e w6q ⟨rfl, m, hw⟩
  have hb : Below w5q.heap.size w5q w6q := by rw [hw]; exact bdrewN (Below.refl _ _) m
  clear hw
  rw [eqB_refl]
  have H18 := Lib.hid (bchain H15.out hb)
  clear H15
  have H19 := Lib.hid (bchain H16.out hb)
  clear H16
  have H20 := Lib.hid (H17.out.below hb)
  clear H17
  have H21 := Lib.hid (H14.out.below hb)
  have SZw6q := Lib.hid hb.size
  clear hb
  go_wp2_with fail
  refine (heldWord_any rw2q ans.length hal 1 (by omega) 0 _ H20.out.ns).mono ?_
  rintro e w' ⟨rfl, rfl⟩
  rw [← HQ1.out]
  go_wp2_with fail
  go_ret
  exact ⟨rfl, H18.out⟩

set_option maxRecDepth 100000 in
theorem lifted (os : Os) (started : os.Started) (H : Type) (enc : TypeId × Value → H) :
    ReturnsInHanded {} Tryd.checked os 4 .any (fun w args => (Rows.fnExactReadWordSpec.pre enc Tryd.prog Tryd.f4 Rows.fnExactReadWordRow.domain false w args ∧ laidMetH Tryd.prog Rows.fnExactReadWordRow.laid w) ∧ sizedMet enc Tryd.prog Tryd.f4 (OpenSpec.ofChange Rows.fnExactReadWordSpec) false w args)
      (Rows.fnExactReadWordSpec.post enc Tryd.prog Tryd.f4 false true false false) := by
  refine handed_and_shaped (C := Tryd.checked) (X := fun w _ => laidMetH Tryd.prog Rows.fnExactReadWordRow.laid w) (fun _ _ _ hh h => h.of_heap hh) own started (by kernel_rfl) Tryd.func4
    (ChangeSpec.witness_shaped (enc := enc) (C := Tryd.checked) (os := os) (X := fun w _ => laidMetH Tryd.prog Rows.fnExactReadWordRow.laid w) false (World.laidAll Tryd.prog os Rows.fnExactReadWordRow.laid) #[.string ⟨#[]⟩] 8 (World.laidAll_os _ _ _) (World.shaped_of_ZipB (by kernel_rfl) (by kernel_rfl)) (by kernel_rfl) (by kernel_rfl) (by kernel_rfl) (by rw [MakeChecks.laidMetH_plain _ _ _ (by kernel_rfl)]; exact laidMet_laidAll _ (by kernel_rfl) (by kernel_rfl))) ?_
  intro W base args ds gs before hval0 hW _ _ hL hsh _
  have hval : ∀ (j : Nat) t v, Tryd.f4.params[j]? = some t → args[j]? = some v → Value.okWide Tryd.prog W .any base t v := hval0
  have hW' := hW
  obtain ⟨p, q, hA0, hV, rfl, hfz, hnd⟩ := hW
  have hA : DataW.TrodAll enc Tryd.prog W 0 (fun _ => true) true Tryd.f4.params.toList args.toList ds p := hA0
  rw [Tryd.params4] at hA hval
  obtain ⟨v0, vs0, d0, ds0, p0, q0, hargs, rfl, rfl, h0, r0⟩ := trodAll_cons hA
  obtain ⟨rfl, rfl, rfl⟩ := trodAll_nil r0
  obtain rfl : args = #[v0] := by cases args; simp_all
  obtain ⟨rfl, rfl⟩ := trodVars_none hV
  obtain ⟨a0, rfl, rfl, rfl, w0⟩ := open_string Tryd.underlying9 (hval 0 9 v0 rfl rfl) h0
  clear hA0 hval0
  simp only [List.append_nil] at hW'
  refine (walk W a0 w0 hL hsh).mono fun e W' ⟨he, hg⟩ => ?_
  subst he
  exact ⟨_, rfl, law_post rfl rfl hW' hg (fun _ _ _ => (trodAll_cons_mk (shut_bool Tryd.underlying4 _) trodAll_mk0)) (fun sp _ => (trodAll_cons_mk (shut_string Tryd.underlying9 w0) trodAll_mk0)) (ok_one (by kernel_rfl) rfl (okWide_bool_mk Tryd.underlying4 _))⟩

theorem over : Rows.fnExactReadWordRow.holds Tryd.pinned (OpenSpec.ofChange Rows.fnExactReadWordSpec) :=
  OpenClaim.holds_of_wide 4 Tryd.f4 rfl rfl rfl rfl rfl rfl rfl ⟨rfl, rfl, rfl, rfl, rfl⟩ rfl rfl rfl rfl rfl (by kernel_rfl) Tryd.func4 (joinedBy 4 Tryd.f4 Rows.fnExactReadWordSpec Rows.fnExactReadWordRow (by kernel_rfl))
    (of_decide_eq_true (by kernel_rfl)) (by unfold Func.isWrapper; first | (rw [if_pos (by decide +kernel)]; kernel_rfl) | (rw [if_neg (by decide +kernel)]; exact ⟨rfl, rfl⟩))
    (fun os started H enc _ => lifted os started H enc)

/-- the statement -/
theorem proved : Rows.FnExactReadWordCardSaid :=
  Claim7.holds_tied_plain_at .later [] [.data, .data, .data, .data, .sentinel, .sentinel, .pinned] true (true, "9c81999a23b39823a90129628c862292a5d14230ccd99c865d666243d3c81641") true
    over (fun _ h => by cases h) (by kernel_rfl) (fun _ h => by cases h) fnExactReadWord_row_tie rfl ⟨rfl, rfl⟩ (by kernel_rfl) rfl
    (fun f fn hf hfn => by
      obtain rfl : f = 4 := Option.some.inj ((show Tryd.prog.funcNamed "loop.example/g01307/laws.FnExactReadWord" = some 4 by kernel_rfl).symm.trans hf) |>.symm
      obtain rfl : fn = Tryd.f4 := (Option.some.inj (Tryd.func4.symm.trans hfn)).symm
      exact ⟨by kernel_rfl, fun j t ht => by
        rw [Tryd.params4] at ht
        have hm : t ∈ [9] := by simpa using Array.mem_of_getElem? ht
        have hall : ([9].all fun u => !Tryd.prog.wantsStandIn u) = true := by kernel_rfl
        exact (show Tryd.prog.wantsStandIn t = false by simpa using List.all_eq_true.1 hall t hm)⟩)
    (by kernel_rfl)
end Go.Proofs.YthhjhfkcgokffaaDoor.fnExactReadWord
