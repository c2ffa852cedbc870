/-
  The statement Rows.FnExactReadNimsSaid for every input the law returns true; the walk is ours, the rest is the guide's template at this function's number and types.
  Conditions: none.
-/
import Derived.Test.YtklddmmbbaaliaaDoorRows
import Derived.WalkKit
import Derived.ProofKit
import Derived.OpenShut
import Derived.Test.YtklddmmbbaaliaaDoorHead
import Derived.Test.YtklddmmbbaaliaaDoorOpen
import Derived.ChangeMaps5


import Derived.Test.YtklddmmbbaaliaaDoorCards
import Derived.Test.YtklddmmbbaaliaaDoorTie
import Derived.LaidMore
import Derived.Lay
import Derived.Stop.Joined
import Derived.SevenTiedAt
import Derived.Test.YtklddmmbbaaliaaDoorShaped
import Derived.Test.YtklddmmbbaaliaaDoorReads
import Derived.Test.YtklddmmbbaaliaaDoorMarkD
namespace Go.Proofs.YtklddmmbbaaliaaDoor.fnExactReadNims
open Go.ChangeShapes Go.WideShapes Go.ChangeAt Go.RowKit Go.ChangeMaps
set_option linter.unusedVariables false
set_option linter.unusedSimpArgs false

theorem own : ownKnob Tryd.prog.godebug = none := by kernel_rfl
theorem spl_le (b : UInt8) : ∀ l : List UInt8, (spl b l).length ≤ l.length + 1 := by
  intro l
  induction l with
  | nil => rw [spl_nil]; simp
  | cons c r ih =>
    by_cases e : c = b
    · rw [e, spl_eq, List.length_cons, List.length_cons]; omega
    · cases hr : spl b r with
      | nil => exact absurd hr (spl_length_pos b r)
      | cons y ys =>
        rw [spl_ne e hr]
        rw [hr] at ih
        simp only [List.length_cons] at ih ⊢; omega
theorem spl_full (b : UInt8) (l : List UInt8) (h : [] ∉ spl b l) : (spl b l).length ≤ l.length := by
  cases l with
  | nil => exact absurd (by rw [spl_nil]; simp) h
  | cons c r =>
    by_cases e : c = b
    · rw [e, spl_eq] at h
      exact absurd (by simp) h
    · cases hr : spl b r with
      | nil => exact absurd hr (spl_length_pos b r)
      | cons y ys =>
        have := spl_le b r
        rw [hr] at this
        rw [spl_ne e hr]
        simp only [List.length_cons] at this ⊢; omega
theorem rl_len {s : ByteArray} {us : List Nat} (hs : s.size ≤ 1048576) (h : RL s.data.toList us) : us.length ≤ 1048576 := by
  rcases h with h | h
  · rw [h.2]; simp
  · have h2 := h.2.1
    have : ([] : List UInt8) ∉ spl 32 s.data.toList := by
      rw [h2]
      intro q
      obtain ⟨u, _, hu⟩ := List.mem_map.1 q
      simp [nimT] at hu
    have h3 := spl_full 32 _ this
    rw [h2, List.length_map, Array.length_toList] at h3
    exact Nat.le_trans h3 hs
theorem uI_small (us : List Nat) (h : ∀ u ∈ us, u < 65536) : ∀ z ∈ uI us, 0 ≤ z ∧ z < 65536 := by
  intro z hz
  unfold uI at hz
  obtain ⟨u, hu, rfl⟩ := List.mem_map.1 hz
  have := h u hu
  omega
theorem errs_of_laid7 {W : World} (h : laidMetH Tryd.prog Rows.fnExactReadNimsRow.laid W) : POW W ∧ ERRS W := by
  rw [MakeChecks.laidMetH_plain _ _ _ (by kernel_rfl)] at h
  have h3 := h.tail.tail
  have h4 := h3.tail.tail
  have h5 := h4.tail
  have hp : POW W := Lib.tabIs_of_head (n := 20) (t := 175) (e := 83) gPow (by kernel_rfl) (by kernel_rfl) (by kernel_rfl) (by kernel_rfl) (by kernel_rfl) h3
  obtain ⟨a, ha⟩ := err_head h4 (g := 2) (by kernel_rfl) (by kernel_rfl)
  obtain ⟨b, hb⟩ := err_head h5 (g := 1) (by kernel_rfl) (by kernel_rfl)
  exact ⟨hp, ⟨⟨_, _, hb⟩, ⟨_, _, ha⟩⟩⟩

set_option maxRecDepth 100000 in
set_option maxHeartbeats 1000000 in
theorem walk (w : World) (a0 : ByteArray) (w0 : a0.size ≤ maxLen) (hL : laidMetH Tryd.prog Rows.fnExactReadNimsRow.laid w) (hsh : w.ShapedOpen Tryd.prog) :
    Calls Tryd.prog 6 #[.string a0] w fun e w' => e = .returned (.bool true) ∧ Below w.heap.size w w' := by
  obtain ⟨mm, hmm⟩ : ∃ m, w.cell? ⟨3, 0, none⟩ = some (.int .i64 m) := Tryd.laysM146.s1_3 w hsh
  have hlaid := errs_of_laid7 hL
  have HT := Lib.hid hlaid.1
  have HE := Lib.hid hlaid.2
  have HM := Lib.hid hmm
  clear hL hlaid hmm hsh
  by_cases hbig : 1048576 < a0.size
  · have t1 : decide ((1048576 : Int) < (a0.size : Int)) = true := by simp; omega
    go_enter Tryd.func6, Tryd.ntmps6
    go_wp2_with fail
    go_ret
    exact ⟨rfl, Below.refl _ _⟩
  have t1 : decide ((1048576 : Int) < (a0.size : Int)) = false := by simp; omega
  have hsz : a0.size ≤ 1048576 := by omega
  clear hbig
  go_enter Tryd.func6, Tryd.ntmps6
  go_wp2_with fail
  refine (spec_ReadNims a0 hsz _).mono ?_
  rintro e w1 ⟨hd, hb1⟩
  have HT1 := Lib.hid (HT.out.below hb1)
  have HE1 := Lib.hid (HE.out.below HE.out.size hb1)
  have HM1 : Hid (w1.cell? ⟨3, 0, none⟩ = some (.int .i64 mm)) := Lib.hid ((hb1.cell (p := ⟨3, 0, none⟩) (block_of_cell HM.out)).trans HM.out)
  have HB1 := Lib.hid hb1
  clear hb1 HT HE HM
  obtain ⟨us, code, hus, v1, rfl, ho1, hsm, hl1, hkind⟩ : ∃ (us : List Nat) (code : Int), (code = 0 ∨ code = 5) ∧ ∃ v1, e = .returned (.tuple #[v1, .int .i64 code]) ∧ w1.ownsRow w.heap.size 24 1 v1 us.length (u16s (uI us)) ∧ (∀ u ∈ us, u < 65536) ∧ us.length ≤ 1048576 ∧ ((RL a0.data.toList us ∧ code = 0) ∨ ((¬ ∃ us, RL a0.data.toList us) ∧ code = 5 ∧ us = [])) := by
    rcases hd with ⟨us, v, h1, rfl, h2, h3, h4⟩ | ⟨h1, v, rfl, h2⟩
    · exact ⟨us, 0, .inl rfl, v, rfl, h2, h4, rl_len hsz h1, .inl ⟨h1, rfl⟩⟩
    · exact ⟨[], 5, .inr rfl, v, rfl, h2, (fun u hu => by cases hu), Nat.zero_le _, .inr ⟨h1, rfl, rfl⟩⟩
  have himpl : ∀ w2 : World, POW w2 → ERRS w2 → w2.cell? ⟨3, 0, none⟩ = some (.int .i64 mm) → Calls Tryd.prog 22 #[.string a0] w2 fun e w' => (∃ v, e = .returned (.tuple #[v, .int .i64 code]) ∧ w'.ownsRow w2.heap.size 24 1 v us.length (u16s (uI us))) ∧ Below w2.heap.size w2 w' := by
    intro w2 x1 x2 x3
    refine (impl_ReadNims a0 hsz mm w2 x1 x2 x3).mono ?_
    rintro e w3 ⟨⟨us2, v, h1, rfl, h2, _, _⟩ | ⟨h1, v, rfl, h2⟩, hb⟩
    · rcases hkind with ⟨k1, k2⟩ | ⟨k1, _, _⟩
      · obtain rfl := RL.inj h1 k1
        exact ⟨⟨v, by rw [k2], h2⟩, hb⟩
      · exact absurd ⟨_, h1⟩ k1
    · rcases hkind with ⟨k1, _⟩ | ⟨_, k2, k3⟩
      · exact absurd ⟨_, k1⟩ h1
      · subst k3
        exact ⟨⟨v, by rw [k2], h2⟩, hb⟩
  have HIMP := Lib.hid himpl
  clear himpl hkind hd
  obtain ⟨zs, hzs⟩ : ∃ zs, zs = uI us := ⟨_, rfl⟩
  have hzl : zs.length = us.length := by rw [hzs]; unfold uI; rw [List.length_map]
  have hzm : ∀ z ∈ zs, 0 ≤ z ∧ z < 65536 := by rw [hzs]; exact uI_small us hsm
  rw [← hzs, ← hzl] at ho1
  have hln : zs.length ≤ 1048576 := by omega
  have HZ := Lib.hid hzs
  have HZL := Lib.hid hzl
  have HSM := Lib.hid hzm
  clear hzs hzl hzm hl1 hsm
  obtain ⟨A1, c1, rfl, _, _⟩ := own_form ho1
  have HS1 := Lib.hid (NS.of_own ho1 HSM.out)
  clear ho1
  go_wp2_with fail
  refine (HIMP.out _ HT1.out HE1.out HM1.out).mono ?_
  rintro e w2 ⟨⟨v2, rfl, ho2⟩, hb2⟩
  rw [← HZ.out, ← HZL.out] at ho2
  obtain ⟨A2, c2, rfl, _, _⟩ := own_form ho2
  have HB2 := Lib.hid hb2
  have HO2 := Lib.hid ho2
  clear ho2 hb2
  go_wp2_with fail
  refine (eqNimberS_any _ _ zs zs hln hln _ (NS.of_own HO2.out HSM.out) (HS1.out.below HB2.out)).mono ?_
  rintro e w3 ⟨rfl, m3, rfl⟩
  rw [eqB_refl]
  have Q0 : (code != code) = false := by simp
  go_wp2_with fail
  refine (markNimberS_any _ zs hln 1 (by omega) w1.heap.size _ (own_below HO2.out (bdrewN (Below.refl _ w2) m3))).mono ?_
  rintro e w4 ⟨rfl, ho4, hg4⟩
  have HB4 := Lib.hid ((bdrewN HB2.out m3).grown hg4 HB2.out.size (fun k hk => (HO2.out.lt k hk).1))
  have ho4' : w4.ownsRow w1.heap.size 24 1 (.slice A2 zs.length c2) (mark16 1 zs.length).length (u16s (mark16 1 zs.length)) := by rw [mark16_len]; exact ho4
  have HM4 := Lib.hid (NS.of_own ho4' (mark16_small 1 zs.length))
  clear ho4 ho4' hg4 HB2 HO2
  go_wp2_with fail
  refine (heldNimberS_any _ zs.length hln 1 (by omega) w1.heap.size _ HM4.out).mono ?_
  rintro e w5 ⟨rfl, rfl⟩
  have Q1 : decide (((1 + zs.length : Nat) : Int) < 0) = false := by simp; omega
  have Q2 : ((((1 + zs.length : Nat) : Int)) != (((1 + zs.length : Nat) : Int))) = false := by simp
  have Q3 : decide ((1 : Int) + (zs.length : Int) < 0) = false := by simp; omega
  have Q4 : (((1 : Int) + (zs.length : Int)) != ((1 : Int) + (zs.length : Int))) = false := by simp
  have HT5 := Lib.hid (HT1.out.below HB4.out)
  have HE5 := Lib.hid (HE1.out.below HE1.out.size HB4.out)
  have HM5 : Hid (w5.cell? ⟨3, 0, none⟩ = some (.int .i64 mm)) := Lib.hid ((HB4.out.cell (p := ⟨3, 0, none⟩) (block_of_cell HM1.out)).trans HM1.out)
  clear HT1 HE1 HM1
  go_wp2_with fail
  refine (HIMP.out _ HT5.out HE5.out HM5.out).mono ?_
  rintro e w6 ⟨⟨v6, rfl, ho6⟩, hb6⟩
  rw [← HZ.out, ← HZL.out] at ho6
  obtain ⟨A6, c6, rfl, _, _⟩ := own_form ho6
  have HB6 := Lib.hid (bchain HB4.out hb6)
  have HM6 := Lib.hid (HM4.out.below hb6)
  have HO6 := Lib.hid (NS.of_own ho6 HSM.out)
  clear ho6 hb6 HB4 HM4
  go_wp2_with fail
  refine (eqNimberS_any _ _ zs zs hln hln _ HO6.out (HS1.out.below HB6.out)).mono ?_
  rintro e w7 ⟨rfl, m7, rfl⟩
  rw [eqB_refl]
  go_wp2_with fail
  refine (heldNimberS_any _ zs.length hln 1 (by omega) w1.heap.size _ (HM6.out.below (bdrewN (Below.refl _ w6) m7))).mono ?_
  rintro e w8 ⟨rfl, rfl⟩
  go_wp2_with fail
  go_ret
  exact ⟨rfl, bchain HB1.out (bdrewN HB6.out m7)⟩

set_option maxRecDepth 100000 in
theorem lifted (os : Os) (started : os.Started) (H : Type) (enc : TypeId × Value → H) :
    ReturnsInHanded {} Tryd.checked os 6 .any (fun w args => (Rows.fnExactReadNimsSpec.pre enc Tryd.prog Tryd.f6 Rows.fnExactReadNimsRow.domain false w args ∧ laidMetH Tryd.prog Rows.fnExactReadNimsRow.laid w) ∧ sizedMet enc Tryd.prog Tryd.f6 (OpenSpec.ofChange Rows.fnExactReadNimsSpec) false w args)
      (Rows.fnExactReadNimsSpec.post enc Tryd.prog Tryd.f6 false true false false) := by
  refine handed_and_shaped (C := Tryd.checked) (X := fun w _ => laidMetH Tryd.prog Rows.fnExactReadNimsRow.laid w) (fun _ _ _ hh h => h.of_heap hh) own started (by kernel_rfl) Tryd.func6
    (ChangeSpec.witness_shaped (enc := enc) (C := Tryd.checked) (os := os) (X := fun w _ => laidMetH Tryd.prog Rows.fnExactReadNimsRow.laid w) false (World.laidAll Tryd.prog os Rows.fnExactReadNimsRow.laid) #[.string ⟨#[]⟩] 8 (World.laidAll_os _ _ _) (World.shaped_of_ZipB (by kernel_rfl) (by kernel_rfl)) (by kernel_rfl) (by kernel_rfl) (by kernel_rfl) (by rw [MakeChecks.laidMetH_plain _ _ _ (by kernel_rfl)]; exact laidMet_laidAll _ (by kernel_rfl) (by kernel_rfl))) ?_
  intro W base args ds gs before hval0 hW _ _ hL hsh _
  have hval : ∀ (j : Nat) t v, Tryd.f6.params[j]? = some t → args[j]? = some v → Value.okWide Tryd.prog W .any base t v := hval0
  have hW' := hW
  obtain ⟨p, q, hA0, hV, rfl, hfz, hnd⟩ := hW
  have hA : DataW.TrodAll enc Tryd.prog W 0 (fun _ => true) true Tryd.f6.params.toList args.toList ds p := hA0
  rw [Tryd.params6] at hA hval
  obtain ⟨v0, vs0, d0, ds0, p0, q0, hargs, rfl, rfl, h0, r0⟩ := trodAll_cons hA
  obtain ⟨rfl, rfl, rfl⟩ := trodAll_nil r0
  obtain rfl : args = #[v0] := by cases args; simp_all
  obtain ⟨rfl, rfl⟩ := trodVars_none hV
  obtain ⟨a0, rfl, rfl, rfl, w0⟩ := open_string Tryd.underlying9 (hval 0 9 v0 rfl rfl) h0
  clear hA0 hval0
  simp only [List.append_nil] at hW'
  refine (walk W a0 w0 hL hsh).mono fun e W' ⟨he, hg⟩ => ?_
  subst he
  exact ⟨_, rfl, law_post rfl rfl hW' hg (fun _ _ _ => (trodAll_cons_mk (shut_bool Tryd.underlying4 _) trodAll_mk0)) (fun sp _ => (trodAll_cons_mk (shut_string Tryd.underlying9 w0) trodAll_mk0)) (ok_one (by kernel_rfl) rfl (okWide_bool_mk Tryd.underlying4 _))⟩

theorem over : Rows.fnExactReadNimsRow.holds Tryd.pinned (OpenSpec.ofChange Rows.fnExactReadNimsSpec) :=
  OpenClaim.holds_of_wide 6 Tryd.f6 rfl rfl rfl rfl rfl rfl rfl ⟨rfl, rfl, rfl, rfl, rfl⟩ rfl rfl rfl rfl rfl (by kernel_rfl) Tryd.func6 (joinedBy 6 Tryd.f6 Rows.fnExactReadNimsSpec Rows.fnExactReadNimsRow (by kernel_rfl))
    (of_decide_eq_true (by kernel_rfl)) (by unfold Func.isWrapper; first | (rw [if_pos (by decide +kernel)]; kernel_rfl) | (rw [if_neg (by decide +kernel)]; exact ⟨rfl, rfl⟩))
    (fun os started H enc _ => lifted os started H enc)

/-- the statement -/
theorem proved : Rows.FnExactReadNimsCardSaid :=
  Claim7.holds_tied_plain_at .later [] [.data, .data, .data, .data, .sentinel, .sentinel, .pinned] true (true, "c543b37fbccc467cc8084a48a07c1237361c59837c6c8b939cf9a745f5fff814") true
    over (fun _ h => by cases h) (by kernel_rfl) (fun _ h => by cases h) fnExactReadNims_row_tie rfl ⟨rfl, rfl⟩ (by kernel_rfl) rfl
    (fun f fn hf hfn => by
      obtain rfl : f = 6 := Option.some.inj ((show Tryd.prog.funcNamed "loop.example/g01307/laws.FnExactReadNims" = some 6 by kernel_rfl).symm.trans hf) |>.symm
      obtain rfl : fn = Tryd.f6 := (Option.some.inj (Tryd.func6.symm.trans hfn)).symm
      exact ⟨by kernel_rfl, fun j t ht => by
        rw [Tryd.params6] at ht
        have hm : t ∈ [9] := by simpa using Array.mem_of_getElem? ht
        have hall : ([9].all fun u => !Tryd.prog.wantsStandIn u) = true := by kernel_rfl
        exact (show Tryd.prog.wantsStandIn t = false by simpa using List.all_eq_true.1 hall t hm)⟩)
    (by kernel_rfl)
end Go.Proofs.YtklddmmbbaaliaaDoor.fnExactReadNims
