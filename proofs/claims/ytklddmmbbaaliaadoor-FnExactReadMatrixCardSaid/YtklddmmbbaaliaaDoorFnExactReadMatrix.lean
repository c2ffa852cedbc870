/-
  The statement Rows.FnExactReadMatrixSaid for every input the law returns true; the walk is ours, the rest is the guide's template at this function's number and types.
  Conditions: none.
-/
import Derived.Test.YtklddmmbbaaliaaDoorRows
import Derived.WalkKit
import Derived.ProofKit
import Derived.OpenShut
import Derived.Test.YtklddmmbbaaliaaDoorHead
import Derived.Test.YtklddmmbbaaliaaDoorOpen
import Derived.ChangeMaps5


import Derived.Test.YtklddmmbbaaliaaDoorCards
import Derived.Test.YtklddmmbbaaliaaDoorTie
import Derived.LaidMore
import Derived.Lay
import Derived.Stop.Joined
import Derived.SevenTiedAt
import Derived.Test.YtklddmmbbaaliaaDoorShaped
import Derived.Test.YtklddmmbbaaliaaDoorRMI
namespace Go.Proofs.YtklddmmbbaaliaaDoor.fnExactReadMatrix
open Go.ChangeShapes Go.WideShapes Go.ChangeAt Go.RowKit Go.ChangeMaps
set_option linter.unusedVariables false
set_option linter.unusedSimpArgs false

theorem own : ownKnob Tryd.prog.godebug = none := by kernel_rfl
theorem errs_of_laid7 {W : World} (h : laidMetH Tryd.prog Rows.fnExactReadMatrixRow.laid W) : POW W ∧ ERRS W := by
  rw [MakeChecks.laidMetH_plain _ _ _ (by kernel_rfl)] at h
  have h3 := h.tail.tail
  have h4 := h3.tail.tail
  have h5 := h4.tail
  have hp : POW W := Lib.tabIs_of_head (n := 20) (t := 175) (e := 83) gPow (by kernel_rfl) (by kernel_rfl) (by kernel_rfl) (by kernel_rfl) (by kernel_rfl) h3
  obtain ⟨a, ha⟩ := err_head h4 (g := 2) (by kernel_rfl) (by kernel_rfl)
  obtain ⟨b, hb⟩ := err_head h5 (g := 1) (by kernel_rfl) (by kernel_rfl)
  exact ⟨hp, ⟨⟨_, _, hb⟩, ⟨_, _, ha⟩⟩⟩
theorem rm_one {l : List UInt8} {e1 e2 : Ending} (h1 : RMpost l e1) (h2 : RMpost l e2) : e2 = e1 := by
  rcases h1 with ⟨u1, c1, a1, b1⟩ | ⟨a1, b1⟩
  · rcases h2 with ⟨u2, c2, a2, b2⟩ | ⟨a2, _⟩
    · obtain ⟨rfl, rfl⟩ := a1.inj a2
      rw [b1, b2]
    · exact absurd ⟨_, _, a1⟩ a2
  · rcases h2 with ⟨u2, c2, a2, b2⟩ | ⟨_, b2⟩
    · exact absurd ⟨_, _, a2⟩ a1
    · rw [b1, b2]
theorem rm_form {l : List UInt8} {e : Ending} (h : RMpost l e) : ∃ R C F k, e = .returned (.tuple #[MV R C F, .int .i64 k]) ∧ MW R C F := by
  rcases h with ⟨us, c, a, b⟩ | ⟨_, b⟩
  · have h6 := a.1
    have hpos := List.length_pos_iff.2 (spl_length_pos 59 l)
    have hc := a.2.2.2.2.1 hpos
    exact ⟨_, _, _, _, b, by omega, by omega, by omega, by omega, grid_small a.2.2.2.2.2.2⟩
  · exact ⟨_, _, _, _, b, by omega, by omega, by omega, by omega, fun _ => ⟨Int.le_refl 0, show (0 : Int) < 65536 by decide⟩⟩

set_option maxRecDepth 100000 in
set_option maxHeartbeats 1000000 in
theorem walk (w : World) (a0 : ByteArray) (w0 : a0.size ≤ maxLen) (hL : laidMetH Tryd.prog Rows.fnExactReadMatrixRow.laid w) (hsh : w.ShapedOpen Tryd.prog) :
    Calls Tryd.prog 10 #[.string a0] w fun e w' => e = .returned (.bool true) ∧ Below w.heap.size w w' := by
  obtain ⟨mm, hmm⟩ : ∃ m, w.cell? ⟨3, 0, none⟩ = some (.int .i64 m) := Tryd.laysM146.s1_3 w hsh
  have hlaid := errs_of_laid7 hL
  have HT := Lib.hid hlaid.1
  have HE := Lib.hid hlaid.2
  have HM := Lib.hid hmm
  clear hL hlaid hmm hsh
  by_cases hbig : 1048576 < a0.size
  · have t1 : decide ((1048576 : Int) < (a0.size : Int)) = true := by simp; omega
    go_enter Tryd.func10, Tryd.ntmps10
    go_wp2_with fail
    go_ret
    exact ⟨rfl, Below.refl _ _⟩
  have t1 : decide ((1048576 : Int) < (a0.size : Int)) = false := by simp; omega
  have hsz : a0.size ≤ 1048576 := by omega
  clear hbig
  go_enter Tryd.func10, Tryd.ntmps10
  go_wp2_with fail
  refine (spec_ReadMatrix a0 hsz _).mono ?_
  rintro e w1 ⟨hd, hb1⟩
  obtain ⟨R, C, F, k, rfl, hmw⟩ := rm_form hd
  have HD := Lib.hid hd
  have HB1 := Lib.hid hb1
  clear hd hb1
  go_upto_region 4 with (first | (guard_target =~ wpList _ _ _ (⟨_, Op.store 66 _ _, _, _, _, _⟩ :: _) _ _; refine wpList_store_fresh (cells := (CL R C F).toArray) rfl 66 _ _ rfl rfl rfl (by kernel_rfl) (by rw [CL_size]; rfl) (CL_one _ _ _) ?_))
  have m3 : MB (w1.alloc (.cells (CL R C F).toArray 66)) w1.heap.size 66 R C F := heap_alloc_last _ _
  have b3 : Below w.heap.size w (w1.alloc (.cells (CL R C F).toArray 66)) := HB1.out.alloc HB1.out.size _
  obtain ⟨g3, hg3⟩ : ∃ g3, g3 = w1.heap.size := ⟨_, rfl⟩
  rw [← hg3] at m3 ⊢
  generalize w1.alloc (.cells (CL R C F).toArray 66) = wA at m3 b3 ⊢
  have M3 := Lib.hid m3
  have B3 := Lib.hid b3
  have HTA := Lib.hid (HT.out.below b3)
  have HEA := Lib.hid (HE.out.below HE.out.size b3)
  have HMA : Hid (wA.cell? ⟨3, 0, none⟩ = some (.int .i64 mm)) := Lib.hid ((b3.cell (p := ⟨3, 0, none⟩) (block_of_cell HM.out)).trans HM.out)
  clear m3 b3 hg3
  go_wp2_with fail
  refine (impl_ReadMatrix a0 hsz mm wA HTA.out HEA.out HMA.out).mono ?_
  rintro e w2 ⟨hd2, hb2⟩
  obtain rfl := rm_one HD.out hd2
  have M4 := Lib.hid (M3.out.below hb2 M3.out.lt)
  have B4 := Lib.hid (bchain B3.out hb2)
  clear hd2 hb2
  go_upto_region 5 with (first | (guard_target =~ wpList _ _ _ (⟨_, Op.store 66 _ _, _, _, _, _⟩ :: _) _ _; refine wpList_store_fresh (cells := (CL R C F).toArray) rfl 66 _ _ rfl rfl rfl (by kernel_rfl) (by rw [CL_size]; rfl) (CL_one _ _ _) ?_))
  have m5 : MB (w2.alloc (.cells (CL R C F).toArray 66)) w2.heap.size 66 R C F := heap_alloc_last _ _
  have m6 := M4.out.alloc (.cells (CL R C F).toArray 66)
  have b5 : Below w.heap.size w (w2.alloc (.cells (CL R C F).toArray 66)) := B4.out.alloc B4.out.size _
  obtain ⟨g5, hg5⟩ : ∃ g5, g5 = w2.heap.size := ⟨_, rfl⟩
  rw [← hg5] at m5 ⊢
  generalize w2.alloc (.cells (CL R C F).toArray 66) = wB at m5 m6 b5 ⊢
  have M5 := Lib.hid m5
  have M6 := Lib.hid m6
  have B5 := Lib.hid b5
  clear m5 m6 b5 hg5
  have Q1 : (k != k) = false := by simp
  go_wp2_with (first | (guard_target =~ wpList _ _ _ (⟨_, Op.load 66 (Operand.tmp 5), _, _, _, _⟩ :: _) _ _; refine wpList_load_row rfl 66 _ rfl g5 rfl _ (CL R C F).toArray (0, 0) _ M5.out Tryd.underlying66 rfl (by kernel_rfl) ?_) | (guard_target =~ wpList _ _ _ (⟨_, Op.load 66 (Operand.tmp 3), _, _, _, _⟩ :: _) _ _; refine wpList_load_row rfl 66 _ rfl g3 rfl _ (CL R C F).toArray (0, 0) _ M6.out Tryd.underlying66 rfl (by kernel_rfl) ?_))
  refine (eqMatrix_any R C F hmw _).mono ?_
  rintro e w3 ⟨rfl, hb3⟩
  have B6 := Lib.hid (bchain B5.out hb3)
  clear hb3
  go_wp2_with fail
  go_ret
  exact ⟨rfl, B6.out⟩

set_option maxRecDepth 100000 in
theorem lifted (os : Os) (started : os.Started) (H : Type) (enc : TypeId × Value → H) :
    ReturnsInHanded {} Tryd.checked os 10 .any (fun w args => (Rows.fnExactReadMatrixSpec.pre enc Tryd.prog Tryd.f10 Rows.fnExactReadMatrixRow.domain false w args ∧ laidMetH Tryd.prog Rows.fnExactReadMatrixRow.laid w) ∧ sizedMet enc Tryd.prog Tryd.f10 (OpenSpec.ofChange Rows.fnExactReadMatrixSpec) false w args)
      (Rows.fnExactReadMatrixSpec.post enc Tryd.prog Tryd.f10 false true false false) := by
  refine handed_and_shaped (C := Tryd.checked) (X := fun w _ => laidMetH Tryd.prog Rows.fnExactReadMatrixRow.laid w) (fun _ _ _ hh h => h.of_heap hh) own started (by kernel_rfl) Tryd.func10
    (ChangeSpec.witness_shaped (enc := enc) (C := Tryd.checked) (os := os) (X := fun w _ => laidMetH Tryd.prog Rows.fnExactReadMatrixRow.laid w) false (World.laidAll Tryd.prog os Rows.fnExactReadMatrixRow.laid) #[.string ⟨#[]⟩] 8 (World.laidAll_os _ _ _) (World.shaped_of_ZipB (by kernel_rfl) (by kernel_rfl)) (by kernel_rfl) (by kernel_rfl) (by kernel_rfl) (by rw [MakeChecks.laidMetH_plain _ _ _ (by kernel_rfl)]; exact laidMet_laidAll _ (by kernel_rfl) (by kernel_rfl))) ?_
  intro W base args ds gs before hval0 hW _ _ hL hsh _
  have hval : ∀ (j : Nat) t v, Tryd.f10.params[j]? = some t → args[j]? = some v → Value.okWide Tryd.prog W .any base t v := hval0
  have hW' := hW
  obtain ⟨p, q, hA0, hV, rfl, hfz, hnd⟩ := hW
  have hA : DataW.TrodAll enc Tryd.prog W 0 (fun _ => true) true Tryd.f10.params.toList args.toList ds p := hA0
  rw [Tryd.params10] at hA hval
  obtain ⟨v0, vs0, d0, ds0, p0, q0, hargs, rfl, rfl, h0, r0⟩ := trodAll_cons hA
  obtain ⟨rfl, rfl, rfl⟩ := trodAll_nil r0
  obtain rfl : args = #[v0] := by cases args; simp_all
  obtain ⟨rfl, rfl⟩ := trodVars_none hV
  obtain ⟨a0, rfl, rfl, rfl, w0⟩ := open_string Tryd.underlying9 (hval 0 9 v0 rfl rfl) h0
  clear hA0 hval0
  simp only [List.append_nil] at hW'
  refine (walk W a0 w0 hL hsh).mono fun e W' ⟨he, hg⟩ => ?_
  subst he
  exact ⟨_, rfl, law_post rfl rfl hW' hg (fun _ _ _ => (trodAll_cons_mk (shut_bool Tryd.underlying4 _) trodAll_mk0)) (fun sp _ => (trodAll_cons_mk (shut_string Tryd.underlying9 w0) trodAll_mk0)) (ok_one (by kernel_rfl) rfl (okWide_bool_mk Tryd.underlying4 _))⟩

theorem over : Rows.fnExactReadMatrixRow.holds Tryd.pinned (OpenSpec.ofChange Rows.fnExactReadMatrixSpec) :=
  OpenClaim.holds_of_wide 10 Tryd.f10 rfl rfl rfl rfl rfl rfl rfl ⟨rfl, rfl, rfl, rfl, rfl⟩ rfl rfl rfl rfl rfl (by kernel_rfl) Tryd.func10 (joinedBy 10 Tryd.f10 Rows.fnExactReadMatrixSpec Rows.fnExactReadMatrixRow (by kernel_rfl))
    (of_decide_eq_true (by kernel_rfl)) (by unfold Func.isWrapper; first | (rw [if_pos (by decide +kernel)]; kernel_rfl) | (rw [if_neg (by decide +kernel)]; exact ⟨rfl, rfl⟩))
    (fun os started H enc _ => lifted os started H enc)

/-- the statement -/
theorem proved : Rows.FnExactReadMatrixCardSaid :=
  Claim7.holds_tied_plain_at .later [] [.data, .data, .data, .data, .sentinel, .sentinel, .pinned] true (true, "c543b37fbccc467cc8084a48a07c1237361c59837c6c8b939cf9a745f5fff814") true
    over (fun _ h => by cases h) (by kernel_rfl) (fun _ h => by cases h) fnExactReadMatrix_row_tie rfl ⟨rfl, rfl⟩ (by kernel_rfl) rfl
    (fun f fn hf hfn => by
      obtain rfl : f = 10 := Option.some.inj ((show Tryd.prog.funcNamed "loop.example/g01307/laws.FnExactReadMatrix" = some 10 by kernel_rfl).symm.trans hf) |>.symm
      obtain rfl : fn = Tryd.f10 := (Option.some.inj (Tryd.func10.symm.trans hfn)).symm
      exact ⟨by kernel_rfl, fun j t ht => by
        rw [Tryd.params10] at ht
        have hm : t ∈ [9] := by simpa using Array.mem_of_getElem? ht
        have hall : ([9].all fun u => !Tryd.prog.wantsStandIn u) = true := by kernel_rfl
        exact (show Tryd.prog.wantsStandIn t = false by simpa using List.all_eq_true.1 hall t hm)⟩)
    (by kernel_rfl)
end Go.Proofs.YtklddmmbbaaliaaDoor.fnExactReadMatrix
