/-
  The statement Rows.FnExactMatrixTextSaid for every input the law returns true; the walk is ours, the rest is the guide's template at this function's number and types.
  Conditions: none.
-/
import Derived.Test.YtklddmmbbaaliaaDoorRows
import Derived.WalkKit
import Derived.ProofKit
import Derived.OpenShut
import Derived.Test.YtklddmmbbaaliaaDoorHead
import Derived.Test.YtklddmmbbaaliaaDoorOpen

import Derived.Test.YtklddmmbbaaliaaDoorCells

import Derived.Test.YtklddmmbbaaliaaDoorCards
import Derived.Test.YtklddmmbbaaliaaDoorTie
import Derived.LaidMore

import Derived.Stop.Joined
import Derived.SevenTiedAt

import Derived.Test.YtklddmmbbaaliaaDoorMTxt
namespace Go.Proofs.YtklddmmbbaaliaaDoor.fnExactMatrixText
open Go.ChangeShapes Go.WideShapes Go.ChangeAt Go.RowKit
set_option linter.unusedVariables false
set_option linter.unusedSimpArgs false

theorem own : ownKnob Tryd.prog.godebug = none := by kernel_rfl
theorem door_met (os : Os) (args : Array Value) : laidMetH Tryd.prog Rows.fnExactMatrixTextRow.laid ((World.doorLaid Tryd.prog 4000 os).forCall (fun _ _ => 0) ⟨#[], args, []⟩).memory :=
  laidMetH_of_parts3 (fuel := 10) (laidMet_of_run' 10 (by kernel_rfl) (by kernel_rfl)) (by kernel_rfl) (by kernel_rfl)

set_option maxRecDepth 100000 in
set_option maxHeartbeats 1000000 in
theorem walk (w : World) (R0 C0 : Int) (F0 : Nat → Int) (w0 : MW R0 C0 F0) (hL : laidMetH Tryd.prog Rows.fnExactMatrixTextRow.laid w) :
    Calls Tryd.prog 9 #[MV R0 C0 F0] w fun e w' => e = .returned (.bool true) ∧ Below w.heap.size w w' := by
  have htab : POW w := pow_of_laid hL
  have HTAB := Lib.hid htab
  clear htab hL
  go_enter Tryd.func9, Tryd.ntmps9
  go_upto_region 1 with fail
  obtain ⟨M0, B, hsz⟩ := new1 w (.cells (CL R0 C0 F0).toArray 61)
  obtain ⟨g, hg⟩ : ∃ g, g = w.heap.size := ⟨_, rfl⟩
  rw [← hg] at M0 B hsz ⊢
  generalize World.alloc w _ = w2 at M0 B hsz ⊢
  replace M0 : MB w2 g 61 R0 C0 F0 := M0
  have HG := Lib.hid hg
  clear hg hsz
  go_wp2_with (first | (guard_target =~ wpList _ _ _ (⟨_, Op.load 61 (Operand.tmp 1), _, _, _, _⟩ :: _) _ _; refine wpList_load_row rfl 61 _ rfl g rfl _ (CL R0 C0 F0).toArray (0, 0) _ M0 Tryd.underlying61 rfl (by kernel_rfl) ?_))
  refine (toMatrix_any R0 C0 F0 w0 _).mono ?_
  rintro e w' ⟨rfl, hn⟩
  replace B := bnext B hn (Nat.le_of_lt M0.lt)
  replace M0 := M0.below hn M0.lt
  clear hn
  go_wp2_with fail
  refine (spec_MatrixText R0 C0 F0 w0 _).mono ?_
  rintro e wa ⟨rfl, hn⟩
  replace B := bnext B hn (Nat.le_of_lt M0.lt)
  replace M0 := M0.below hn M0.lt
  clear hn
  go_wp2_with (first | (guard_target =~ wpList _ _ _ (⟨_, Op.load 61 (Operand.tmp 1), _, _, _, _⟩ :: _) _ _; refine wpList_load_row rfl 61 _ rfl g rfl _ (CL R0 C0 F0).toArray (0, 0) _ M0 Tryd.underlying61 rfl (by kernel_rfl) ?_))
  refine (toMatrix_any R0 C0 F0 w0 _).mono ?_
  rintro e w' ⟨rfl, hn⟩
  replace B := bnext B hn (Nat.le_of_lt M0.lt)
  replace M0 := M0.below hn M0.lt
  clear hn
  go_wp2_with fail
  refine (impl_MatrixText R0 C0 F0 w0 _ (HTAB.out.below (by rw [← HG.out]; exact B))).mono ?_
  rintro e wa ⟨rfl, hn⟩
  replace B := bnext B hn (Nat.le_of_lt M0.lt)
  clear hn M0
  obtain ⟨s, hs⟩ : ∃ s : ByteArray, s = ⟨(mtx R0 C0 F0).toArray⟩ := ⟨_, rfl⟩
  rw [← hs]
  clear hs
  go_wp2_with fail
  go_ret
  obtain rfl := HG.out
  exact ⟨rfl, B⟩

set_option maxRecDepth 100000 in
theorem lifted (os : Os) (started : os.Started) (H : Type) (enc : TypeId × Value → H) :
    ReturnsInHanded {} Tryd.checked os 9 .any (fun w args => (Rows.fnExactMatrixTextSpec.pre enc Tryd.prog Tryd.f9 Rows.fnExactMatrixTextRow.domain false w args ∧ laidMetH Tryd.prog Rows.fnExactMatrixTextRow.laid w) ∧ sizedMet enc Tryd.prog Tryd.f9 (OpenSpec.ofChange Rows.fnExactMatrixTextSpec) false w args)
      (Rows.fnExactMatrixTextSpec.post enc Tryd.prog Tryd.f9 false true false false) := by
  refine returnsInHanded_of_change_and (C := Tryd.checked) (X := fun w _ => laidMetH Tryd.prog Rows.fnExactMatrixTextRow.laid w) (fun _ _ _ hh h => h.of_heap hh) own started (by kernel_rfl) Tryd.func9
    (ChangeSpec.witness_shaped (enc := enc) (C := Tryd.checked) (os := os) (X := fun w _ => laidMetH Tryd.prog Rows.fnExactMatrixTextRow.laid w) false (World.doorLaid Tryd.prog 4000 os) #[.agg #[.int .i8 0, .int .i8 0, .int .u16 0, .int .u16 0, .int .u16 0, .int .u16 0, .int .u16 0, .int .u16 0, .int .u16 0, .int .u16 0, .int .u16 0, .int .u16 0, .int .u16 0, .int .u16 0, .int .u16 0, .int .u16 0, .int .u16 0, .int .u16 0, .int .u16 0, .int .u16 0, .int .u16 0, .int .u16 0, .int .u16 0, .int .u16 0, .int .u16 0, .int .u16 0, .int .u16 0, .int .u16 0, .int .u16 0, .int .u16 0, .int .u16 0, .int .u16 0, .int .u16 0, .int .u16 0, .int .u16 0, .int .u16 0, .int .u16 0, .int .u16 0]] 8 rfl (World.shaped_of_RefB (by kernel_rfl) (by kernel_rfl)) (by kernel_rfl) (by kernel_rfl) (by kernel_rfl) (door_met os _)) ?_
  intro W base args ds gs before hval0 hW _ _ hL _
  have hval : ∀ (j : Nat) t v, Tryd.f9.params[j]? = some t → args[j]? = some v → Value.okWide Tryd.prog W .any base t v := hval0
  have hW' := hW
  obtain ⟨p, q, hA0, hV, rfl, hfz, hnd⟩ := hW
  have hA : DataW.TrodAll enc Tryd.prog W 0 (fun _ => true) true Tryd.f9.params.toList args.toList ds p := hA0
  rw [Tryd.params9] at hA hval
  obtain ⟨v0, vs0, d0, ds0, p0, q0, hargs, rfl, rfl, h0, r0⟩ := trodAll_cons hA
  obtain ⟨rfl, rfl, rfl⟩ := trodAll_nil r0
  obtain rfl : args = #[v0] := by cases args; simp_all
  obtain ⟨rfl, rfl⟩ := trodVars_none hV
  obtain ⟨R0, C0, F0, rfl, w0, rfl, g0⟩ := open_mat Tryd.underlying61 (by kernel_rfl) ⟨rfl, rfl⟩ ⟨rfl, rfl⟩ ⟨rfl, rfl⟩ (ti := 57) (tg := 59) (tr := 58) (e := 22) (by kernel_rfl) (by kernel_rfl) (by kernel_rfl) (by kernel_rfl) (by kernel_rfl) (by kernel_rfl) (by kernel_rfl) (by kernel_rfl) (hval 0 61 v0 rfl rfl) h0
  clear hA0 hval0
  simp only [List.append_nil] at hW'
  refine (walk W R0 C0 F0 w0 hL).mono fun e W' ⟨he, hg⟩ => ?_
  subst he
  exact ⟨_, rfl, law_post rfl rfl hW' hg (fun _ _ _ => (trodAll_cons_mk (shut_bool Tryd.underlying4 _) trodAll_mk0)) (fun sp _ => (trodAll_cons_mk (g0 _ _ _ _) trodAll_mk0)) (ok_one (by kernel_rfl) rfl (okWide_bool_mk Tryd.underlying4 _))⟩

theorem over : Rows.fnExactMatrixTextRow.holds Tryd.pinned (OpenSpec.ofChange Rows.fnExactMatrixTextSpec) :=
  OpenClaim.holds_of_wide 9 Tryd.f9 rfl rfl rfl rfl rfl rfl rfl ⟨rfl, rfl, rfl, rfl, rfl⟩ rfl rfl rfl rfl rfl (by kernel_rfl) Tryd.func9 (joinedBy 9 Tryd.f9 Rows.fnExactMatrixTextSpec Rows.fnExactMatrixTextRow (by kernel_rfl))
    (of_decide_eq_true (by kernel_rfl)) (by unfold Func.isWrapper; first | (rw [if_pos (by decide +kernel)]; kernel_rfl) | (rw [if_neg (by decide +kernel)]; exact ⟨rfl, rfl⟩))
    (fun os started H enc _ => lifted os started H enc)

/-- the statement -/
theorem proved : Rows.FnExactMatrixTextCardSaid :=
  Claim7.holds_tied_plain_at .later [] [.data, .data, .data] true (true, "c543b37fbccc467cc8084a48a07c1237361c59837c6c8b939cf9a745f5fff814") true
    over (fun _ h => by cases h) (by kernel_rfl) (fun _ h => by cases h) fnExactMatrixText_row_tie rfl ⟨rfl, rfl⟩ (by kernel_rfl) rfl
    (fun f fn hf hfn => by
      obtain rfl : f = 9 := Option.some.inj ((show Tryd.prog.funcNamed "loop.example/g01307/laws.FnExactMatrixText" = some 9 by kernel_rfl).symm.trans hf) |>.symm
      obtain rfl : fn = Tryd.f9 := (Option.some.inj (Tryd.func9.symm.trans hfn)).symm
      exact ⟨by kernel_rfl, fun j t ht => by
        rw [Tryd.params9] at ht
        have hm : t ∈ [61] := by simpa using Array.mem_of_getElem? ht
        have hall : ([61].all fun u => !Tryd.prog.wantsStandIn u) = true := by kernel_rfl
        exact (show Tryd.prog.wantsStandIn t = false by simpa using List.all_eq_true.1 hall t hm)⟩)
    (by kernel_rfl)
end Go.Proofs.YtklddmmbbaaliaaDoor.fnExactMatrixText
