/-
  The statement Rows.FnExactSolveMatrixSaid for every input the law returns true; the walk is ours, the rest is the guide's template at this function's number and types.
  Conditions: none.
-/
import Derived.Test.YtjbaeomjinnlhaaRows
import Derived.WalkKit
import Derived.ProofKit
import Derived.OpenShut
import Derived.Test.YtjbaeomjinnlhaaHead
import Derived.Test.YtjbaeomjinnlhaaOpen
import Derived.Test.YtjbaeomjinnlhaaCells
import Derived.Test.YtjbaeomjinnlhaaLeaving
import Derived.Test.YtjbaeomjinnlhaaSol
namespace Go.Proofs.Ytjbaeomjinnlhaa.fnExactSolveMatrix
open Go.ChangeShapes Go.WideShapes Go.ChangeAt Go.RowKit
set_option linter.unusedVariables false
set_option linter.unusedSimpArgs false

theorem own : ownKnob Try.prog.godebug = none := by kernel_rfl

set_option maxRecDepth 100000 in
set_option maxHeartbeats 1000000 in
theorem walk (w : World) (R0 C0 : Int) (F0 : Nat → Int) (F1 : Nat → Int) (w0 : MW R0 C0 F0) (w1 : VW F1) :
    Calls Try.prog 16 #[MV R0 C0 F0, VV F1] w fun e w' => e = .returned (.bool true) ∧ Below w.heap.size w w' := by
  obtain ⟨FF, kk, hV, hK⟩ := solveV_form R0 C0 F0 F1 w0.2.2.2.2 w1
  have HV := Lib.hid hV
  clear hV
  go_enter Try.func16, Try.ntmps16
  go_upto_region 1 with fail
  obtain ⟨M0, M1, B, hsz⟩ := new2 w (.cells (CL R0 C0 F0).toArray 27) (.cells (TL 6 F1).toArray 24)
  obtain ⟨g, hg⟩ : ∃ g, g = w.heap.size := ⟨_, rfl⟩
  rw [← hg] at M0 M1 B hsz ⊢
  generalize World.alloc (World.alloc w _) _ = wb at M0 M1 B hsz ⊢
  replace M0 : MB wb g 27 R0 C0 F0 := M0
  replace M1 : RB wb (g + 1) 24 6 F1 := M1
  have HG := Lib.hid hg
  clear hg hsz
  refine region_post (A := ?Aspec) (fun n u => ((fun v => MB v g 27 R0 C0 F0 ∧ RB v (g + 1) 24 6 F1 ∧ Hid (Below g w v) ∧ True) u) ∧ RB u n 45 6 FF) ?_ ?_
  rotate_left
  · refine wp_region_held_drew (S := (fun v => MB v g 27 R0 C0 F0 ∧ RB v (g + 1) 24 6 F1 ∧ Hid (Below g w v) ∧ True)) (by kernel_rfl) ?hS0spec (fun hS => ?_)
    case hS0spec => exact ⟨M0, M1, Lib.hid B.drew, trivial⟩
    change wpAnyH _ _ _ _ _ _ _ _ wb.drew at *
    generalize wb.drew = wv0 at hS ⊢
    refine takeH (i := 0) (v := .agg (CL R0 C0 F0).toArray) rfl rfl (by kernel_rfl) (by kernel_rfl) (by kernel_rfl) (fun _ _ _ h => by cases h.1) rfl ?hy0spec hS ?rs0spec
    case hy0spec => exact fun wq hq => exec_load_mid 27 _ rfl (g) 0 rfl (CL R0 C0 F0) _ (hq.1.whole) Try.underlying27 (by kernel_rfl) (by kernel_rfl)
    simp only [Act.put, List.setIfInBounds_toArray, List.set_cons_zero, List.set_cons_succ]
    refine takeH (i := 2) (v := .agg (TL 6 F1).toArray) rfl rfl (by kernel_rfl) (by kernel_rfl) (by kernel_rfl) (fun _ _ _ h => by cases h.1) rfl ?hy2spec hS ?rs2spec
    case hy2spec => exact fun wq hq => exec_load_mid 24 _ rfl (g + 1) 0 rfl (TL 6 F1) (.array 6 23) (hq.2.1.range) (by kernel_rfl) (by kernel_rfl) (by kernel_rfl)
    simp only [Act.put, List.setIfInBounds_toArray, List.set_cons_zero, List.set_cons_succ]
    refine wpAnyH_ready (rs := [1, 8]) (by kernel_rfl) (by simp) ?_
    refine AllReadyH.cons rfl (fun K hK => ?_) (AllReadyH.cons rfl (fun K hK => ?_) AllReadyH.nil)
    · simp only [List.getElem_toArray, List.getElem_cons_zero, List.getElem_cons_succ]
      go_simp
      refine (toMatrix_any R0 C0 F0 w0 _).mono ?_
      rintro e wv1 ⟨rfl, hn⟩
      refine hK.out _ _ ⟨hS.1.below hn hS.1.lt, hS.2.1.below hn hS.2.1.lt, Lib.hid (bnext hS.2.2.1.out hn (Nat.le_of_lt hS.1.lt)), trivial⟩ (fun hS => ?_)
      clear hK hn
      refine wpAnyH_ready (rs := [3, 8]) (by kernel_rfl) (by simp) ?_
      refine AllReadyH.cons rfl (fun K hK => ?_) (AllReadyH.cons rfl (fun K hK => ?_) AllReadyH.nil)
      · simp only [List.getElem_toArray, List.getElem_cons_zero, List.getElem_cons_succ]
        go_simp
        refine (toVector_any F1 w1 _).mono ?_
        rintro e wv2 ⟨rfl, hn⟩
        refine hK.out _ _ ⟨hS.1.below hn hS.1.lt, hS.2.1.below hn hS.2.1.lt, Lib.hid (bnext hS.2.2.1.out hn (Nat.le_of_lt hS.1.lt)), trivial⟩ (fun hS => ?_)
        clear hK hn
        refine wpAnyH_ready (rs := [4, 8]) (by kernel_rfl) (by simp) ?_
        refine AllReadyH.cons rfl (fun K hK => ?_) (AllReadyH.cons rfl (fun K hK => ?_) AllReadyH.nil)
        · simp only [List.getElem_toArray, List.getElem_cons_zero, List.getElem_cons_succ]
          go_simp
          refine (spec_SolveMatrix R0 C0 F0 w0 F1 w1 _).mono ?_
          rintro e wv3 ⟨rfl, hn⟩
          rw [HV.out]
          refine hK.out _ _ ⟨hS.1.below hn hS.1.lt, hS.2.1.below hn hS.2.1.lt, Lib.hid (bnext hS.2.2.1.out hn (Nat.le_of_lt hS.1.lt)), trivial⟩ (fun hS => ?_)
          clear hK hn
          refine takeH (i := 5) (v := ?v5cspec1) rfl rfl (by kernel_rfl) (by kernel_rfl) (by kernel_rfl) (fun _ _ _ h => by cases h.1) rfl ?hy5cspec1 hS ?rs5cspec1
          case hy5cspec1 => (intro wq hq; go_simp; try (with_reducible rfl))
          simp only [Act.put, List.setIfInBounds_toArray, List.set_cons_zero, List.set_cons_succ]
          refine takeH (i := 6) (v := ?v6cspec1) rfl rfl (by kernel_rfl) (by kernel_rfl) (by kernel_rfl) (fun _ _ _ h => by cases h.1) rfl ?hy6cspec1 hS ?rs6cspec1
          case hy6cspec1 => (intro wq hq; go_simp; try (with_reducible rfl))
          simp only [Act.put, List.setIfInBounds_toArray, List.set_cons_zero, List.set_cons_succ]
          refine takeH (i := 7) (v := ?v7cspec1) rfl rfl (by kernel_rfl) (by kernel_rfl) (by kernel_rfl) (fun _ _ _ h => by cases h.1) rfl ?hy7cspec1 hS ?rs7cspec1
          case hy7cspec1 => (intro wq hq; go_simp; try (with_reducible rfl))
          simp only [Act.put, List.setIfInBounds_toArray, List.set_cons_zero, List.set_cons_succ]
          refine wpAnyH_ready (rs := [8]) (by kernel_rfl) (by simp) ?_
          refine AllReadyH.cons rfl (fun K hK => ?_) AllReadyH.nil
          simp only [List.getElem_toArray, List.getElem_cons_zero, List.getElem_cons_succ]
          go_simp
          rw [zero6]
          obtain ⟨n, hn⟩ : ∃ n, n = wv3.heap.size := ⟨_, rfl⟩
          have N0 : RB (wv3.alloc (.cells (TL 6 fun _ => 0).toArray 45)) n 45 6 (fun _ => 0) := by rw [hn]; exact heap_alloc_last _ _
          have nlt : g + 1 < n := by rw [hn]; exact hS.2.1.lt
          rw [← hn]
          refine hK.out _ _ ⟨hS.1.alloc _, hS.2.1.alloc _, Lib.hid (hS.2.2.1.out.alloc (by omega) _), trivial⟩ (fun hS => ?_)
          clear hK
          generalize wv3.alloc (.cells (TL 6 fun _ => 0).toArray 45) = wv3 at N0 hS ⊢
          clear hn
          refine wpAnyH_ready (rs := [9]) (by kernel_rfl) (by simp) ?_
          refine AllReadyH.cons rfl (fun K hK => ?_) AllReadyH.nil
          simp only [List.getElem_toArray, List.getElem_cons_zero, List.getElem_cons_succ]
          rw [if_pos (by rfl)]
          refine wp_store_row 45 _ _ rfl n (TL 6 FF).toArray rfl rfl _ _ N0 (by kernel_rfl) (by rw [List.size_toArray, List.size_toArray, TL_len, TL_len]) (TL_one _ _) ?_
          have N1 : RB (World.setRow _ n (TL 6 FF).toArray) n 45 6 FF := N0.setRow FF
          refine hK.out _ _ ⟨hS.1.setRow_other (by omega) _, hS.2.1.setRow_other (by omega) _, Lib.hid (Below.setRow hS.2.2.1.out (by omega) _), trivial⟩ (fun hS => ?_)
          clear hK
          refine takeH (i := 10) (v := ?v10zspec2) rfl rfl (by kernel_rfl) (by kernel_rfl) (by kernel_rfl) (fun _ _ _ h => by cases h.1) rfl ?hy10zspec2 hS ?rs10zspec2
          case hy10zspec2 => (intro wq hq; go_simp; try (with_reducible rfl))
          simp only [Act.put, List.setIfInBounds_toArray, List.set_cons_zero, List.set_cons_succ]
          refine wpAnyH_done (by kernel_rfl) ?_ _
          refine ⟨rfl, n, ?_, hS, N1⟩
          rfl
        · simp only [List.getElem_toArray, List.getElem_cons_zero, List.getElem_cons_succ]
          go_simp
          rw [zero6]
          obtain ⟨n, hn⟩ : ∃ n, n = wv2.heap.size := ⟨_, rfl⟩
          have N0 : RB (wv2.alloc (.cells (TL 6 fun _ => 0).toArray 45)) n 45 6 (fun _ => 0) := by rw [hn]; exact heap_alloc_last _ _
          have nlt : g + 1 < n := by rw [hn]; exact hS.2.1.lt
          rw [← hn]
          refine hK.out _ _ ⟨hS.1.alloc _, hS.2.1.alloc _, Lib.hid (hS.2.2.1.out.alloc (by omega) _), trivial⟩ (fun hS => ?_)
          clear hK
          generalize wv2.alloc (.cells (TL 6 fun _ => 0).toArray 45) = wv2 at N0 hS ⊢
          clear hn
          refine wpAnyH_ready (rs := [4]) (by kernel_rfl) (by simp) ?_
          refine AllReadyH.cons rfl (fun K hK => ?_) AllReadyH.nil
          simp only [List.getElem_toArray, List.getElem_cons_zero, List.getElem_cons_succ]
          go_simp
          refine (spec_SolveMatrix R0 C0 F0 w0 F1 w1 _).mono ?_
          rintro e wv3 ⟨rfl, hn⟩
          rw [HV.out]
          replace N0 := N0.below hn N0.lt
          refine hK.out _ _ ⟨hS.1.below hn hS.1.lt, hS.2.1.below hn hS.2.1.lt, Lib.hid (bnext hS.2.2.1.out hn (Nat.le_of_lt hS.1.lt)), trivial⟩ (fun hS => ?_)
          clear hK hn
          refine takeH (i := 5) (v := ?v5cspec3) rfl rfl (by kernel_rfl) (by kernel_rfl) (by kernel_rfl) (fun _ _ _ h => by cases h.1) rfl ?hy5cspec3 hS ?rs5cspec3
          case hy5cspec3 => (intro wq hq; go_simp; try (with_reducible rfl))
          simp only [Act.put, List.setIfInBounds_toArray, List.set_cons_zero, List.set_cons_succ]
          refine takeH (i := 6) (v := ?v6cspec3) rfl rfl (by kernel_rfl) (by kernel_rfl) (by kernel_rfl) (fun _ _ _ h => by cases h.1) rfl ?hy6cspec3 hS ?rs6cspec3
          case hy6cspec3 => (intro wq hq; go_simp; try (with_reducible rfl))
          simp only [Act.put, List.setIfInBounds_toArray, List.set_cons_zero, List.set_cons_succ]
          refine takeH (i := 7) (v := ?v7cspec3) rfl rfl (by kernel_rfl) (by kernel_rfl) (by kernel_rfl) (fun _ _ _ h => by cases h.1) rfl ?hy7cspec3 hS ?rs7cspec3
          case hy7cspec3 => (intro wq hq; go_simp; try (with_reducible rfl))
          simp only [Act.put, List.setIfInBounds_toArray, List.set_cons_zero, List.set_cons_succ]
          refine wpAnyH_ready (rs := [9]) (by kernel_rfl) (by simp) ?_
          refine AllReadyH.cons rfl (fun K hK => ?_) AllReadyH.nil
          simp only [List.getElem_toArray, List.getElem_cons_zero, List.getElem_cons_succ]
          rw [if_pos (by rfl)]
          refine wp_store_row 45 _ _ rfl n (TL 6 FF).toArray rfl rfl _ _ N0 (by kernel_rfl) (by rw [List.size_toArray, List.size_toArray, TL_len, TL_len]) (TL_one _ _) ?_
          have N1 : RB (World.setRow _ n (TL 6 FF).toArray) n 45 6 FF := N0.setRow FF
          refine hK.out _ _ ⟨hS.1.setRow_other (by omega) _, hS.2.1.setRow_other (by omega) _, Lib.hid (Below.setRow hS.2.2.1.out (by omega) _), trivial⟩ (fun hS => ?_)
          clear hK
          refine takeH (i := 10) (v := ?v10zspec4) rfl rfl (by kernel_rfl) (by kernel_rfl) (by kernel_rfl) (fun _ _ _ h => by cases h.1) rfl ?hy10zspec4 hS ?rs10zspec4
          case hy10zspec4 => (intro wq hq; go_simp; try (with_reducible rfl))
          simp only [Act.put, List.setIfInBounds_toArray, List.set_cons_zero, List.set_cons_succ]
          refine wpAnyH_done (by kernel_rfl) ?_ _
          refine ⟨rfl, n, ?_, hS, N1⟩
          rfl
      · simp only [List.getElem_toArray, List.getElem_cons_zero, List.getElem_cons_succ]
        go_simp
        rw [zero6]
        obtain ⟨n, hn⟩ : ∃ n, n = wv1.heap.size := ⟨_, rfl⟩
        have N0 : RB (wv1.alloc (.cells (TL 6 fun _ => 0).toArray 45)) n 45 6 (fun _ => 0) := by rw [hn]; exact heap_alloc_last _ _
        have nlt : g + 1 < n := by rw [hn]; exact hS.2.1.lt
        rw [← hn]
        refine hK.out _ _ ⟨hS.1.alloc _, hS.2.1.alloc _, Lib.hid (hS.2.2.1.out.alloc (by omega) _), trivial⟩ (fun hS => ?_)
        clear hK
        generalize wv1.alloc (.cells (TL 6 fun _ => 0).toArray 45) = wv1 at N0 hS ⊢
        clear hn
        refine wpAnyH_ready (rs := [3]) (by kernel_rfl) (by simp) ?_
        refine AllReadyH.cons rfl (fun K hK => ?_) AllReadyH.nil
        simp only [List.getElem_toArray, List.getElem_cons_zero, List.getElem_cons_succ]
        go_simp
        refine (toVector_any F1 w1 _).mono ?_
        rintro e wv2 ⟨rfl, hn⟩
        replace N0 := N0.below hn N0.lt
        refine hK.out _ _ ⟨hS.1.below hn hS.1.lt, hS.2.1.below hn hS.2.1.lt, Lib.hid (bnext hS.2.2.1.out hn (Nat.le_of_lt hS.1.lt)), trivial⟩ (fun hS => ?_)
        clear hK hn
        refine wpAnyH_ready (rs := [4]) (by kernel_rfl) (by simp) ?_
        refine AllReadyH.cons rfl (fun K hK => ?_) AllReadyH.nil
        simp only [List.getElem_toArray, List.getElem_cons_zero, List.getElem_cons_succ]
        go_simp
        refine (spec_SolveMatrix R0 C0 F0 w0 F1 w1 _).mono ?_
        rintro e wv3 ⟨rfl, hn⟩
        rw [HV.out]
        replace N0 := N0.below hn N0.lt
        refine hK.out _ _ ⟨hS.1.below hn hS.1.lt, hS.2.1.below hn hS.2.1.lt, Lib.hid (bnext hS.2.2.1.out hn (Nat.le_of_lt hS.1.lt)), trivial⟩ (fun hS => ?_)
        clear hK hn
        refine takeH (i := 5) (v := ?v5cspec5) rfl rfl (by kernel_rfl) (by kernel_rfl) (by kernel_rfl) (fun _ _ _ h => by cases h.1) rfl ?hy5cspec5 hS ?rs5cspec5
        case hy5cspec5 => (intro wq hq; go_simp; try (with_reducible rfl))
        simp only [Act.put, List.setIfInBounds_toArray, List.set_cons_zero, List.set_cons_succ]
        refine takeH (i := 6) (v := ?v6cspec5) rfl rfl (by kernel_rfl) (by kernel_rfl) (by kernel_rfl) (fun _ _ _ h => by cases h.1) rfl ?hy6cspec5 hS ?rs6cspec5
        case hy6cspec5 => (intro wq hq; go_simp; try (with_reducible rfl))
        simp only [Act.put, List.setIfInBounds_toArray, List.set_cons_zero, List.set_cons_succ]
        refine takeH (i := 7) (v := ?v7cspec5) rfl rfl (by kernel_rfl) (by kernel_rfl) (by kernel_rfl) (fun _ _ _ h => by cases h.1) rfl ?hy7cspec5 hS ?rs7cspec5
        case hy7cspec5 => (intro wq hq; go_simp; try (with_reducible rfl))
        simp only [Act.put, List.setIfInBounds_toArray, List.set_cons_zero, List.set_cons_succ]
        refine wpAnyH_ready (rs := [9]) (by kernel_rfl) (by simp) ?_
        refine AllReadyH.cons rfl (fun K hK => ?_) AllReadyH.nil
        simp only [List.getElem_toArray, List.getElem_cons_zero, List.getElem_cons_succ]
        rw [if_pos (by rfl)]
        refine wp_store_row 45 _ _ rfl n (TL 6 FF).toArray rfl rfl _ _ N0 (by kernel_rfl) (by rw [List.size_toArray, List.size_toArray, TL_len, TL_len]) (TL_one _ _) ?_
        have N1 : RB (World.setRow _ n (TL 6 FF).toArray) n 45 6 FF := N0.setRow FF
        refine hK.out _ _ ⟨hS.1.setRow_other (by omega) _, hS.2.1.setRow_other (by omega) _, Lib.hid (Below.setRow hS.2.2.1.out (by omega) _), trivial⟩ (fun hS => ?_)
        clear hK
        refine takeH (i := 10) (v := ?v10zspec6) rfl rfl (by kernel_rfl) (by kernel_rfl) (by kernel_rfl) (fun _ _ _ h => by cases h.1) rfl ?hy10zspec6 hS ?rs10zspec6
        case hy10zspec6 => (intro wq hq; go_simp; try (with_reducible rfl))
        simp only [Act.put, List.setIfInBounds_toArray, List.set_cons_zero, List.set_cons_succ]
        refine wpAnyH_done (by kernel_rfl) ?_ _
        refine ⟨rfl, n, ?_, hS, N1⟩
        rfl
    · simp only [List.getElem_toArray, List.getElem_cons_zero, List.getElem_cons_succ]
      go_simp
      rw [zero6]
      obtain ⟨n, hn⟩ : ∃ n, n = wv0.heap.size := ⟨_, rfl⟩
      have N0 : RB (wv0.alloc (.cells (TL 6 fun _ => 0).toArray 45)) n 45 6 (fun _ => 0) := by rw [hn]; exact heap_alloc_last _ _
      have nlt : g + 1 < n := by rw [hn]; exact hS.2.1.lt
      rw [← hn]
      refine hK.out _ _ ⟨hS.1.alloc _, hS.2.1.alloc _, Lib.hid (hS.2.2.1.out.alloc (by omega) _), trivial⟩ (fun hS => ?_)
      clear hK
      generalize wv0.alloc (.cells (TL 6 fun _ => 0).toArray 45) = wv0 at N0 hS ⊢
      clear hn
      refine wpAnyH_ready (rs := [1]) (by kernel_rfl) (by simp) ?_
      refine AllReadyH.cons rfl (fun K hK => ?_) AllReadyH.nil
      simp only [List.getElem_toArray, List.getElem_cons_zero, List.getElem_cons_succ]
      go_simp
      refine (toMatrix_any R0 C0 F0 w0 _).mono ?_
      rintro e wv1 ⟨rfl, hn⟩
      replace N0 := N0.below hn N0.lt
      refine hK.out _ _ ⟨hS.1.below hn hS.1.lt, hS.2.1.below hn hS.2.1.lt, Lib.hid (bnext hS.2.2.1.out hn (Nat.le_of_lt hS.1.lt)), trivial⟩ (fun hS => ?_)
      clear hK hn
      refine wpAnyH_ready (rs := [3]) (by kernel_rfl) (by simp) ?_
      refine AllReadyH.cons rfl (fun K hK => ?_) AllReadyH.nil
      simp only [List.getElem_toArray, List.getElem_cons_zero, List.getElem_cons_succ]
      go_simp
      refine (toVector_any F1 w1 _).mono ?_
      rintro e wv2 ⟨rfl, hn⟩
      replace N0 := N0.below hn N0.lt
      refine hK.out _ _ ⟨hS.1.below hn hS.1.lt, hS.2.1.below hn hS.2.1.lt, Lib.hid (bnext hS.2.2.1.out hn (Nat.le_of_lt hS.1.lt)), trivial⟩ (fun hS => ?_)
      clear hK hn
      refine wpAnyH_ready (rs := [4]) (by kernel_rfl) (by simp) ?_
      refine AllReadyH.cons rfl (fun K hK => ?_) AllReadyH.nil
      simp only [List.getElem_toArray, List.getElem_cons_zero, List.getElem_cons_succ]
      go_simp
      refine (spec_SolveMatrix R0 C0 F0 w0 F1 w1 _).mono ?_
      rintro e wv3 ⟨rfl, hn⟩
      rw [HV.out]
      replace N0 := N0.below hn N0.lt
      refine hK.out _ _ ⟨hS.1.below hn hS.1.lt, hS.2.1.below hn hS.2.1.lt, Lib.hid (bnext hS.2.2.1.out hn (Nat.le_of_lt hS.1.lt)), trivial⟩ (fun hS => ?_)
      clear hK hn
      refine takeH (i := 5) (v := ?v5cspec7) rfl rfl (by kernel_rfl) (by kernel_rfl) (by kernel_rfl) (fun _ _ _ h => by cases h.1) rfl ?hy5cspec7 hS ?rs5cspec7
      case hy5cspec7 => (intro wq hq; go_simp; try (with_reducible rfl))
      simp only [Act.put, List.setIfInBounds_toArray, List.set_cons_zero, List.set_cons_succ]
      refine takeH (i := 6) (v := ?v6cspec7) rfl rfl (by kernel_rfl) (by kernel_rfl) (by kernel_rfl) (fun _ _ _ h => by cases h.1) rfl ?hy6cspec7 hS ?rs6cspec7
      case hy6cspec7 => (intro wq hq; go_simp; try (with_reducible rfl))
      simp only [Act.put, List.setIfInBounds_toArray, List.set_cons_zero, List.set_cons_succ]
      refine takeH (i := 7) (v := ?v7cspec7) rfl rfl (by kernel_rfl) (by kernel_rfl) (by kernel_rfl) (fun _ _ _ h => by cases h.1) rfl ?hy7cspec7 hS ?rs7cspec7
      case hy7cspec7 => (intro wq hq; go_simp; try (with_reducible rfl))
      simp only [Act.put, List.setIfInBounds_toArray, List.set_cons_zero, List.set_cons_succ]
      refine wpAnyH_ready (rs := [9]) (by kernel_rfl) (by simp) ?_
      refine AllReadyH.cons rfl (fun K hK => ?_) AllReadyH.nil
      simp only [List.getElem_toArray, List.getElem_cons_zero, List.getElem_cons_succ]
      rw [if_pos (by rfl)]
      refine wp_store_row 45 _ _ rfl n (TL 6 FF).toArray rfl rfl _ _ N0 (by kernel_rfl) (by rw [List.size_toArray, List.size_toArray, TL_len, TL_len]) (TL_one _ _) ?_
      have N1 : RB (World.setRow _ n (TL 6 FF).toArray) n 45 6 FF := N0.setRow FF
      refine hK.out _ _ ⟨hS.1.setRow_other (by omega) _, hS.2.1.setRow_other (by omega) _, Lib.hid (Below.setRow hS.2.2.1.out (by omega) _), trivial⟩ (fun hS => ?_)
      clear hK
      refine takeH (i := 10) (v := ?v10zspec8) rfl rfl (by kernel_rfl) (by kernel_rfl) (by kernel_rfl) (fun _ _ _ h => by cases h.1) rfl ?hy10zspec8 hS ?rs10zspec8
      case hy10zspec8 => (intro wq hq; go_simp; try (with_reducible rfl))
      simp only [Act.put, List.setIfInBounds_toArray, List.set_cons_zero, List.set_cons_succ]
      refine wpAnyH_done (by kernel_rfl) ?_ _
      refine ⟨rfl, n, ?_, hS, N1⟩
      rfl
  clear M0 M1 B
  rintro gN1 wb ⟨⟨M0, M1, B, _⟩, N1⟩
  replace B := B.out
  go_upto_region 2 with fail
  refine region_post (A := ?Aimpl) (fun n u => ((fun v => MB v g 27 R0 C0 F0 ∧ RB v (g + 1) 24 6 F1 ∧ Hid (Below g w v) ∧ RB v gN1 45 6 FF) u) ∧ RB u n 45 6 FF) ?_ ?_
  rotate_left
  · refine wp_region_held_drew (S := (fun v => MB v g 27 R0 C0 F0 ∧ RB v (g + 1) 24 6 F1 ∧ Hid (Below g w v) ∧ RB v gN1 45 6 FF)) (by kernel_rfl) ?hS0impl (fun hS => ?_)
    case hS0impl => exact ⟨M0, M1, Lib.hid B.drew, N1⟩
    change wpAnyH _ _ _ _ _ _ _ _ wb.drew at *
    generalize wb.drew = wv0 at hS ⊢
    refine takeH (i := 0) (v := .agg (CL R0 C0 F0).toArray) rfl rfl (by kernel_rfl) (by kernel_rfl) (by kernel_rfl) (fun _ _ _ h => by cases h.1) rfl ?hy0impl hS ?rs0impl
    case hy0impl => exact fun wq hq => exec_load_mid 27 _ rfl (g) 0 rfl (CL R0 C0 F0) _ (hq.1.whole) Try.underlying27 (by kernel_rfl) (by kernel_rfl)
    simp only [Act.put, List.setIfInBounds_toArray, List.set_cons_zero, List.set_cons_succ]
    refine takeH (i := 2) (v := .agg (TL 6 F1).toArray) rfl rfl (by kernel_rfl) (by kernel_rfl) (by kernel_rfl) (fun _ _ _ h => by cases h.1) rfl ?hy2impl hS ?rs2impl
    case hy2impl => exact fun wq hq => exec_load_mid 24 _ rfl (g + 1) 0 rfl (TL 6 F1) (.array 6 23) (hq.2.1.range) (by kernel_rfl) (by kernel_rfl) (by kernel_rfl)
    simp only [Act.put, List.setIfInBounds_toArray, List.set_cons_zero, List.set_cons_succ]
    refine wpAnyH_ready (rs := [1, 8]) (by kernel_rfl) (by simp) ?_
    refine AllReadyH.cons rfl (fun K hK => ?_) (AllReadyH.cons rfl (fun K hK => ?_) AllReadyH.nil)
    · simp only [List.getElem_toArray, List.getElem_cons_zero, List.getElem_cons_succ]
      go_simp
      refine (toMatrix_any R0 C0 F0 w0 _).mono ?_
      rintro e wv1 ⟨rfl, hn⟩
      refine hK.out _ _ ⟨hS.1.below hn hS.1.lt, hS.2.1.below hn hS.2.1.lt, Lib.hid (bnext hS.2.2.1.out hn (Nat.le_of_lt hS.1.lt)), hS.2.2.2.below hn hS.2.2.2.lt⟩ (fun hS => ?_)
      clear hK hn
      refine wpAnyH_ready (rs := [3, 8]) (by kernel_rfl) (by simp) ?_
      refine AllReadyH.cons rfl (fun K hK => ?_) (AllReadyH.cons rfl (fun K hK => ?_) AllReadyH.nil)
      · simp only [List.getElem_toArray, List.getElem_cons_zero, List.getElem_cons_succ]
        go_simp
        refine (toVector_any F1 w1 _).mono ?_
        rintro e wv2 ⟨rfl, hn⟩
        refine hK.out _ _ ⟨hS.1.below hn hS.1.lt, hS.2.1.below hn hS.2.1.lt, Lib.hid (bnext hS.2.2.1.out hn (Nat.le_of_lt hS.1.lt)), hS.2.2.2.below hn hS.2.2.2.lt⟩ (fun hS => ?_)
        clear hK hn
        refine wpAnyH_ready (rs := [4, 8]) (by kernel_rfl) (by simp) ?_
        refine AllReadyH.cons rfl (fun K hK => ?_) (AllReadyH.cons rfl (fun K hK => ?_) AllReadyH.nil)
        · simp only [List.getElem_toArray, List.getElem_cons_zero, List.getElem_cons_succ]
          go_simp
          refine (impl_SolveMatrix R0 C0 F0 w0 F1 w1 _).mono ?_
          rintro e wv3 ⟨rfl, hn⟩
          rw [HV.out]
          refine hK.out _ _ ⟨hS.1.below hn hS.1.lt, hS.2.1.below hn hS.2.1.lt, Lib.hid (bnext hS.2.2.1.out hn (Nat.le_of_lt hS.1.lt)), hS.2.2.2.below hn hS.2.2.2.lt⟩ (fun hS => ?_)
          clear hK hn
          refine takeH (i := 5) (v := ?v5cimpl1) rfl rfl (by kernel_rfl) (by kernel_rfl) (by kernel_rfl) (fun _ _ _ h => by cases h.1) rfl ?hy5cimpl1 hS ?rs5cimpl1
          case hy5cimpl1 => (intro wq hq; go_simp; try (with_reducible rfl))
          simp only [Act.put, List.setIfInBounds_toArray, List.set_cons_zero, List.set_cons_succ]
          refine takeH (i := 6) (v := ?v6cimpl1) rfl rfl (by kernel_rfl) (by kernel_rfl) (by kernel_rfl) (fun _ _ _ h => by cases h.1) rfl ?hy6cimpl1 hS ?rs6cimpl1
          case hy6cimpl1 => (intro wq hq; go_simp; try (with_reducible rfl))
          simp only [Act.put, List.setIfInBounds_toArray, List.set_cons_zero, List.set_cons_succ]
          refine takeH (i := 7) (v := ?v7cimpl1) rfl rfl (by kernel_rfl) (by kernel_rfl) (by kernel_rfl) (fun _ _ _ h => by cases h.1) rfl ?hy7cimpl1 hS ?rs7cimpl1
          case hy7cimpl1 => (intro wq hq; go_simp; try (with_reducible rfl))
          simp only [Act.put, List.setIfInBounds_toArray, List.set_cons_zero, List.set_cons_succ]
          refine wpAnyH_ready (rs := [8]) (by kernel_rfl) (by simp) ?_
          refine AllReadyH.cons rfl (fun K hK => ?_) AllReadyH.nil
          simp only [List.getElem_toArray, List.getElem_cons_zero, List.getElem_cons_succ]
          go_simp
          rw [zero6]
          obtain ⟨n, hn⟩ : ∃ n, n = wv3.heap.size := ⟨_, rfl⟩
          have N0 : RB (wv3.alloc (.cells (TL 6 fun _ => 0).toArray 45)) n 45 6 (fun _ => 0) := by rw [hn]; exact heap_alloc_last _ _
          have nlt : g + 1 < n := by rw [hn]; exact hS.2.1.lt
          have nne : gN1 < n := by rw [hn]; exact hS.2.2.2.lt
          rw [← hn]
          refine hK.out _ _ ⟨hS.1.alloc _, hS.2.1.alloc _, Lib.hid (hS.2.2.1.out.alloc (by omega) _), hS.2.2.2.alloc _⟩ (fun hS => ?_)
          clear hK
          generalize wv3.alloc (.cells (TL 6 fun _ => 0).toArray 45) = wv3 at N0 hS ⊢
          clear hn
          refine wpAnyH_ready (rs := [9]) (by kernel_rfl) (by simp) ?_
          refine AllReadyH.cons rfl (fun K hK => ?_) AllReadyH.nil
          simp only [List.getElem_toArray, List.getElem_cons_zero, List.getElem_cons_succ]
          rw [if_pos (by rfl)]
          refine wp_store_row 45 _ _ rfl n (TL 6 FF).toArray rfl rfl _ _ N0 (by kernel_rfl) (by rw [List.size_toArray, List.size_toArray, TL_len, TL_len]) (TL_one _ _) ?_
          have N1 : RB (World.setRow _ n (TL 6 FF).toArray) n 45 6 FF := N0.setRow FF
          refine hK.out _ _ ⟨hS.1.setRow_other (by omega) _, hS.2.1.setRow_other (by omega) _, Lib.hid (Below.setRow hS.2.2.1.out (by omega) _), hS.2.2.2.setRow_other (by omega) _⟩ (fun hS => ?_)
          clear hK
          refine takeH (i := 10) (v := ?v10zimpl2) rfl rfl (by kernel_rfl) (by kernel_rfl) (by kernel_rfl) (fun _ _ _ h => by cases h.1) rfl ?hy10zimpl2 hS ?rs10zimpl2
          case hy10zimpl2 => (intro wq hq; go_simp; try (with_reducible rfl))
          simp only [Act.put, List.setIfInBounds_toArray, List.set_cons_zero, List.set_cons_succ]
          refine wpAnyH_done (by kernel_rfl) ?_ _
          refine ⟨rfl, n, ?_, hS, N1⟩
          rfl
        · simp only [List.getElem_toArray, List.getElem_cons_zero, List.getElem_cons_succ]
          go_simp
          rw [zero6]
          obtain ⟨n, hn⟩ : ∃ n, n = wv2.heap.size := ⟨_, rfl⟩
          have N0 : RB (wv2.alloc (.cells (TL 6 fun _ => 0).toArray 45)) n 45 6 (fun _ => 0) := by rw [hn]; exact heap_alloc_last _ _
          have nlt : g + 1 < n := by rw [hn]; exact hS.2.1.lt
          have nne : gN1 < n := by rw [hn]; exact hS.2.2.2.lt
          rw [← hn]
          refine hK.out _ _ ⟨hS.1.alloc _, hS.2.1.alloc _, Lib.hid (hS.2.2.1.out.alloc (by omega) _), hS.2.2.2.alloc _⟩ (fun hS => ?_)
          clear hK
          generalize wv2.alloc (.cells (TL 6 fun _ => 0).toArray 45) = wv2 at N0 hS ⊢
          clear hn
          refine wpAnyH_ready (rs := [4]) (by kernel_rfl) (by simp) ?_
          refine AllReadyH.cons rfl (fun K hK => ?_) AllReadyH.nil
          simp only [List.getElem_toArray, List.getElem_cons_zero, List.getElem_cons_succ]
          go_simp
          refine (impl_SolveMatrix R0 C0 F0 w0 F1 w1 _).mono ?_
          rintro e wv3 ⟨rfl, hn⟩
          rw [HV.out]
          replace N0 := N0.below hn N0.lt
          refine hK.out _ _ ⟨hS.1.below hn hS.1.lt, hS.2.1.below hn hS.2.1.lt, Lib.hid (bnext hS.2.2.1.out hn (Nat.le_of_lt hS.1.lt)), hS.2.2.2.below hn hS.2.2.2.lt⟩ (fun hS => ?_)
          clear hK hn
          refine takeH (i := 5) (v := ?v5cimpl3) rfl rfl (by kernel_rfl) (by kernel_rfl) (by kernel_rfl) (fun _ _ _ h => by cases h.1) rfl ?hy5cimpl3 hS ?rs5cimpl3
          case hy5cimpl3 => (intro wq hq; go_simp; try (with_reducible rfl))
          simp only [Act.put, List.setIfInBounds_toArray, List.set_cons_zero, List.set_cons_succ]
          refine takeH (i := 6) (v := ?v6cimpl3) rfl rfl (by kernel_rfl) (by kernel_rfl) (by kernel_rfl) (fun _ _ _ h => by cases h.1) rfl ?hy6cimpl3 hS ?rs6cimpl3
          case hy6cimpl3 => (intro wq hq; go_simp; try (with_reducible rfl))
          simp only [Act.put, List.setIfInBounds_toArray, List.set_cons_zero, List.set_cons_succ]
          refine takeH (i := 7) (v := ?v7cimpl3) rfl rfl (by kernel_rfl) (by kernel_rfl) (by kernel_rfl) (fun _ _ _ h => by cases h.1) rfl ?hy7cimpl3 hS ?rs7cimpl3
          case hy7cimpl3 => (intro wq hq; go_simp; try (with_reducible rfl))
          simp only [Act.put, List.setIfInBounds_toArray, List.set_cons_zero, List.set_cons_succ]
          refine wpAnyH_ready (rs := [9]) (by kernel_rfl) (by simp) ?_
          refine AllReadyH.cons rfl (fun K hK => ?_) AllReadyH.nil
          simp only [List.getElem_toArray, List.getElem_cons_zero, List.getElem_cons_succ]
          rw [if_pos (by rfl)]
          refine wp_store_row 45 _ _ rfl n (TL 6 FF).toArray rfl rfl _ _ N0 (by kernel_rfl) (by rw [List.size_toArray, List.size_toArray, TL_len, TL_len]) (TL_one _ _) ?_
          have N1 : RB (World.setRow _ n (TL 6 FF).toArray) n 45 6 FF := N0.setRow FF
          refine hK.out _ _ ⟨hS.1.setRow_other (by omega) _, hS.2.1.setRow_other (by omega) _, Lib.hid (Below.setRow hS.2.2.1.out (by omega) _), hS.2.2.2.setRow_other (by omega) _⟩ (fun hS => ?_)
          clear hK
          refine takeH (i := 10) (v := ?v10zimpl4) rfl rfl (by kernel_rfl) (by kernel_rfl) (by kernel_rfl) (fun _ _ _ h => by cases h.1) rfl ?hy10zimpl4 hS ?rs10zimpl4
          case hy10zimpl4 => (intro wq hq; go_simp; try (with_reducible rfl))
          simp only [Act.put, List.setIfInBounds_toArray, List.set_cons_zero, List.set_cons_succ]
          refine wpAnyH_done (by kernel_rfl) ?_ _
          refine ⟨rfl, n, ?_, hS, N1⟩
          rfl
      · simp only [List.getElem_toArray, List.getElem_cons_zero, List.getElem_cons_succ]
        go_simp
        rw [zero6]
        obtain ⟨n, hn⟩ : ∃ n, n = wv1.heap.size := ⟨_, rfl⟩
        have N0 : RB (wv1.alloc (.cells (TL 6 fun _ => 0).toArray 45)) n 45 6 (fun _ => 0) := by rw [hn]; exact heap_alloc_last _ _
        have nlt : g + 1 < n := by rw [hn]; exact hS.2.1.lt
        have nne : gN1 < n := by rw [hn]; exact hS.2.2.2.lt
        rw [← hn]
        refine hK.out _ _ ⟨hS.1.alloc _, hS.2.1.alloc _, Lib.hid (hS.2.2.1.out.alloc (by omega) _), hS.2.2.2.alloc _⟩ (fun hS => ?_)
        clear hK
        generalize wv1.alloc (.cells (TL 6 fun _ => 0).toArray 45) = wv1 at N0 hS ⊢
        clear hn
        refine wpAnyH_ready (rs := [3]) (by kernel_rfl) (by simp) ?_
        refine AllReadyH.cons rfl (fun K hK => ?_) AllReadyH.nil
        simp only [List.getElem_toArray, List.getElem_cons_zero, List.getElem_cons_succ]
        go_simp
        refine (toVector_any F1 w1 _).mono ?_
        rintro e wv2 ⟨rfl, hn⟩
        replace N0 := N0.below hn N0.lt
        refine hK.out _ _ ⟨hS.1.below hn hS.1.lt, hS.2.1.below hn hS.2.1.lt, Lib.hid (bnext hS.2.2.1.out hn (Nat.le_of_lt hS.1.lt)), hS.2.2.2.below hn hS.2.2.2.lt⟩ (fun hS => ?_)
        clear hK hn
        refine wpAnyH_ready (rs := [4]) (by kernel_rfl) (by simp) ?_
        refine AllReadyH.cons rfl (fun K hK => ?_) AllReadyH.nil
        simp only [List.getElem_toArray, List.getElem_cons_zero, List.getElem_cons_succ]
        go_simp
        refine (impl_SolveMatrix R0 C0 F0 w0 F1 w1 _).mono ?_
        rintro e wv3 ⟨rfl, hn⟩
        rw [HV.out]
        replace N0 := N0.below hn N0.lt
        refine hK.out _ _ ⟨hS.1.below hn hS.1.lt, hS.2.1.below hn hS.2.1.lt, Lib.hid (bnext hS.2.2.1.out hn (Nat.le_of_lt hS.1.lt)), hS.2.2.2.below hn hS.2.2.2.lt⟩ (fun hS => ?_)
        clear hK hn
        refine takeH (i := 5) (v := ?v5cimpl5) rfl rfl (by kernel_rfl) (by kernel_rfl) (by kernel_rfl) (fun _ _ _ h => by cases h.1) rfl ?hy5cimpl5 hS ?rs5cimpl5
        case hy5cimpl5 => (intro wq hq; go_simp; try (with_reducible rfl))
        simp only [Act.put, List.setIfInBounds_toArray, List.set_cons_zero, List.set_cons_succ]
        refine takeH (i := 6) (v := ?v6cimpl5) rfl rfl (by kernel_rfl) (by kernel_rfl) (by kernel_rfl) (fun _ _ _ h => by cases h.1) rfl ?hy6cimpl5 hS ?rs6cimpl5
        case hy6cimpl5 => (intro wq hq; go_simp; try (with_reducible rfl))
        simp only [Act.put, List.setIfInBounds_toArray, List.set_cons_zero, List.set_cons_succ]
        refine takeH (i := 7) (v := ?v7cimpl5) rfl rfl (by kernel_rfl) (by kernel_rfl) (by kernel_rfl) (fun _ _ _ h => by cases h.1) rfl ?hy7cimpl5 hS ?rs7cimpl5
        case hy7cimpl5 => (intro wq hq; go_simp; try (with_reducible rfl))
        simp only [Act.put, List.setIfInBounds_toArray, List.set_cons_zero, List.set_cons_succ]
        refine wpAnyH_ready (rs := [9]) (by kernel_rfl) (by simp) ?_
        refine AllReadyH.cons rfl (fun K hK => ?_) AllReadyH.nil
        simp only [List.getElem_toArray, List.getElem_cons_zero, List.getElem_cons_succ]
        rw [if_pos (by rfl)]
        refine wp_store_row 45 _ _ rfl n (TL 6 FF).toArray rfl rfl _ _ N0 (by kernel_rfl) (by rw [List.size_toArray, List.size_toArray, TL_len, TL_len]) (TL_one _ _) ?_
        have N1 : RB (World.setRow _ n (TL 6 FF).toArray) n 45 6 FF := N0.setRow FF
        refine hK.out _ _ ⟨hS.1.setRow_other (by omega) _, hS.2.1.setRow_other (by omega) _, Lib.hid (Below.setRow hS.2.2.1.out (by omega) _), hS.2.2.2.setRow_other (by omega) _⟩ (fun hS => ?_)
        clear hK
        refine takeH (i := 10) (v := ?v10zimpl6) rfl rfl (by kernel_rfl) (by kernel_rfl) (by kernel_rfl) (fun _ _ _ h => by cases h.1) rfl ?hy10zimpl6 hS ?rs10zimpl6
        case hy10zimpl6 => (intro wq hq; go_simp; try (with_reducible rfl))
        simp only [Act.put, List.setIfInBounds_toArray, List.set_cons_zero, List.set_cons_succ]
        refine wpAnyH_done (by kernel_rfl) ?_ _
        refine ⟨rfl, n, ?_, hS, N1⟩
        rfl
    · simp only [List.getElem_toArray, List.getElem_cons_zero, List.getElem_cons_succ]
      go_simp
      rw [zero6]
      obtain ⟨n, hn⟩ : ∃ n, n = wv0.heap.size := ⟨_, rfl⟩
      have N0 : RB (wv0.alloc (.cells (TL 6 fun _ => 0).toArray 45)) n 45 6 (fun _ => 0) := by rw [hn]; exact heap_alloc_last _ _
      have nlt : g + 1 < n := by rw [hn]; exact hS.2.1.lt
      have nne : gN1 < n := by rw [hn]; exact hS.2.2.2.lt
      rw [← hn]
      refine hK.out _ _ ⟨hS.1.alloc _, hS.2.1.alloc _, Lib.hid (hS.2.2.1.out.alloc (by omega) _), hS.2.2.2.alloc _⟩ (fun hS => ?_)
      clear hK
      generalize wv0.alloc (.cells (TL 6 fun _ => 0).toArray 45) = wv0 at N0 hS ⊢
      clear hn
      refine wpAnyH_ready (rs := [1]) (by kernel_rfl) (by simp) ?_
      refine AllReadyH.cons rfl (fun K hK => ?_) AllReadyH.nil
      simp only [List.getElem_toArray, List.getElem_cons_zero, List.getElem_cons_succ]
      go_simp
      refine (toMatrix_any R0 C0 F0 w0 _).mono ?_
      rintro e wv1 ⟨rfl, hn⟩
      replace N0 := N0.below hn N0.lt
      refine hK.out _ _ ⟨hS.1.below hn hS.1.lt, hS.2.1.below hn hS.2.1.lt, Lib.hid (bnext hS.2.2.1.out hn (Nat.le_of_lt hS.1.lt)), hS.2.2.2.below hn hS.2.2.2.lt⟩ (fun hS => ?_)
      clear hK hn
      refine wpAnyH_ready (rs := [3]) (by kernel_rfl) (by simp) ?_
      refine AllReadyH.cons rfl (fun K hK => ?_) AllReadyH.nil
      simp only [List.getElem_toArray, List.getElem_cons_zero, List.getElem_cons_succ]
      go_simp
      refine (toVector_any F1 w1 _).mono ?_
      rintro e wv2 ⟨rfl, hn⟩
      replace N0 := N0.below hn N0.lt
      refine hK.out _ _ ⟨hS.1.below hn hS.1.lt, hS.2.1.below hn hS.2.1.lt, Lib.hid (bnext hS.2.2.1.out hn (Nat.le_of_lt hS.1.lt)), hS.2.2.2.below hn hS.2.2.2.lt⟩ (fun hS => ?_)
      clear hK hn
      refine wpAnyH_ready (rs := [4]) (by kernel_rfl) (by simp) ?_
      refine AllReadyH.cons rfl (fun K hK => ?_) AllReadyH.nil
      simp only [List.getElem_toArray, List.getElem_cons_zero, List.getElem_cons_succ]
      go_simp
      refine (impl_SolveMatrix R0 C0 F0 w0 F1 w1 _).mono ?_
      rintro e wv3 ⟨rfl, hn⟩
      rw [HV.out]
      replace N0 := N0.below hn N0.lt
      refine hK.out _ _ ⟨hS.1.below hn hS.1.lt, hS.2.1.below hn hS.2.1.lt, Lib.hid (bnext hS.2.2.1.out hn (Nat.le_of_lt hS.1.lt)), hS.2.2.2.below hn hS.2.2.2.lt⟩ (fun hS => ?_)
      clear hK hn
      refine takeH (i := 5) (v := ?v5cimpl7) rfl rfl (by kernel_rfl) (by kernel_rfl) (by kernel_rfl) (fun _ _ _ h => by cases h.1) rfl ?hy5cimpl7 hS ?rs5cimpl7
      case hy5cimpl7 => (intro wq hq; go_simp; try (with_reducible rfl))
      simp only [Act.put, List.setIfInBounds_toArray, List.set_cons_zero, List.set_cons_succ]
      refine takeH (i := 6) (v := ?v6cimpl7) rfl rfl (by kernel_rfl) (by kernel_rfl) (by kernel_rfl) (fun _ _ _ h => by cases h.1) rfl ?hy6cimpl7 hS ?rs6cimpl7
      case hy6cimpl7 => (intro wq hq; go_simp; try (with_reducible rfl))
      simp only [Act.put, List.setIfInBounds_toArray, List.set_cons_zero, List.set_cons_succ]
      refine takeH (i := 7) (v := ?v7cimpl7) rfl rfl (by kernel_rfl) (by kernel_rfl) (by kernel_rfl) (fun _ _ _ h => by cases h.1) rfl ?hy7cimpl7 hS ?rs7cimpl7
      case hy7cimpl7 => (intro wq hq; go_simp; try (with_reducible rfl))
      simp only [Act.put, List.setIfInBounds_toArray, List.set_cons_zero, List.set_cons_succ]
      refine wpAnyH_ready (rs := [9]) (by kernel_rfl) (by simp) ?_
      refine AllReadyH.cons rfl (fun K hK => ?_) AllReadyH.nil
      simp only [List.getElem_toArray, List.getElem_cons_zero, List.getElem_cons_succ]
      rw [if_pos (by rfl)]
      refine wp_store_row 45 _ _ rfl n (TL 6 FF).toArray rfl rfl _ _ N0 (by kernel_rfl) (by rw [List.size_toArray, List.size_toArray, TL_len, TL_len]) (TL_one _ _) ?_
      have N1 : RB (World.setRow _ n (TL 6 FF).toArray) n 45 6 FF := N0.setRow FF
      refine hK.out _ _ ⟨hS.1.setRow_other (by omega) _, hS.2.1.setRow_other (by omega) _, Lib.hid (Below.setRow hS.2.2.1.out (by omega) _), hS.2.2.2.setRow_other (by omega) _⟩ (fun hS => ?_)
      clear hK
      refine takeH (i := 10) (v := ?v10zimpl8) rfl rfl (by kernel_rfl) (by kernel_rfl) (by kernel_rfl) (fun _ _ _ h => by cases h.1) rfl ?hy10zimpl8 hS ?rs10zimpl8
      case hy10zimpl8 => (intro wq hq; go_simp; try (with_reducible rfl))
      simp only [Act.put, List.setIfInBounds_toArray, List.set_cons_zero, List.set_cons_succ]
      refine wpAnyH_done (by kernel_rfl) ?_ _
      refine ⟨rfl, n, ?_, hS, N1⟩
      rfl
  clear M0 M1 B N1
  rintro gN2 wb ⟨⟨M0, M1, B, N1⟩, N2⟩
  replace B := B.out
  go_wp2_with (first | (guard_target =~ wpList _ _ _ (⟨_, Op.load 45 (Operand.tmp 7), _, _, _, _⟩ :: _) _ _; refine wpList_load_row rfl 45 _ rfl (gN2) rfl _ (TL 6 FF).toArray (0, 0) (.array 6 29) (N2) (by kernel_rfl) rfl (by kernel_rfl) ?_) | (guard_target =~ wpList _ _ _ (⟨_, Op.load 45 (Operand.tmp 5), _, _, _, _⟩ :: _) _ _; refine wpList_load_row rfl 45 _ rfl (gN1) rfl _ (TL 6 FF).toArray (0, 0) (.array 6 29) (N1) (by kernel_rfl) rfl (by kernel_rfl) ?_))
  refine (eqVector_any FF hK _).mono ?_
  rintro e we ⟨rfl, hn⟩
  replace B := bnext B hn (Nat.le_of_lt M0.lt)
  clear hn
  go_wp2_with fail
  go_ret
  obtain rfl := HG.out
  exact ⟨rfl, B⟩

set_option maxRecDepth 100000 in
theorem lifted (os : Os) (started : os.Started) (H : Type) (enc : TypeId × Value → H) :
    ReturnsInHanded {} Try.checked os 16 .any (Rows.fnExactSolveMatrixSpec.pre6 enc Try.prog Try.f16 Rows.fnExactSolveMatrixRow.domain false) (Rows.fnExactSolveMatrixSpec.post enc Try.prog Try.f16 false true false false) := by
  refine returnsInHanded_of_change (C := Try.checked) own started (by kernel_rfl) Try.func16
    (ChangeSpec.witness6 (enc := enc) (C := Try.checked) false ⟨#[], #[.agg #[.int .i8 0, .int .i8 0, .int .u16 0, .int .u16 0, .int .u16 0, .int .u16 0, .int .u16 0, .int .u16 0, .int .u16 0, .int .u16 0, .int .u16 0, .int .u16 0, .int .u16 0, .int .u16 0, .int .u16 0, .int .u16 0, .int .u16 0, .int .u16 0, .int .u16 0, .int .u16 0, .int .u16 0, .int .u16 0, .int .u16 0, .int .u16 0, .int .u16 0, .int .u16 0, .int .u16 0, .int .u16 0, .int .u16 0, .int .u16 0, .int .u16 0, .int .u16 0, .int .u16 0, .int .u16 0, .int .u16 0, .int .u16 0, .int .u16 0, .int .u16 0], .agg #[.int .u16 0, .int .u16 0, .int .u16 0, .int .u16 0, .int .u16 0, .int .u16 0]], []⟩ 8 (by kernel_rfl) (by kernel_rfl) (by kernel_rfl) (by kernel_rfl)) ?_
  intro W base args ds gs before hval0 hW hcnd _
  have hval : ∀ (j : Nat) t v, Try.f16.params[j]? = some t → args[j]? = some v → Value.okWide Try.prog W .any base t v := hval0
  have hW' := hW
  obtain ⟨p, q, hA0, hV, rfl, hfz, hnd⟩ := hW
  have hA : DataW.TrodAll enc Try.prog W 0 (fun _ => true) true Try.f16.params.toList args.toList ds p := hA0
  rw [Try.params16] at hA hval
  obtain ⟨v0, vs0, d0, ds0, p0, q0, hargs, rfl, rfl, h0, r0⟩ := trodAll_cons hA
  obtain ⟨v1, vs1, d1, ds1, p1, q1, rfl, rfl, rfl, h1, r1⟩ := trodAll_cons r0
  obtain ⟨rfl, rfl, rfl⟩ := trodAll_nil r1
  obtain rfl : args = #[v0, v1] := by cases args; simp_all
  obtain ⟨rfl, rfl⟩ := trodVars_none hV
  obtain ⟨R0, C0, F0, rfl, w0, rfl, g0⟩ := open_mat Try.underlying27 (by kernel_rfl) ⟨rfl, rfl⟩ ⟨rfl, rfl⟩ ⟨rfl, rfl⟩ (ti := 22) (tg := 25) (tr := 24) (e := 23) (by kernel_rfl) (by kernel_rfl) (by kernel_rfl) (by kernel_rfl) (by kernel_rfl) (by kernel_rfl) (by kernel_rfl) (by kernel_rfl) (hval 0 27 v0 rfl rfl) h0
  obtain ⟨F1, rfl, w1, rfl, g1⟩ := open_vec (t := 24) (e := 23) (by kernel_rfl) (by kernel_rfl) (by kernel_rfl) (by kernel_rfl) (hval 1 24 v1 rfl rfl) h1
  clear hA0 hval0
  simp only [List.append_nil] at hW'
  refine (walk W R0 C0 F0 F1 w0 w1).mono fun e W' ⟨he, hg⟩ => ?_
  subst he
  exact ⟨_, rfl, law_post rfl rfl hW' hg (fun _ _ _ => (trodAll_cons_mk (shut_bool Try.underlying4 _) trodAll_mk0)) (fun sp _ => (trodAll_cons_mk (g0 _ _ _ _) (trodAll_cons_mk (g1 _ _ _ _) trodAll_mk0))) (ok_one (by kernel_rfl) rfl (okWide_bool_mk Try.underlying4 _))⟩

theorem over : Rows.fnExactSolveMatrixRow.holds Try.pinned (OpenSpec.ofChange Rows.fnExactSolveMatrixSpec) :=
  OpenClaim.holds_of_wide_leaving 16 Try.f16 rfl rfl rfl rfl rfl rfl rfl ⟨rfl, rfl, rfl, rfl, rfl⟩ rfl rfl rfl rfl rfl (by kernel_rfl) Try.func16 (joinedBy 16 Try.f16 Rows.fnExactSolveMatrixSpec Rows.fnExactSolveMatrixRow (by kernel_rfl))
    (of_decide_eq_true (by kernel_rfl)) (by unfold Func.isWrapper; first | (rw [if_pos (by decide +kernel)]; kernel_rfl) | (rw [if_neg (by decide +kernel)]; exact ⟨rfl, rfl⟩))
    (fun os started H enc _ => leaving_of_handed (lifted os started H enc))

/-- the statement -/
theorem proved : Rows.FnExactSolveMatrixSaid :=
  over
end Go.Proofs.Ytjbaeomjinnlhaa.fnExactSolveMatrix
