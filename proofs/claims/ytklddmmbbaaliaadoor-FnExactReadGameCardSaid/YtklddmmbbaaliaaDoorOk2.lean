/-
  Is a matrix valid: the program.
-/
import Derived.Test.YtklddmmbbaaliaaDoorOk
namespace Go.Proofs.YtklddmmbbaaliaaDoor
set_option linter.unusedVariables false
set_option linter.unusedSimpArgs false
open Go.ChangeShapes Go.WideShapes Go.ChangeAt Go.RowKit
set_option maxRecDepth 100000 in
theorem impl_ValidMatrix (r c : Int) (f : Nat → Int) (hm : MW r c f) (w : World) : Calls Tryd.prog 100 #[MV r c f] w fun e w' => e = .returned (.bool (okB r c f)) ∧ Below w.heap.size w w' := by
  go_enter Tryd.func100, Tryd.ntmps100
  go_upto_region 1 with fail
  obtain ⟨a1, a4, a5⟩ := new1 w (.cells (CL r c f).toArray 66)
  obtain ⟨g, hg⟩ : ∃ g, g = w.heap.size := ⟨_, rfl⟩
  rw [← hg] at a1 a4 a5 ⊢
  generalize World.alloc w _ = w2 at a1 a4 a5 ⊢
  replace a1 : MB w2 g 66 r c f := a1
  have HG := Lib.hid hg
  have HF := Lib.hid hm.2.2.2.2
  have A4 := Lib.hid a4
  have c0 := a1.rows
  have c1 := a1.cols
  have R0 := hm.1
  have R1 := hm.2.1
  have C0 := hm.2.2.1
  have C1 := hm.2.2.2.1
  have M1 := Lib.hid a1
  clear hg hm a4
  by_cases h1 : inSide r = true
  · by_cases h2 : inSide c = true
    · go_upto_region 3 with (first | (go_at_call 103; refine (is_side _ _).mono ?_; rintro e w' ⟨rfl, rfl⟩))
      have r1 := a1.grid
      obtain ⟨R, rfl⟩ : ∃ R : Nat, r = R := ⟨r.toNat, by unfold inSide at h1; rw [decide_eq_true_eq] at h1; omega⟩
      obtain ⟨C, rfl⟩ : ∃ C : Nat, c = C := ⟨c.toNat, by unfold inSide at h2; rw [decide_eq_true_eq] at h2; omega⟩
      have hC : C ≤ 6 := by unfold inSide at h2; rw [decide_eq_true_eq] at h2; omega
      clear a1 c0 c1
      go_upto_region 4 with (first | (guard_target =~ wpList _ _ _ (⟨_, Op.load 64 _, _, _, _, _⟩ :: _) _ _; refine wpList_load_mid rfl 64 _ rfl g _ rfl (TL 36 f) (.array 6 63) r1 (by kernel_rfl) rfl (by kernel_rfl) ?_))
      clear r1
      go_loopw [20] (fun p wr => ∃ (i : Nat), p = .int .i64 i ∧ i ≤ 6 ∧ MB wr g 66 R C f ∧ Hid (fitAll R C f i) ∧ Hid (Below g w wr ∧ g + 1 ≤ wr.heap.size)) (fun p _ => (6 - intOf p).toNat)
      case atStart => exact ⟨0, rfl, by omega, M1.out, Lib.hid (fun _ h => by omega), Lib.hid ⟨A4.out, by omega⟩⟩
      case round =>
        clear M1 A4
        obtain ⟨i, rfl, hi, hM, hs, hb⟩ := hrel
        by_cases hlt : i < 6
        · have c0 := hM.rows
          have c1 := hM.cols
          have HM := Lib.hid hM
          have hsz := hb.out.2
          have T1 : decide ((i : Int) < 6) = true := by simp; omega
          clear hM
          go_upto_region 6 with (first | (guard_target =~ wpList _ _ _ (⟨_, Op.index 64 _ _, _, _, _, _⟩ :: _) _ _; refine wpList_index_row rfl 64 _ _ rfl f i rfl rfl hlt (r := 63) (e := 24) (by kernel_rfl) (by kernel_rfl) (by kernel_rfl) ?_) | (guard_target =~ wpList _ _ _ (⟨_, Op.store 63 _ _, _, _, _, _⟩ :: _) _ _; refine wpList_store_fresh (cells := (TL 6 fun k => f (i * 6 + k)).toArray) rfl 63 _ _ rfl rfl rfl (by kernel_rfl) rfl (TL_one _ _) ?_))
          have hR : RB (wr.alloc (.cells (TL 6 fun k => f (i * 6 + k)).toArray 63)) wr.heap.size 63 6 (fun k => f (i * 6 + k)) := heap_alloc_last _ _
          have hM1 := HM.out.alloc (.cells (TL 6 fun k => f (i * 6 + k)).toArray 63)
          have HB := Lib.hid (hb.out.1.alloc (show g ≤ wr.heap.size by omega) (.cells (TL 6 fun k => f (i * 6 + k)).toArray 63))
          have hs2 : g + 1 ≤ (wr.alloc (.cells (TL 6 fun k => f (i * 6 + k)).toArray 63)).heap.size := by rw [World.size_alloc]; omega
          obtain ⟨g4, hg4⟩ : ∃ g4, g4 = wr.heap.size := ⟨_, rfl⟩
          rw [← hg4] at hR ⊢
          generalize wr.alloc (.cells (TL 6 fun k => f (i * 6 + k)).toArray 63) = w1 at hR hM1 HB hs2 ⊢
          clear hb HM hg4 c0 c1
          have c0 := hM1.rows
          have c1 := hM1.cols
          by_cases e1 : i < R
          · have T2 : decide ((R : Int) ≤ (i : Int)) = false := decide_eq_false (by omega)
            go_wp2_with (first | (guard_target =~ wpList _ _ _ (⟨_, Op.load 63 _, _, _, _, _⟩ :: _) _ _; refine wpList_load_row rfl 63 _ rfl g4 rfl _ (TL 6 fun k => f (i * 6 + k)).toArray (0, 0) (.array 6 24) hR (by kernel_rfl) rfl (by kernel_rfl) ?_))
            refine (fits_any (fun k => f (i * 6 + k)) (fun t => HF.out _) C (by omega) _).mono ?_
            rintro e wn ⟨rfl, hn⟩
            have M3 := hM1.below hn hM1.lt
            have B3 := Lib.hid (show Below g w wn ∧ g + 1 ≤ wn.heap.size from ⟨HB.out.trans (hn.mono (by omega)), by have := hn.size; omega⟩)
            clear hn hM1 hR HB
            rcases hfit : fitB C (fun k => f (i * 6 + k)) with _ | _
            · have e := okB_unfit R C f i hlt (by rw [if_pos e1]; exact hfit)
              clear hfit
              go_wp2_with fail
              go_ret
              obtain rfl := HG.out
              exact ⟨congrArg (fun b => Ending.returned (.bool b)) e.symm, B3.out.1⟩
            · have HFit := Lib.hid hfit
              clear hfit
              go_wp2_with fail
              refine ⟨⟨i + 1, rfl, by omega, M3, Lib.hid (fun i' hi' => ?_), B3⟩, by simp [intOf]; omega⟩
              by_cases ei : i' = i
              · subst ei; rw [if_pos e1]; exact HFit.out
              · exact hs.out i' (by omega)
          · have T2 : decide ((R : Int) ≤ (i : Int)) = true := decide_eq_true (by omega)
            go_wp2_with (first | (guard_target =~ wpList _ _ _ (⟨_, Op.load 63 _, _, _, _, _⟩ :: _) _ _; refine wpList_load_row rfl 63 _ rfl g4 rfl _ (TL 6 fun k => f (i * 6 + k)).toArray (0, 0) (.array 6 24) hR (by kernel_rfl) rfl (by kernel_rfl) ?_))
            refine (fits_any (fun k => f (i * 6 + k)) (fun t => HF.out _) 0 (by omega) _).mono ?_
            rintro e wn ⟨rfl, hn⟩
            have M3 := hM1.below hn hM1.lt
            have B3 := Lib.hid (show Below g w wn ∧ g + 1 ≤ wn.heap.size from ⟨HB.out.trans (hn.mono (by omega)), by have := hn.size; omega⟩)
            clear hn hM1 hR HB
            rcases hfit : fitB 0 (fun k => f (i * 6 + k)) with _ | _
            · have e := okB_unfit R C f i hlt (by rw [if_neg e1]; exact hfit)
              clear hfit
              go_wp2_with fail
              go_ret
              obtain rfl := HG.out
              exact ⟨congrArg (fun b => Ending.returned (.bool b)) e.symm, B3.out.1⟩
            · have HFit := Lib.hid hfit
              clear hfit
              go_wp2_with fail
              refine ⟨⟨i + 1, rfl, by omega, M3, Lib.hid (fun i' hi' => ?_), B3⟩, by simp [intOf]; omega⟩
              by_cases ei : i' = i
              · subst ei; rw [if_neg e1]; exact HFit.out
              · exact hs.out i' (by omega)
        · obtain rfl : i = 6 := by omega
          have T1 : decide (((6 : Nat) : Int) < 6) = false := by simp
          go_wp2_with fail
          go_ret
          obtain rfl := HG.out
          exact ⟨congrArg (fun b => Ending.returned (.bool b)) (okB_fit R C f h1 h2 hs.out).symm, hb.out.1⟩
    · have h2' : inSide c = false := by simpa using h2
      clear h2
      have e : okB r c f = false := by unfold okB; rw [h2']; simp
      go_wp2_with (first | (go_at_call 103; refine (is_side _ _).mono ?_; rintro e w' ⟨rfl, rfl⟩))
      go_ret
      obtain rfl := HG.out
      exact ⟨congrArg (fun b => Ending.returned (.bool b)) e.symm, A4.out⟩
  · have h1' : inSide r = false := by simpa using h1
    clear h1
    have e : okB r c f = false := by unfold okB; rw [h1']; simp
    go_wp2_with (first | (go_at_call 103; refine (is_side _ _).mono ?_; rintro e w' ⟨rfl, rfl⟩))
    go_ret
    obtain rfl := HG.out
    exact ⟨congrArg (fun b => Ending.returned (.bool b)) e.symm, A4.out⟩
end Go.Proofs.YtklddmmbbaaliaaDoor
