/-
  Products and sums of rows; a matrix and a nimber.
-/
import Derived.Test.YtjbaeomjinnlhaaOk2
import Derived.Deep.RegionHeld
import Derived.Test.YtjbaeomjinnlhaaField
import Derived.Test.YtjbaeomjinnlhaaTurn
namespace Go.Proofs.Ytjbaeomjinnlhaa
set_option linter.unusedVariables false
set_option linter.unusedSimpArgs false
open Go.ChangeShapes Go.WideShapes Go.ChangeAt Go.RowKit

theorem mulI_b {x y : Int} (a0 : 0 ≤ x) (a1 : x < 65536) (b0 : 0 ≤ y) (b1 : y < 65536) : 0 ≤ mulI x y ∧ mulI x y < 65536 := by
  exact mulI_lt 4 (by decide) 65536 rfl x y a1 b1
theorem xorI_b {x y : Int} (a0 : 0 ≤ x) (a1 : x < 65536) (b0 : 0 ≤ y) (b1 : y < 65536) : 0 ≤ xorI x y ∧ xorI x y < 65536 := xorI_lt 65536 (by decide) x y a1 b1
theorem ltimes_eq (x y : Int) (a0 : 0 ≤ x) (a1 : x < 65536) (b0 : 0 ≤ y) (b1 : y < 65536) (w : World) : Calls Try.prog 110 #[.int .u16 x, .int .u16 y] w fun e w' => e = .returned (.int .u16 (mulI x y)) ∧ w' = w :=
  (ltimes_any x y a0 a1 b0 b1 w).mono fun e w' ⟨⟨v, h1, h2, _⟩, h3⟩ => ⟨by rw [h1, h2.out], h3.symm⟩
theorem times_eq (x y : Int) (a0 : 0 ≤ x) (a1 : x < 65536) (b0 : 0 ≤ y) (b1 : y < 65536) (w : World) : Calls Try.prog 132 #[.int .u16 x, .int .u16 y] w fun e w' => e = .returned (.int .u16 (mulI x y)) ∧ w' = w :=
  (times_any x y a0 a1 b0 b1 w).mono fun e w' ⟨⟨v, h1, h2, _⟩, h3⟩ => ⟨by rw [h1, h2.out], h3.symm⟩
theorem nplus_eq (x y : Int) (a0 : 0 ≤ x) (a1 : x < 65536) (b0 : 0 ≤ y) (b1 : y < 65536) (w : World) : Calls Try.prog 133 #[.int .u16 x, .int .u16 y] w fun e w' => e = .returned (.int .u16 (xorI x y)) ∧ w' = w :=
  (plus_any 65536 (by decide) x y a0 a1 b0 b1 w).mono fun e w' ⟨⟨v, h1, h2, _⟩, h3⟩ => ⟨by rw [h1, h2.out], h3.symm⟩

set_option maxRecDepth 100000 in
set_option maxHeartbeats 1000000 in
theorem scaled_any (f : Nat → Int) (hf : VW f) (y : Int) (y0 : 0 ≤ y) (y1 : y < 65536) (w : World) : Calls Try.prog 111 #[VV f, .int .u16 y] w fun e w' => e = .returned (VV fun k => mulI (f k) y) ∧ Below w.heap.size w w' := by
  go_enter Try.func111, Try.ntmps111
  go_upto_region 1 with fail
  obtain ⟨a1, a2, a4, _⟩ := new2 w (.cells (TL 6 f).toArray 45) (.cells (TL 6 fun _ => 0).toArray 45)
  rw [zero6]
  obtain ⟨g, hg⟩ : ∃ g, g = w.heap.size := ⟨_, rfl⟩
  rw [← hg] at a1 a2 a4 ⊢
  generalize World.alloc (World.alloc w _) _ = w2 at a1 a2 a4 ⊢
  replace a1 : RB w2 g 45 6 f := a1
  replace a2 : RB w2 (g + 1) 45 6 (fun _ => 0) := a2
  have HF := Lib.hid hf
  have HG := Lib.hid hg
  clear hg hf
  go_upto_region 2 with (first | (guard_target =~ wpList _ _ _ (⟨_, Op.load 45 (Operand.tmp 2), _, _, _, _⟩ :: _) _ _; refine wpList_load_row rfl 45 _ rfl (g) rfl _ (TL 6 f).toArray (0, 0) (.array 6 29) (a1) (by kernel_rfl) rfl (by kernel_rfl) ?_))
  go_loopw [8] (fun p wr => ∃ (k : Nat), p = .int .i64 k ∧ k ≤ 6 ∧ RB wr g 45 6 (mix k (fun k => mulI (f k) y) f) ∧ RB wr (g + 1) 45 6 (fun _ => 0) ∧ Hid (Below g w wr)) (fun p _ => (6 - intOf p).toNat)
  case atStart => exact ⟨0, rfl, by omega, a1.ext (fun s _ => by rw [mix_zero]), a2, Lib.hid a4⟩
  case round =>
    clear a1 a2 a4
    obtain ⟨k, rfl, hk, h1, h2, hb⟩ := hrel
    by_cases hlt : k < 6
    · have c2 := h1.cell k hlt
      have c3 := h1.free k
      have b1 := HF.out k
      have k1 : (k : Int) < 6 := by omega
      have T1 : decide ((k : Int) < 6) = true := by simp; omega
      have H1 := Lib.hid h1; have H2 := Lib.hid h2
      clear h1 h2
      go_wp2_with (first | (guard_target =~ wpList _ _ _ (⟨_, Op.index 45 _ _, _, _, _, _⟩ :: _) _ _; refine wpList_index_cell rfl 45 _ _ rfl f k rfl rfl hlt (e := 29) (by kernel_rfl) (by kernel_rfl) (by kernel_rfl) ?_))
      refine (times_eq (f k) y b1.1 b1.2 y0 y1 _).mono ?_
      rintro e wn ⟨rfl, rfl⟩
      go_wp2_with fail
      refine ⟨⟨k + 1, rfl, by omega, (H1.out.put k hlt _).ext (fun s _ => by rw [mix_step k _ _ _ rfl]), H2.out.other (by omega) _, Lib.hid (hb.out.setCell (p := ⟨g, k, none⟩) (by simp) _)⟩, by simp [intOf]; omega⟩
    · obtain rfl : k = 6 := by omega
      have h3' := h1.ext (f' := fun k => mulI (f k) y) (fun s hs => by rw [mix_new _ _ hs])
      have T1 : decide (((6 : Nat) : Int) < 6) = false := by simp
      clear h1
      go_wp2_with (first | (guard_target =~ wpList _ _ _ (⟨_, Op.load 45 (Operand.tmp 2), _, _, _, _⟩ :: _) _ _; refine wpList_load_row rfl 45 _ rfl (g) rfl _ (TL 6 fun k => mulI (f k) y).toArray (0, 0) (.array 6 29) (h3') (by kernel_rfl) rfl (by kernel_rfl) ?_) | (guard_target =~ wpList _ _ _ (⟨_, Op.store 45 (Operand.tmp 4) _, _, _, _, _⟩ :: _) _ _; refine wpList_store_row rfl 45 _ _ rfl (g + 1) (TL 6 fun k => mulI (f k) y).toArray rfl rfl _ _ (h2) (by kernel_rfl) rfl (TL_one _ _) ?_))
      refine bodyPost_ret (v := VV fun k => mulI (f k) y) ?_ rfl ⟨rfl, by obtain rfl := HG.out; exact Below.setRow hb.out (Nat.le_succ _) _⟩
      exact results_cell_row rfl _ _ (g + 1) _ _ (0, 0) (.array 6 29) rfl (h2.setRow fun k => mulI (f k) y) (by kernel_rfl) rfl (by kernel_rfl)

def scaleF (f : Nat → Int) (y : Int) : Nat → Int := fun s => mulI (f s) y
def scaleV (r c : Int) (f : Nat → Int) (y : Int) : Value := if okB r c f then .tuple #[MV r c (scaleF f y), .int .i64 0] else .tuple #[MV 0 0 (fun _ => 0), .int .i64 1]
theorem scaleF_b {f : Nat → Int} (h : VW f) {y : Int} (y0 : 0 ≤ y) (y1 : y < 65536) : VW (scaleF f y) := fun t => mulI_b (h t).1 (h t).2 y0 y1
theorem scaleV_form (r c : Int) (f : Nat → Int) (hm : MW r c f) (y : Int) (y0 : 0 ≤ y) (y1 : y < 65536) : ∃ R C F k, scaleV r c f y = .tuple #[MV R C F, .int .i64 k] ∧ MW R C F := by
  unfold scaleV
  split
  · exact ⟨_, _, _, _, rfl, hm.1, hm.2.1, hm.2.2.1, hm.2.2.2.1, scaleF_b hm.2.2.2.2 y0 y1⟩
  · exact ⟨_, _, _, _, rfl, by omega, by omega, by omega, by omega, fun _ => ⟨Int.le_refl 0, show (0 : Int) < 65536 by decide⟩⟩

set_option maxRecDepth 100000 in
set_option maxHeartbeats 2000000 in
theorem spec_ScaleMatrix (r c : Int) (f : Nat → Int) (hm : MW r c f) (y : Int) (y0 : 0 ≤ y) (y1 : y < 65536) (w : World) : Calls Try.prog 38 #[MV r c f, .int .u16 y] w fun e w' => e = .returned (scaleV r c f y) ∧ Below w.heap.size w w' := by
  go_enter Try.func38, Try.ntmps38
  go_upto_region 1 with fail
  obtain ⟨a1, a2, a4, a5⟩ := new2 w (.cells (CL r c f).toArray 33) (.cells (CL 0 0 fun _ => 0).toArray 33)
  rw [zero38]
  obtain ⟨g, hg⟩ : ∃ g, g = w.heap.size := ⟨_, rfl⟩
  rw [← hg] at a1 a2 a4 a5 ⊢
  generalize World.alloc (World.alloc w _) _ = w2 at a1 a2 a4 a5 ⊢
  replace a1 : MB w2 g 33 r c f := a1
  replace a2 : MB w2 (g + 1) 33 0 0 (fun _ => 0) := a2
  have HG := Lib.hid hg
  clear hg
  go_wp2_with fail
  refine (l02Ok_any r c f hm g _ _ a1).mono ?_
  rintro e wn ⟨rfl, rfl⟩
  have a6 : g + 1 + 1 ≤ wn.heap.size := by omega
  clear a5
  rcases hok : okB r c f with _ | _
  · have hV : scaleV r c f y = .tuple #[MV 0 0 (fun _ => 0), .int .i64 1] := by unfold scaleV; rw [hok]; rfl
    have HV := Lib.hid hV
    clear hok hV
    go_wp2_with (first | (guard_target =~ wpList _ _ _ (⟨_, Op.build 33 _, _, _, _, _⟩ :: _) _ _; refine wpList_build0 rfl 33 rfl (CL 0 0 fun _ => 0).toArray (by kernel_rfl) ?_) | (guard_target =~ wpList _ _ _ (⟨_, Op.store 33 (Operand.tmp 4) _, _, _, _, _⟩ :: _) _ _; refine wpList_store_row rfl 33 _ _ rfl (g + 1) (CL 0 0 fun _ => 0).toArray rfl rfl _ _ a2 (by kernel_rfl) rfl (CL_one _ _ _) ?_))
    refine bodyPost_ret (v := .tuple #[MV 0 0 (fun _ => 0), .int .i64 1]) ?_ rfl ⟨congrArg Ending.returned HV.out.symm, by obtain rfl := HG.out; exact Below.setRow a4 (Nat.le_succ _) _⟩
    exact results_cell_tmp2 rfl _ _ (g + 1) _ _ (0, 0) _ _ rfl rfl (a2.setRow _) Try.underlying33 rfl (by kernel_rfl)
  · have hV : scaleV r c f y = .tuple #[MV r c (scaleF f y), .int .i64 0] := by unfold scaleV; rw [hok]; rfl
    have HV := Lib.hid hV
    have HF := Lib.hid hm.2.2.2.2
    clear hok hV
    go_wp2_with fail
    go_loopw [6] (fun p wr => ∃ (i : Nat), p = .int .i64 i ∧ i ≤ 6 ∧ MB wr g 33 r c (mix (i * 6) (scaleF f y) f) ∧ MB wr (g + 1) 33 0 0 (fun _ => 0) ∧ Hid (Below g w wr)) (fun p _ => (6 - intOf p).toNat)
    case atStart => exact ⟨0, rfl, by omega, a1.ext (fun s _ => by rw [Nat.zero_mul, mix_zero]), a2, Lib.hid a4⟩
    case round =>
      clear a1 a2 a4 a6
      obtain ⟨i, rfl, hi, m1, m2, hb⟩ := hrel
      by_cases hlt6 : i < 6
      · have T1 : decide ((i : Int) < 6) = true := by simp; omega
        go_wp2_with fail
        go_loopw [7] (fun p wr => ∃ (k : Nat), p = .int .i64 k ∧ k ≤ 6 ∧ MB wr g 33 r c (mix (i * 6 + k) (scaleF f y) f) ∧ MB wr (g + 1) 33 0 0 (fun _ => 0) ∧ Hid (Below g w wr)) (fun p _ => (6 - intOf p).toNat)
        case atStart => exact ⟨0, rfl, by omega, m1, m2, hb⟩
        case round =>
          clear m1 m2 hb
          obtain ⟨k, rfl, hk, m1, m2, hb⟩ := hrel
          by_cases hlk : k < 6
          · have T2 : decide ((k : Int) < 6) = true := by simp; omega
            have c1 := m1.cell2 i k hlt6 hlk
            rw [mix_at] at c1
            have f3 := m1.free (2 + i * 6 + k)
            have i1 : (i : Int) < 6 := by omega
            have k1 : (k : Int) < 6 := by omega
            have b1 := HF.out (i * 6 + k)
            have M1 := Lib.hid m1; have M2 := Lib.hid m2
            clear m1 m2
            go_wp2_with fail
            refine wp_region_still_tail 13 (by kernel_rfl) (by kernel_rfl) ?_
            simp only [List.take_succ_cons, List.take_zero, List.drop_succ_cons, List.drop_zero]
            iterate 9 still_step
            still_call (ltimes_eq (f (i * 6 + k)) y b1.1 b1.2 y0 y1 _)
            iterate 3 still_step
            refine wpStill_nil ?_
            change wpList _ _ _ _ _ wr.drew
            go_wp2_with fail
            exact ⟨⟨k + 1, rfl, by omega, (M1.out.put2 i k hlt6 hlk _).ext (fun s _ => congrFun (mix_step (i * 6 + k) (scaleF f y) f _ rfl) s), M2.out.other (by omega) _, Lib.hid (hb.out.setCell (p := ⟨g, 2 + i * 6 + k, none⟩) (by simp) _).drew⟩, by simp [intOf]; omega⟩
          · obtain rfl : k = 6 := by omega
            have T2 : decide (((6 : Nat) : Int) < 6) = false := by simp
            go_wp2_with fail
            exact ⟨⟨i + 1, rfl, by omega, m1.ext (fun s _ => by rw [show (i + 1) * 6 = i * 6 + 6 from by omega]), m2, hb⟩, by simp [intOf]; omega⟩
      · obtain rfl : i = 6 := by omega
        have T1 : decide (((6 : Nat) : Int) < 6) = false := by simp
        have m1' := m1.ext (f' := scaleF f y) (fun s hs => by rw [mix_new _ _ hs])
        clear m1
        go_wp2_with (first | (guard_target =~ wpList _ _ _ (⟨_, Op.load 33 (Operand.tmp 2), _, _, _, _⟩ :: _) _ _; refine wpList_load_row rfl 33 _ rfl (g) rfl _ (CL r c (scaleF f y)).toArray (0, 0) _ m1' Try.underlying33 rfl (by kernel_rfl) ?_) | (guard_target =~ wpList _ _ _ (⟨_, Op.store 33 (Operand.tmp 4) _, _, _, _, _⟩ :: _) _ _; refine wpList_store_row rfl 33 _ _ rfl (g + 1) (CL r c (scaleF f y)).toArray rfl rfl _ _ m2 (by kernel_rfl) rfl (CL_one _ _ _) ?_))
        refine bodyPost_ret (v := .tuple #[MV r c (scaleF f y), .int .i64 0]) ?_ rfl ⟨congrArg Ending.returned HV.out.symm, by obtain rfl := HG.out; exact Below.setRow hb.out (Nat.le_succ _) _⟩
        exact results_cell_tmp2 rfl _ _ (g + 1) _ _ (0, 0) _ _ rfl rfl (m2.setRow _) Try.underlying33 rfl (by kernel_rfl)

set_option maxRecDepth 100000 in
set_option maxHeartbeats 2000000 in
theorem impl_ScaleMatrix (r c : Int) (f : Nat → Int) (hm : MW r c f) (y : Int) (y0 : 0 ≤ y) (y1 : y < 65536) (w : World) : Calls Try.prog 39 #[MV r c f, .int .u16 y] w fun e w' => e = .returned (scaleV r c f y) ∧ Below w.heap.size w w' := by
  go_enter Try.func39, Try.ntmps39
  go_upto_region 1 with fail
  obtain ⟨a1, a2, a4, a5⟩ := new2 w (.cells (CL r c f).toArray 33) (.cells (CL 0 0 fun _ => 0).toArray 33)
  rw [zero38]
  obtain ⟨g, hg⟩ : ∃ g, g = w.heap.size := ⟨_, rfl⟩
  rw [← hg] at a1 a2 a4 a5 ⊢
  generalize World.alloc (World.alloc w _) _ = w2 at a1 a2 a4 a5 ⊢
  replace a1 : MB w2 g 33 r c f := a1
  replace a2 : MB w2 (g + 1) 33 0 0 (fun _ => 0) := a2
  have HG := Lib.hid hg
  clear hg
  go_wp2_with (first | (guard_target =~ wpList _ _ _ (⟨_, Op.load 33 (Operand.tmp 2), _, _, _, _⟩ :: _) _ _; refine wpList_load_row rfl 33 _ rfl (g) rfl _ (CL r c f).toArray (0, 0) _ a1 Try.underlying33 rfl (by kernel_rfl) ?_))
  refine (impl_ValidMatrix r c f hm _).mono ?_
  rintro e wn ⟨rfl, hn⟩
  replace a1 := a1.below hn a1.lt
  replace a2 := a2.below hn a2.lt
  replace a4 := bnext a4 hn (by omega)
  have a6 : g + 1 + 1 ≤ wn.heap.size := by have := hn.size; omega
  clear hn
  clear a5
  rcases hok : okB r c f with _ | _
  · have hV : scaleV r c f y = .tuple #[MV 0 0 (fun _ => 0), .int .i64 1] := by unfold scaleV; rw [hok]; rfl
    have HV := Lib.hid hV
    clear hok hV
    go_wp2_with (first | (guard_target =~ wpList _ _ _ (⟨_, Op.build 33 _, _, _, _, _⟩ :: _) _ _; refine wpList_build0 rfl 33 rfl (CL 0 0 fun _ => 0).toArray (by kernel_rfl) ?_) | (guard_target =~ wpList _ _ _ (⟨_, Op.store 33 (Operand.tmp 4) _, _, _, _, _⟩ :: _) _ _; refine wpList_store_row rfl 33 _ _ rfl (g + 1) (CL 0 0 fun _ => 0).toArray rfl rfl _ _ a2 (by kernel_rfl) rfl (CL_one _ _ _) ?_))
    refine bodyPost_ret (v := .tuple #[MV 0 0 (fun _ => 0), .int .i64 1]) ?_ rfl ⟨congrArg Ending.returned HV.out.symm, by obtain rfl := HG.out; exact Below.setRow a4 (Nat.le_succ _) _⟩
    exact results_cell_tmp2 rfl _ _ (g + 1) _ _ (0, 0) _ _ rfl rfl (a2.setRow _) Try.underlying33 rfl (by kernel_rfl)
  · have hV : scaleV r c f y = .tuple #[MV r c (scaleF f y), .int .i64 0] := by unfold scaleV; rw [hok]; rfl
    have HV := Lib.hid hV
    have HF := Lib.hid hm.2.2.2.2
    clear hok hV
    have r1 := a1.grid
    go_upto_region 4 with (first | (guard_target =~ wpList _ _ _ (⟨_, Op.load 31 (Operand.tmp 12), _, _, _, _⟩ :: _) _ _; refine wpList_load_mid rfl 31 _ rfl (g) _ rfl (TL 36 f) (.array 6 30) (r1) (by kernel_rfl) rfl (by kernel_rfl) ?_))
    go_loopw [14] (fun p wr => ∃ (i : Nat), p = .int .i64 i ∧ i ≤ 6 ∧ MB wr g 33 r c (mix (i * 6) (scaleF f y) f) ∧ MB wr (g + 1) 33 0 0 (fun _ => 0) ∧ Hid (Below g w wr)) (fun p _ => (6 - intOf p).toNat)
    case atStart => exact ⟨0, rfl, by omega, a1.ext (fun s _ => by rw [Nat.zero_mul, mix_zero]), a2, Lib.hid a4⟩
    case round =>
      clear a1 a2 a4 a6 r1
      obtain ⟨i, rfl, hi, m1, m2, hb⟩ := hrel
      by_cases hlt6 : i < 6
      · have T1 : decide ((i : Int) < 6) = true := by simp; omega
        have i1 : (i : Int) < 6 := by omega
        go_upto_region 6 with (first | (guard_target =~ wpList _ _ _ (⟨_, Op.index 31 _ _, _, _, _, _⟩ :: _) _ _; refine wpList_index_row rfl 31 _ _ rfl f i rfl rfl hlt6 (r := 30) (e := 29) (by kernel_rfl) (by kernel_rfl) (by kernel_rfl) ?_) | (guard_target =~ wpList _ _ _ (⟨_, Op.store 30 _ _, _, _, _, _⟩ :: _) _ _; refine wpList_store_fresh (cells := (TL 6 fun k => f (i * 6 + k)).toArray) rfl 30 _ _ rfl rfl rfl (by kernel_rfl) rfl (TL_one _ _) ?_))
        have e1 := m1.alloc (.cells (TL 6 fun k => f (i * 6 + k)).toArray 30)
        have e2 := m2.alloc (.cells (TL 6 fun k => f (i * 6 + k)).toArray 30)
        have e4 : RB (wr.alloc (.cells (TL 6 fun k => f (i * 6 + k)).toArray 30)) wr.heap.size 30 6 (fun k => f (i * 6 + k)) := heap_alloc_last _ _
        have e5 := hb.out.alloc (show g ≤ wr.heap.size by have := m2.lt; omega) (.cells (TL 6 fun k => f (i * 6 + k)).toArray 30)
        obtain ⟨g4, hg4⟩ : ∃ g4, g4 = wr.heap.size := ⟨_, rfl⟩
        rw [← hg4] at e4 ⊢
        generalize wr.alloc (.cells (TL 6 fun k => f (i * 6 + k)).toArray 30) = w5 at e1 e2 e4 e5 ⊢
        clear m1 m2 hb hg4
        go_wp2_with (first | (guard_target =~ wpList _ _ _ (⟨_, Op.load 30 (Operand.tmp 7), _, _, _, _⟩ :: _) _ _; refine wpList_load_row rfl 30 _ rfl (g4) rfl _ (TL 6 fun k => f (i * 6 + k)).toArray (0, 0) (.array 6 29) (e4) (by kernel_rfl) rfl (by kernel_rfl) ?_))
        refine (scaled_any (fun k => f (i * 6 + k)) (fun t => HF.out _) y y0 y1 _).mono ?_
        rintro e wn ⟨rfl, hn⟩
        replace e5 := bnext e5 hn (Nat.le_of_lt e1.lt)
        replace e1 := e1.below hn e1.lt
        replace e2 := e2.below hn e2.lt
        have r3 := e1.there (2 + i * 6) 6 (by omega)
        clear hn e4
        go_wp2_with (first | (guard_target =~ wpList _ _ _ (⟨_, Op.store 30 _ _, _, _, _, _⟩ :: _) _ _; refine wpList_store_mid rfl 30 _ _ rfl g _ (TL 6 fun k => mulI (f (i * 6 + k)) y).toArray rfl rfl (by rw [List.size_toArray, TL_len]; exact r3) (by kernel_rfl) (TL_one _ _) ?_))
        exact ⟨⟨i + 1, rfl, by omega, (MB.puts 6 (i * 6) _ _ _ e1 (by omega)).ext (fun s _ => (congrFun (mix_row (i * 6) 6 (scaleF f y) f _ (fun j _ => rfl)) s).trans (by rw [show (i + 1) * 6 = i * 6 + 6 from by omega])), e2.setCells_other (by omega) _, Lib.hid (Below.setCells (Nat.le_refl g) _ _ _ e5)⟩, by simp [intOf]; omega⟩
      · obtain rfl : i = 6 := by omega
        have T1 : decide (((6 : Nat) : Int) < 6) = false := by simp
        have m1' := m1.ext (f' := scaleF f y) (fun s hs => by rw [mix_new _ _ hs])
        clear m1
        go_wp2_with (first | (guard_target =~ wpList _ _ _ (⟨_, Op.load 33 (Operand.tmp 2), _, _, _, _⟩ :: _) _ _; refine wpList_load_row rfl 33 _ rfl (g) rfl _ (CL r c (scaleF f y)).toArray (0, 0) _ m1' Try.underlying33 rfl (by kernel_rfl) ?_) | (guard_target =~ wpList _ _ _ (⟨_, Op.store 33 (Operand.tmp 4) _, _, _, _, _⟩ :: _) _ _; refine wpList_store_row rfl 33 _ _ rfl (g + 1) (CL r c (scaleF f y)).toArray rfl rfl _ _ m2 (by kernel_rfl) rfl (CL_one _ _ _) ?_))
        refine bodyPost_ret (v := .tuple #[MV r c (scaleF f y), .int .i64 0]) ?_ rfl ⟨congrArg Ending.returned HV.out.symm, by obtain rfl := HG.out; exact Below.setRow hb.out (Nat.le_succ _) _⟩
        exact results_cell_tmp2 rfl _ _ (g + 1) _ _ (0, 0) _ _ rfl rfl (m2.setRow _) Try.underlying33 rfl (by kernel_rfl)
end Go.Proofs.Ytjbaeomjinnlhaa
