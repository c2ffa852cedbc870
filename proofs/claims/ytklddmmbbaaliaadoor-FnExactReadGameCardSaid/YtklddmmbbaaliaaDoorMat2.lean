/-
  Two matrices, two vectors: are they the same.
-/
import Derived.Test.YtklddmmbbaaliaaDoorMat
import Derived.Handy
import Derived.Lib.Hide
import Derived.BigQuiet
import Derived.Deep.Cut
import Derived.Deep.RegionHeld
namespace Go.Proofs.YtklddmmbbaaliaaDoor
set_option linter.unusedVariables false
set_option linter.unusedSimpArgs false
open Go.ChangeShapes Go.WideShapes Go.ChangeAt Go.RowKit

theorem eqNimberA6_any (f : Nat → Int) (hf : VW f) (w : World) : Calls Tryd.prog 130 #[VV f, VV f] w fun e w' => e = .returned (.bool true) ∧ Below w.heap.size w w' := by
  go_enter Tryd.func130, Tryd.ntmps130
  go_wp2_with fail
  obtain ⟨a1, a2, a4, _⟩ := new2 w (.cells (TL 6 f).toArray 63) (.cells (TL 6 f).toArray 63)
  obtain ⟨g, hg⟩ : ∃ g, g = w.heap.size := ⟨_, rfl⟩
  rw [← hg] at a1 a2 a4 ⊢
  generalize World.alloc (World.alloc w _) _ = w2 at a1 a2 a4 ⊢
  have HF := Lib.hid hf
  have HG := Lib.hid hg
  clear hg hf
  go_loopw [5] (fun i wr => ∃ (k : Nat), i = .int .i64 k ∧ k ≤ 6 ∧ RB wr g 63 6 f ∧ RB wr (g + 1) 63 6 f ∧ Hid (Below g w wr)) (fun i _ => (6 - intOf i).toNat)
  case atStart => exact ⟨0, rfl, by omega, a1, a2, Lib.hid a4⟩
  case round =>
    clear a1 a2 a4
    obtain ⟨k, rfl, hk, h1, h2, hb⟩ := hrel
    by_cases hlt : k < 6
    · have c1 := h1.cell k hlt
      have c2 := h2.cell k hlt
      have b1 := HF.out k
      have b2 : (k : Int) < 6 := by omega
      have T1 : decide ((k : Int) < 6) = true := by simp; omega
      go_wp2_with fail
      go_quiet (fail)
      go_wp2_with fail
      refine ⟨⟨k + 1, rfl, by omega, h1.drewN _, h2.drewN _, Lib.hid ?_⟩, by simp [intOf]; omega⟩
      exact ⟨hb.out.os, hb.out.tape, hb.out.output, hb.out.size, hb.out.block⟩
    · obtain rfl : k = 6 := by omega
      have T1 : decide (((6 : Nat) : Int) < 6) = false := by simp
      have hB := hb.out
      clear h1 h2 hb
      go_wp2_with fail
      go_ret
      obtain rfl := HG.out
      exact ⟨rfl, hB⟩

set_option maxRecDepth 100000 in
theorem eqNimberA6A6_any (f : Nat → Int) (hf : VW f) (w : World) : Calls Tryd.prog 104 #[.agg (TL 36 f).toArray, .agg (TL 36 f).toArray] w fun e w' => e = .returned (.bool true) ∧ Below w.heap.size w w' := by
  go_enter Tryd.func104, Tryd.ntmps104
  go_wp2_with fail
  obtain ⟨a1, a2, a4, a5⟩ := new2 w (.cells (TL 36 f).toArray 64) (.cells (TL 36 f).toArray 64)
  obtain ⟨g, hg⟩ : ∃ g, g = w.heap.size := ⟨_, rfl⟩
  rw [← hg] at a1 a2 a4 a5 ⊢
  generalize World.alloc (World.alloc w _) _ = w2 at a1 a2 a4 a5 ⊢
  have HF := Lib.hid hf
  have HG := Lib.hid hg
  clear hg hf
  go_loopw [5] (fun i wr => ∃ (k : Nat), i = .int .i64 k ∧ k ≤ 6 ∧ RB wr g 64 36 f ∧ RB wr (g + 1) 64 36 f ∧ Hid (Below g w wr ∧ g + 1 < wr.heap.size)) (fun i _ => (6 - intOf i).toNat)
  case atStart => exact ⟨0, rfl, by omega, a1, a2, Lib.hid ⟨a4, by omega⟩⟩
  case round =>
    clear a1 a2 a4 a5
    obtain ⟨k, rfl, hk, h1, h2, hb⟩ := hrel
    by_cases hlt : k < 6
    · have r1 := h1.sub (k * 6) 6 (by omega)
      have r2 := h2.sub (k * 6) 6 (by omega)
      have b2 : (k : Int) < 6 := by omega
      have T1 : decide ((k : Int) < 6) = true := by simp; omega
      go_upto_region 4 with fail
      have HB := Lib.hid (show Below g w wr from hb.out.1)
      have hs := hb.out.2
      have H1 := Lib.hid h1
      have H2 := Lib.hid h2
      clear hb h1 h2
      refine wp_region_still_tail 6 (by kernel_rfl) (by kernel_rfl) ?_
      simp only [List.take_succ_cons, List.take_zero, List.drop_succ_cons, List.drop_zero]
      still_step
      still_step
      refine still_load_mid rfl 63 _ rfl (g) _ rfl (TL 6 fun j => f (k * 6 + j)) (.array 6 24) (r1) (by kernel_rfl) rfl (by kernel_rfl) ?_
      still_step
      still_step
      refine still_load_mid rfl 63 _ rfl (g + 1) _ rfl (TL 6 fun j => f (k * 6 + j)) (.array 6 24) (r2) (by kernel_rfl) rfl (by kernel_rfl) ?_
      refine wpStill_nil ?_
      change wpList _ _ _ _ _ wr.drew
      go_wp2_with fail
      refine (eqNimberA6_any _ (fun t => HF.out _) _).mono ?_
      rintro e wn ⟨rfl, hn⟩
      have hn' : Below wr.heap.size wr wn := ⟨hn.os, hn.tape, hn.output, hn.size, hn.block⟩
      have m1 := H1.out.below hn' H1.out.lt
      have m2 := H2.out.below hn' H2.out.lt
      have hS := hn'.size
      have HB2 := Lib.hid (show Below g w wn ∧ g + 1 < wn.heap.size from ⟨HB.out.trans (hn'.mono (by omega)), by omega⟩)
      clear hn hn' H1 H2 HB r1 r2
      go_wp2_with fail
      exact ⟨⟨k + 1, rfl, by omega, m1, m2, HB2⟩, by simp [intOf]; omega⟩
    · obtain rfl : k = 6 := by omega
      have T1 : decide (((6 : Nat) : Int) < 6) = false := by simp
      have hB := hb.out.1
      clear h1 h2 hb
      go_wp2_with fail
      go_ret
      obtain rfl := HG.out
      exact ⟨rfl, hB⟩

set_option maxRecDepth 100000 in
theorem eqMatrix_any (r c : Int) (f : Nat → Int) (hm : MW r c f) (w : World) : Calls Tryd.prog 56 #[MV r c f, MV r c f] w fun e w' => e = .returned (.bool true) ∧ Below w.heap.size w w' := by
  go_enter Tryd.func56, Tryd.ntmps56
  go_upto_region 1 with fail
  obtain ⟨a1, a2, a4, a5⟩ := new2 w (.cells (CL r c f).toArray 66) (.cells (CL r c f).toArray 66)
  obtain ⟨g, hg⟩ : ∃ g, g = w.heap.size := ⟨_, rfl⟩
  rw [← hg] at a1 a2 a4 a5 ⊢
  generalize World.alloc (World.alloc w _) _ = w2 at a1 a2 a4 a5 ⊢
  replace a1 : MB w2 g 66 r c f := a1
  replace a2 : MB w2 (g + 1) 66 r c f := a2
  have HG := Lib.hid hg
  have A4 := Lib.hid a4
  have c0 := a1.rows
  have c1 := a1.cols
  have e0 := a2.rows
  have e1 := a2.cols
  have r1 := a1.grid
  have r2 := a2.grid
  clear hg a4
  go_upto_region 5 with fail
  go_wp2_with (first | (guard_target =~ wpList _ _ _ (⟨_, Op.load 64 _, _, _, _, _⟩ :: _) _ _; refine wpList_load_mid rfl 64 _ rfl (g) _ rfl (TL 36 f) (.array 6 63) (r1) (by kernel_rfl) rfl (by kernel_rfl) ?_) | (guard_target =~ wpList _ _ _ (⟨_, Op.load 64 _, _, _, _, _⟩ :: _) _ _; refine wpList_load_mid rfl 64 _ rfl (g + 1) _ rfl (TL 36 f) (.array 6 63) (r2) (by kernel_rfl) rfl (by kernel_rfl) ?_))
  refine (eqNimberA6A6_any f hm.2.2.2.2 _).mono ?_
  rintro e wn ⟨rfl, hn⟩
  have B := Lib.hid (A4.out.trans (hn.mono (show g ≤ w2.heap.size by omega)))
  go_wp2_with fail
  go_ret
  obtain rfl := HG.out
  exact ⟨rfl, B.out⟩
end Go.Proofs.YtklddmmbbaaliaaDoor
