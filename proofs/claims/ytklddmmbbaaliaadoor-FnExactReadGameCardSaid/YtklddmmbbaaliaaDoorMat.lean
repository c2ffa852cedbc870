/-
  Matrices and vectors in and out of the law.
-/
import Derived.Test.YtklddmmbbaaliaaDoorRows
import Derived.Test.YtklddmmbbaaliaaDoorCells
import Derived.Handy
import Derived.Lib.Hide
import Derived.BigQuiet
import Derived.Deep.Cut
namespace Go.Proofs.YtklddmmbbaaliaaDoor
set_option linter.unusedVariables false
set_option linter.unusedSimpArgs false
open Go.ChangeShapes Go.WideShapes Go.ChangeAt Go.RowKit

theorem toNimberA6_any (f : Nat → Int) (hf : VW f) (w : World) : Calls Tryd.prog 128 #[VV f] w fun e w' => e = .returned (VV f) ∧ Below w.heap.size w w' := by
  go_enter Tryd.func128, Tryd.ntmps128
  go_wp2_with fail
  obtain ⟨a1, a2, a3, a4, _⟩ := new3 w (.cells (TL 6 f).toArray 58) (.cells (TL 6 fun _ => 0).toArray 63) (.cells (TL 6 fun _ => 0).toArray 63)
  rw [zero6]
  obtain ⟨g, hg⟩ : ∃ g, g = w.heap.size := ⟨_, rfl⟩
  rw [← hg] at a1 a2 a3 a4 ⊢
  generalize World.alloc (World.alloc (World.alloc w _) _) _ = w2 at a1 a2 a3 a4 ⊢
  have HF := Lib.hid hf
  have HG := Lib.hid hg
  clear hg hf
  go_loopw [4] (fun i wr => ∃ (k : Nat) (h : Nat → Int), i = .int .i64 k ∧ k ≤ 6 ∧ RB wr g 58 6 f ∧ RB wr (g + 1) 63 6 (fun _ => 0) ∧ RB wr (g + 1 + 1) 63 6 h ∧ Hid (∀ s, s < k → h s = f s) ∧ Below g w wr) (fun i _ => (6 - intOf i).toNat)
  case atStart => exact ⟨0, fun _ => 0, rfl, by omega, a1, a2, a3, Lib.hid (fun s hs => by omega), a4⟩
  case round =>
    clear a1 a2 a3 a4
    obtain ⟨k, h, rfl, hk, h1, h2, h3, hh, hb⟩ := hrel
    by_cases hlt : k < 6
    · have c1 := h1.cell k hlt
      have c2 := h3.cell k hlt
      have c3 := h3.free k
      have b1 := HF.out k
      have T1 : decide ((k : Int) < 6) = true := by simp; omega
      go_wp2_with fail
      refine ⟨⟨k + 1, upd h k (f k), rfl, by omega, h1.other (by omega) _, h2.other (by omega) _, h3.put k hlt _, Lib.hid (fun s hs => ?_), hb.setCell (p := ⟨g + 1 + 1, k, none⟩) (by simp; omega) _⟩, by simp [intOf]; omega⟩
      unfold upd
      by_cases e : s = k
      · rw [if_pos e, e]
      · rw [if_neg e]; exact hh.out s (by omega)
    · obtain rfl : k = 6 := by omega
      have h3' := h3.ext hh.out
      have T1 : decide (((6 : Nat) : Int) < 6) = false := by simp
      clear hh h3 h1
      go_wp2_with (first | (guard_target =~ wpList _ _ _ (⟨_, Op.load 63 _, _, _, _, _⟩ :: _) _ _; refine wpList_load_row rfl 63 _ rfl (g + 1 + 1) rfl _ (TL 6 f).toArray (0, 0) (.array 6 24) (h3') (by kernel_rfl) rfl (by kernel_rfl) ?_) | (guard_target =~ wpList _ _ _ (⟨_, Op.store 63 _ _, _, _, _, _⟩ :: _) _ _; refine wpList_store_row rfl 63 _ _ rfl (g + 1) (TL 6 f).toArray rfl rfl _ _ (h2) (by kernel_rfl) rfl (TL_one _ _) ?_))
      refine bodyPost_ret (v := VV f) ?_ rfl ⟨rfl, by obtain rfl := HG.out; exact Below.setRow hb (Nat.le_succ _) _⟩
      refine results_cell_row rfl _ _ (g + 1) _ _ (0, 0) (.array 6 24) rfl (h2.setRow f) (by kernel_rfl) rfl (by kernel_rfl)

theorem toNimberA6A6_any (f : Nat → Int) (hf : VW f) (w : World) : Calls Tryd.prog 99 #[.agg (TL 36 f).toArray] w fun e w' => e = .returned (.agg (TL 36 f).toArray) ∧ Below w.heap.size w w' := by
  go_enter Tryd.func99, Tryd.ntmps99
  go_wp2_with fail
  obtain ⟨a1, a2, a3, a4, a5⟩ := new3 w (.cells (TL 36 f).toArray 59) (.cells (TL 36 fun _ => 0).toArray 64) (.cells (TL 36 fun _ => 0).toArray 64)
  rw [zero36]
  obtain ⟨g, hg⟩ : ∃ g, g = w.heap.size := ⟨_, rfl⟩
  rw [← hg] at a1 a2 a3 a4 a5 ⊢
  generalize World.alloc (World.alloc (World.alloc w _) _) _ = w2 at a1 a2 a3 a4 a5 ⊢
  have HF := Lib.hid hf
  have HG := Lib.hid hg
  clear hg hf
  go_loopw [4] (fun i wr => ∃ (k : Nat) (h : Nat → Int), i = .int .i64 k ∧ k ≤ 6 ∧ RB wr g 59 36 f ∧ RB wr (g + 1) 64 36 (fun _ => 0) ∧ RB wr (g + 1 + 1) 64 36 h ∧ Hid (∀ s, s < k * 6 → h s = f s) ∧ Hid (Below g w wr ∧ g + 1 + 1 + 1 ≤ wr.heap.size)) (fun i _ => (6 - intOf i).toNat)
  case atStart => exact ⟨0, fun _ => 0, rfl, by omega, a1, a2, a3, Lib.hid (fun s hs => by omega), Lib.hid ⟨a4, by omega⟩⟩
  case round =>
    clear a1 a2 a3 a4 a5
    obtain ⟨k, h, rfl, hk, h1, h2, h3, hh, hb⟩ := hrel
    by_cases hlt : k < 6
    · have T1 : decide ((k : Int) < 6) = true := by simp; omega
      have r1 := h1.sub (k * 6) 6 (by omega)
      go_wp2_with (first | (guard_target =~ wpList _ _ _ (⟨_, Op.load 58 _, _, _, _, _⟩ :: _) _ _; refine wpList_load_mid rfl 58 _ rfl (g) _ rfl (TL 6 fun j => f (k * 6 + j)) (.array 6 22) (r1) (by kernel_rfl) rfl (by kernel_rfl) ?_))
      refine (toNimberA6_any _ (fun t => HF.out _) _).mono ?_
      rintro e wn ⟨rfl, hn⟩
      have hB := hb.out
      have n1 := h1.below hn h1.lt
      have n2 := h2.below hn h2.lt
      have n3 := h3.below hn h3.lt
      have hB2 : Below g w wn := hB.1.trans (hn.mono (by omega))
      have hS := hn.size
      have r3 := n3.there (k * 6) 6 (by omega)
      clear r1 hb h1 h2 h3 hn
      go_wp2_with (first | (guard_target =~ wpList _ _ _ (⟨_, Op.store 63 _ _, _, _, _, _⟩ :: _) _ _; refine wpList_store_mid rfl 63 _ _ rfl (g + 1 + 1) _ (TL 6 fun j => f (k * 6 + j)).toArray rfl rfl (by rw [List.size_toArray, TL_len]; exact r3) (by kernel_rfl) (TL_one _ _) ?_))
      refine ⟨⟨k + 1, puts h (k * 6) 6 (fun j => f (k * 6 + j)), rfl, by omega, n1.setCells_other (by omega) _, n2.setCells_other (by omega) _, RB.puts 6 (k * 6) _ _ _ n3 (by omega), Lib.hid (fun s hs => ?_), Lib.hid ⟨Below.setCells (by omega) _ _ _ hB2, ?_⟩⟩, by simp [intOf]; omega⟩
      · unfold puts
        by_cases e : k * 6 ≤ s ∧ s < k * 6 + 6
        · rw [if_pos e]; show f (k * 6 + (s - k * 6)) = f s; rw [show k * 6 + (s - k * 6) = s from by omega]
        · rw [if_neg e]; exact hh.out s (by omega)
      · have := (Below.setCells (g := g + 1 + 1) (Nat.le_refl _) (TL 6 fun j => f (k * 6 + j)) (k * 6) wn (Below.refl _ wn)).size
        exact Nat.le_trans (Nat.le_trans hB.2 hS) this
    · obtain rfl : k = 6 := by omega
      have h3' := h3.ext hh.out
      have T1 : decide (((6 : Nat) : Int) < 6) = false := by simp
      have hB := hb.out.1
      clear hh h3 h1 hb
      go_wp2_with (first | (guard_target =~ wpList _ _ _ (⟨_, Op.load 64 _, _, _, _, _⟩ :: _) _ _; refine wpList_load_row rfl 64 _ rfl (g + 1 + 1) rfl _ (TL 36 f).toArray (0, 0) (.array 6 63) (h3') (by kernel_rfl) rfl (by kernel_rfl) ?_) | (guard_target =~ wpList _ _ _ (⟨_, Op.store 64 _ _, _, _, _, _⟩ :: _) _ _; refine wpList_store_row rfl 64 _ _ rfl (g + 1) (TL 36 f).toArray rfl rfl _ _ (h2) (by kernel_rfl) rfl (TL_one _ _) ?_))
      refine bodyPost_ret (v := .agg (TL 36 f).toArray) ?_ rfl ⟨rfl, by obtain rfl := HG.out; exact Below.setRow hB (Nat.le_succ _) _⟩
      refine results_cell_row rfl _ _ (g + 1) _ _ (0, 0) (.array 6 63) rfl (h2.setRow f) (by kernel_rfl) rfl (by kernel_rfl)

set_option maxRecDepth 100000 in
theorem toMatrix_any (r c : Int) (f : Nat → Int) (hm : MW r c f) (w : World) : Calls Tryd.prog 52 #[MV r c f] w fun e w' => e = .returned (MV r c f) ∧ Below w.heap.size w w' := by
  go_enter Tryd.func52, Tryd.ntmps52
  go_upto_region 2 with fail
  obtain ⟨a1, a2, a3, a4, a5⟩ := new3 w (.cells (CL r c f).toArray 61) (.cells (CL 0 0 fun _ => 0).toArray 66) (.cells (CL 0 0 fun _ => 0).toArray 66)
  rw [zero38]
  obtain ⟨g, hg⟩ : ∃ g, g = w.heap.size := ⟨_, rfl⟩
  rw [← hg] at a1 a2 a3 a4 a5 ⊢
  generalize World.alloc (World.alloc (World.alloc w _) _) _ = w2 at a1 a2 a3 a4 a5 ⊢
  have HM := Lib.hid hm
  have HG := Lib.hid hg
  replace a1 : MB w2 g 61 r c f := a1
  replace a2 : MB w2 (g + 1) 66 0 0 (fun _ => 0) := a2
  replace a3 : MB w2 (g + 1 + 1) 66 0 0 (fun _ => 0) := a3
  have A4 := Lib.hid a4
  have c0 := a1.rows
  have c1 := a1.cols
  have e0 := a3.rows
  have e1 := a3.cols
  have f0 := a3.free 0
  have f1 := a3.free 1
  clear hg hm a4
  go_upto_region 4 with fail
  have b1 := (a1.other (b := g + 1 + 1) (o := 0) (by omega) (.int .i8 r)).other (b := g + 1 + 1) (o := 1) (by omega) (.int .i8 c)
  have b2 := (a2.other (b := g + 1 + 1) (o := 0) (by omega) (.int .i8 r)).other (b := g + 1 + 1) (o := 1) (by omega) (.int .i8 c)
  have b3 := (a3.putR r).putC c
  have b4 := (A4.out.setCell (p := ⟨g + 1 + 1, 0, none⟩) (by simp; omega) (.int .i8 r)).setCell (p := ⟨g + 1 + 1, 1, none⟩) (by simp; omega) (.int .i8 c)
  have b5 : g + 1 + 1 + 1 ≤ ((w2.setCell ⟨g + 1 + 1, 0, none⟩ (.int .i8 r)).setCell ⟨g + 1 + 1, 1, none⟩ (.int .i8 c)).heap.size := Nat.le_trans (by omega) (((Below.refl 0 w2).setCell (p := ⟨g + 1 + 1, 0, none⟩) (Nat.zero_le _) (.int .i8 r)).setCell (p := ⟨g + 1 + 1, 1, none⟩) (Nat.zero_le _) (.int .i8 c)).size
  generalize ((w2.setCell ⟨g + 1 + 1, 0, none⟩ (.int .i8 r)).setCell ⟨g + 1 + 1, 1, none⟩ (.int .i8 c)) = w3 at b1 b2 b3 b4 b5 ⊢
  clear c0 c1 e0 e1 f0 f1 a1 a2 a3 a5 A4
  have B4 := Lib.hid b4
  have r1 := b1.grid
  clear b4
  go_wp2_with (first | (guard_target =~ wpList _ _ _ (⟨_, Op.load 59 _, _, _, _, _⟩ :: _) _ _; refine wpList_load_mid rfl 59 _ rfl (g) _ rfl (TL 36 f) (.array 6 58) (r1) (by kernel_rfl) rfl (by kernel_rfl) ?_))
  refine (toNimberA6A6_any f HM.out.2.2.2.2 _).mono ?_
  rintro e wn ⟨rfl, hn⟩
  have n2 := b2.below hn b2.lt
  have n3 := b3.below hn b3.lt
  have B5 := Lib.hid (B4.out.trans (hn.mono (show g ≤ w3.heap.size by omega)))
  have r3 := n3.there 2 36 (by omega)
  clear r1 hn b1 b2 b3 B4
  go_upto_region 5 with (first | (guard_target =~ wpList _ _ _ (⟨_, Op.store 64 _ _, _, _, _, _⟩ :: _) _ _; refine wpList_store_mid rfl 64 _ _ rfl (g + 1 + 1) _ (TL 36 f).toArray rfl rfl (by rw [List.size_toArray, TL_len]; exact r3) (by kernel_rfl) (TL_one _ _) ?_))
  have m2 := n2.setCells_other (b := g + 1 + 1) (o := 2) (by omega) (TL 36 f)
  have m3 := (MB.puts 36 0 f _ _ n3 (by omega)).ext (f' := f) (fun s hs => by unfold puts; rw [if_pos (by omega)]; rfl)
  have B6 := Lib.hid (Below.setCells (g := g + 1 + 1) (B := g) (by omega) (TL 36 f) 2 _ B5.out)
  clear n2 n3 B5 r3
  replace m3 : MB (wn.setCells (g + 1 + 1) 2 (TL 36 f)) (g + 1 + 1) 66 r c f := m3
  generalize wn.setCells (g + 1 + 1) 2 (TL 36 f) = w4 at m2 m3 B6 ⊢
  go_wp2_with (first | (guard_target =~ wpList _ _ _ (⟨_, Op.load 66 _, _, _, _, _⟩ :: _) _ _; refine wpList_load_row rfl 66 _ rfl (g + 1 + 1) rfl _ (CL r c f).toArray (0, 0) _ (m3) Tryd.underlying66 rfl (by kernel_rfl) ?_) | (guard_target =~ wpList _ _ _ (⟨_, Op.store 66 _ _, _, _, _, _⟩ :: _) _ _; refine wpList_store_row rfl 66 _ _ rfl (g + 1) (CL r c f).toArray rfl rfl _ _ (m2) (by kernel_rfl) rfl (CL_one _ _ _) ?_))
  refine bodyPost_ret (v := MV r c f) ?_ rfl ⟨rfl, by obtain rfl := HG.out; exact Below.setRow B6.out (Nat.le_succ _) _⟩
  refine results_cell_row rfl _ _ (g + 1) _ _ (0, 0) _ rfl (m2.setRow f) Tryd.underlying66 rfl (by kernel_rfl)
end Go.Proofs.YtklddmmbbaaliaaDoor
