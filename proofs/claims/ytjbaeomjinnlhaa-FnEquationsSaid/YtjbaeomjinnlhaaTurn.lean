/-
  Rows and columns exchanged.
-/
import Derived.Test.YtjbaeomjinnlhaaOk2
import Derived.Deep.RegionHeld
namespace Go.Proofs.Ytjbaeomjinnlhaa
set_option linter.unusedVariables false
set_option linter.unusedSimpArgs false
open Go.ChangeShapes Go.WideShapes Go.ChangeAt Go.RowKit

def turnF (f : Nat → Int) : Nat → Int := fun s => f (s % 6 * 6 + s / 6)
def turnV (r c : Int) (f : Nat → Int) : Value := if okB r c f then .tuple #[MV c r (turnF f), .int .i64 0] else .tuple #[MV 0 0 (fun _ => 0), .int .i64 1]
/-- the cells that come of the first n -/
def turnN (n : Nat) (f : Nat → Int) : Nat → Int := fun s => if s % 6 * 6 + s / 6 < n then turnF f s else 0
theorem turnN_zero (f : Nat → Int) : turnN 0 f = fun _ => 0 := by funext s; unfold turnN; rw [if_neg (by omega)]
theorem turnN_all (f : Nat → Int) : ∀ s, s < 36 → turnN 36 f s = turnF f s := fun s h => by unfold turnN; rw [if_pos (by omega)]
theorem turnN_step (f : Nat → Int) (i k : Nat) (hi : i < 6) (hk : k < 6) : ∀ s, s < 36 → upd (turnN (i * 6 + k) f) (k * 6 + i) (f (i * 6 + k)) s = turnN (i * 6 + (k + 1)) f s := fun s hs => by
  unfold upd turnN turnF
  by_cases e : s = k * 6 + i
  · rw [if_pos e, if_pos (by omega)]
    congr 1; omega
  · rw [if_neg e]
    by_cases h : s % 6 * 6 + s / 6 < i * 6 + k
    · rw [if_pos h, if_pos (by omega)]
    · rw [if_neg h, if_neg (by omega)]
theorem turnF_b {f : Nat → Int} (h : VW f) : VW (turnF f) := fun t => h _
theorem turnV_form (r c : Int) (f : Nat → Int) (hm : MW r c f) : ∃ R C F k, turnV r c f = .tuple #[MV R C F, .int .i64 k] ∧ MW R C F := by
  unfold turnV
  split
  · exact ⟨_, _, _, _, rfl, hm.2.2.1, hm.2.2.2.1, hm.1, hm.2.1, turnF_b hm.2.2.2.2⟩
  · exact ⟨_, _, _, _, rfl, by omega, by omega, by omega, by omega, fun _ => ⟨Int.le_refl 0, show (0 : Int) < 65536 by decide⟩⟩
theorem MB.put2 {w : World} {g : Nat} {t : TypeId} {r c : Int} {f : Nat → Int} (h : MB w g t r c f) (i k : Nat) (hi : i < 6) (hk : k < 6) (v : Int) : MB (w.setCell ⟨g, 2 + i * 6 + k, none⟩ (.int .u16 v)) g t r c (upd f (i * 6 + k) v) := by
  rw [Nat.add_assoc]; exact h.put _ (by omega) v
set_option maxRecDepth 100000 in
set_option maxHeartbeats 1000000 in
theorem spec_l02Turn (r c : Int) (f : Nat → Int) (hm : MW r c f) (g : Nat) (w : World) (hM : MB w g 33 r c f) : Calls Try.prog 112 #[.pointer (some ⟨g, 0, none⟩)] w fun e w' => e = .returned (MV c r (turnF f)) ∧ Below w.heap.size w w' := by
  have hlt := hM.lt
  go_enter Try.func112, Try.ntmps112
  go_upto_region 1 with fail
  obtain ⟨a2, a4, a5⟩ := new1 w (.cells (CL 0 0 fun _ => 0).toArray 33)
  have a1 := hM.alloc (.cells (CL 0 0 fun _ => 0).toArray 33)
  rw [zero38]
  obtain ⟨h, hh⟩ : ∃ h, h = w.heap.size := ⟨_, rfl⟩
  rw [← hh] at a2 a4 a5 hlt ⊢
  generalize World.alloc w _ = w2 at a1 a2 a4 a5 ⊢
  replace a2 : MB w2 h 33 0 0 (fun _ => 0) := a2
  have HG := Lib.hid hh
  have c0 := a1.rows
  have c1 := a1.cols
  clear hh hM
  have A5 := Lib.hid a5
  clear a5 c0 c1
  refine wp_region_held_drew (S := (fun w => MB w g 33 r c f)) (by kernel_rfl) ?hS0 (fun hS => ?_)
  case hS0 => exact a1
  have c0 := a1.rows
  refine takeH (i := 0) (v := ?v0) rfl rfl (by kernel_rfl) (by kernel_rfl) (by kernel_rfl) (fun _ _ _ h => h) rfl ?hy0 hS ?rs0
  case hy0 => (intro wq hq; go_simp; try (with_reducible rfl))
  simp only [Act.put, List.setIfInBounds_toArray, List.set_cons_zero, List.set_cons_succ]
  refine takeH (i := 1) (v := ?v1) rfl rfl (by kernel_rfl) (by kernel_rfl) (by kernel_rfl) (fun _ _ _ h => h) rfl ?hy1 hS ?rs1
  case hy1 => (intro wq hq; go_simp; try (with_reducible rfl))
  simp only [Act.put, List.setIfInBounds_toArray, List.set_cons_zero, List.set_cons_succ]
  refine takeH (i := 2) (v := ?v2) rfl rfl (by kernel_rfl) (by kernel_rfl) (by kernel_rfl) (fun _ _ _ h => h) rfl ?hy2 hS ?rs2
  case hy2 => (intro wq hq; go_simp; try (with_reducible rfl))
  simp only [Act.put, List.setIfInBounds_toArray, List.set_cons_zero, List.set_cons_succ]
  refine takeH (i := 3) (v := ?v3) rfl rfl (by kernel_rfl) (by kernel_rfl) (by kernel_rfl) (fun _ _ _ h => h) rfl ?hy3 hS ?rs3
  case hy3 => (intro wq hq; have q1 := MB.cols hq; clear hq; go_simp; try (with_reducible rfl))
  simp only [Act.put, List.setIfInBounds_toArray, List.set_cons_zero, List.set_cons_succ]
  refine takeH (i := 4) (v := ?v4) rfl rfl (by kernel_rfl) (by kernel_rfl) (by kernel_rfl) (fun _ _ _ h => h) rfl ?hy4 hS ?rs4
  case hy4 => (intro wq hq; go_simp; try (with_reducible rfl))
  simp only [Act.put, List.setIfInBounds_toArray, List.set_cons_zero, List.set_cons_succ]
  refine takeH (i := 5) (v := ?v5) rfl rfl (by kernel_rfl) (by kernel_rfl) (by kernel_rfl) (fun _ _ _ h => h) rfl ?hy5 hS ?rs5
  case hy5 => (intro wq hq; go_simp; try (with_reducible rfl))
  simp only [Act.put, List.setIfInBounds_toArray, List.set_cons_zero, List.set_cons_succ]
  refine takeH (i := 6) (v := ?v6) rfl rfl (by kernel_rfl) (by kernel_rfl) (by kernel_rfl) (fun _ _ _ h => h) rfl ?hy6 hS ?rs6
  case hy6 => (intro wq hq; go_simp; try (with_reducible rfl))
  simp only [Act.put, List.setIfInBounds_toArray, List.set_cons_zero, List.set_cons_succ]
  refine takeH (i := 7) (v := ?v7) rfl rfl (by kernel_rfl) (by kernel_rfl) (by kernel_rfl) (fun _ _ _ h => h) rfl ?hy7 hS ?rs7
  case hy7 => (intro wq hq; have q1 := MB.rows hq; clear hq; go_simp; try (with_reducible rfl))
  simp only [Act.put, List.setIfInBounds_toArray, List.set_cons_zero, List.set_cons_succ]
  refine takeH (i := 8) (v := MV c r fun _ => 0) rfl rfl (by kernel_rfl) (by kernel_rfl) (by kernel_rfl) (fun _ _ _ h => h) rfl ?hy8 hS ?rs8
  case hy8 => exact fun wq _ => exec_build2 33 _ _ rfl c r rfl rfl (fun _ _ => by kernel_rfl) wq
  simp only [Act.put, List.setIfInBounds_toArray, List.set_cons_zero, List.set_cons_succ]
  refine wpAnyH_ready (rs := [9]) (by kernel_rfl) (by simp) ?_
  refine AllReadyH.cons rfl (fun K hK => ?_) AllReadyH.nil
  go_simp
  rw [zero38]
  have b1 : MB (w2.alloc (.cells (CL 0 0 fun _ => 0).toArray 33)).drew g 33 r c f := a1.alloc _
  have b2 : MB (w2.alloc (.cells (CL 0 0 fun _ => 0).toArray 33)).drew h 33 0 0 (fun _ => 0) := a2.alloc _
  have b3 : MB (w2.alloc (.cells (CL 0 0 fun _ => 0).toArray 33)).drew w2.heap.size 33 0 0 (fun _ => 0) := heap_alloc_last w2 (.cells (CL 0 0 fun _ => 0).toArray 33)
  have b4 := (a4.alloc (show h ≤ w2.heap.size by have := A5.out; omega) (.cells (CL 0 0 fun _ => 0).toArray 33)).drew
  rw [A5.out] at b3
  rw [A5.out]
  generalize (w2.alloc (.cells (CL 0 0 fun _ => 0).toArray 33)).drew = w3 at b1 b2 b3 b4 hK ⊢
  clear a1 a2 a4 hS c0 A5
  refine hK.out _ _ b1 (fun hS => ?_)
  clear hK
  refine wpAnyH_ready (rs := [10]) (by kernel_rfl) (by simp) ?_
  refine AllReadyH.cons rfl (fun K hK => ?_) AllReadyH.nil
  rw [if_pos (by rfl)]
  refine wp_store_row 33 _ _ rfl (h + 1) (CL c r fun _ => 0).toArray rfl rfl _ _ b3 (by kernel_rfl) (by rw [CL_size, CL_size]) (CL_one _ _ _) ?_
  refine hK.out _ _ (b1.setRow_other (by omega) _) (fun hS => ?_)
  clear hK
  refine wpAnyH_done (by kernel_rfl) ?_ _
  have d1 := b1.setRow_other (b := h + 1) (by omega) (CL c r fun _ => 0).toArray
  have d2 := b2.setRow_other (b := h + 1) (by omega) (CL c r fun _ => 0).toArray
  have d3 := b3.setRow (r' := c) (c' := r) (fun _ => 0)
  have d4 := Below.setRow b4 (Nat.le_succ h) (CL c r fun _ => 0).toArray
  generalize w3.setRow (h + 1) (CL c r fun _ => 0).toArray = w4 at d1 d2 d3 d4 ⊢
  clear hS b1 b2 b3 b4
  go_wp2_with fail
  go_loopw [4] (fun p wr => ∃ (i : Nat), p = .int .i64 i ∧ i ≤ 6 ∧ MB wr g 33 r c f ∧ MB wr h 33 0 0 (fun _ => 0) ∧ MB wr (h + 1) 33 c r (turnN (i * 6) f) ∧ Hid (Below h w wr)) (fun p _ => (6 - intOf p).toNat)
  case atStart => exact ⟨0, rfl, by omega, d1, d2, d3.ext (fun s _ => by rw [Nat.zero_mul, turnN_zero]), Lib.hid d4⟩
  case round =>
    clear d1 d2 d3 d4
    obtain ⟨i, rfl, hi, m1, m2, m3, hb⟩ := hrel
    by_cases hlt6 : i < 6
    · have T1 : decide ((i : Int) < 6) = true := by simp; omega
      go_wp2_with fail
      go_loopw [5] (fun p wr => ∃ (k : Nat), p = .int .i64 k ∧ k ≤ 6 ∧ MB wr g 33 r c f ∧ MB wr h 33 0 0 (fun _ => 0) ∧ MB wr (h + 1) 33 c r (turnN (i * 6 + k) f) ∧ Hid (Below h w wr)) (fun p _ => (6 - intOf p).toNat)
      case atStart => exact ⟨0, rfl, by omega, m1, m2, m3, hb⟩
      case round =>
        clear m1 m2 m3 hb
        obtain ⟨k, rfl, hk, m1, m2, m3, hb⟩ := hrel
        by_cases hlk : k < 6
        · have T2 : decide ((k : Int) < 6) = true := by simp; omega
          have c1 := m1.cell2 i k hlt6 hlk
          have c3 := m3.cell2 k i hlk hlt6
          have f3 := m3.free (2 + k * 6 + i)
          have i1 : (i : Int) < 6 := by omega
          have k1 : (k : Int) < 6 := by omega
          have M1 := Lib.hid m1; have M2 := Lib.hid m2; have M3 := Lib.hid m3
          clear m1 m2 m3
          go_wp2_with fail
          go_still_tail 13, (by kernel_rfl)
          change wpList _ _ _ _ _ wr.drew
          go_wp2_with fail
          exact ⟨⟨k + 1, rfl, by omega, M1.out.other (by omega) _, M2.out.other (by omega) _, (M3.out.put2 k i hlk hlt6 _).ext (turnN_step f i k hlt6 hlk), Lib.hid (hb.out.setCell (p := ⟨h + 1, 2 + k * 6 + i, none⟩) (by simp) _).drew⟩, by simp [intOf]; omega⟩
        · obtain rfl : k = 6 := by omega
          have T2 : decide (((6 : Nat) : Int) < 6) = false := by simp
          go_wp2_with fail
          exact ⟨⟨i + 1, rfl, by omega, m1, m2, m3.ext (fun s _ => by rw [show (i + 1) * 6 = i * 6 + 6 from by omega]), hb⟩, by simp [intOf]; omega⟩
    · obtain rfl : i = 6 := by omega
      have T1 : decide (((6 : Nat) : Int) < 6) = false := by simp
      have m3' := m3.ext (turnN_all f)
      clear m3 m1
      go_wp2_with (first | (guard_target =~ wpList _ _ _ (⟨_, Op.load 33 (Operand.tmp 3), _, _, _, _⟩ :: _) _ _; refine wpList_load_row rfl 33 _ rfl (h + 1) rfl _ (CL c r (turnF f)).toArray (0, 0) _ m3' Try.underlying33 rfl (by kernel_rfl) ?_) | (guard_target =~ wpList _ _ _ (⟨_, Op.store 33 (Operand.tmp 2) _, _, _, _, _⟩ :: _) _ _; refine wpList_store_row rfl 33 _ _ rfl (h) (CL c r (turnF f)).toArray rfl rfl _ _ m2 (by kernel_rfl) rfl (CL_one _ _ _) ?_))
      refine bodyPost_ret (v := MV c r (turnF f)) ?_ rfl ⟨rfl, by obtain rfl := HG.out; exact Below.setRow hb.out (Nat.le_refl _) _⟩
      exact results_cell_row rfl _ _ h _ _ (0, 0) _ rfl (m2.setRow (turnF f)) Try.underlying33 rfl (by kernel_rfl)

set_option maxRecDepth 100000 in
set_option maxHeartbeats 1000000 in
theorem spec_TurnMatrix (r c : Int) (f : Nat → Int) (hm : MW r c f) (w : World) : Calls Try.prog 40 #[MV r c f] w fun e w' => e = .returned (turnV r c f) ∧ Below w.heap.size w w' := by
  go_enter Try.func40, Try.ntmps40
  go_upto_region 1 with fail
  obtain ⟨a1, a2, a4, a5⟩ := new2 w (.cells (CL r c f).toArray 33) (.cells (CL 0 0 fun _ => 0).toArray 33)
  rw [zero38]
  obtain ⟨g, hg⟩ : ∃ g, g = w.heap.size := ⟨_, rfl⟩
  rw [← hg] at a1 a2 a4 a5 ⊢
  generalize World.alloc (World.alloc w _) _ = w2 at a1 a2 a4 a5 ⊢
  replace a1 : MB w2 g 33 r c f := a1
  replace a2 : MB w2 (g + 1) 33 0 0 (fun _ => 0) := a2
  have HG := Lib.hid hg
  clear hg
  go_wp2_with fail
  refine (l02Ok_any r c f hm g _ _ a1).mono ?_
  rintro e wn ⟨rfl, rfl⟩
  rcases hok : okB r c f with _ | _
  · have hV : turnV r c f = .tuple #[MV 0 0 (fun _ => 0), .int .i64 1] := by unfold turnV; rw [hok]; rfl
    have HV := Lib.hid hV
    clear hok hV
    go_wp2_with (first | (guard_target =~ wpList _ _ _ (⟨_, Op.build 33 _, _, _, _, _⟩ :: _) _ _; refine wpList_build0 rfl 33 rfl (CL 0 0 fun _ => 0).toArray (by kernel_rfl) ?_) | (guard_target =~ wpList _ _ _ (⟨_, Op.store 33 (Operand.tmp 2) _, _, _, _, _⟩ :: _) _ _; refine wpList_store_row rfl 33 _ _ rfl (g + 1) (CL 0 0 fun _ => 0).toArray rfl rfl _ _ a2 (by kernel_rfl) rfl (CL_one _ _ _) ?_))
    refine bodyPost_ret (v := .tuple #[MV 0 0 (fun _ => 0), .int .i64 1]) ?_ rfl ⟨congrArg Ending.returned HV.out.symm, by obtain rfl := HG.out; exact Below.setRow a4 (Nat.le_succ _) _⟩
    exact results_cell_tmp2 rfl _ _ (g + 1) _ _ (0, 0) _ _ rfl rfl (a2.setRow _) Try.underlying33 rfl (by kernel_rfl)
  · have hV : turnV r c f = .tuple #[MV c r (turnF f), .int .i64 0] := by unfold turnV; rw [hok]; rfl
    have HV := Lib.hid hV
    clear hok hV
    go_wp2_with fail
    refine (spec_l02Turn r c f hm g _ a1).mono ?_
    rintro e wm ⟨rfl, hn⟩
    replace a2 := a2.below hn a2.lt
    replace a4 := bnext a4 hn (by omega)
    clear hn a1
    go_wp2_with (first | (guard_target =~ wpList _ _ _ (⟨_, Op.store 33 (Operand.tmp 2) _, _, _, _, _⟩ :: _) _ _; refine wpList_store_row rfl 33 _ _ rfl (g + 1) (CL c r (turnF f)).toArray rfl rfl _ _ a2 (by kernel_rfl) rfl (CL_one _ _ _) ?_))
    refine bodyPost_ret (v := .tuple #[MV c r (turnF f), .int .i64 0]) ?_ rfl ⟨congrArg Ending.returned HV.out.symm, by obtain rfl := HG.out; exact Below.setRow a4 (Nat.le_succ _) _⟩
    exact results_cell_tmp2 rfl _ _ (g + 1) _ _ (0, 0) _ _ rfl rfl (a2.setRow _) Try.underlying33 rfl (by kernel_rfl)

set_option maxRecDepth 100000 in
set_option maxHeartbeats 1000000 in
theorem impl_turned (r c : Int) (f : Nat → Int) (hm : MW r c f) (w : World) : Calls Try.prog 113 #[MV r c f] w fun e w' => e = .returned (MV c r (turnF f)) ∧ Below w.heap.size w w' := by
  go_enter Try.func113, Try.ntmps113
  go_upto_region 1 with fail
  obtain ⟨a1, a2, a4, a5⟩ := new2 w (.cells (CL r c f).toArray 33) (.cells (CL 0 0 fun _ => 0).toArray 33)
  rw [zero38]
  obtain ⟨g, hg⟩ : ∃ g, g = w.heap.size := ⟨_, rfl⟩
  rw [← hg] at a1 a2 a4 a5 ⊢
  generalize World.alloc (World.alloc w _) _ = w2 at a1 a2 a4 a5 ⊢
  replace a1 : MB w2 g 33 r c f := a1
  replace a2 : MB w2 (g + 1) 33 0 0 (fun _ => 0) := a2
  have HG := Lib.hid hg
  have A5 := Lib.hid a5
  have c0 := a1.rows
  have c1 := a1.cols
  clear hg a5
  go_upto_region 2 with (first | (guard_target =~ wpList _ _ _ (⟨_, Op.build 33 _, _, _, _, _⟩ :: _) _ _; refine wpList_build2 rfl 33 _ _ rfl (c) (r) rfl rfl (fun _ _ => by kernel_rfl) ?_) | (guard_target =~ wpList _ _ _ (⟨_, Op.store 33 _ _, _, _, _, _⟩ :: _) _ _; refine wpList_store_fresh (cells := (CL c r fun _ => 0).toArray) rfl 33 _ _ rfl rfl rfl (by kernel_rfl) (by rw [CL_size]; rfl) (CL_one _ _ _) ?_))
  have b1 := a1.alloc (.cells (CL c r fun _ => 0).toArray 33)
  have b2 := a2.alloc (.cells (CL c r fun _ => 0).toArray 33)
  have b3 : MB (w2.alloc (.cells (CL c r fun _ => 0).toArray 33)) w2.heap.size 33 c r (fun _ => 0) := heap_alloc_last _ _
  have b4 := a4.alloc (show g ≤ w2.heap.size by have := A5.out; omega) (.cells (CL c r fun _ => 0).toArray 33)
  have b5 : (w2.alloc (.cells (CL c r fun _ => 0).toArray 33)).heap.size = g + 1 + 1 + 1 := by rw [World.size_alloc, A5.out]
  rw [A5.out] at b3
  rw [A5.out]
  generalize w2.alloc (.cells (CL c r fun _ => 0).toArray 33) = w3 at b1 b2 b3 b4 b5 ⊢
  clear a1 a2 a4 c0 c1 A5
  have r1 := b1.grid
  go_upto_region 3 with (first | (guard_target =~ wpList _ _ _ (⟨_, Op.load 31 (Operand.tmp 13), _, _, _, _⟩ :: _) _ _; refine wpList_load_mid rfl 31 _ rfl (g) _ rfl (TL 36 f) (.array 6 30) (r1) (by kernel_rfl) rfl (by kernel_rfl) ?_))
  go_loopw [15] (fun p wr => ∃ (i : Nat), p = .int .i64 i ∧ i ≤ 6 ∧ MB wr (g + 1) 33 0 0 (fun _ => 0) ∧ MB wr (g + 1 + 1) 33 c r (turnN (i * 6) f) ∧ Hid (Below g w wr)) (fun p _ => (6 - intOf p).toNat)
  case atStart => exact ⟨0, rfl, by omega, b2, b3.ext (fun s _ => by rw [Nat.zero_mul, turnN_zero]), Lib.hid b4⟩
  case round =>
    clear b1 b2 b3 b4 b5 r1
    obtain ⟨i, rfl, hi, m2, m3, hb⟩ := hrel
    by_cases hlt6 : i < 6
    · have T1 : decide ((i : Int) < 6) = true := by simp; omega
      have i1 : (i : Int) < 6 := by omega
      go_upto_region 5 with (first | (guard_target =~ wpList _ _ _ (⟨_, Op.index 31 _ _, _, _, _, _⟩ :: _) _ _; refine wpList_index_row rfl 31 _ _ rfl f i rfl rfl hlt6 (r := 30) (e := 29) (by kernel_rfl) (by kernel_rfl) (by kernel_rfl) ?_) | (guard_target =~ wpList _ _ _ (⟨_, Op.store 30 _ _, _, _, _, _⟩ :: _) _ _; refine wpList_store_fresh (cells := (TL 6 fun k => f (i * 6 + k)).toArray) rfl 30 _ _ rfl rfl rfl (by kernel_rfl) rfl (TL_one _ _) ?_))
      have e2 := m2.alloc (.cells (TL 6 fun k => f (i * 6 + k)).toArray 30)
      have e3 := m3.alloc (.cells (TL 6 fun k => f (i * 6 + k)).toArray 30)
      have e4 : RB (wr.alloc (.cells (TL 6 fun k => f (i * 6 + k)).toArray 30)) wr.heap.size 30 6 (fun k => f (i * 6 + k)) := heap_alloc_last _ _
      have e5 := Lib.hid (hb.out.alloc (show g ≤ wr.heap.size by have := m2.lt; omega) (.cells (TL 6 fun k => f (i * 6 + k)).toArray 30))
      obtain ⟨g4, hg4⟩ : ∃ g4, g4 = wr.heap.size := ⟨_, rfl⟩
      have hlt4 : g + 1 + 1 < g4 := by rw [hg4]; exact m3.lt
      rw [← hg4] at e4 ⊢
      generalize wr.alloc (.cells (TL 6 fun k => f (i * 6 + k)).toArray 30) = w5 at e2 e3 e4 e5 ⊢
      clear m2 m3 hb hg4
      go_upto_region 6 with (first | (guard_target =~ wpList _ _ _ (⟨_, Op.load 30 (Operand.tmp 5), _, _, _, _⟩ :: _) _ _; refine wpList_load_row rfl 30 _ rfl (g4) rfl _ (TL 6 fun k => f (i * 6 + k)).toArray (0, 0) (.array 6 29) (e4) (by kernel_rfl) rfl (by kernel_rfl) ?_))
      go_loopw [20] (fun p wr => ∃ (k : Nat), p = .int .i64 k ∧ k ≤ 6 ∧ MB wr (g + 1) 33 0 0 (fun _ => 0) ∧ MB wr (g + 1 + 1) 33 c r (turnN (i * 6 + k) f) ∧ Hid (Below g w wr)) (fun p _ => (6 - intOf p).toNat)
      case atStart => exact ⟨0, rfl, by omega, e2, e3, e5⟩
      case round =>
        clear e2 e3 e4 e5
        obtain ⟨k, rfl, hk, m2, m3, hb⟩ := hrel
        by_cases hlk : k < 6
        · have T2 : decide ((k : Int) < 6) = true := by simp; omega
          have c3 := m3.cell2 k i hlk hlt6
          have f3 := m3.free (2 + k * 6 + i)
          have k1 : (k : Int) < 6 := by omega
          have M2 := Lib.hid m2; have M3 := Lib.hid m3
          clear m2 m3
          go_wp2_with (first | (guard_target =~ wpList _ _ _ (⟨_, Op.index 30 _ _, _, _, _, _⟩ :: _) _ _; refine wpList_index_cell rfl 30 _ _ rfl (fun k => f (i * 6 + k)) k rfl rfl hlk (e := 29) (by kernel_rfl) (by kernel_rfl) (by kernel_rfl) ?_))
          exact ⟨⟨k + 1, rfl, by omega, M2.out.other (by omega) _, (M3.out.put2 k i hlk hlt6 _).ext (turnN_step f i k hlt6 hlk), Lib.hid (hb.out.setCell (p := ⟨g + 1 + 1, 2 + k * 6 + i, none⟩) (by simp; omega) _)⟩, by simp [intOf]; omega⟩
        · obtain rfl : k = 6 := by omega
          have T2 : decide (((6 : Nat) : Int) < 6) = false := by simp
          go_wp2_with fail
          exact ⟨⟨i + 1, rfl, by omega, m2, m3.ext (fun s _ => by rw [show (i + 1) * 6 = i * 6 + 6 from by omega]), hb⟩, by simp [intOf]; omega⟩
    · obtain rfl : i = 6 := by omega
      have T1 : decide (((6 : Nat) : Int) < 6) = false := by simp
      have m3' := m3.ext (turnN_all f)
      clear m3
      go_wp2_with (first | (guard_target =~ wpList _ _ _ (⟨_, Op.load 33 (Operand.tmp 3), _, _, _, _⟩ :: _) _ _; refine wpList_load_row rfl 33 _ rfl (g + 1 + 1) rfl _ (CL c r (turnF f)).toArray (0, 0) _ m3' Try.underlying33 rfl (by kernel_rfl) ?_) | (guard_target =~ wpList _ _ _ (⟨_, Op.store 33 (Operand.tmp 2) _, _, _, _, _⟩ :: _) _ _; refine wpList_store_row rfl 33 _ _ rfl (g + 1) (CL c r (turnF f)).toArray rfl rfl _ _ m2 (by kernel_rfl) rfl (CL_one _ _ _) ?_))
      refine bodyPost_ret (v := MV c r (turnF f)) ?_ rfl ⟨rfl, by obtain rfl := HG.out; exact Below.setRow hb.out (Nat.le_succ _) _⟩
      exact results_cell_row rfl _ _ (g + 1) _ _ (0, 0) _ rfl (m2.setRow (turnF f)) Try.underlying33 rfl (by kernel_rfl)

set_option maxRecDepth 100000 in
set_option maxHeartbeats 1000000 in
theorem impl_TurnMatrix (r c : Int) (f : Nat → Int) (hm : MW r c f) (w : World) : Calls Try.prog 41 #[MV r c f] w fun e w' => e = .returned (turnV r c f) ∧ Below w.heap.size w w' := by
  go_enter Try.func41, Try.ntmps41
  go_upto_region 1 with fail
  obtain ⟨a1, a2, a4, a5⟩ := new2 w (.cells (CL r c f).toArray 33) (.cells (CL 0 0 fun _ => 0).toArray 33)
  rw [zero38]
  obtain ⟨g, hg⟩ : ∃ g, g = w.heap.size := ⟨_, rfl⟩
  rw [← hg] at a1 a2 a4 a5 ⊢
  generalize World.alloc (World.alloc w _) _ = w2 at a1 a2 a4 a5 ⊢
  replace a1 : MB w2 g 33 r c f := a1
  replace a2 : MB w2 (g + 1) 33 0 0 (fun _ => 0) := a2
  have HG := Lib.hid hg
  clear hg
  go_wp2_with (first | (guard_target =~ wpList _ _ _ (⟨_, Op.load 33 (Operand.tmp 1), _, _, _, _⟩ :: _) _ _; refine wpList_load_row rfl 33 _ rfl (g) rfl _ (CL r c f).toArray (0, 0) _ a1 Try.underlying33 rfl (by kernel_rfl) ?_))
  refine (impl_ValidMatrix r c f hm _).mono ?_
  rintro e wn ⟨rfl, hn⟩
  replace a1 := a1.below hn a1.lt
  replace a2 := a2.below hn a2.lt
  replace a4 := bnext a4 hn (by omega)
  have a6 : g + 1 + 1 ≤ wn.heap.size := by have := hn.size; omega
  clear hn a5
  rcases hok : okB r c f with _ | _
  · have hV : turnV r c f = .tuple #[MV 0 0 (fun _ => 0), .int .i64 1] := by unfold turnV; rw [hok]; rfl
    have HV := Lib.hid hV
    clear hok hV
    go_wp2_with (first | (guard_target =~ wpList _ _ _ (⟨_, Op.build 33 _, _, _, _, _⟩ :: _) _ _; refine wpList_build0 rfl 33 rfl (CL 0 0 fun _ => 0).toArray (by kernel_rfl) ?_) | (guard_target =~ wpList _ _ _ (⟨_, Op.store 33 (Operand.tmp 2) _, _, _, _, _⟩ :: _) _ _; refine wpList_store_row rfl 33 _ _ rfl (g + 1) (CL 0 0 fun _ => 0).toArray rfl rfl _ _ a2 (by kernel_rfl) rfl (CL_one _ _ _) ?_))
    refine bodyPost_ret (v := .tuple #[MV 0 0 (fun _ => 0), .int .i64 1]) ?_ rfl ⟨congrArg Ending.returned HV.out.symm, by obtain rfl := HG.out; exact Below.setRow a4 (Nat.le_succ _) _⟩
    exact results_cell_tmp2 rfl _ _ (g + 1) _ _ (0, 0) _ _ rfl rfl (a2.setRow _) Try.underlying33 rfl (by kernel_rfl)
  · have hV : turnV r c f = .tuple #[MV c r (turnF f), .int .i64 0] := by unfold turnV; rw [hok]; rfl
    have HV := Lib.hid hV
    clear hok hV
    go_wp2_with (first | (guard_target =~ wpList _ _ _ (⟨_, Op.load 33 (Operand.tmp 1), _, _, _, _⟩ :: _) _ _; refine wpList_load_row rfl 33 _ rfl (g) rfl _ (CL r c f).toArray (0, 0) _ a1 Try.underlying33 rfl (by kernel_rfl) ?_))
    refine (impl_turned r c f hm _).mono ?_
    rintro e wm ⟨rfl, hn⟩
    replace a2 := a2.below hn a2.lt
    replace a4 := bnext a4 hn (by omega)
    clear hn a1
    go_wp2_with (first | (guard_target =~ wpList _ _ _ (⟨_, Op.store 33 (Operand.tmp 2) _, _, _, _, _⟩ :: _) _ _; refine wpList_store_row rfl 33 _ _ rfl (g + 1) (CL c r (turnF f)).toArray rfl rfl _ _ a2 (by kernel_rfl) rfl (CL_one _ _ _) ?_))
    refine bodyPost_ret (v := .tuple #[MV c r (turnF f), .int .i64 0]) ?_ rfl ⟨congrArg Ending.returned HV.out.symm, by obtain rfl := HG.out; exact Below.setRow a4 (Nat.le_succ _) _⟩
    exact results_cell_tmp2 rfl _ _ (g + 1) _ _ (0, 0) _ _ rfl rfl (a2.setRow _) Try.underlying33 rfl (by kernel_rfl)
end Go.Proofs.Ytjbaeomjinnlhaa
