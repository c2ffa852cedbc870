/-
  Rows exchanged: the program.
-/
import Derived.Test.YtjbaeomjinnlhaaOk2
import Derived.Deep.RegionHeld
import Derived.Test.YtjbaeomjinnlhaaRows1
namespace Go.Proofs.Ytjbaeomjinnlhaa
set_option linter.unusedVariables false
set_option linter.unusedSimpArgs false
open Go.ChangeShapes Go.WideShapes Go.ChangeAt Go.RowKit

set_option maxRecDepth 100000 in
set_option maxHeartbeats 9000000 in
theorem impl_SwapRows (r c : Int) (f : Nat → Int) (hm : MW r c f) (a b : Int) (w : World) : Calls Try.prog 70 #[MV r c f, .int .i64 a, .int .i64 b] w fun e w' => e = .returned (swapV r c f a b) ∧ Below w.heap.size w w' := by
  go_enter Try.func70, Try.ntmps70
  go_upto_region 1 with fail
  obtain ⟨a1, a2, a4, a5⟩ := new2 w (.cells (CL r c f).toArray 33) (.cells (CL 0 0 fun _ => 0).toArray 33)
  rw [zero38]
  obtain ⟨g, hg⟩ : ∃ g, g = w.heap.size := ⟨_, rfl⟩
  rw [← hg] at a1 a2 a4 a5 ⊢
  generalize World.alloc (World.alloc w _) _ = w2 at a1 a2 a4 a5 ⊢
  replace a1 : MB w2 g 33 r c f := a1
  replace a2 : MB w2 (g + 1) 33 0 0 (fun _ => 0) := a2
  have HG := Lib.hid hg
  clear hg
  go_wp2_with (first | (guard_target =~ wpList _ _ _ (⟨_, Op.load 33 (Operand.tmp 3), _, _, _, _⟩ :: _) _ _; refine wpList_load_row rfl 33 _ rfl (g) rfl _ (CL r c f).toArray (0, 0) _ a1 Try.underlying33 rfl (by kernel_rfl) ?_))
  refine (impl_ValidMatrix r c f hm _).mono ?_
  rintro e wn ⟨rfl, hn⟩
  replace a1 := a1.below hn a1.lt
  replace a2 := a2.below hn a2.lt
  replace a4 := bnext a4 hn (by omega)
  have a6 : g + 1 + 1 ≤ wn.heap.size := by have := hn.size; omega
  clear hn a5
  rcases rowC_cases r c f a b with ⟨hc, h1⟩ | ⟨hc, h1, h2⟩ | ⟨hc, h1, h2, h3, x, y, rfl, rfl, hx, hy⟩
  · have hV : swapV r c f a b = .tuple #[MV 0 0 (fun _ => 0), .int .i64 1] := by unfold swapV; rw [hc]; rfl
    have HV := Lib.hid hV
    rw [h1]
    clear hV h1 hc
    go_wp2_with (first | (guard_target =~ wpList _ _ _ (⟨_, Op.build 33 _, _, _, _, _⟩ :: _) _ _; refine wpList_build0 rfl 33 rfl (CL 0 0 fun _ => 0).toArray (by kernel_rfl) ?_) | (guard_target =~ wpList _ _ _ (⟨_, Op.store 33 (Operand.tmp 6) _, _, _, _, _⟩ :: _) _ _; refine wpList_store_row rfl 33 _ _ rfl (g + 1) (CL 0 0 fun _ => 0).toArray rfl rfl _ _ a2 (by kernel_rfl) rfl (CL_one _ _ _) ?_))
    refine bodyPost_ret (v := .tuple #[MV 0 0 (fun _ => 0), .int .i64 1]) ?_ rfl ⟨congrArg Ending.returned HV.out.symm, by obtain rfl := HG.out; exact Below.setRow a4 (Nat.le_succ _) _⟩
    exact results_cell_tmp2 rfl _ _ (g + 1) _ _ (0, 0) _ _ rfl rfl (a2.setRow _) Try.underlying33 rfl (by kernel_rfl)
  · have hV : swapV r c f a b = .tuple #[MV 0 0 (fun _ => 0), .int .i64 2] := by unfold swapV; rw [hc]; rfl
    have HV := Lib.hid hV
    rw [h1]
    clear hV h1 hc
    go_wp2_with (first | (guard_target =~ wpList _ _ _ (⟨_, Op.load 33 (Operand.tmp 3), _, _, _, _⟩ :: _) _ _; refine wpList_load_row rfl 33 _ rfl (g) rfl _ (CL r c f).toArray (0, 0) _ a1 Try.underlying33 rfl (by kernel_rfl) ?_))
    refine (hasRow_any r c f hm a _).mono ?_
    rintro e wm ⟨rfl, hn⟩
    replace a1 := a1.below hn a1.lt
    replace a2 := a2.below hn a2.lt
    replace a4 := bnext a4 hn (by omega)
    clear hn a6
    rcases h4 : inRow a r with _ | _
    · clear h2 h4
      go_wp2_with (first | (guard_target =~ wpList _ _ _ (⟨_, Op.build 33 _, _, _, _, _⟩ :: _) _ _; refine wpList_build0 rfl 33 rfl (CL 0 0 fun _ => 0).toArray (by kernel_rfl) ?_) | (guard_target =~ wpList _ _ _ (⟨_, Op.store 33 (Operand.tmp 6) _, _, _, _, _⟩ :: _) _ _; refine wpList_store_row rfl 33 _ _ rfl (g + 1) (CL 0 0 fun _ => 0).toArray rfl rfl _ _ a2 (by kernel_rfl) rfl (CL_one _ _ _) ?_))
      refine bodyPost_ret (v := .tuple #[MV 0 0 (fun _ => 0), .int .i64 2]) ?_ rfl ⟨congrArg Ending.returned HV.out.symm, by obtain rfl := HG.out; exact Below.setRow a4 (Nat.le_succ _) _⟩
      exact results_cell_tmp2 rfl _ _ (g + 1) _ _ (0, 0) _ _ rfl rfl (a2.setRow _) Try.underlying33 rfl (by kernel_rfl)
    · have h5 : inRow b r = false := by rw [h4] at h2; simpa using h2
      clear h2 h4
      go_wp2_with (first | (guard_target =~ wpList _ _ _ (⟨_, Op.load 33 (Operand.tmp 3), _, _, _, _⟩ :: _) _ _; refine wpList_load_row_w rfl 33 _ rfl (g) rfl _ (CL r c f).toArray (0, 0) _ a1 Try.underlying33 rfl (by kernel_rfl) ?_))
      refine (hasRow_any r c f hm b _).mono ?_
      rintro e wk ⟨rfl, hn⟩
      replace a4 := bnext a4 hn (Nat.le_of_lt a1.lt)
      replace a1 := a1.below hn a1.lt
      replace a2 := a2.below hn a2.lt
      rw [h5]
      clear hn h5
      go_wp2_with (first | (guard_target =~ wpList _ _ _ (⟨_, Op.build 33 _, _, _, _, _⟩ :: _) _ _; refine wpList_build0 rfl 33 rfl (CL 0 0 fun _ => 0).toArray (by kernel_rfl) ?_) | (guard_target =~ wpList _ _ _ (⟨_, Op.store 33 (Operand.tmp 6) _, _, _, _, _⟩ :: _) _ _; refine wpList_store_row rfl 33 _ _ rfl (g + 1) (CL 0 0 fun _ => 0).toArray rfl rfl _ _ a2 (by kernel_rfl) rfl (CL_one _ _ _) ?_))
      refine bodyPost_ret (v := .tuple #[MV 0 0 (fun _ => 0), .int .i64 2]) ?_ rfl ⟨congrArg Ending.returned HV.out.symm, by obtain rfl := HG.out; exact Below.setRow a4 (Nat.le_succ _) _⟩
      exact results_cell_tmp2 rfl _ _ (g + 1) _ _ (0, 0) _ _ rfl rfl (a2.setRow _) Try.underlying33 rfl (by kernel_rfl)
  · rw [h1]
    go_wp2_with (first | (guard_target =~ wpList _ _ _ (⟨_, Op.load 33 (Operand.tmp 3), _, _, _, _⟩ :: _) _ _; refine wpList_load_row rfl 33 _ rfl (g) rfl _ (CL r c f).toArray (0, 0) _ a1 Try.underlying33 rfl (by kernel_rfl) ?_))
    refine (hasRow_any r c f hm x _).mono ?_
    rintro e wm ⟨rfl, hn⟩
    replace a1 := a1.below hn a1.lt
    replace a2 := a2.below hn a2.lt
    replace a4 := bnext a4 hn (by omega)
    rw [h2]
    clear hn a6
    go_wp2_with (first | (guard_target =~ wpList _ _ _ (⟨_, Op.load 33 (Operand.tmp 3), _, _, _, _⟩ :: _) _ _; refine wpList_load_row_w rfl 33 _ rfl (g) rfl _ (CL r c f).toArray (0, 0) _ a1 Try.underlying33 rfl (by kernel_rfl) ?_))
    refine (hasRow_any r c f hm y _).mono ?_
    rintro e wk ⟨rfl, hn⟩
    replace a4 := bnext a4 hn (Nat.le_of_lt a1.lt)
    replace a1 := a1.below hn a1.lt
    replace a2 := a2.below hn a2.lt
    rw [h3]
    clear hn
    have i1 : (x : Int) < 6 := by omega
    have i2 : (y : Int) < 6 := by omega
    have hV : swapV r c f x y = .tuple #[MV r c (swapF f x y), .int .i64 0] := by unfold swapV; rw [if_pos hc]; rfl
    have HV := Lib.hid hV
    clear hV h1 h2 h3 hc
    have r1 := a1.sub2 x hx
    have r2 := a1.sub2 y hy
    go_upto_region 5 with fail
    refine wp_region_any (by kernel_rfl) ?_
    change wpAny _ _ _ _ _ _ _ wk.drew
    replace a1 : MB wk.drew g 33 r c f := a1
    replace a2 : MB wk.drew (g + 1) 33 0 0 (fun _ => 0) := a2
    replace a4 := a4.drew
    clear r1 r2
    generalize wk.drew = wd at a1 a2 a4 ⊢
    have t1 := a1.there (2 + x * 6) 6 (by omega)
    have t2 := World.there_setCells (a1.there (2 + y * 6) 6 (by omega)) g (2 + x * 6) (TL 6 fun k => f (y * 6 + k))
    have r1 := a1.sub2 x hx
    have r2 := a1.sub2 y hy
    have dummy := i1
    refine takeA (i := 0) (v := ?va0) rfl rfl (by kernel_rfl) (by kernel_rfl) (by kernel_rfl) (fun _ _ _ h => h) rfl ?hya0 ?ra0
    case hya0 => (intro wq; go_simp; try (with_reducible rfl))
    simp only [Act.put, List.setIfInBounds_toArray, List.set_cons_zero, List.set_cons_succ]
    refine takeA (i := 1) (v := ?va1) rfl rfl (by kernel_rfl) (by kernel_rfl) (by kernel_rfl) (fun _ _ _ h => h) rfl ?hya1 ?ra1
    case hya1 => (intro wq; go_simp; try (with_reducible rfl))
    simp only [Act.put, List.setIfInBounds_toArray, List.set_cons_zero, List.set_cons_succ]
    refine takeA (i := 2) (v := ?va2) rfl rfl (by kernel_rfl) (by kernel_rfl) (by kernel_rfl) (fun _ _ _ h => h) rfl ?hya2 ?ra2
    case hya2 => (intro wq; go_simp; try (with_reducible rfl))
    simp only [Act.put, List.setIfInBounds_toArray, List.set_cons_zero, List.set_cons_succ]
    refine takeA (i := 3) (v := ?va3) rfl rfl (by kernel_rfl) (by kernel_rfl) (by kernel_rfl) (fun _ _ _ h => h) rfl ?hya3 ?ra3
    case hya3 => (intro wq; go_simp; try (with_reducible rfl))
    simp only [Act.put, List.setIfInBounds_toArray, List.set_cons_zero, List.set_cons_succ]
    refine takeA (i := 4) (v := ?va4) rfl rfl (by kernel_rfl) (by kernel_rfl) (by kernel_rfl) (fun _ _ _ h => h) rfl ?hya4 ?ra4
    case hya4 => (intro wq; go_simp; try (with_reducible rfl))
    simp only [Act.put, List.setIfInBounds_toArray, List.set_cons_zero, List.set_cons_succ]
    refine takeA (i := 6) (v := ?va6) rfl rfl (by kernel_rfl) (by kernel_rfl) (by kernel_rfl) (fun _ _ _ h => h) rfl ?hya6 ?ra6
    case hya6 => (intro wq; go_simp; try (with_reducible rfl))
    simp only [Act.put, List.setIfInBounds_toArray, List.set_cons_zero, List.set_cons_succ]
    refine takeA (i := 7) (v := ?va7) rfl rfl (by kernel_rfl) (by kernel_rfl) (by kernel_rfl) (fun _ _ _ h => h) rfl ?hya7 ?ra7
    case hya7 => (intro wq; go_simp; try (with_reducible rfl))
    simp only [Act.put, List.setIfInBounds_toArray, List.set_cons_zero, List.set_cons_succ]
    refine takeA (i := 8) (v := ?va8) rfl rfl (by kernel_rfl) (by kernel_rfl) (by kernel_rfl) (fun _ _ _ h => h) rfl ?hya8 ?ra8
    case hya8 => (intro wq; go_simp; try (with_reducible rfl))
    simp only [Act.put, List.setIfInBounds_toArray, List.set_cons_zero, List.set_cons_succ]
    refine takeA (i := 10) (v := ?va10) rfl rfl (by kernel_rfl) (by kernel_rfl) (by kernel_rfl) (fun _ _ _ h => h) rfl ?hya10 ?ra10
    case hya10 => (intro wq; go_simp; try (with_reducible rfl))
    simp only [Act.put, List.setIfInBounds_toArray, List.set_cons_zero, List.set_cons_succ]
    refine takeA (i := 13) (v := ?va13) rfl rfl (by kernel_rfl) (by kernel_rfl) (by kernel_rfl) (fun _ _ _ h => h) rfl ?hya13 ?ra13
    case hya13 => (intro wq; go_simp; try (with_reducible rfl))
    simp only [Act.put, List.setIfInBounds_toArray, List.set_cons_zero, List.set_cons_succ]
    refine wpAny_ready (rs := [5, 9]) (by kernel_rfl) (by simp) ?_
    refine AllReady.cons rfl (fun K hK => ?_) (AllReady.cons rfl (fun K hK => ?_) AllReady.nil)
    all_goals skip
    · simp only [List.getElem_toArray, List.getElem_cons_zero, List.getElem_cons_succ]
      rw [if_pos (by rfl)]
      refine wp_load_mid1 30 _ rfl rfl (g) _ rfl (TL 6 fun k => f (y * 6 + k)) (.array 6 29) (r2) (by kernel_rfl) rfl (by kernel_rfl) ?_
      refine hK _ _ ?_
      clear hK
      simp only [Act.put, List.setIfInBounds_toArray, List.set_cons_zero, List.set_cons_succ]
      refine wpAny_ready (rs := [9]) (by kernel_rfl) (by simp) ?_
      refine AllReady.cons rfl (fun K hK => ?_) AllReady.nil
      simp only [List.getElem_toArray, List.getElem_cons_zero, List.getElem_cons_succ]
      rw [if_pos (by rfl)]
      refine wp_load_mid1 30 _ rfl rfl (g) _ rfl (TL 6 fun k => f (x * 6 + k)) (.array 6 29) (r1) (by kernel_rfl) rfl (by kernel_rfl) ?_
      refine hK _ _ ?_
      clear hK
      simp only [Act.put, List.setIfInBounds_toArray, List.set_cons_zero, List.set_cons_succ]
      refine takeA (i := 11) (v := ?va11x) rfl rfl (by kernel_rfl) (by kernel_rfl) (by kernel_rfl) (fun _ _ _ h => h) rfl ?hya11x ?ra11x
      case hya11x => (intro wq; go_simp; try (with_reducible rfl))
      simp only [Act.put, List.setIfInBounds_toArray, List.set_cons_zero, List.set_cons_succ]
      refine wpAny_ready (rs := [12]) (by kernel_rfl) (by simp) ?_
      refine AllReady.cons rfl (fun K hK => ?_) AllReady.nil
      simp only [List.getElem_toArray, List.getElem_cons_zero, List.getElem_cons_succ]
      rw [if_pos (by rfl)]
      refine wp_store_mid0 30 _ _ rfl rfl (g) _ (TL 6 fun k => f (y * 6 + k)) rfl rfl (by rw [TL_len]; exact t1) (by kernel_rfl) (TL_one _ _) ?_
      refine hK _ _ ?_
      clear hK
      have d1 := MB.puts 6 (x * 6) (fun k => f (y * 6 + k)) _ _ a1 (by omega)
      have d2 := a2.setCells_other (b := g) (o := 2 + x * 6) (by omega) (TL 6 fun k => f (y * 6 + k))
      have d4 := Below.setCells (Nat.le_refl g) (TL 6 fun k => f (y * 6 + k)) (2 + x * 6) _ a4
      generalize World.setCells wd g (2 + x * 6) (TL 6 fun k => f (y * 6 + k)) = we at d1 d2 d4 t2 ⊢
      refine takeA (i := 14) (v := ?va14x) rfl rfl (by kernel_rfl) (by kernel_rfl) (by kernel_rfl) (fun _ _ _ h => h) rfl ?hya14x ?ra14x
      case hya14x => (intro wq; go_simp; try (with_reducible rfl))
      simp only [Act.put, List.setIfInBounds_toArray, List.set_cons_zero, List.set_cons_succ]
      refine wpAny_ready (rs := [15]) (by kernel_rfl) (by simp) ?_
      refine AllReady.cons rfl (fun K hK => ?_) AllReady.nil
      simp only [List.getElem_toArray, List.getElem_cons_zero, List.getElem_cons_succ]
      rw [if_pos (by rfl)]
      refine wp_store_mid0 30 _ _ rfl rfl (g) _ (TL 6 fun k => f (x * 6 + k)) rfl rfl (by rw [TL_len]; exact t2) (by kernel_rfl) (TL_one _ _) ?_
      refine hK _ _ ?_
      clear hK
      refine wpAny_done (by kernel_rfl) ?_ _
      have b1 := (MB.puts 6 (y * 6) (fun k => f (x * 6 + k)) _ _ d1 (by omega)).ext (swap_puts f x y hx hy)
      have b2 := d2.setCells_other (b := g) (o := 2 + y * 6) (by omega) (TL 6 fun k => f (x * 6 + k))
      have b4 := Below.setCells (Nat.le_refl g) (TL 6 fun k => f (x * 6 + k)) (2 + y * 6) _ d4
      generalize we.setCells g (2 + y * 6) (TL 6 fun k => f (x * 6 + k)) = w9 at b1 b2 b4 ⊢
      clear t1 t2 a1 a2 a4 d1 d2 d4
      go_wp2_with (first | (guard_target =~ wpList _ _ _ (⟨_, Op.load 33 (Operand.tmp 3), _, _, _, _⟩ :: _) _ _; refine wpList_load_row rfl 33 _ rfl (g) rfl _ (CL r c (swapF f x y)).toArray (0, 0) _ b1 Try.underlying33 rfl (by kernel_rfl) ?_) | (guard_target =~ wpList _ _ _ (⟨_, Op.store 33 (Operand.tmp 6) _, _, _, _, _⟩ :: _) _ _; refine wpList_store_row rfl 33 _ _ rfl (g + 1) (CL r c (swapF f x y)).toArray rfl rfl _ _ b2 (by kernel_rfl) rfl (CL_one _ _ _) ?_))
      refine bodyPost_ret (v := .tuple #[MV r c (swapF f x y), .int .i64 0]) ?_ rfl ⟨congrArg Ending.returned HV.out.symm, by obtain rfl := HG.out; exact Below.setRow b4 (Nat.le_succ _) _⟩
      exact results_cell_tmp2 rfl _ _ (g + 1) _ _ (0, 0) _ _ rfl rfl (b2.setRow _) Try.underlying33 rfl (by kernel_rfl)
    · simp only [List.getElem_toArray, List.getElem_cons_zero, List.getElem_cons_succ]
      rw [if_pos (by rfl)]
      refine wp_load_mid1 30 _ rfl rfl (g) _ rfl (TL 6 fun k => f (x * 6 + k)) (.array 6 29) (r1) (by kernel_rfl) rfl (by kernel_rfl) ?_
      refine hK _ _ ?_
      clear hK
      simp only [Act.put, List.setIfInBounds_toArray, List.set_cons_zero, List.set_cons_succ]
      refine wpAny_ready (rs := [5]) (by kernel_rfl) (by simp) ?_
      refine AllReady.cons rfl (fun K hK => ?_) AllReady.nil
      simp only [List.getElem_toArray, List.getElem_cons_zero, List.getElem_cons_succ]
      rw [if_pos (by rfl)]
      refine wp_load_mid1 30 _ rfl rfl (g) _ rfl (TL 6 fun k => f (y * 6 + k)) (.array 6 29) (r2) (by kernel_rfl) rfl (by kernel_rfl) ?_
      refine hK _ _ ?_
      clear hK
      simp only [Act.put, List.setIfInBounds_toArray, List.set_cons_zero, List.set_cons_succ]
      refine takeA (i := 11) (v := ?va11y) rfl rfl (by kernel_rfl) (by kernel_rfl) (by kernel_rfl) (fun _ _ _ h => h) rfl ?hya11y ?ra11y
      case hya11y => (intro wq; go_simp; try (with_reducible rfl))
      simp only [Act.put, List.setIfInBounds_toArray, List.set_cons_zero, List.set_cons_succ]
      refine wpAny_ready (rs := [12]) (by kernel_rfl) (by simp) ?_
      refine AllReady.cons rfl (fun K hK => ?_) AllReady.nil
      simp only [List.getElem_toArray, List.getElem_cons_zero, List.getElem_cons_succ]
      rw [if_pos (by rfl)]
      refine wp_store_mid0 30 _ _ rfl rfl (g) _ (TL 6 fun k => f (y * 6 + k)) rfl rfl (by rw [TL_len]; exact t1) (by kernel_rfl) (TL_one _ _) ?_
      refine hK _ _ ?_
      clear hK
      have d1 := MB.puts 6 (x * 6) (fun k => f (y * 6 + k)) _ _ a1 (by omega)
      have d2 := a2.setCells_other (b := g) (o := 2 + x * 6) (by omega) (TL 6 fun k => f (y * 6 + k))
      have d4 := Below.setCells (Nat.le_refl g) (TL 6 fun k => f (y * 6 + k)) (2 + x * 6) _ a4
      generalize World.setCells wd g (2 + x * 6) (TL 6 fun k => f (y * 6 + k)) = we at d1 d2 d4 t2 ⊢
      refine takeA (i := 14) (v := ?va14y) rfl rfl (by kernel_rfl) (by kernel_rfl) (by kernel_rfl) (fun _ _ _ h => h) rfl ?hya14y ?ra14y
      case hya14y => (intro wq; go_simp; try (with_reducible rfl))
      simp only [Act.put, List.setIfInBounds_toArray, List.set_cons_zero, List.set_cons_succ]
      refine wpAny_ready (rs := [15]) (by kernel_rfl) (by simp) ?_
      refine AllReady.cons rfl (fun K hK => ?_) AllReady.nil
      simp only [List.getElem_toArray, List.getElem_cons_zero, List.getElem_cons_succ]
      rw [if_pos (by rfl)]
      refine wp_store_mid0 30 _ _ rfl rfl (g) _ (TL 6 fun k => f (x * 6 + k)) rfl rfl (by rw [TL_len]; exact t2) (by kernel_rfl) (TL_one _ _) ?_
      refine hK _ _ ?_
      clear hK
      refine wpAny_done (by kernel_rfl) ?_ _
      have b1 := (MB.puts 6 (y * 6) (fun k => f (x * 6 + k)) _ _ d1 (by omega)).ext (swap_puts f x y hx hy)
      have b2 := d2.setCells_other (b := g) (o := 2 + y * 6) (by omega) (TL 6 fun k => f (x * 6 + k))
      have b4 := Below.setCells (Nat.le_refl g) (TL 6 fun k => f (x * 6 + k)) (2 + y * 6) _ d4
      generalize we.setCells g (2 + y * 6) (TL 6 fun k => f (x * 6 + k)) = w9 at b1 b2 b4 ⊢
      clear t1 t2 a1 a2 a4 d1 d2 d4
      go_wp2_with (first | (guard_target =~ wpList _ _ _ (⟨_, Op.load 33 (Operand.tmp 3), _, _, _, _⟩ :: _) _ _; refine wpList_load_row rfl 33 _ rfl (g) rfl _ (CL r c (swapF f x y)).toArray (0, 0) _ b1 Try.underlying33 rfl (by kernel_rfl) ?_) | (guard_target =~ wpList _ _ _ (⟨_, Op.store 33 (Operand.tmp 6) _, _, _, _, _⟩ :: _) _ _; refine wpList_store_row rfl 33 _ _ rfl (g + 1) (CL r c (swapF f x y)).toArray rfl rfl _ _ b2 (by kernel_rfl) rfl (CL_one _ _ _) ?_))
      refine bodyPost_ret (v := .tuple #[MV r c (swapF f x y), .int .i64 0]) ?_ rfl ⟨congrArg Ending.returned HV.out.symm, by obtain rfl := HG.out; exact Below.setRow b4 (Nat.le_succ _) _⟩
      exact results_cell_tmp2 rfl _ _ (g + 1) _ _ (0, 0) _ _ rfl rfl (b2.setRow _) Try.underlying33 rfl (by kernel_rfl)
end Go.Proofs.Ytjbaeomjinnlhaa
