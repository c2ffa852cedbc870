/-
  A row is added to another one: the program.
-/
import Derived.Test.YtjbaeomjinnlhaaOk2
import Derived.Deep.RegionHeld
import Derived.Test.YtjbaeomjinnlhaaTwo
namespace Go.Proofs.Ytjbaeomjinnlhaa
set_option linter.unusedVariables false
set_option linter.unusedSimpArgs false
open Go.ChangeShapes Go.WideShapes Go.ChangeAt Go.RowKit


theorem add_puts (f : Nat → Int) (x z : Nat) (y : Int) (hx : x < 6) (hz : z < 6) : ∀ s, s < 36 → puts f (z * 6) 6 (fun k => xorI (mulI (f (x * 6 + k)) y) (f (z * 6 + k))) s = addF f x z y s := fun s hs => by
  unfold puts addF
  by_cases e : s / 6 = z
  · rw [if_pos (by omega), if_pos e]
    show xorI (mulI (f (x * 6 + (s - z * 6))) y) (f (z * 6 + (s - z * 6))) = _
    rw [show s - z * 6 = s % 6 from by omega, show z * 6 + s % 6 = s from by omega, xorI_comm]
  · rw [if_neg (by omega), if_neg e]
set_option maxRecDepth 100000 in
set_option maxHeartbeats 9000000 in
theorem impl_AddRow (r c : Int) (f : Nat → Int) (hm : MW r c f) (a b y : Int) (y0 : 0 ≤ y) (y1 : y < 65536) (w : World) : Calls Try.prog 68 #[MV r c f, .int .i64 a, .int .i64 b, .int .u16 y] w fun e w' => e = .returned (addV r c f a b y) ∧ Below w.heap.size w w' := by
  go_enter Try.func68, Try.ntmps68
  go_upto_region 1 with fail
  obtain ⟨a1, a2, a4, a5⟩ := new2 w (.cells (CL r c f).toArray 33) (.cells (CL 0 0 fun _ => 0).toArray 33)
  rw [zero38]
  obtain ⟨g, hg⟩ : ∃ g, g = w.heap.size := ⟨_, rfl⟩
  rw [← hg] at a1 a2 a4 a5 ⊢
  generalize World.alloc (World.alloc w _) _ = w2 at a1 a2 a4 a5 ⊢
  replace a1 : MB w2 g 33 r c f := a1
  replace a2 : MB w2 (g + 1) 33 0 0 (fun _ => 0) := a2
  have HG := Lib.hid hg
  clear hg
  go_wp2_with (first | (guard_target =~ wpList _ _ _ (⟨_, Op.load 33 (Operand.tmp 4), _, _, _, _⟩ :: _) _ _; refine wpList_load_row rfl 33 _ rfl (g) rfl _ (CL r c f).toArray (0, 0) _ a1 Try.underlying33 rfl (by kernel_rfl) ?_))
  refine (impl_ValidMatrix r c f hm _).mono ?_
  rintro e wn ⟨rfl, hn⟩
  replace a1 := a1.below hn a1.lt
  replace a2 := a2.below hn a2.lt
  replace a4 := bnext a4 hn (by omega)
  have a6 : g + 1 + 1 ≤ wn.heap.size := by have := hn.size; omega
  clear hn a5
  rcases rowC_cases r c f a b with ⟨hc, h1⟩ | ⟨hc, h1, h2⟩ | ⟨hc, h1, h2, h3, x, z, rfl, rfl, hx, hz⟩
  · have hV : addV r c f a b y = .tuple #[MV 0 0 (fun _ => 0), .int .i64 1] := by unfold addV addC; rw [hc]; rfl
    have HV := Lib.hid hV
    rw [h1]
    clear hV h1 hc
    go_wp2_with (first | (guard_target =~ wpList _ _ _ (⟨_, Op.build 33 _, _, _, _, _⟩ :: _) _ _; refine wpList_build0 rfl 33 rfl (CL 0 0 fun _ => 0).toArray (by kernel_rfl) ?_) | (guard_target =~ wpList _ _ _ (⟨_, Op.store 33 (Operand.tmp 8) _, _, _, _, _⟩ :: _) _ _; refine wpList_store_row rfl 33 _ _ rfl (g + 1) (CL 0 0 fun _ => 0).toArray rfl rfl _ _ a2 (by kernel_rfl) rfl (CL_one _ _ _) ?_))
    refine bodyPost_ret (v := .tuple #[MV 0 0 (fun _ => 0), .int .i64 1]) ?_ rfl ⟨congrArg Ending.returned HV.out.symm, by obtain rfl := HG.out; exact Below.setRow a4 (Nat.le_succ _) _⟩
    exact results_cell_tmp2 rfl _ _ (g + 1) _ _ (0, 0) _ _ rfl rfl (a2.setRow _) Try.underlying33 rfl (by kernel_rfl)
  · have hV : addV r c f a b y = .tuple #[MV 0 0 (fun _ => 0), .int .i64 2] := by unfold addV addC; rw [hc]; rfl
    have HV := Lib.hid hV
    rw [h1]
    clear hV h1 hc
    go_wp2_with (first | (guard_target =~ wpList _ _ _ (⟨_, Op.load 33 (Operand.tmp 4), _, _, _, _⟩ :: _) _ _; refine wpList_load_row rfl 33 _ rfl (g) rfl _ (CL r c f).toArray (0, 0) _ a1 Try.underlying33 rfl (by kernel_rfl) ?_))
    refine (hasRow_any r c f hm a _).mono ?_
    rintro e wm ⟨rfl, hn⟩
    replace a1 := a1.below hn a1.lt
    replace a2 := a2.below hn a2.lt
    replace a4 := bnext a4 hn (by omega)
    clear hn a6
    rcases h4 : inRow a r with _ | _
    · clear h2 h4
      go_wp2_with (first | (guard_target =~ wpList _ _ _ (⟨_, Op.build 33 _, _, _, _, _⟩ :: _) _ _; refine wpList_build0 rfl 33 rfl (CL 0 0 fun _ => 0).toArray (by kernel_rfl) ?_) | (guard_target =~ wpList _ _ _ (⟨_, Op.store 33 (Operand.tmp 8) _, _, _, _, _⟩ :: _) _ _; refine wpList_store_row rfl 33 _ _ rfl (g + 1) (CL 0 0 fun _ => 0).toArray rfl rfl _ _ a2 (by kernel_rfl) rfl (CL_one _ _ _) ?_))
      refine bodyPost_ret (v := .tuple #[MV 0 0 (fun _ => 0), .int .i64 2]) ?_ rfl ⟨congrArg Ending.returned HV.out.symm, by obtain rfl := HG.out; exact Below.setRow a4 (Nat.le_succ _) _⟩
      exact results_cell_tmp2 rfl _ _ (g + 1) _ _ (0, 0) _ _ rfl rfl (a2.setRow _) Try.underlying33 rfl (by kernel_rfl)
    · have h5 : inRow b r = false := by rw [h4] at h2; simpa using h2
      clear h2 h4
      go_wp2_with (first | (guard_target =~ wpList _ _ _ (⟨_, Op.load 33 (Operand.tmp 4), _, _, _, _⟩ :: _) _ _; refine wpList_load_row_w rfl 33 _ rfl (g) rfl _ (CL r c f).toArray (0, 0) _ a1 Try.underlying33 rfl (by kernel_rfl) ?_))
      refine (hasRow_any r c f hm b _).mono ?_
      rintro e wk ⟨rfl, hn⟩
      replace a4 := bnext a4 hn (Nat.le_of_lt a1.lt)
      replace a1 := a1.below hn a1.lt
      replace a2 := a2.below hn a2.lt
      rw [h5]
      clear hn h5
      go_wp2_with (first | (guard_target =~ wpList _ _ _ (⟨_, Op.build 33 _, _, _, _, _⟩ :: _) _ _; refine wpList_build0 rfl 33 rfl (CL 0 0 fun _ => 0).toArray (by kernel_rfl) ?_) | (guard_target =~ wpList _ _ _ (⟨_, Op.store 33 (Operand.tmp 8) _, _, _, _, _⟩ :: _) _ _; refine wpList_store_row rfl 33 _ _ rfl (g + 1) (CL 0 0 fun _ => 0).toArray rfl rfl _ _ a2 (by kernel_rfl) rfl (CL_one _ _ _) ?_))
      refine bodyPost_ret (v := .tuple #[MV 0 0 (fun _ => 0), .int .i64 2]) ?_ rfl ⟨congrArg Ending.returned HV.out.symm, by obtain rfl := HG.out; exact Below.setRow a4 (Nat.le_succ _) _⟩
      exact results_cell_tmp2 rfl _ _ (g + 1) _ _ (0, 0) _ _ rfl rfl (a2.setRow _) Try.underlying33 rfl (by kernel_rfl)
  · rw [h1]
    go_wp2_with (first | (guard_target =~ wpList _ _ _ (⟨_, Op.load 33 (Operand.tmp 4), _, _, _, _⟩ :: _) _ _; refine wpList_load_row rfl 33 _ rfl (g) rfl _ (CL r c f).toArray (0, 0) _ a1 Try.underlying33 rfl (by kernel_rfl) ?_))
    refine (hasRow_any r c f hm x _).mono ?_
    rintro e wm ⟨rfl, hn⟩
    replace a1 := a1.below hn a1.lt
    replace a2 := a2.below hn a2.lt
    replace a4 := bnext a4 hn (by omega)
    rw [h2]
    clear hn a6
    go_wp2_with (first | (guard_target =~ wpList _ _ _ (⟨_, Op.load 33 (Operand.tmp 4), _, _, _, _⟩ :: _) _ _; refine wpList_load_row_w rfl 33 _ rfl (g) rfl _ (CL r c f).toArray (0, 0) _ a1 Try.underlying33 rfl (by kernel_rfl) ?_))
    refine (hasRow_any r c f hm z _).mono ?_
    rintro e wk ⟨rfl, hn⟩
    replace a4 := bnext a4 hn (Nat.le_of_lt a1.lt)
    replace a1 := a1.below hn a1.lt
    replace a2 := a2.below hn a2.lt
    rw [h3]
    clear hn
    have i1 : (x : Int) < 6 := by omega
    have i2 : (z : Int) < 6 := by omega
    by_cases hxz : x = z
    · subst hxz
      have hV : addV r c f x x y = .tuple #[MV 0 0 (fun _ => 0), .int .i64 4] := by unfold addV addC; rw [hc]; simp
      have HV := Lib.hid hV
      clear hV h1 h2 h3 hc
      go_wp2_with (first | (guard_target =~ wpList _ _ _ (⟨_, Op.build 33 _, _, _, _, _⟩ :: _) _ _; refine wpList_build0 rfl 33 rfl (CL 0 0 fun _ => 0).toArray (by kernel_rfl) ?_) | (guard_target =~ wpList _ _ _ (⟨_, Op.store 33 (Operand.tmp 8) _, _, _, _, _⟩ :: _) _ _; refine wpList_store_row rfl 33 _ _ rfl (g + 1) (CL 0 0 fun _ => 0).toArray rfl rfl _ _ a2 (by kernel_rfl) rfl (CL_one _ _ _) ?_))
      refine bodyPost_ret (v := .tuple #[MV 0 0 (fun _ => 0), .int .i64 4]) ?_ rfl ⟨congrArg Ending.returned HV.out.symm, by obtain rfl := HG.out; exact Below.setRow a4 (Nat.le_succ _) _⟩
      exact results_cell_tmp2 rfl _ _ (g + 1) _ _ (0, 0) _ _ rfl rfl (a2.setRow _) Try.underlying33 rfl (by kernel_rfl)
    · have hne : ¬ ((x : Int) = (z : Int)) := by omega
      have hq : ((x : Int) == (z : Int)) = false := by simpa using hne
      have hV : addV r c f x z y = .tuple #[MV r c (addF f x z y), .int .i64 0] := by
        have h0 : addC r c f x z = 0 := by unfold addC; rw [if_neg (by omega)]; exact hc
        unfold addV; rw [if_pos h0]; rfl
      have HV := Lib.hid hV
      have HF := Lib.hid hm.2.2.2.2
      clear hV h1 h2 h3 hc hne
      go_upto_region 7 with fail
      replace a1 : MB wk g 33 r c f := a1
      have A1 := Lib.hid a1
      have A2 := Lib.hid a2
      have A4 := Lib.hid a4
      clear a1 a2 a4
      refine region_post (A := ?A7) (fun _ u => MB u g 33 r c (addF f x z y) ∧ MB u (g + 1) 33 0 0 (fun _ => 0) ∧ Hid (Below g w u)) ?_ ?_
      rotate_left
      · refine wp_region_any (by kernel_rfl) ?_
        change wpAny _ _ _ _ _ _ _ wk.drew
        have a1 : MB wk.drew g 33 r c f := A1.out
        have a2 : MB wk.drew (g + 1) 33 0 0 (fun _ => 0) := A2.out
        have a4 := A4.out.drew
        generalize wk.drew = wd at a1 a2 a4 ⊢
        refine takeA (i := 0) (v := ?va0) rfl rfl (by kernel_rfl) (by kernel_rfl) (by kernel_rfl) (fun _ _ _ h => by cases h.1) rfl ?hya0 ?ra0
        case hya0 => (intro wq; go_simp; try (with_reducible rfl))
        simp only [Act.put, List.setIfInBounds_toArray, List.set_cons_zero, List.set_cons_succ]
        refine takeA (i := 1) (v := ?va1) rfl rfl (by kernel_rfl) (by kernel_rfl) (by kernel_rfl) (fun _ _ _ h => by cases h.1) rfl ?hya1 ?ra1
        case hya1 => (intro wq; go_simp; try (with_reducible rfl))
        simp only [Act.put, List.setIfInBounds_toArray, List.set_cons_zero, List.set_cons_succ]
        refine takeA (i := 2) (v := ?va2) rfl rfl (by kernel_rfl) (by kernel_rfl) (by kernel_rfl) (fun _ _ _ h => by cases h.1) rfl ?hya2 ?ra2
        case hya2 => (intro wq; go_simp; try (with_reducible rfl))
        simp only [Act.put, List.setIfInBounds_toArray, List.set_cons_zero, List.set_cons_succ]
        refine takeA (i := 3) (v := ?va3) rfl rfl (by kernel_rfl) (by kernel_rfl) (by kernel_rfl) (fun _ _ _ h => by cases h.1) rfl ?hya3 ?ra3
        case hya3 => (intro wq; go_simp; try (with_reducible rfl))
        simp only [Act.put, List.setIfInBounds_toArray, List.set_cons_zero, List.set_cons_succ]
        refine takeA (i := 5) (v := ?va5) rfl rfl (by kernel_rfl) (by kernel_rfl) (by kernel_rfl) (fun _ _ _ h => by cases h.1) rfl ?hya5 ?ra5
        case hya5 => (intro wq; go_simp; try (with_reducible rfl))
        simp only [Act.put, List.setIfInBounds_toArray, List.set_cons_zero, List.set_cons_succ]
        refine takeA (i := 7) (v := ?va7) rfl rfl (by kernel_rfl) (by kernel_rfl) (by kernel_rfl) (fun _ _ _ h => by cases h.1) rfl ?hya7 ?ra7
        case hya7 => (intro wq; go_simp; try (with_reducible rfl))
        simp only [Act.put, List.setIfInBounds_toArray, List.set_cons_zero, List.set_cons_succ]
        refine takeA (i := 8) (v := ?va8) rfl rfl (by kernel_rfl) (by kernel_rfl) (by kernel_rfl) (fun _ _ _ h => by cases h.1) rfl ?hya8 ?ra8
        case hya8 => (intro wq; go_simp; try (with_reducible rfl))
        simp only [Act.put, List.setIfInBounds_toArray, List.set_cons_zero, List.set_cons_succ]
        refine takeA (i := 9) (v := ?va9) rfl rfl (by kernel_rfl) (by kernel_rfl) (by kernel_rfl) (fun _ _ _ h => by cases h.1) rfl ?hya9 ?ra9
        case hya9 => (intro wq; go_simp; try (with_reducible rfl))
        simp only [Act.put, List.setIfInBounds_toArray, List.set_cons_zero, List.set_cons_succ]
        refine takeA (i := 12) (v := ?va12) rfl rfl (by kernel_rfl) (by kernel_rfl) (by kernel_rfl) (fun _ _ _ h => by cases h.1) rfl ?hya12 ?ra12
        case hya12 => (intro wq; go_simp; try (with_reducible rfl))
        simp only [Act.put, List.setIfInBounds_toArray, List.set_cons_zero, List.set_cons_succ]
        refine wpAny_ready (rs := [4, 10]) (by kernel_rfl) (by simp) ?_
        refine AllReady.cons rfl (fun K hK => ?_) (AllReady.cons rfl (fun K hK => ?_) AllReady.nil)
        · simp only [List.getElem_toArray, List.getElem_cons_zero, List.getElem_cons_succ]
          rw [if_pos (by rfl)]
          refine wp_load_mid1 30 _ rfl rfl (g) _ rfl (TL 6 fun k => f (x * 6 + k)) (.array 6 29) (a1.sub2 x hx) (by kernel_rfl) rfl (by kernel_rfl) ?_
          refine hK _ _ ?_
          clear hK
          simp only [Act.put, List.setIfInBounds_toArray, List.set_cons_zero, List.set_cons_succ]
          refine wpAny_ready (rs := [6, 10]) (by kernel_rfl) (by simp) ?_
          refine AllReady.cons rfl (fun K hK => ?_) (AllReady.cons rfl (fun K hK => ?_) AllReady.nil)
          · simp only [List.getElem_toArray, List.getElem_cons_zero, List.getElem_cons_succ]
            go_simp
            refine (scaled_any (fun k => f (x * 6 + k)) (fun t => HF.out _) y y0 y1 _).mono ?_
            rintro e w6 ⟨rfl, hn⟩
            refine hK _ _ ?_
            clear hK
            replace a4 := bnext a4 hn (Nat.le_of_lt a1.lt)
            replace a1 := a1.below hn a1.lt
            replace a2 := a2.below hn a2.lt
            clear hn
            refine wpAny_ready (rs := [10]) (by kernel_rfl) (by simp) ?_
            refine AllReady.cons rfl (fun K hK => ?_) AllReady.nil
            simp only [List.getElem_toArray, List.getElem_cons_zero, List.getElem_cons_succ]
            rw [if_pos (by rfl)]
            refine wp_load_mid1 30 _ rfl rfl (g) _ rfl (TL 6 fun k => f (z * 6 + k)) (.array 6 29) (a1.sub2 z hz) (by kernel_rfl) rfl (by kernel_rfl) ?_
            refine hK _ _ ?_
            clear hK
            simp only [Act.put, List.setIfInBounds_toArray, List.set_cons_zero, List.set_cons_succ]
            refine wpAny_ready (rs := [11]) (by kernel_rfl) (by simp) ?_
            refine AllReady.cons rfl (fun K hK => ?_) AllReady.nil
            simp only [List.getElem_toArray, List.getElem_cons_zero, List.getElem_cons_succ]
            go_simp
            refine (vplus_any (fun k => mulI (f (x * 6 + k)) y) (fun k => f (z * 6 + k)) (fun t => mulI_b (HF.out _).1 (HF.out _).2 y0 y1) (fun t => HF.out _) _).mono ?_
            rintro e w11 ⟨rfl, hn⟩
            refine hK _ _ ?_
            clear hK
            replace a4 := bnext a4 hn (Nat.le_of_lt a1.lt)
            replace a1 := a1.below hn a1.lt
            replace a2 := a2.below hn a2.lt
            clear hn
            refine takeA (i := 13) (v := ?va13e1) rfl rfl (by kernel_rfl) (by kernel_rfl) (by kernel_rfl) (fun _ _ _ h => by cases h.1) rfl ?hya13e1 ?ra13e1
            case hya13e1 => (intro wq; go_simp; try (with_reducible rfl))
            simp only [Act.put, List.setIfInBounds_toArray, List.set_cons_zero, List.set_cons_succ]
            refine wpAny_ready (rs := [14]) (by kernel_rfl) (by simp) ?_
            refine AllReady.cons rfl (fun K hK => ?_) AllReady.nil
            simp only [List.getElem_toArray, List.getElem_cons_zero, List.getElem_cons_succ]
            rw [if_pos (by rfl)]
            have q1 := a1.there (2 + z * 6) 6 (by omega)
            refine wp_store_mid0 30 _ _ rfl rfl g _ (TL 6 fun k => xorI (mulI (f (x * 6 + k)) y) (f (z * 6 + k))) rfl rfl (by rw [TL_len]; exact q1) (by kernel_rfl) (TL_one _ _) ?_
            refine hK _ _ ?_
            clear hK
            refine wpAny_done (by kernel_rfl) ?_ _
            obtain ⟨q0, _⟩ : ∃ q : Nat, q = 0 := ⟨0, rfl⟩
            refine ⟨rfl, q0, ?_, (MB.puts 6 (z * 6) (fun k => xorI (mulI (f (x * 6 + k)) y) (f (z * 6 + k))) _ _ a1 (by omega)).ext (add_puts f x z y hx hz), a2.setCells_other (by omega) _, Lib.hid (Below.setCells (Nat.le_refl g) _ _ _ a4)⟩
            rfl
          · simp only [List.getElem_toArray, List.getElem_cons_zero, List.getElem_cons_succ]
            rw [if_pos (by rfl)]
            refine wp_load_mid1 30 _ rfl rfl (g) _ rfl (TL 6 fun k => f (z * 6 + k)) (.array 6 29) (a1.sub2 z hz) (by kernel_rfl) rfl (by kernel_rfl) ?_
            refine hK _ _ ?_
            clear hK
            simp only [Act.put, List.setIfInBounds_toArray, List.set_cons_zero, List.set_cons_succ]
            refine wpAny_ready (rs := [6]) (by kernel_rfl) (by simp) ?_
            refine AllReady.cons rfl (fun K hK => ?_) AllReady.nil
            simp only [List.getElem_toArray, List.getElem_cons_zero, List.getElem_cons_succ]
            go_simp
            refine (scaled_any (fun k => f (x * 6 + k)) (fun t => HF.out _) y y0 y1 _).mono ?_
            rintro e w6 ⟨rfl, hn⟩
            refine hK _ _ ?_
            clear hK
            replace a4 := bnext a4 hn (Nat.le_of_lt a1.lt)
            replace a1 := a1.below hn a1.lt
            replace a2 := a2.below hn a2.lt
            clear hn
            refine wpAny_ready (rs := [11]) (by kernel_rfl) (by simp) ?_
            refine AllReady.cons rfl (fun K hK => ?_) AllReady.nil
            simp only [List.getElem_toArray, List.getElem_cons_zero, List.getElem_cons_succ]
            go_simp
            refine (vplus_any (fun k => mulI (f (x * 6 + k)) y) (fun k => f (z * 6 + k)) (fun t => mulI_b (HF.out _).1 (HF.out _).2 y0 y1) (fun t => HF.out _) _).mono ?_
            rintro e w11 ⟨rfl, hn⟩
            refine hK _ _ ?_
            clear hK
            replace a4 := bnext a4 hn (Nat.le_of_lt a1.lt)
            replace a1 := a1.below hn a1.lt
            replace a2 := a2.below hn a2.lt
            clear hn
            refine takeA (i := 13) (v := ?va13e2) rfl rfl (by kernel_rfl) (by kernel_rfl) (by kernel_rfl) (fun _ _ _ h => by cases h.1) rfl ?hya13e2 ?ra13e2
            case hya13e2 => (intro wq; go_simp; try (with_reducible rfl))
            simp only [Act.put, List.setIfInBounds_toArray, List.set_cons_zero, List.set_cons_succ]
            refine wpAny_ready (rs := [14]) (by kernel_rfl) (by simp) ?_
            refine AllReady.cons rfl (fun K hK => ?_) AllReady.nil
            simp only [List.getElem_toArray, List.getElem_cons_zero, List.getElem_cons_succ]
            rw [if_pos (by rfl)]
            have q1 := a1.there (2 + z * 6) 6 (by omega)
            refine wp_store_mid0 30 _ _ rfl rfl g _ (TL 6 fun k => xorI (mulI (f (x * 6 + k)) y) (f (z * 6 + k))) rfl rfl (by rw [TL_len]; exact q1) (by kernel_rfl) (TL_one _ _) ?_
            refine hK _ _ ?_
            clear hK
            refine wpAny_done (by kernel_rfl) ?_ _
            obtain ⟨q0, _⟩ : ∃ q : Nat, q = 0 := ⟨0, rfl⟩
            refine ⟨rfl, q0, ?_, (MB.puts 6 (z * 6) (fun k => xorI (mulI (f (x * 6 + k)) y) (f (z * 6 + k))) _ _ a1 (by omega)).ext (add_puts f x z y hx hz), a2.setCells_other (by omega) _, Lib.hid (Below.setCells (Nat.le_refl g) _ _ _ a4)⟩
            rfl
        · simp only [List.getElem_toArray, List.getElem_cons_zero, List.getElem_cons_succ]
          rw [if_pos (by rfl)]
          refine wp_load_mid1 30 _ rfl rfl (g) _ rfl (TL 6 fun k => f (z * 6 + k)) (.array 6 29) (a1.sub2 z hz) (by kernel_rfl) rfl (by kernel_rfl) ?_
          refine hK _ _ ?_
          clear hK
          simp only [Act.put, List.setIfInBounds_toArray, List.set_cons_zero, List.set_cons_succ]
          refine wpAny_ready (rs := [4]) (by kernel_rfl) (by simp) ?_
          refine AllReady.cons rfl (fun K hK => ?_) AllReady.nil
          simp only [List.getElem_toArray, List.getElem_cons_zero, List.getElem_cons_succ]
          rw [if_pos (by rfl)]
          refine wp_load_mid1 30 _ rfl rfl (g) _ rfl (TL 6 fun k => f (x * 6 + k)) (.array 6 29) (a1.sub2 x hx) (by kernel_rfl) rfl (by kernel_rfl) ?_
          refine hK _ _ ?_
          clear hK
          simp only [Act.put, List.setIfInBounds_toArray, List.set_cons_zero, List.set_cons_succ]
          refine wpAny_ready (rs := [6]) (by kernel_rfl) (by simp) ?_
          refine AllReady.cons rfl (fun K hK => ?_) AllReady.nil
          simp only [List.getElem_toArray, List.getElem_cons_zero, List.getElem_cons_succ]
          go_simp
          refine (scaled_any (fun k => f (x * 6 + k)) (fun t => HF.out _) y y0 y1 _).mono ?_
          rintro e w6 ⟨rfl, hn⟩
          refine hK _ _ ?_
          clear hK
          replace a4 := bnext a4 hn (Nat.le_of_lt a1.lt)
          replace a1 := a1.below hn a1.lt
          replace a2 := a2.below hn a2.lt
          clear hn
          refine wpAny_ready (rs := [11]) (by kernel_rfl) (by simp) ?_
          refine AllReady.cons rfl (fun K hK => ?_) AllReady.nil
          simp only [List.getElem_toArray, List.getElem_cons_zero, List.getElem_cons_succ]
          go_simp
          refine (vplus_any (fun k => mulI (f (x * 6 + k)) y) (fun k => f (z * 6 + k)) (fun t => mulI_b (HF.out _).1 (HF.out _).2 y0 y1) (fun t => HF.out _) _).mono ?_
          rintro e w11 ⟨rfl, hn⟩
          refine hK _ _ ?_
          clear hK
          replace a4 := bnext a4 hn (Nat.le_of_lt a1.lt)
          replace a1 := a1.below hn a1.lt
          replace a2 := a2.below hn a2.lt
          clear hn
          refine takeA (i := 13) (v := ?va13e3) rfl rfl (by kernel_rfl) (by kernel_rfl) (by kernel_rfl) (fun _ _ _ h => by cases h.1) rfl ?hya13e3 ?ra13e3
          case hya13e3 => (intro wq; go_simp; try (with_reducible rfl))
          simp only [Act.put, List.setIfInBounds_toArray, List.set_cons_zero, List.set_cons_succ]
          refine wpAny_ready (rs := [14]) (by kernel_rfl) (by simp) ?_
          refine AllReady.cons rfl (fun K hK => ?_) AllReady.nil
          simp only [List.getElem_toArray, List.getElem_cons_zero, List.getElem_cons_succ]
          rw [if_pos (by rfl)]
          have q1 := a1.there (2 + z * 6) 6 (by omega)
          refine wp_store_mid0 30 _ _ rfl rfl g _ (TL 6 fun k => xorI (mulI (f (x * 6 + k)) y) (f (z * 6 + k))) rfl rfl (by rw [TL_len]; exact q1) (by kernel_rfl) (TL_one _ _) ?_
          refine hK _ _ ?_
          clear hK
          refine wpAny_done (by kernel_rfl) ?_ _
          obtain ⟨q0, _⟩ : ∃ q : Nat, q = 0 := ⟨0, rfl⟩
          refine ⟨rfl, q0, ?_, (MB.puts 6 (z * 6) (fun k => xorI (mulI (f (x * 6 + k)) y) (f (z * 6 + k))) _ _ a1 (by omega)).ext (add_puts f x z y hx hz), a2.setCells_other (by omega) _, Lib.hid (Below.setCells (Nat.le_refl g) _ _ _ a4)⟩
          rfl
      rintro _ w9 ⟨b1, b2, b4⟩
      replace b4 := b4.out
      go_wp2_with (first | (guard_target =~ wpList _ _ _ (⟨_, Op.load 33 (Operand.tmp 4), _, _, _, _⟩ :: _) _ _; refine wpList_load_row rfl 33 _ rfl (g) rfl _ (CL r c (addF f x z y)).toArray (0, 0) _ b1 Try.underlying33 rfl (by kernel_rfl) ?_) | (guard_target =~ wpList _ _ _ (⟨_, Op.store 33 (Operand.tmp 8) _, _, _, _, _⟩ :: _) _ _; refine wpList_store_row rfl 33 _ _ rfl (g + 1) (CL r c (addF f x z y)).toArray rfl rfl _ _ b2 (by kernel_rfl) rfl (CL_one _ _ _) ?_))
      refine bodyPost_ret (v := .tuple #[MV r c (addF f x z y), .int .i64 0]) ?_ rfl ⟨congrArg Ending.returned HV.out.symm, by obtain rfl := HG.out; exact Below.setRow b4 (Nat.le_succ _) _⟩
      exact results_cell_tmp2 rfl _ _ (g + 1) _ _ (0, 0) _ _ rfl rfl (b2.setRow _) Try.underlying33 rfl (by kernel_rfl)
end Go.Proofs.Ytjbaeomjinnlhaa
