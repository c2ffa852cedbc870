/-
  Two vectors, two matrices: their sum.
-/
import Derived.Test.YtjbaeomjinnlhaaOk2
import Derived.Deep.RegionHeld
import Derived.Test.YtjbaeomjinnlhaaAdd
namespace Go.Proofs.Ytjbaeomjinnlhaa
set_option linter.unusedVariables false
set_option linter.unusedSimpArgs false
open Go.ChangeShapes Go.WideShapes Go.ChangeAt Go.RowKit

set_option maxRecDepth 100000 in
set_option maxHeartbeats 1000000 in
theorem vplus_any (f h : Nat → Int) (hf : VW f) (hh : VW h) (w : World) : Calls Try.prog 107 #[VV f, VV h] w fun e w' => e = .returned (VV fun k => xorI (f k) (h k)) ∧ Below w.heap.size w w' := by
  go_enter Try.func107, Try.ntmps107
  go_upto_region 1 with fail
  obtain ⟨a1, a3, a2, a4, _⟩ := new3 w (.cells (TL 6 f).toArray 45) (.cells (TL 6 h).toArray 45) (.cells (TL 6 fun _ => 0).toArray 45)
  rw [zero6]
  obtain ⟨g, hg⟩ : ∃ g, g = w.heap.size := ⟨_, rfl⟩
  rw [← hg] at a1 a2 a3 a4 ⊢
  generalize World.alloc (World.alloc (World.alloc w _) _) _ = w2 at a1 a2 a3 a4 ⊢
  replace a1 : RB w2 g 45 6 f := a1
  replace a3 : RB w2 (g + 1) 45 6 h := a3
  replace a2 : RB w2 (g + 1 + 1) 45 6 (fun _ => 0) := a2
  have HF := Lib.hid hf
  have HH := Lib.hid hh
  have HG := Lib.hid hg
  clear hg hf hh
  go_upto_region 2 with (first | (guard_target =~ wpList _ _ _ (⟨_, Op.load 45 (Operand.tmp 3), _, _, _, _⟩ :: _) _ _; refine wpList_load_row rfl 45 _ rfl (g + 1) rfl _ (TL 6 h).toArray (0, 0) (.array 6 29) (a3) (by kernel_rfl) rfl (by kernel_rfl) ?_))
  go_loopw [8] (fun p wr => ∃ (k : Nat), p = .int .i64 k ∧ k ≤ 6 ∧ RB wr g 45 6 (mix k (fun k => xorI (f k) (h k)) f) ∧ RB wr (g + 1 + 1) 45 6 (fun _ => 0) ∧ Hid (Below g w wr)) (fun p _ => (6 - intOf p).toNat)
  case atStart => exact ⟨0, rfl, by omega, a1.ext (fun s _ => by rw [mix_zero]), a2, Lib.hid a4⟩
  case round =>
    clear a1 a2 a3 a4
    obtain ⟨k, rfl, hk, h1, h2, hb⟩ := hrel
    by_cases hlt : k < 6
    · have c2 := h1.cell k hlt
      rw [mix_at] at c2
      have c3 := h1.free k
      have b1 := HF.out k
      have b2 := HH.out k
      have k1 : (k : Int) < 6 := by omega
      have T1 : decide ((k : Int) < 6) = true := by simp; omega
      have H1 := Lib.hid h1; have H2 := Lib.hid h2
      clear h1 h2
      go_wp2_with (first | (guard_target =~ wpList _ _ _ (⟨_, Op.index 45 _ _, _, _, _, _⟩ :: _) _ _; refine wpList_index_cell rfl 45 _ _ rfl h k rfl rfl hlt (e := 29) (by kernel_rfl) (by kernel_rfl) (by kernel_rfl) ?_))
      refine (nplus_eq (f k) (h k) b1.1 b1.2 b2.1 b2.2 _).mono ?_
      rintro e wn ⟨rfl, rfl⟩
      go_wp2_with fail
      refine ⟨⟨k + 1, rfl, by omega, (H1.out.put k hlt _).ext (fun s _ => congrFun (mix_step k (fun k => xorI (f k) (h k)) f _ rfl) s), H2.out.other (by omega) _, Lib.hid (hb.out.setCell (p := ⟨g, k, none⟩) (by simp) _)⟩, by simp [intOf]; omega⟩
    · obtain rfl : k = 6 := by omega
      have h3' := h1.ext (f' := fun k => xorI (f k) (h k)) (fun s hs => by rw [mix_new _ _ hs])
      have T1 : decide (((6 : Nat) : Int) < 6) = false := by simp
      clear h1
      go_wp2_with (first | (guard_target =~ wpList _ _ _ (⟨_, Op.load 45 (Operand.tmp 2), _, _, _, _⟩ :: _) _ _; refine wpList_load_row rfl 45 _ rfl (g) rfl _ (TL 6 fun k => xorI (f k) (h k)).toArray (0, 0) (.array 6 29) (h3') (by kernel_rfl) rfl (by kernel_rfl) ?_) | (guard_target =~ wpList _ _ _ (⟨_, Op.store 45 (Operand.tmp 4) _, _, _, _, _⟩ :: _) _ _; refine wpList_store_row rfl 45 _ _ rfl (g + 1 + 1) (TL 6 fun k => xorI (f k) (h k)).toArray rfl rfl _ _ (h2) (by kernel_rfl) rfl (TL_one _ _) ?_))
      refine bodyPost_ret (v := VV fun k => xorI (f k) (h k)) ?_ rfl ⟨rfl, by obtain rfl := HG.out; exact Below.setRow hb.out (by omega) _⟩
      exact results_cell_row rfl _ _ (g + 1 + 1) _ _ (0, 0) (.array 6 29) rfl (h2.setRow fun k => xorI (f k) (h k)) (by kernel_rfl) rfl (by kernel_rfl)

def twoC (D : Prop) [Decidable D] (r c : Int) (f : Nat → Int) (p q : Int) (h : Nat → Int) : Int := if (okB r c f && okB p q h) = true then (if D then 0 else 4) else 1
def twoV (D : Prop) [Decidable D] (r c : Int) (f : Nat → Int) (p q : Int) (h : Nat → Int) (R C : Int) (F : Nat → Int) : Value :=
  if twoC D r c f p q h = 0 then .tuple #[MV R C F, .int .i64 0] else .tuple #[MV 0 0 (fun _ => 0), .int .i64 (twoC D r c f p q h)]
theorem twoV_form (D : Prop) [Decidable D] (r c : Int) (f : Nat → Int) (p q : Int) (h : Nat → Int) (R C : Int) (F : Nat → Int) (hM : MW R C F) : ∃ R' C' F' k, twoV D r c f p q h R C F = .tuple #[MV R' C' F', .int .i64 k] ∧ MW R' C' F' := by
  unfold twoV
  split
  · exact ⟨_, _, _, _, rfl, hM⟩
  · exact ⟨_, _, _, _, rfl, by omega, by omega, by omega, by omega, fun _ => ⟨Int.le_refl 0, show (0 : Int) < 65536 by decide⟩⟩

set_option maxRecDepth 100000 in
set_option maxHeartbeats 2000000 in
theorem spec_PlusMatrix (r c : Int) (f : Nat → Int) (hm : MW r c f) (p q : Int) (h : Nat → Int) (hm2 : MW p q h) (w : World) : Calls Try.prog 34 #[MV r c f, MV p q h] w fun e w' => e = .returned (twoV (r = p ∧ c = q) r c f p q h (r) (c) (fun s => xorI (f s) (h s))) ∧ Below w.heap.size w w' := by
  go_enter Try.func34, Try.ntmps34
  go_upto_region 1 with fail
  obtain ⟨a1, a2, a3, a4, a5⟩ := new3 w (.cells (CL r c f).toArray 33) (.cells (CL p q h).toArray 33) (.cells (CL 0 0 fun _ => 0).toArray 33)
  rw [zero38]
  obtain ⟨g, hg⟩ : ∃ g, g = w.heap.size := ⟨_, rfl⟩
  rw [← hg] at a1 a2 a3 a4 a5 ⊢
  generalize World.alloc (World.alloc (World.alloc w _) _) _ = w2 at a1 a2 a3 a4 a5 ⊢
  replace a1 : MB w2 g 33 r c f := a1
  replace a2 : MB w2 (g + 1) 33 p q h := a2
  replace a3 : MB w2 (g + 1 + 1) 33 0 0 (fun _ => 0) := a3
  have HG := Lib.hid hg
  clear hg a5
  go_wp2_with fail
  refine (l02Ok_any r c f hm g _ _ a1).mono ?_
  rintro e wn ⟨rfl, rfl⟩
  rcases ok1 : okB r c f with _ | _
  · have hV : twoV (r = p ∧ c = q) r c f p q h (r) (c) (fun s => xorI (f s) (h s)) = .tuple #[MV 0 0 (fun _ => 0), .int .i64 1] := by unfold twoV twoC; rw [ok1]; rfl
    have HV := Lib.hid hV
    clear ok1 hV
    go_wp2_with (first | (guard_target =~ wpList _ _ _ (⟨_, Op.build 33 _, _, _, _, _⟩ :: _) _ _; refine wpList_build0 rfl 33 rfl (CL 0 0 fun _ => 0).toArray (by kernel_rfl) ?_) | (guard_target =~ wpList _ _ _ (⟨_, Op.store 33 (Operand.tmp 4) _, _, _, _, _⟩ :: _) _ _; refine wpList_store_row rfl 33 _ _ rfl (g + 1 + 1) (CL 0 0 fun _ => 0).toArray rfl rfl _ _ a3 (by kernel_rfl) rfl (CL_one _ _ _) ?_))
    refine bodyPost_ret (v := .tuple #[MV 0 0 (fun _ => 0), .int .i64 1]) ?_ rfl ⟨congrArg Ending.returned HV.out.symm, by obtain rfl := HG.out; exact Below.setRow a4 (by omega) _⟩
    exact results_cell_tmp2 rfl _ _ (g + 1 + 1) _ _ (0, 0) _ _ rfl rfl (a3.setRow _) Try.underlying33 rfl (by kernel_rfl)
  · skip
    go_wp2_with fail
    refine (l02Ok_any p q h hm2 (g + 1) _ _ a2).mono ?_
    rintro e wk ⟨rfl, rfl⟩
    rcases ok2 : okB p q h with _ | _
    · have hV : twoV (r = p ∧ c = q) r c f p q h (r) (c) (fun s => xorI (f s) (h s)) = .tuple #[MV 0 0 (fun _ => 0), .int .i64 1] := by unfold twoV twoC; rw [ok1, ok2]; rfl
      have HV := Lib.hid hV
      clear ok1 ok2 hV
      go_wp2_with (first | (guard_target =~ wpList _ _ _ (⟨_, Op.build 33 _, _, _, _, _⟩ :: _) _ _; refine wpList_build0 rfl 33 rfl (CL 0 0 fun _ => 0).toArray (by kernel_rfl) ?_) | (guard_target =~ wpList _ _ _ (⟨_, Op.store 33 (Operand.tmp 4) _, _, _, _, _⟩ :: _) _ _; refine wpList_store_row rfl 33 _ _ rfl (g + 1 + 1) (CL 0 0 fun _ => 0).toArray rfl rfl _ _ a3 (by kernel_rfl) rfl (CL_one _ _ _) ?_))
      refine bodyPost_ret (v := .tuple #[MV 0 0 (fun _ => 0), .int .i64 1]) ?_ rfl ⟨congrArg Ending.returned HV.out.symm, by obtain rfl := HG.out; exact Below.setRow a4 (by omega) _⟩
      exact results_cell_tmp2 rfl _ _ (g + 1 + 1) _ _ (0, 0) _ _ rfl rfl (a3.setRow _) Try.underlying33 rfl (by kernel_rfl)
    · have c1 := a1.rows
      have c2 := a1.cols
      have c3 := a2.rows
      have c4 := a2.cols
      have HO1 := Lib.hid ok1
      have HO2 := Lib.hid ok2
      by_cases hr : r = p
      · by_cases hc : c = q
        · have hd : r = p ∧ c = q := ⟨hr, hc⟩
          have e1 : (r != p) = false := by simpa using hr
          have e2 : (c != q) = false := by simpa using hc
          have HR := Lib.hid hr
          have HC := Lib.hid hc
          clear hr hc
          have hV : twoV (r = p ∧ c = q) r c f p q h (r) (c) (fun s => xorI (f s) (h s)) = .tuple #[MV (r) (c) (fun s => xorI (f s) (h s)), .int .i64 0] := by unfold twoV twoC; rw [ok1, ok2, if_pos (show (true && true) = true from rfl), if_pos hd]; rfl
          have HV := Lib.hid hV
          clear hV ok1 ok2 hd
          have HF := Lib.hid hm.2.2.2.2
          have HH := Lib.hid hm2.2.2.2.2
          go_wp2_with fail
          go_loopw [6] (fun u wr => ∃ (i : Nat), u = .int .i64 i ∧ i ≤ 6 ∧ MB wr g 33 r c (mix (i * 6) (fun s => xorI (f s) (h s)) f) ∧ MB wr (g + 1) 33 p q h ∧ MB wr (g + 1 + 1) 33 0 0 (fun _ => 0) ∧ Hid (Below g w wr)) (fun u _ => (6 - intOf u).toNat)
          case atStart => exact ⟨0, rfl, by omega, a1.ext (fun s _ => by rw [Nat.zero_mul, mix_zero]), a2, a3, Lib.hid a4⟩
          case round =>
            clear a1 a2 a3 a4 c1 c2 c3 c4 e1 e2
            obtain ⟨i, rfl, hi, m1, m2, m3, hb⟩ := hrel
            by_cases hlt6 : i < 6
            · have T1 : decide ((i : Int) < 6) = true := by simp; omega
              go_wp2_with fail
              go_loopw [7] (fun u wr => ∃ (k : Nat), u = .int .i64 k ∧ k ≤ 6 ∧ MB wr g 33 r c (mix (i * 6 + k) (fun s => xorI (f s) (h s)) f) ∧ MB wr (g + 1) 33 p q h ∧ MB wr (g + 1 + 1) 33 0 0 (fun _ => 0) ∧ Hid (Below g w wr)) (fun u _ => (6 - intOf u).toNat)
              case atStart => exact ⟨0, rfl, by omega, m1, m2, m3, hb⟩
              case round =>
                clear m1 m2 m3 hb
                obtain ⟨k, rfl, hk, m1, m2, m3, hb⟩ := hrel
                by_cases hlk : k < 6
                · have T2 : decide ((k : Int) < 6) = true := by simp; omega
                  have d1 := m1.cell2 i k hlt6 hlk
                  rw [mix_at] at d1
                  have d2 := m2.cell2 i k hlt6 hlk
                  have d3 := m1.free (2 + i * 6 + k)
                  have i1 : (i : Int) < 6 := by omega
                  have k1 : (k : Int) < 6 := by omega
                  have b1 := HF.out (i * 6 + k)
                  have b2 := HH.out (i * 6 + k)
                  have bx := bits_xor (f (i * 6 + k)) (h (i * 6 + k)) b1.1 b1.2 b2.1 b2.2
                  have M1 := Lib.hid m1; have M2 := Lib.hid m2; have M3 := Lib.hid m3
                  clear m1 m2 m3
                  go_wp2_with fail
                  refine wp_region_still_tail 18 (by kernel_rfl) (by kernel_rfl) ?_
                  simp only [List.take_succ_cons, List.take_zero, List.drop_succ_cons, List.drop_zero]
                  iterate 18 still_step
                  refine wpStill_nil ?_
                  change wpList _ _ _ _ _ wr.drew
                  go_wp2_with fail
                  exact ⟨⟨k + 1, rfl, by omega, (M1.out.put2 i k hlt6 hlk _).ext (fun s _ => congrFun (mix_step (i * 6 + k) (fun s => xorI (f s) (h s)) f _ rfl) s), M2.out.other (by omega) _, M3.out.other (by omega) _, Lib.hid (hb.out.setCell (p := ⟨g, 2 + i * 6 + k, none⟩) (by simp) _).drew⟩, by simp [intOf]; omega⟩
                · obtain rfl : k = 6 := by omega
                  have T2 : decide (((6 : Nat) : Int) < 6) = false := by simp
                  go_wp2_with fail
                  exact ⟨⟨i + 1, rfl, by omega, m1.ext (fun s _ => by rw [show (i + 1) * 6 = i * 6 + 6 from by omega]), m2, m3, hb⟩, by simp [intOf]; omega⟩
            · obtain rfl : i = 6 := by omega
              have T1 : decide (((6 : Nat) : Int) < 6) = false := by simp
              have m1' := m1.ext (f' := fun s => xorI (f s) (h s)) (fun s hs => by rw [mix_new _ _ hs])
              clear m1
              go_wp2_with (first | (guard_target =~ wpList _ _ _ (⟨_, Op.load 33 (Operand.tmp 2), _, _, _, _⟩ :: _) _ _; refine wpList_load_row rfl 33 _ rfl (g) rfl _ (CL r c (fun s => xorI (f s) (h s))).toArray (0, 0) _ m1' Try.underlying33 rfl (by kernel_rfl) ?_) | (guard_target =~ wpList _ _ _ (⟨_, Op.store 33 (Operand.tmp 4) _, _, _, _, _⟩ :: _) _ _; refine wpList_store_row rfl 33 _ _ rfl (g + 1 + 1) (CL r c (fun s => xorI (f s) (h s))).toArray rfl rfl _ _ m3 (by kernel_rfl) rfl (CL_one _ _ _) ?_))
              refine bodyPost_ret (v := .tuple #[MV r c (fun s => xorI (f s) (h s)), .int .i64 0]) ?_ rfl ⟨congrArg Ending.returned HV.out.symm, by obtain rfl := HG.out; exact Below.setRow hb.out (by omega) _⟩
              exact results_cell_tmp2 rfl _ _ (g + 1 + 1) _ _ (0, 0) _ _ rfl rfl (m3.setRow _) Try.underlying33 rfl (by kernel_rfl)
        · have hd : ¬ (r = p ∧ c = q) := fun x => hc x.2
          have e1 : (r != p) = false := by simpa using hr
          have e2 : (c != q) = true := by simpa using hc
          clear hr hc
          have hV : twoV (r = p ∧ c = q) r c f p q h (r) (c) (fun s => xorI (f s) (h s)) = .tuple #[MV 0 0 (fun _ => 0), .int .i64 4] := by unfold twoV twoC; rw [ok1, ok2, if_pos (show (true && true) = true from rfl), if_neg hd]; rfl
          have HV := Lib.hid hV
          clear hV ok1 ok2 hd
          go_wp2_with (first | (guard_target =~ wpList _ _ _ (⟨_, Op.build 33 _, _, _, _, _⟩ :: _) _ _; refine wpList_build0 rfl 33 rfl (CL 0 0 fun _ => 0).toArray (by kernel_rfl) ?_) | (guard_target =~ wpList _ _ _ (⟨_, Op.store 33 (Operand.tmp 4) _, _, _, _, _⟩ :: _) _ _; refine wpList_store_row rfl 33 _ _ rfl (g + 1 + 1) (CL 0 0 fun _ => 0).toArray rfl rfl _ _ a3 (by kernel_rfl) rfl (CL_one _ _ _) ?_))
          refine bodyPost_ret (v := .tuple #[MV 0 0 (fun _ => 0), .int .i64 4]) ?_ rfl ⟨congrArg Ending.returned HV.out.symm, by obtain rfl := HG.out; exact Below.setRow a4 (by omega) _⟩
          exact results_cell_tmp2 rfl _ _ (g + 1 + 1) _ _ (0, 0) _ _ rfl rfl (a3.setRow _) Try.underlying33 rfl (by kernel_rfl)
      · have hd : ¬ (r = p ∧ c = q) := fun x => hr x.1
        have e1 : (r != p) = true := by simpa using hr
        clear hr
        have hV : twoV (r = p ∧ c = q) r c f p q h (r) (c) (fun s => xorI (f s) (h s)) = .tuple #[MV 0 0 (fun _ => 0), .int .i64 4] := by unfold twoV twoC; rw [ok1, ok2, if_pos (show (true && true) = true from rfl), if_neg hd]; rfl
        have HV := Lib.hid hV
        clear hV ok1 ok2 hd
        go_wp2_with (first | (guard_target =~ wpList _ _ _ (⟨_, Op.build 33 _, _, _, _, _⟩ :: _) _ _; refine wpList_build0 rfl 33 rfl (CL 0 0 fun _ => 0).toArray (by kernel_rfl) ?_) | (guard_target =~ wpList _ _ _ (⟨_, Op.store 33 (Operand.tmp 4) _, _, _, _, _⟩ :: _) _ _; refine wpList_store_row rfl 33 _ _ rfl (g + 1 + 1) (CL 0 0 fun _ => 0).toArray rfl rfl _ _ a3 (by kernel_rfl) rfl (CL_one _ _ _) ?_))
        refine bodyPost_ret (v := .tuple #[MV 0 0 (fun _ => 0), .int .i64 4]) ?_ rfl ⟨congrArg Ending.returned HV.out.symm, by obtain rfl := HG.out; exact Below.setRow a4 (by omega) _⟩
        exact results_cell_tmp2 rfl _ _ (g + 1 + 1) _ _ (0, 0) _ _ rfl rfl (a3.setRow _) Try.underlying33 rfl (by kernel_rfl)

set_option maxRecDepth 100000 in
set_option maxHeartbeats 2000000 in
theorem impl_PlusMatrix (r c : Int) (f : Nat → Int) (hm : MW r c f) (p q : Int) (h : Nat → Int) (hm2 : MW p q h) (w : World) : Calls Try.prog 35 #[MV r c f, MV p q h] w fun e w' => e = .returned (twoV (r = p ∧ c = q) r c f p q h (r) (c) (fun s => xorI (f s) (h s))) ∧ Below w.heap.size w w' := by
  go_enter Try.func35, Try.ntmps35
  go_upto_region 1 with fail
  obtain ⟨a1, a2, a3, a4, a5⟩ := new3 w (.cells (CL r c f).toArray 33) (.cells (CL p q h).toArray 33) (.cells (CL 0 0 fun _ => 0).toArray 33)
  rw [zero38]
  obtain ⟨g, hg⟩ : ∃ g, g = w.heap.size := ⟨_, rfl⟩
  rw [← hg] at a1 a2 a3 a4 a5 ⊢
  generalize World.alloc (World.alloc (World.alloc w _) _) _ = w2 at a1 a2 a3 a4 a5 ⊢
  replace a1 : MB w2 g 33 r c f := a1
  replace a2 : MB w2 (g + 1) 33 p q h := a2
  replace a3 : MB w2 (g + 1 + 1) 33 0 0 (fun _ => 0) := a3
  have HG := Lib.hid hg
  clear hg a5
  go_wp2_with (first | (guard_target =~ wpList _ _ _ (⟨_, Op.load 33 (Operand.tmp 2), _, _, _, _⟩ :: _) _ _; refine wpList_load_row rfl 33 _ rfl (g) rfl _ (CL r c f).toArray (0, 0) _ a1 Try.underlying33 rfl (by kernel_rfl) ?_))
  refine (impl_ValidMatrix r c f hm _).mono ?_
  rintro e wn ⟨rfl, hn⟩
  replace a4 := bnext a4 hn (Nat.le_of_lt a1.lt)
  replace a1 := a1.below hn a1.lt
  replace a2 := a2.below hn a2.lt
  replace a3 := a3.below hn a3.lt
  clear hn
  rcases ok1 : okB r c f with _ | _
  · have hV : twoV (r = p ∧ c = q) r c f p q h (r) (c) (fun s => xorI (f s) (h s)) = .tuple #[MV 0 0 (fun _ => 0), .int .i64 1] := by unfold twoV twoC; rw [ok1]; rfl
    have HV := Lib.hid hV
    clear ok1 hV
    go_wp2_with (first | (guard_target =~ wpList _ _ _ (⟨_, Op.build 33 _, _, _, _, _⟩ :: _) _ _; refine wpList_build0 rfl 33 rfl (CL 0 0 fun _ => 0).toArray (by kernel_rfl) ?_) | (guard_target =~ wpList _ _ _ (⟨_, Op.store 33 (Operand.tmp 4) _, _, _, _, _⟩ :: _) _ _; refine wpList_store_row rfl 33 _ _ rfl (g + 1 + 1) (CL 0 0 fun _ => 0).toArray rfl rfl _ _ a3 (by kernel_rfl) rfl (CL_one _ _ _) ?_))
    refine bodyPost_ret (v := .tuple #[MV 0 0 (fun _ => 0), .int .i64 1]) ?_ rfl ⟨congrArg Ending.returned HV.out.symm, by obtain rfl := HG.out; exact Below.setRow a4 (by omega) _⟩
    exact results_cell_tmp2 rfl _ _ (g + 1 + 1) _ _ (0, 0) _ _ rfl rfl (a3.setRow _) Try.underlying33 rfl (by kernel_rfl)
  · skip
    go_wp2_with (first | (guard_target =~ wpList _ _ _ (⟨_, Op.load 33 (Operand.tmp 3), _, _, _, _⟩ :: _) _ _; refine wpList_load_row_w rfl 33 _ rfl (g + 1) rfl _ (CL p q h).toArray (0, 0) _ a2 Try.underlying33 rfl (by kernel_rfl) ?_))
    refine (impl_ValidMatrix p q h hm2 _).mono ?_
    rintro e wk ⟨rfl, hn⟩
    replace a4 := bnext a4 hn (Nat.le_of_lt a1.lt)
    replace a1 := a1.below hn a1.lt
    replace a2 := a2.below hn a2.lt
    replace a3 := a3.below hn a3.lt
    clear hn
    rcases ok2 : okB p q h with _ | _
    · have hV : twoV (r = p ∧ c = q) r c f p q h (r) (c) (fun s => xorI (f s) (h s)) = .tuple #[MV 0 0 (fun _ => 0), .int .i64 1] := by unfold twoV twoC; rw [ok1, ok2]; rfl
      have HV := Lib.hid hV
      clear ok1 ok2 hV
      go_wp2_with (first | (guard_target =~ wpList _ _ _ (⟨_, Op.build 33 _, _, _, _, _⟩ :: _) _ _; refine wpList_build0 rfl 33 rfl (CL 0 0 fun _ => 0).toArray (by kernel_rfl) ?_) | (guard_target =~ wpList _ _ _ (⟨_, Op.store 33 (Operand.tmp 4) _, _, _, _, _⟩ :: _) _ _; refine wpList_store_row rfl 33 _ _ rfl (g + 1 + 1) (CL 0 0 fun _ => 0).toArray rfl rfl _ _ a3 (by kernel_rfl) rfl (CL_one _ _ _) ?_))
      refine bodyPost_ret (v := .tuple #[MV 0 0 (fun _ => 0), .int .i64 1]) ?_ rfl ⟨congrArg Ending.returned HV.out.symm, by obtain rfl := HG.out; exact Below.setRow a4 (by omega) _⟩
      exact results_cell_tmp2 rfl _ _ (g + 1 + 1) _ _ (0, 0) _ _ rfl rfl (a3.setRow _) Try.underlying33 rfl (by kernel_rfl)
    · have c1 := a1.rows
      have c2 := a1.cols
      have c3 := a2.rows
      have c4 := a2.cols
      have HO1 := Lib.hid ok1
      have HO2 := Lib.hid ok2
      by_cases hr : r = p
      · by_cases hc : c = q
        · have hd : r = p ∧ c = q := ⟨hr, hc⟩
          have e1 : (r != p) = false := by simpa using hr
          have e2 : (c != q) = false := by simpa using hc
          have HR := Lib.hid hr
          have HC := Lib.hid hc
          clear hr hc
          have hV : twoV (r = p ∧ c = q) r c f p q h (r) (c) (fun s => xorI (f s) (h s)) = .tuple #[MV (r) (c) (fun s => xorI (f s) (h s)), .int .i64 0] := by unfold twoV twoC; rw [ok1, ok2, if_pos (show (true && true) = true from rfl), if_pos hd]; rfl
          have HV := Lib.hid hV
          clear hV ok1 ok2 hd
          have HF := Lib.hid hm.2.2.2.2
          have HH := Lib.hid hm2.2.2.2.2
          have r1 := a2.grid
          go_upto_region 6 with (first | (guard_target =~ wpList _ _ _ (⟨_, Op.load 31 (Operand.tmp 30), _, _, _, _⟩ :: _) _ _; refine wpList_load_mid rfl 31 _ rfl (g + 1) _ rfl (TL 36 h) (.array 6 30) (r1) (by kernel_rfl) rfl (by kernel_rfl) ?_))
          go_loopw [32] (fun u wr => ∃ (i : Nat), u = .int .i64 i ∧ i ≤ 6 ∧ MB wr g 33 r c (mix (i * 6) (fun s => xorI (f s) (h s)) f) ∧ MB wr (g + 1 + 1) 33 0 0 (fun _ => 0) ∧ Hid (Below g w wr)) (fun u _ => (6 - intOf u).toNat)
          case atStart => exact ⟨0, rfl, by omega, a1.ext (fun s _ => by rw [Nat.zero_mul, mix_zero]), a3, Lib.hid a4⟩
          case round =>
            clear a1 a2 a3 a4 c1 c2 c3 c4 e1 e2 r1
            obtain ⟨i, rfl, hi, m1, m3, hb⟩ := hrel
            by_cases hlt6 : i < 6
            · have T1 : decide ((i : Int) < 6) = true := by simp; omega
              have i1 : (i : Int) < 6 := by omega
              go_upto_region 8 with (first | (guard_target =~ wpList _ _ _ (⟨_, Op.index 31 _ _, _, _, _, _⟩ :: _) _ _; refine wpList_index_row rfl 31 _ _ rfl h i rfl rfl hlt6 (r := 30) (e := 29) (by kernel_rfl) (by kernel_rfl) (by kernel_rfl) ?_) | (guard_target =~ wpList _ _ _ (⟨_, Op.store 30 _ _, _, _, _, _⟩ :: _) _ _; refine wpList_store_fresh (cells := (TL 6 fun k => h (i * 6 + k)).toArray) rfl 30 _ _ rfl rfl rfl (by kernel_rfl) rfl (TL_one _ _) ?_))
              have n1 := m1.alloc (.cells (TL 6 fun k => h (i * 6 + k)).toArray 30)
              have n3 := m3.alloc (.cells (TL 6 fun k => h (i * 6 + k)).toArray 30)
              have n4 : RB (wr.alloc (.cells (TL 6 fun k => h (i * 6 + k)).toArray 30)) wr.heap.size 30 6 (fun k => h (i * 6 + k)) := heap_alloc_last _ _
              have n5 := hb.out.alloc (show g ≤ wr.heap.size by have := m3.lt; omega) (.cells (TL 6 fun k => h (i * 6 + k)).toArray 30)
              obtain ⟨g4, hg4⟩ : ∃ g4, g4 = wr.heap.size := ⟨_, rfl⟩
              rw [← hg4] at n4 ⊢
              generalize wr.alloc (.cells (TL 6 fun k => h (i * 6 + k)).toArray 30) = w5 at n1 n3 n4 n5 ⊢
              clear m1 m3 hb hg4
              refine wp_region_any (by kernel_rfl) ?_
              change wpAny _ _ _ _ _ _ _ w5.drew
              replace n1 : MB w5.drew g 33 r c (mix (i * 6) (fun s => xorI (f s) (h s)) f) := n1
              replace n3 : MB w5.drew (g + 1 + 1) 33 0 0 (fun _ => 0) := n3
              replace n4 : RB w5.drew g4 30 6 (fun k => h (i * 6 + k)) := n4
              replace n5 := n5.drew
              generalize w5.drew = wd at n1 n3 n4 n5 ⊢
              have r1 := n1.sub2 i hlt6
              have r2 := n4.range
              have e0 : (TL 6 fun k => mix (i * 6) (fun s => xorI (f s) (h s)) f (i * 6 + k)) = TL 6 fun k => f (i * 6 + k) := TL_ext fun k hk => mix_old _ _ (by omega)
              rw [e0] at r1
              clear e0
              refine takeA (i := 0) (v := ?va0) rfl rfl (by kernel_rfl) (by kernel_rfl) (by kernel_rfl) (fun _ _ _ h => h) rfl ?hya0 ?ra0
              case hya0 => (intro wq; go_simp; try (with_reducible rfl))
              simp only [Act.put, List.setIfInBounds_toArray, List.set_cons_zero, List.set_cons_succ]
              refine takeA (i := 1) (v := ?va1) rfl rfl (by kernel_rfl) (by kernel_rfl) (by kernel_rfl) (fun _ _ _ h => h) rfl ?hya1 ?ra1
              case hya1 => (intro wq; go_simp; try (with_reducible rfl))
              simp only [Act.put, List.setIfInBounds_toArray, List.set_cons_zero, List.set_cons_succ]
              refine takeA (i := 2) (v := ?va2) rfl rfl (by kernel_rfl) (by kernel_rfl) (by kernel_rfl) (fun _ _ _ h => h) rfl ?hya2 ?ra2
              case hya2 => (intro wq; go_simp; try (with_reducible rfl))
              simp only [Act.put, List.setIfInBounds_toArray, List.set_cons_zero, List.set_cons_succ]
              refine takeA (i := 3) (v := ?va3) rfl rfl (by kernel_rfl) (by kernel_rfl) (by kernel_rfl) (fun _ _ _ h => h) rfl ?hya3 ?ra3
              case hya3 => (intro wq; go_simp; try (with_reducible rfl))
              simp only [Act.put, List.setIfInBounds_toArray, List.set_cons_zero, List.set_cons_succ]
              refine takeA (i := 7) (v := ?va7) rfl rfl (by kernel_rfl) (by kernel_rfl) (by kernel_rfl) (fun _ _ _ h => h) rfl ?hya7 ?ra7
              case hya7 => (intro wq; go_simp; try (with_reducible rfl))
              simp only [Act.put, List.setIfInBounds_toArray, List.set_cons_zero, List.set_cons_succ]
              refine wpAny_ready (rs := [4, 5]) (by kernel_rfl) (by simp) ?_
              refine AllReady.cons rfl (fun K hK => ?_) (AllReady.cons rfl (fun K hK => ?_) AllReady.nil)
              all_goals skip
              · rw [if_pos (by rfl)]
                refine wp_load_mid 30 _ rfl (g) _ rfl (TL 6 fun k => f (i * 6 + k)) (.array 6 29) (r1) (by kernel_rfl) rfl (by kernel_rfl) ?_
                refine hK _ _ ?_
                clear hK
                simp only [Act.put, List.setIfInBounds_toArray, List.set_cons_zero, List.set_cons_succ]
                refine wpAny_ready (rs := [5]) (by kernel_rfl) (by simp) ?_
                refine AllReady.cons rfl (fun K hK => ?_) AllReady.nil
                rw [if_pos (by rfl)]
                refine wp_load_mid 30 _ rfl (g4) _ rfl (TL 6 fun k => h (i * 6 + k)) (.array 6 29) (r2) (by kernel_rfl) rfl (by kernel_rfl) ?_
                refine hK _ _ ?_
                clear hK
                simp only [Act.put, List.setIfInBounds_toArray, List.set_cons_zero, List.set_cons_succ]
                refine wpAny_ready (rs := [6]) (by kernel_rfl) (by simp) ?_
                refine AllReady.cons rfl (fun K hK => ?_) AllReady.nil
                go_simp
                refine (vplus_any (fun k => f (i * 6 + k)) (fun k => h (i * 6 + k)) (fun t => HF.out _) (fun t => HH.out _) _).mono ?_
                rintro e wn ⟨rfl, hn⟩
                refine hK _ _ ?_
                clear hK
                replace n5 := bnext n5 hn (Nat.le_of_lt n1.lt)
                replace n1 := n1.below hn n1.lt
                replace n3 := n3.below hn n3.lt
                have t1 := n1.there (2 + i * 6) 6 (by omega)
                clear hn r1 r2 n4
                refine takeA (i := 8) (v := ?va8x) rfl rfl (by kernel_rfl) (by kernel_rfl) (by kernel_rfl) (fun _ _ _ h => h) rfl ?hya8x ?ra8x
                case hya8x => (intro wq; go_simp; try (with_reducible rfl))
                simp only [Act.put, List.setIfInBounds_toArray, List.set_cons_zero, List.set_cons_succ]
                refine wpAny_ready (rs := [9]) (by kernel_rfl) (by simp) ?_
                refine AllReady.cons rfl (fun K hK => ?_) AllReady.nil
                rw [if_pos (by rfl)]
                refine wp_store_mid0 30 _ _ rfl rfl (g) _ (TL 6 fun k => xorI (f (i * 6 + k)) (h (i * 6 + k))) rfl rfl (by rw [TL_len]; exact t1) (by kernel_rfl) (TL_one _ _) ?_
                refine hK _ _ ?_
                clear hK
                refine wpAny_done (by kernel_rfl) ?_ _
                go_wp2_with fail
                exact ⟨⟨i + 1, rfl, by omega, (MB.puts 6 (i * 6) _ _ _ n1 (by omega)).ext (fun s _ => (congrFun (mix_row (i * 6) 6 (fun s => xorI (f s) (h s)) f _ (fun j _ => rfl)) s).trans (by rw [show (i + 1) * 6 = i * 6 + 6 from by omega])), n3.setCells_other (by omega) _, Lib.hid (Below.setCells (Nat.le_refl g) _ _ _ n5)⟩, by simp [intOf]; omega⟩
              · rw [if_pos (by rfl)]
                refine wp_load_mid 30 _ rfl (g4) _ rfl (TL 6 fun k => h (i * 6 + k)) (.array 6 29) (r2) (by kernel_rfl) rfl (by kernel_rfl) ?_
                refine hK _ _ ?_
                clear hK
                simp only [Act.put, List.setIfInBounds_toArray, List.set_cons_zero, List.set_cons_succ]
                refine wpAny_ready (rs := [4]) (by kernel_rfl) (by simp) ?_
                refine AllReady.cons rfl (fun K hK => ?_) AllReady.nil
                rw [if_pos (by rfl)]
                refine wp_load_mid 30 _ rfl (g) _ rfl (TL 6 fun k => f (i * 6 + k)) (.array 6 29) (r1) (by kernel_rfl) rfl (by kernel_rfl) ?_
                refine hK _ _ ?_
                clear hK
                simp only [Act.put, List.setIfInBounds_toArray, List.set_cons_zero, List.set_cons_succ]
                refine wpAny_ready (rs := [6]) (by kernel_rfl) (by simp) ?_
                refine AllReady.cons rfl (fun K hK => ?_) AllReady.nil
                go_simp
                refine (vplus_any (fun k => f (i * 6 + k)) (fun k => h (i * 6 + k)) (fun t => HF.out _) (fun t => HH.out _) _).mono ?_
                rintro e wn ⟨rfl, hn⟩
                refine hK _ _ ?_
                clear hK
                replace n5 := bnext n5 hn (Nat.le_of_lt n1.lt)
                replace n1 := n1.below hn n1.lt
                replace n3 := n3.below hn n3.lt
                have t1 := n1.there (2 + i * 6) 6 (by omega)
                clear hn r1 r2 n4
                refine takeA (i := 8) (v := ?va8y) rfl rfl (by kernel_rfl) (by kernel_rfl) (by kernel_rfl) (fun _ _ _ h => h) rfl ?hya8y ?ra8y
                case hya8y => (intro wq; go_simp; try (with_reducible rfl))
                simp only [Act.put, List.setIfInBounds_toArray, List.set_cons_zero, List.set_cons_succ]
                refine wpAny_ready (rs := [9]) (by kernel_rfl) (by simp) ?_
                refine AllReady.cons rfl (fun K hK => ?_) AllReady.nil
                rw [if_pos (by rfl)]
                refine wp_store_mid0 30 _ _ rfl rfl (g) _ (TL 6 fun k => xorI (f (i * 6 + k)) (h (i * 6 + k))) rfl rfl (by rw [TL_len]; exact t1) (by kernel_rfl) (TL_one _ _) ?_
                refine hK _ _ ?_
                clear hK
                refine wpAny_done (by kernel_rfl) ?_ _
                go_wp2_with fail
                exact ⟨⟨i + 1, rfl, by omega, (MB.puts 6 (i * 6) _ _ _ n1 (by omega)).ext (fun s _ => (congrFun (mix_row (i * 6) 6 (fun s => xorI (f s) (h s)) f _ (fun j _ => rfl)) s).trans (by rw [show (i + 1) * 6 = i * 6 + 6 from by omega])), n3.setCells_other (by omega) _, Lib.hid (Below.setCells (Nat.le_refl g) _ _ _ n5)⟩, by simp [intOf]; omega⟩
            · obtain rfl : i = 6 := by omega
              have T1 : decide (((6 : Nat) : Int) < 6) = false := by simp
              have m1' := m1.ext (f' := fun s => xorI (f s) (h s)) (fun s hs => by rw [mix_new _ _ hs])
              clear m1
              go_wp2_with (first | (guard_target =~ wpList _ _ _ (⟨_, Op.load 33 (Operand.tmp 2), _, _, _, _⟩ :: _) _ _; refine wpList_load_row rfl 33 _ rfl (g) rfl _ (CL r c (fun s => xorI (f s) (h s))).toArray (0, 0) _ m1' Try.underlying33 rfl (by kernel_rfl) ?_) | (guard_target =~ wpList _ _ _ (⟨_, Op.store 33 (Operand.tmp 4) _, _, _, _, _⟩ :: _) _ _; refine wpList_store_row rfl 33 _ _ rfl (g + 1 + 1) (CL r c (fun s => xorI (f s) (h s))).toArray rfl rfl _ _ m3 (by kernel_rfl) rfl (CL_one _ _ _) ?_))
              refine bodyPost_ret (v := .tuple #[MV r c (fun s => xorI (f s) (h s)), .int .i64 0]) ?_ rfl ⟨congrArg Ending.returned HV.out.symm, by obtain rfl := HG.out; exact Below.setRow hb.out (by omega) _⟩
              exact results_cell_tmp2 rfl _ _ (g + 1 + 1) _ _ (0, 0) _ _ rfl rfl (m3.setRow _) Try.underlying33 rfl (by kernel_rfl)
        · have hd : ¬ (r = p ∧ c = q) := fun x => hc x.2
          have e1 : (r != p) = false := by simpa using hr
          have e2 : (c != q) = true := by simpa using hc
          clear hr hc
          have hV : twoV (r = p ∧ c = q) r c f p q h (r) (c) (fun s => xorI (f s) (h s)) = .tuple #[MV 0 0 (fun _ => 0), .int .i64 4] := by unfold twoV twoC; rw [ok1, ok2, if_pos (show (true && true) = true from rfl), if_neg hd]; rfl
          have HV := Lib.hid hV
          clear hV ok1 ok2 hd
          go_wp2_with (first | (guard_target =~ wpList _ _ _ (⟨_, Op.build 33 _, _, _, _, _⟩ :: _) _ _; refine wpList_build0 rfl 33 rfl (CL 0 0 fun _ => 0).toArray (by kernel_rfl) ?_) | (guard_target =~ wpList _ _ _ (⟨_, Op.store 33 (Operand.tmp 4) _, _, _, _, _⟩ :: _) _ _; refine wpList_store_row rfl 33 _ _ rfl (g + 1 + 1) (CL 0 0 fun _ => 0).toArray rfl rfl _ _ a3 (by kernel_rfl) rfl (CL_one _ _ _) ?_))
          refine bodyPost_ret (v := .tuple #[MV 0 0 (fun _ => 0), .int .i64 4]) ?_ rfl ⟨congrArg Ending.returned HV.out.symm, by obtain rfl := HG.out; exact Below.setRow a4 (by omega) _⟩
          exact results_cell_tmp2 rfl _ _ (g + 1 + 1) _ _ (0, 0) _ _ rfl rfl (a3.setRow _) Try.underlying33 rfl (by kernel_rfl)
      · have hd : ¬ (r = p ∧ c = q) := fun x => hr x.1
        have e1 : (r != p) = true := by simpa using hr
        clear hr
        have hV : twoV (r = p ∧ c = q) r c f p q h (r) (c) (fun s => xorI (f s) (h s)) = .tuple #[MV 0 0 (fun _ => 0), .int .i64 4] := by unfold twoV twoC; rw [ok1, ok2, if_pos (show (true && true) = true from rfl), if_neg hd]; rfl
        have HV := Lib.hid hV
        clear hV ok1 ok2 hd
        go_wp2_with (first | (guard_target =~ wpList _ _ _ (⟨_, Op.build 33 _, _, _, _, _⟩ :: _) _ _; refine wpList_build0 rfl 33 rfl (CL 0 0 fun _ => 0).toArray (by kernel_rfl) ?_) | (guard_target =~ wpList _ _ _ (⟨_, Op.store 33 (Operand.tmp 4) _, _, _, _, _⟩ :: _) _ _; refine wpList_store_row rfl 33 _ _ rfl (g + 1 + 1) (CL 0 0 fun _ => 0).toArray rfl rfl _ _ a3 (by kernel_rfl) rfl (CL_one _ _ _) ?_))
        refine bodyPost_ret (v := .tuple #[MV 0 0 (fun _ => 0), .int .i64 4]) ?_ rfl ⟨congrArg Ending.returned HV.out.symm, by obtain rfl := HG.out; exact Below.setRow a4 (by omega) _⟩
        exact results_cell_tmp2 rfl _ _ (g + 1 + 1) _ _ (0, 0) _ _ rfl rfl (a3.setRow _) Try.underlying33 rfl (by kernel_rfl)
end Go.Proofs.Ytjbaeomjinnlhaa
