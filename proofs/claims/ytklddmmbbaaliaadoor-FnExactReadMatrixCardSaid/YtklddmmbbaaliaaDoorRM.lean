/-
  A matrix is read: the specification's side.
-/
import Derived.Test.YtklddmmbbaaliaaDoorRMath
namespace Go.Proofs.YtklddmmbbaaliaaDoor
set_option linter.unusedVariables false
set_option linter.unusedSimpArgs false
open Go.ChangeShapes Go.WideShapes Go.ChangeAt Go.RowKit
def RMpost (l : List UInt8) (e : Ending) : Prop :=
  (∃ uss c, RM l uss c ∧ e = .returned (.tuple #[MV ((spl 59 l).length : Int) (c : Int) (grid uss), .int .i64 0])) ∨ ((¬ ∃ uss c, RM l uss c) ∧ e = .returned (.tuple #[MV 0 0 (fun _ => 0), .int .i64 5]))
set_option maxRecDepth 100000 in
set_option maxHeartbeats 8000000 in
theorem spec_ReadMatrix (s : ByteArray) (hs : s.size ≤ 1048576) (w : World) :
    Calls Tryd.prog 54 #[.string s] w fun e w' => RMpost s.data.toList e ∧ Below w.heap.size w w' := by
  go_enter Tryd.func54, Tryd.ntmps54
  go_upto_region 1 with fail
  obtain ⟨a1, a4, a5⟩ := new1 w (.cells (CL 0 0 fun _ => 0).toArray 66)
  rw [zero38]
  obtain ⟨g, hg⟩ : ∃ g, g = w.heap.size := ⟨_, rfl⟩
  rw [← hg] at a1 a4 a5 ⊢
  generalize World.alloc w _ = w2 at a1 a4 a5 ⊢
  replace a1 : MB w2 g 66 0 0 (fun _ => 0) := a1
  have HG := Lib.hid hg
  clear hg
  go_wp2_with fail
  refine (l01Split_any s hs 59 w2).mono ?_
  rintro e w3 ⟨v, P, rfl, ho, hp, hpl, hpz, hb⟩
  have hM : MB w3 g 66 0 0 (fun _ => 0) := a1.below hb a1.lt
  have hB : Below g w w3 := a4.trans (hb.mono (by omega))
  have hgs : g < w2.heap.size := a1.lt
  have hplen : P.length = (spl 59 s.data.toList).length := by rw [← hp, List.length_map]
  have hppos : 0 < P.length := by
    have := spl_length_pos 59 s.data.toList
    rw [hplen]; exact List.length_pos_iff.2 this
  obtain ⟨A0, c0, rfl, _, hA0⟩ := own_form2 ho
  obtain ⟨gp, rfl, hgp1, hgp2⟩ := hA0 hppos
  have HP := Lib.hid hp
  have HPL := Lib.hid hplen
  have HPZ := Lib.hid hpz
  have HO := Lib.hid ho
  have HM := Lib.hid hM
  have HB := Lib.hid hB
  clear a1 a4 a5 hb hp hplen hpz ho hM hB
  by_cases hbig : 6 < P.length
  · have t1 : decide ((6 : Int) < (P.length : Int)) = true := by simp; omega
    have HNO := Lib.hid (show ¬ ∃ uss c, RM s.data.toList uss c from by
      rintro ⟨_, _, h, _⟩
      rw [← HPL.out] at h
      omega)
    clear hbig
    go_wp2_with (first | (guard_target =~ wpList _ _ _ (⟨_, Op.build 66 _, _, _, _, _⟩ :: _) _ _; refine wpList_build0 rfl 66 rfl (CL 0 0 fun _ => 0).toArray (by kernel_rfl) ?_) | (guard_target =~ wpList _ _ _ (⟨_, Op.store 66 (Operand.tmp 2) _, _, _, _, _⟩ :: _) _ _; refine wpList_store_row rfl 66 _ _ rfl g (CL 0 0 fun _ => 0).toArray rfl rfl _ _ HM.out (by kernel_rfl) rfl (CL_one _ _ _) ?_))
    refine bodyPost_ret (v := .tuple #[MV 0 0 (fun _ => 0), .int .i64 5]) ?_ rfl ⟨.inr ⟨HNO.out, rfl⟩, by obtain rfl := HG.out; exact Below.setRow HB.out (Nat.le_refl _) _⟩
    exact results_cell_tmp2 rfl _ _ g _ _ (0, 0) _ _ rfl rfl (HM.out.setRow _) Tryd.underlying66 rfl (by kernel_rfl)
  · have t1 : decide ((6 : Int) < (P.length : Int)) = false := by simp; omega
    have hle : P.length ≤ 6 := by omega
    clear hbig
    go_upto_region 5 with (first | (guard_target =~ wpList _ _ _ (⟨_, Op.build 66 _, _, _, _, _⟩ :: _) _ _; refine wpList_build1 rfl 66 _ rfl ((P.length : Nat) : Int) (by go_num) (fun _ => by kernel_rfl) ?_) | (guard_target =~ wpList _ _ _ (⟨_, Op.store 66 _ _, _, _, _, _⟩ :: _) _ _; refine wpList_store_fresh (cells := (CL (P.length : Int) 0 fun _ => 0).toArray) rfl 66 _ _ rfl rfl rfl (by kernel_rfl) (by rw [CL_size]; rfl) (CL_one _ _ _) ?_))
    have m5 : MB (w3.alloc (.cells (CL (P.length : Int) 0 fun _ => 0).toArray 66)) w3.heap.size 66 (P.length : Int) ((0 : Nat) : Int) (grid []) := heap_alloc_last _ _
    have b5 : Below w3.heap.size w3 (w3.alloc (.cells (CL (P.length : Int) 0 fun _ => 0).toArray 66)) := (Below.refl _ _).alloc (Nat.le_refl _) _
    obtain ⟨g5, hg5⟩ : ∃ g5, g5 = w3.heap.size := ⟨_, rfl⟩
    rw [← hg5] at m5 b5 ⊢
    generalize w3.alloc (.cells (CL (P.length : Int) 0 fun _ => 0).toArray 66) = wA at m5 b5 ⊢
    have hgg5 : g < g5 := by rw [hg5]; exact HM.out.lt
    have hgp5 : gp < g5 := by rw [hg5]; exact hgp2
    have HM5 := Lib.hid m5
    have HB5 := Lib.hid b5
    have HG5 := Lib.hid hg5
    clear m5 b5 hg5
    go_wp2_with fail
    go_loopw [6] (fun i wr => ∃ (k c : Nat) (uss : List (List Nat)), i = .int .i64 k ∧ k ≤ P.length ∧ c ≤ 6 ∧ Hid (RMk (spl 59 s.data.toList) k uss c) ∧ Hid (MB wr g5 66 (P.length : Int) (c : Int) (grid uss)) ∧ Hid (Below g5 w3 wr)) (fun i _ => P.length - (intOf i).toNat)
    case atStart => exact ⟨0, 0, [], rfl, Nat.zero_le _, by omega, Lib.hid (RMk.zero _), HM5, HB5⟩
    case round =>
      clear HM5 HB5
      obtain ⟨k, c, uss, rfl, hk, hc6, HR, HM5, HB5⟩ := hrel
      by_cases hlt : k < P.length
      · have h1 : wr.cell? ⟨gp, k, none⟩ = some (.string (P[k]'hlt)) := by
          refine (HB5.out.cell (p := ⟨gp, k, none⟩) hgp5).trans ?_
          rw [HO.out.cellAt k (by omega), List.getElem?_map, List.getElem?_eq_getElem hlt]; rfl
        obtain ⟨hk2, hpe⟩ := part_at59 HP.out hlt
        have hpz := HPZ.out _ (List.getElem_mem hlt)
        have HPE := Lib.hid hpe
        have hi1 : (k : Int) < (P.length : Int) := by omega
        have HRK := Lib.hid (fun hf => HR.out.fail (show k < (spl 59 s.data.toList).length by rw [← HPL.out]; exact hlt) hf)
        generalize P[k]'hlt = p at h1 hpz HPE
        clear hpe
        go_wp2_with fail
        refine (l01ReadList_any p hpz wr).mono ?_
        rintro e w5 ⟨⟨us, v, hrl, rfl, hov, hul, hus⟩ | ⟨hno, v, rfl, hov⟩, hb5⟩
        · obtain ⟨A5, c5, rfl, _, hA5⟩ := own_form2 hov
          have hmc := (HM5.out.below hb5 HM5.out.lt).cols
          have hfz1 := (HM5.out.below hb5 HM5.out.lt).free 1
          have HMG : Hid (MB w5 g 66 0 0 (fun _ => 0)) := Lib.hid ((HM.out.below HB5.out (by omega)).below hb5 (by have := HM5.out.lt; omega))
          have HBV := Lib.hid (HB5.out.trans (hb5.mono (Nat.le_of_lt HM5.out.lt)))
          have HBT : Hid (Below g w w5) := Lib.hid (HB.out.trans (HBV.out.mono (Nat.le_of_lt hgg5)))
          have HM6 := Lib.hid (HM5.out.below hb5 HM5.out.lt)
          have HRL := Lib.hid hrl
          have HOV := Lib.hid hov
          have HA5 := Lib.hid hA5
          have HUS := Lib.hid hus
          have HSZ5 : Hid (g5 < wr.heap.size) := Lib.hid HM5.out.lt
          have hid5 := Lib.hid hb5
          clear hrl hov hus hb5 hA5
          by_cases h2 : inSide (us.length : Int) = true
          · have hln : 1 ≤ us.length ∧ us.length ≤ 6 := by unfold inSide at h2; rw [decide_eq_true_eq] at h2; omega
            by_cases hk0 : k = 0
            · have T1 : decide ((0 : Int) < (k : Int)) = false := by simp; omega
              have T1' : decide (0 < k) = false := by simp; omega
              have HK0 : Hid (0 < k → us.length = c) := Lib.hid (fun h => absurd h (by omega))
              clear hk0
              go_upto_region 12 with (first | (go_at_call 85; refine (in_side _ _).mono ?_; rintro e w' ⟨rfl, rfl⟩))
              obtain ⟨gl, hA5e, hgl1, hgl2⟩ := HA5.out (by omega)
              subst hA5e
              have hne : g5 ≠ gl := by have := HSZ5.out; omega
              have m6 := HM6.out.putC (us.length : Int)
              have l6 : ∀ j, j < us.length → (w'.setCell ⟨g5, 1, none⟩ (.int .i8 (us.length : Int))).cell? ⟨gl, j, none⟩ = some (.int .u16 ((us.getD j 0 : Nat) : Int)) := fun j hj => by
                refine (World.cell?_setCell_far _ _ _ _ hne).trans ?_
                rw [HOV.out.cellAt j (by omega)]
                simp [u16s, uI, List.getD, hj]
              have b6 := HBV.out.setCell (p := ⟨g5, 1, none⟩) (Nat.le_refl _) (.int .i8 (us.length : Int))
              generalize w'.setCell ⟨g5, 1, none⟩ (.int .i8 (us.length : Int)) = wB at m6 l6 b6 ⊢
              have M6 := Lib.hid m6
              have L6 := Lib.hid l6
              have B6 := Lib.hid b6
              clear m6 l6 b6 hmc h1 hfz1
              go_wp2_with fail
              go_loopw [9] (fun i wr => ∃ q : Nat, i = .int .i64 q ∧ q ≤ us.length ∧ Hid (MB wr g5 66 (P.length : Int) (us.length : Int) (grid (uss ++ [us.take q]))) ∧ Hid (∀ j, j < us.length → wr.cell? ⟨gl, j, none⟩ = some (.int .u16 ((us.getD j 0 : Nat) : Int))) ∧ Hid (Below g5 w3 wr)) (fun i _ => us.length - (intOf i).toNat)
              case atStart => exact ⟨0, rfl, Nat.zero_le _, Lib.hid (by rw [List.take_zero, grid_nil]; exact M6.out), L6, B6⟩
              case round =>
                clear M6 L6 B6
                obtain ⟨q, rfl, hq, HMq, HLq, HBq⟩ := hrel
                by_cases hlq : q < us.length
                · have hld := HLq.out q hlq
                  have hst := HMq.out.cell2 k q (by omega) (by omega)
                  have hfz := HMq.out.free (2 + k * 6 + q)
                  have i2 : (q : Int) < (us.length : Int) := by omega
                  have i3 : (q : Int) < 6 := by omega
                  have i4 : (k : Int) < 6 := by omega
                  have hput := (show MB wr.drew g5 66 (P.length : Int) (us.length : Int) (grid (uss ++ [us.take q])) from HMq.out).put (k * 6 + q) (by omega) ((us.getD q 0 : Nat) : Int)
                  have hgr := grid_set uss us q (by omega)
                  rw [HR.out.1] at hgr
                  rw [hgr, ← Nat.add_assoc] at hput
                  obtain ⟨n, hn⟩ : ∃ n : Nat, n = us.getD q 0 := ⟨_, rfl⟩
                  rw [← hn] at hld hput
                  have HPUT := Lib.hid hput
                  have HN := Lib.hid hn
                  clear hput hgr hn
                  go_wp2_with fail
                  go_region_held (fun u => u.cell? ⟨gl, q, none⟩ = some (.int .u16 (n : Int))) (first | exact hld | exact (World.cell?_setCell_far _ _ _ _ hne).trans hld) (fail)
                  go_wp2_with fail
                  exact ⟨⟨q + 1, by go_num, by omega, HPUT, Lib.hid (fun j hj => (World.cell?_setCell_far _ _ _ _ hne).trans (HLq.out j hj)), Lib.hid (HBq.out.drew.setCell (p := ⟨g5, 2 + k * 6 + q, none⟩) (Nat.le_refl _) (.int .u16 (n : Int)))⟩, by simp [intOf]; omega⟩
                · obtain rfl : q = us.length := by omega
                  have HME : Hid (MB wr g5 66 (P.length : Int) (us.length : Int) (grid (uss ++ [us]))) := Lib.hid (by have := HMq.out; rwa [List.take_length] at this)
                  have HSTEP := Lib.hid (HR.out.step (by rw [← HPL.out]; exact hlt) (by rw [HPE.out]; exact HRL.out) hln HK0.out HUS.out)
                  clear HMq
                  go_wp2_with fail
                  exact ⟨⟨k + 1, us.length, uss ++ [us], by go_num, by omega, hln.2, HSTEP, HME, HBq⟩, by simp [intOf]; omega⟩
            · have T1 : decide ((0 : Int) < (k : Int)) = true := by simp; omega
              have T1' : decide (0 < k) = true := by simp; omega
              by_cases hc : us.length = c
              · have T2 : ((us.length : Int) != (c : Int)) = false := by simp; omega
                have HK0 : Hid (0 < k → us.length = c) := Lib.hid (fun _ => hc)
                clear hk0 hc
                go_upto_region 12 with (first | (go_at_call 85; refine (in_side _ _).mono ?_; rintro e w' ⟨rfl, rfl⟩))
                obtain ⟨gl, hA5e, hgl1, hgl2⟩ := HA5.out (by omega)
                subst hA5e
                have hne : g5 ≠ gl := by have := HSZ5.out; omega
                have m6 := HM6.out.putC (us.length : Int)
                have l6 : ∀ j, j < us.length → (w'.setCell ⟨g5, 1, none⟩ (.int .i8 (us.length : Int))).cell? ⟨gl, j, none⟩ = some (.int .u16 ((us.getD j 0 : Nat) : Int)) := fun j hj => by
                  refine (World.cell?_setCell_far _ _ _ _ hne).trans ?_
                  rw [HOV.out.cellAt j (by omega)]
                  simp [u16s, uI, List.getD, hj]
                have b6 := HBV.out.setCell (p := ⟨g5, 1, none⟩) (Nat.le_refl _) (.int .i8 (us.length : Int))
                generalize w'.setCell ⟨g5, 1, none⟩ (.int .i8 (us.length : Int)) = wB at m6 l6 b6 ⊢
                have M6 := Lib.hid m6
                have L6 := Lib.hid l6
                have B6 := Lib.hid b6
                clear m6 l6 b6 hmc h1 hfz1
                go_wp2_with fail
                go_loopw [9] (fun i wr => ∃ q : Nat, i = .int .i64 q ∧ q ≤ us.length ∧ Hid (MB wr g5 66 (P.length : Int) (us.length : Int) (grid (uss ++ [us.take q]))) ∧ Hid (∀ j, j < us.length → wr.cell? ⟨gl, j, none⟩ = some (.int .u16 ((us.getD j 0 : Nat) : Int))) ∧ Hid (Below g5 w3 wr)) (fun i _ => us.length - (intOf i).toNat)
                case atStart => exact ⟨0, rfl, Nat.zero_le _, Lib.hid (by rw [List.take_zero, grid_nil]; exact M6.out), L6, B6⟩
                case round =>
                  clear M6 L6 B6
                  obtain ⟨q, rfl, hq, HMq, HLq, HBq⟩ := hrel
                  by_cases hlq : q < us.length
                  · have hld := HLq.out q hlq
                    have hst := HMq.out.cell2 k q (by omega) (by omega)
                    have hfz := HMq.out.free (2 + k * 6 + q)
                    have i2 : (q : Int) < (us.length : Int) := by omega
                    have i3 : (q : Int) < 6 := by omega
                    have i4 : (k : Int) < 6 := by omega
                    have hput := (show MB wr.drew g5 66 (P.length : Int) (us.length : Int) (grid (uss ++ [us.take q])) from HMq.out).put (k * 6 + q) (by omega) ((us.getD q 0 : Nat) : Int)
                    have hgr := grid_set uss us q (by omega)
                    rw [HR.out.1] at hgr
                    rw [hgr, ← Nat.add_assoc] at hput
                    obtain ⟨n, hn⟩ : ∃ n : Nat, n = us.getD q 0 := ⟨_, rfl⟩
                    rw [← hn] at hld hput
                    have HPUT := Lib.hid hput
                    have HN := Lib.hid hn
                    clear hput hgr hn
                    go_wp2_with fail
                    go_region_held (fun u => u.cell? ⟨gl, q, none⟩ = some (.int .u16 (n : Int))) (first | exact hld | exact (World.cell?_setCell_far _ _ _ _ hne).trans hld) (fail)
                    go_wp2_with fail
                    exact ⟨⟨q + 1, by go_num, by omega, HPUT, Lib.hid (fun j hj => (World.cell?_setCell_far _ _ _ _ hne).trans (HLq.out j hj)), Lib.hid (HBq.out.drew.setCell (p := ⟨g5, 2 + k * 6 + q, none⟩) (Nat.le_refl _) (.int .u16 (n : Int)))⟩, by simp [intOf]; omega⟩
                  · obtain rfl : q = us.length := by omega
                    have HME : Hid (MB wr g5 66 (P.length : Int) (us.length : Int) (grid (uss ++ [us]))) := Lib.hid (by have := HMq.out; rwa [List.take_length] at this)
                    have HSTEP := Lib.hid (HR.out.step (by rw [← HPL.out]; exact hlt) (by rw [HPE.out]; exact HRL.out) hln HK0.out HUS.out)
                    clear HMq
                    go_wp2_with fail
                    exact ⟨⟨k + 1, us.length, uss ++ [us], by go_num, by omega, hln.2, HSTEP, HME, HBq⟩, by simp [intOf]; omega⟩
              · have T2 : ((us.length : Int) != (c : Int)) = true := by simp; omega
                have HNO := Lib.hid (show ¬ ∃ uss c, RM s.data.toList uss c from fun ⟨a, b, h⟩ => HRK.out (fun vs hv hl => by
                  obtain rfl := RL.inj hv (by rw [HPE.out]; exact HRL.out)
                  exact ⟨by omega, hc⟩) ⟨a, b, h.2⟩)
                clear hk0 hc
                go_wp2_with (first | (go_at_call 85; refine (in_side _ _).mono ?_; rintro e w' ⟨rfl, rfl⟩) | (guard_target =~ wpList _ _ _ (⟨_, Op.build 66 _, _, _, _, _⟩ :: _) _ _; refine wpList_build0 rfl 66 rfl (CL 0 0 fun _ => 0).toArray (by kernel_rfl) ?_) | (guard_target =~ wpList _ _ _ (⟨_, Op.store 66 (Operand.tmp 2) _, _, _, _, _⟩ :: _) _ _; refine wpList_store_row rfl 66 _ _ rfl g (CL 0 0 fun _ => 0).toArray rfl rfl _ _ HMG.out (by kernel_rfl) rfl (CL_one _ _ _) ?_))
                refine bodyPost_ret (v := .tuple #[MV 0 0 (fun _ => 0), .int .i64 5]) ?_ rfl ⟨.inr ⟨HNO.out, rfl⟩, by obtain rfl := HG.out; exact Below.setRow HBT.out (Nat.le_refl _) _⟩
                exact results_cell_tmp2 rfl _ _ g _ _ (0, 0) _ _ rfl rfl (HMG.out.setRow _) Tryd.underlying66 rfl (by kernel_rfl)
          · have h2' : inSide (us.length : Int) = false := by simpa using h2
            have hln : ¬ (1 ≤ us.length ∧ us.length ≤ 6) := by unfold inSide at h2; rw [decide_eq_true_eq] at h2; omega
            have HNO := Lib.hid (show ¬ ∃ uss c, RM s.data.toList uss c from fun ⟨a, b, h⟩ => HRK.out (fun vs hv hl => by
              obtain rfl := RL.inj hv (by rw [HPE.out]; exact HRL.out)
              exact absurd hl hln) ⟨a, b, h.2⟩)
            clear h2 hln
            go_wp2_with (first | (go_at_call 85; refine (in_side _ _).mono ?_; rintro e w' ⟨rfl, rfl⟩) | (guard_target =~ wpList _ _ _ (⟨_, Op.build 66 _, _, _, _, _⟩ :: _) _ _; refine wpList_build0 rfl 66 rfl (CL 0 0 fun _ => 0).toArray (by kernel_rfl) ?_) | (guard_target =~ wpList _ _ _ (⟨_, Op.store 66 (Operand.tmp 2) _, _, _, _, _⟩ :: _) _ _; refine wpList_store_row rfl 66 _ _ rfl g (CL 0 0 fun _ => 0).toArray rfl rfl _ _ HMG.out (by kernel_rfl) rfl (CL_one _ _ _) ?_))
            refine bodyPost_ret (v := .tuple #[MV 0 0 (fun _ => 0), .int .i64 5]) ?_ rfl ⟨.inr ⟨HNO.out, rfl⟩, by obtain rfl := HG.out; exact Below.setRow HBT.out (Nat.le_refl _) _⟩
            exact results_cell_tmp2 rfl _ _ g _ _ (0, 0) _ _ rfl rfl (HMG.out.setRow _) Tryd.underlying66 rfl (by kernel_rfl)
        · have HMG : Hid (MB w5 g 66 0 0 (fun _ => 0)) := Lib.hid ((HM.out.below HB5.out (by omega)).below hb5 (by have := HM5.out.lt; omega))
          have HBV := Lib.hid (HB5.out.trans (hb5.mono (Nat.le_of_lt HM5.out.lt)))
          have HBT : Hid (Below g w w5) := Lib.hid (HB.out.trans (HBV.out.mono (Nat.le_of_lt hgg5)))
          obtain ⟨A5, c5, rfl, _, hA5⟩ := own_form2 hov
          have HNO := Lib.hid (show ¬ ∃ uss c, RM s.data.toList uss c from fun ⟨a, b, h⟩ => HRK.out (fun vs hv hl => absurd ⟨vs, by rw [← HPE.out]; exact hv⟩ hno) ⟨a, b, h.2⟩)
          clear hno hov hb5 hA5
          go_wp2_with (first | (guard_target =~ wpList _ _ _ (⟨_, Op.build 66 _, _, _, _, _⟩ :: _) _ _; refine wpList_build0 rfl 66 rfl (CL 0 0 fun _ => 0).toArray (by kernel_rfl) ?_) | (guard_target =~ wpList _ _ _ (⟨_, Op.store 66 (Operand.tmp 2) _, _, _, _, _⟩ :: _) _ _; refine wpList_store_row rfl 66 _ _ rfl g (CL 0 0 fun _ => 0).toArray rfl rfl _ _ HMG.out (by kernel_rfl) rfl (CL_one _ _ _) ?_))
          refine bodyPost_ret (v := .tuple #[MV 0 0 (fun _ => 0), .int .i64 5]) ?_ rfl ⟨.inr ⟨HNO.out, rfl⟩, by obtain rfl := HG.out; exact Below.setRow HBT.out (Nat.le_refl _) _⟩
          exact results_cell_tmp2 rfl _ _ g _ _ (0, 0) _ _ rfl rfl (HMG.out.setRow _) Tryd.underlying66 rfl (by kernel_rfl)
      · obtain rfl : P.length = k := by omega
        have HMG : Hid (MB wr g 66 0 0 (fun _ => 0)) := Lib.hid (HM.out.below HB5.out (by omega))
        have HBT : Hid (Below g w wr) := Lib.hid (HB.out.trans (HB5.out.mono (Nat.le_of_lt hgg5)))
        have HYES := Lib.hid (show RM s.data.toList uss c from ⟨by rw [← HPL.out]; exact hle, by rw [← HPL.out]; exact HR.out⟩)
        go_wp2_with (first | (guard_target =~ wpList _ _ _ (⟨_, Op.load 66 (Operand.tmp 5), _, _, _, _⟩ :: _) _ _; refine wpList_load_row rfl 66 _ rfl (g5) rfl _ (CL (P.length : Int) (c : Int) (grid uss)).toArray (0, 0) _ HM5.out Tryd.underlying66 rfl (by kernel_rfl) ?_) | (guard_target =~ wpList _ _ _ (⟨_, Op.store 66 (Operand.tmp 2) _, _, _, _, _⟩ :: _) _ _; refine wpList_store_row rfl 66 _ _ rfl g (CL (P.length : Int) (c : Int) (grid uss)).toArray rfl rfl _ _ HMG.out (by kernel_rfl) rfl (CL_one _ _ _) ?_))
        refine bodyPost_ret (v := .tuple #[MV (P.length : Int) (c : Int) (grid uss), .int .i64 0]) ?_ rfl ⟨.inl ⟨uss, c, HYES.out, by rw [← HPL.out]⟩, by obtain rfl := HG.out; exact Below.setRow HBT.out (Nat.le_refl _) _⟩
        exact results_cell_tmp2 rfl _ _ g _ _ (0, 0) _ _ rfl rfl (HMG.out.setRow _) Tryd.underlying66 rfl (by kernel_rfl)
end Go.Proofs.YtklddmmbbaaliaaDoor
