/-
  The matrix of powers.
-/
import Derived.Test.YtjbaeomjinnlhaaOk2
import Derived.Deep.RegionHeld
import Derived.Test.YtjbaeomjinnlhaaListM
import Derived.Test.YtjbaeomjinnlhaaTwo
namespace Go.Proofs.Ytjbaeomjinnlhaa
set_option linter.unusedVariables false
set_option linter.unusedSimpArgs false
open Go.ChangeShapes Go.WideShapes Go.ChangeAt Go.RowKit

def pwr (x : Int) : Nat → Int
  | 0 => 1
  | k + 1 => mulI (pwr x k) x
theorem pwr_b {x : Int} (h0 : 0 ≤ x) (h1 : x < 65536) : ∀ k, 0 ≤ pwr x k ∧ pwr x k < 65536
  | 0 => ⟨show (0 : Int) ≤ 1 by decide, show (1 : Int) < 65536 by decide⟩
  | k + 1 => by have h := pwr_b h0 h1 k; exact mulI_b h.1 h.2 h0 h1
/-- the cells of the first i rows, and of the first j of the row i -/
def powsP (zs : List Int) (c i j : Nat) : Nat → Int := fun s => if (s / 6 < i ∧ s % 6 < c) ∨ (s / 6 = i ∧ s % 6 < j) then pwr (zs.getD (s / 6) 0) (s % 6) else 0
theorem powsP_zero (zs : List Int) (c : Nat) : powsP zs c 0 0 = fun _ => 0 := by funext s; unfold powsP; rw [if_neg (by omega)]
theorem powsP_step (zs : List Int) (c i j : Nat) (hi : i < 6) (hj : j < 6) (hjc : j < c) : ∀ s, s < 36 → upd (powsP zs c i j) (i * 6 + j) (pwr (zs.getD i 0) j) s = powsP zs c i (j + 1) s := fun s hs => by
  unfold upd powsP
  by_cases e : s = i * 6 + j
  · rw [if_pos e, if_pos (by omega), e, show (i * 6 + j) / 6 = i from by omega, show (i * 6 + j) % 6 = j from by omega]
  · rw [if_neg e]
    by_cases h : (s / 6 < i ∧ s % 6 < c) ∨ (s / 6 = i ∧ s % 6 < j)
    · rw [if_pos h, if_pos (by omega)]
    · rw [if_neg h, if_neg (by omega)]
theorem powsP_row (zs : List Int) (c i : Nat) : ∀ s, s < 36 → powsP zs c i c s = powsP zs c (i + 1) 0 s := fun s hs => by
  unfold powsP
  by_cases h : (s / 6 < i ∧ s % 6 < c) ∨ (s / 6 = i ∧ s % 6 < c)
  · rw [if_pos h, if_pos (by omega)]
  · rw [if_neg h, if_neg (by omega)]
def powersV (zs : List Int) (c : Int) : Value := if (inSide zs.length && inSide c) = true then .tuple #[MV zs.length c (powsP zs c.toNat zs.length 0), .int .i64 0] else .tuple #[MV 0 0 (fun _ => 0), .int .i64 2]
theorem powersV_form (zs : List Int) (hz : ∀ z ∈ zs, 0 ≤ z ∧ z < 65536) (c : Int) : ∃ R C F k, powersV zs c = .tuple #[MV R C F, .int .i64 k] ∧ MW R C F := by
  unfold powersV
  by_cases h : (inSide zs.length && inSide c) = true
  · rw [if_pos h]
    unfold inSide at h
    simp only [Bool.and_eq_true, decide_eq_true_eq] at h
    refine ⟨_, _, _, _, rfl, by omega, by omega, by omega, by omega, fun s => ?_⟩
    unfold powsP
    split
    · have hr : 0 ≤ zs.getD (s / 6) 0 ∧ zs.getD (s / 6) 0 < 65536 := by
        by_cases hi : s / 6 < zs.length
        · have := hz zs[s / 6] (List.getElem_mem hi); simp [List.getD, hi]; exact this
        · simp [List.getD, Nat.not_lt.1 hi]
      exact pwr_b hr.1 hr.2 _
    · exact ⟨Int.le_refl 0, by decide⟩
  · rw [if_neg h]
    exact ⟨_, _, _, _, rfl, by omega, by omega, by omega, by omega, fun _ => ⟨Int.le_refl 0, show (0 : Int) < 65536 by decide⟩⟩

set_option maxRecDepth 100000 in
set_option maxHeartbeats 2000000 in
theorem spec_PowersMatrix (v : Value) (zs : List Int) (c : Int) (w : World) (h : NS w v zs) : Calls Try.prog 71 #[v, .int .i64 c] w fun e w' => e = .returned (powersV zs c) ∧ Below w.heap.size w w' := by
  obtain ⟨A, cp, rfl, hz, hc⟩ := h
  have HZ := Lib.hid hz
  have HC := Lib.hid hc
  clear hz hc
  go_enter Try.func71, Try.ntmps71
  go_upto_region 1 with fail
  obtain ⟨a2, a4, a5⟩ := new1 w (.cells (CL 0 0 fun _ => 0).toArray 33)
  rw [zero38]
  obtain ⟨g, hg⟩ : ∃ g, g = w.heap.size := ⟨_, rfl⟩
  rw [← hg] at a2 a4 a5 ⊢
  generalize World.alloc w _ = w2 at a2 a4 a5 ⊢
  replace a2 : MB w2 g 33 0 0 (fun _ => 0) := a2
  have HG := Lib.hid hg
  have A5 := Lib.hid a5
  clear hg a5
  go_wp2_with fail
  refine (in_side _ _).mono ?_
  rintro e wn ⟨rfl, rfl⟩
  rcases ok1 : inSide (zs.length : Int) with _ | _
  · have hV : powersV zs c = .tuple #[MV 0 0 (fun _ => 0), .int .i64 2] := by unfold powersV; rw [ok1]; rfl
    clear ok1
    have HV := Lib.hid hV
    clear hV
    go_wp2_with (first | (guard_target =~ wpList _ _ _ (⟨_, Op.build 33 _, _, _, _, _⟩ :: _) _ _; refine wpList_build0 rfl 33 rfl (CL 0 0 fun _ => 0).toArray (by kernel_rfl) ?_) | (guard_target =~ wpList _ _ _ (⟨_, Op.store 33 (Operand.tmp 4) _, _, _, _, _⟩ :: _) _ _; refine wpList_store_row rfl 33 _ _ rfl (g) (CL 0 0 fun _ => 0).toArray rfl rfl _ _ a2 (by kernel_rfl) rfl (CL_one _ _ _) ?_))
    refine bodyPost_ret (v := .tuple #[MV 0 0 (fun _ => 0), .int .i64 2]) ?_ rfl ⟨congrArg Ending.returned HV.out.symm, by obtain rfl := HG.out; exact Below.setRow a4 (Nat.le_refl _) _⟩
    exact results_cell_tmp2 rfl _ _ g _ _ (0, 0) _ _ rfl rfl (a2.setRow _) Try.underlying33 rfl (by kernel_rfl)
  · go_wp2_with fail
    refine (in_side _ _).mono ?_
    rintro e wk ⟨rfl, rfl⟩
    rcases ok2 : inSide c with _ | _
    · have hV : powersV zs c = .tuple #[MV 0 0 (fun _ => 0), .int .i64 2] := by unfold powersV; rw [ok1, ok2]; rfl
      clear ok1 ok2
      have HV := Lib.hid hV
      clear hV
      go_wp2_with (first | (guard_target =~ wpList _ _ _ (⟨_, Op.build 33 _, _, _, _, _⟩ :: _) _ _; refine wpList_build0 rfl 33 rfl (CL 0 0 fun _ => 0).toArray (by kernel_rfl) ?_) | (guard_target =~ wpList _ _ _ (⟨_, Op.store 33 (Operand.tmp 4) _, _, _, _, _⟩ :: _) _ _; refine wpList_store_row rfl 33 _ _ rfl (g) (CL 0 0 fun _ => 0).toArray rfl rfl _ _ a2 (by kernel_rfl) rfl (CL_one _ _ _) ?_))
      refine bodyPost_ret (v := .tuple #[MV 0 0 (fun _ => 0), .int .i64 2]) ?_ rfl ⟨congrArg Ending.returned HV.out.symm, by obtain rfl := HG.out; exact Below.setRow a4 (Nat.le_refl _) _⟩
      exact results_cell_tmp2 rfl _ _ g _ _ (0, 0) _ _ rfl rfl (a2.setRow _) Try.underlying33 rfl (by kernel_rfl)
    · have hV : powersV zs c = .tuple #[MV zs.length c (powsP zs c.toNat zs.length 0), .int .i64 0] := by unfold powersV; rw [ok1, ok2]; rfl
      unfold inSide at ok1 ok2
      simp only [decide_eq_true_eq] at ok1 ok2
      obtain ⟨C, hCe⟩ : ∃ C : Nat, c = C := ⟨c.toNat, by omega⟩
      subst hCe
      rw [show (C : Int).toNat = C from rfl] at hV
      have HV := Lib.hid hV
      obtain ⟨b, off, hA, hlt, hcell⟩ := HC.out (by omega)
      subst hA
      obtain ⟨n, hn⟩ : ∃ n, n = zs.length := ⟨_, rfl⟩
      rw [← hn] at ok1 hcell HV ⊢
      have HCELL := Lib.hid hcell
      have HN := Lib.hid hn
      have hb0 : b < g := by have := HG.out; omega
      have n1 : (n : Int) ≤ 6 := by omega
      have n2 : (C : Int) ≤ 6 := by omega
      have n3 : (1 : Int) ≤ n := by omega
      have n4 : (1 : Int) ≤ C := by omega
      clear hV hcell hlt hn ok1 ok2
      go_upto_region 5 with (first | (guard_target =~ wpList _ _ _ (⟨_, Op.build 33 _, _, _, _, _⟩ :: _) _ _; refine wpList_build2 rfl 33 _ _ rfl ((n : Int)) ((C : Int)) rfl rfl (fun _ _ => by kernel_rfl) ?_) | (guard_target =~ wpList _ _ _ (⟨_, Op.store 33 _ _, _, _, _, _⟩ :: _) _ _; refine wpList_store_fresh (cells := (CL n C fun _ => 0).toArray) rfl 33 _ _ rfl rfl rfl (by kernel_rfl) (by rw [CL_size]; rfl) (CL_one _ _ _) ?_))
      have b2 := a2.alloc (.cells (CL n C fun _ => 0).toArray 33)
      have b3 : MB (wk.alloc (.cells (CL n C fun _ => 0).toArray 33)) wk.heap.size 33 n C (fun _ => 0) := heap_alloc_last _ _
      have b4 := a4.alloc (show g ≤ wk.heap.size by have := A5.out; omega) (.cells (CL n C fun _ => 0).toArray 33)
      rw [A5.out] at b3
      rw [A5.out]
      generalize wk.alloc (.cells (CL n C fun _ => 0).toArray 33) = w3 at b2 b3 b4 ⊢
      clear a2 a4 A5
      go_wp2_with fail
      go_loopw [8] (fun y wr => ∃ (i : Nat), y = .int .i64 i ∧ i ≤ n ∧ MB wr g 33 0 0 (fun _ => 0) ∧ MB wr (g + 1) 33 n C (powsP zs C i 0) ∧ Hid (Below g w wr)) (fun y _ => (6 - intOf y).toNat)
      case atStart => exact ⟨0, rfl, by omega, b2, b3.ext (fun s _ => by rw [powsP_zero]), Lib.hid b4⟩
      case round =>
        clear b2 b3 b4
        obtain ⟨i, rfl, hi, m2, m3, hb⟩ := hrel
        by_cases hli : i < n
        · have T1 : decide ((i : Int) < (n : Int)) = true := by simp; omega
          have i6 : i < 6 := by omega
          have i1 : (i : Int) < 6 := by omega
          have q1 : wr.cell? ⟨b, off + i, none⟩ = some (.int .u16 (zs.getD i 0)) := (hb.out.cell (p := ⟨b, off + i, none⟩) (by show b < g; omega)).trans (HCELL.out i hli)
          have xb : 0 ≤ zs.getD i 0 ∧ zs.getD i 0 < 65536 := by
            have hil : i < zs.length := by rw [← HN.out]; exact hli
            have := HZ.out zs[i] (List.getElem_mem hil); simp [List.getD, hil]; exact this
          obtain ⟨x, hx⟩ : ∃ x, x = zs.getD i 0 := ⟨_, rfl⟩
          rw [← hx] at q1 xb
          have HX := Lib.hid hx
          clear hx
          go_wp2_with fail
          clear q1
          go_loopw [10, 9] (fun y s wr => ∃ (j : Nat), y = .int .i64 j ∧ j ≤ C ∧ s = .int .u16 (pwr x j) ∧ MB wr g 33 0 0 (fun _ => 0) ∧ MB wr (g + 1) 33 n C (powsP zs C i j) ∧ Hid (Below g w wr)) (fun y _ _ => (6 - intOf y).toNat)
          case atStart => exact ⟨0, rfl, by omega, rfl, m2, m3, hb⟩
          case round =>
            clear m2 m3 hb
            obtain ⟨j, rfl, hj, rfl, m2, m3, hb⟩ := hrel
            have pb := pwr_b xb.1 xb.2 j
            by_cases hlj : j < C
            · have T2 : decide ((j : Int) < (C : Int)) = true := by simp; omega
              have j6 : j < 6 := by omega
              have j1 : (j : Int) < 6 := by omega
              have c3 := m3.cell2 i j i6 j6
              have f3 := m3.free (2 + i * 6 + j)
              have M2 := Lib.hid m2; have M3 := Lib.hid m3
              clear m2 m3
              go_upto_region 13 with fail
              have e2 := M2.out.other (b := g + 1) (o := 2 + i * 6 + j) (by omega) (.int .u16 (pwr x j))
              have e3 := (M3.out.put2 i j i6 j6 (pwr x j)).ext (f' := powsP zs C i (j + 1)) (by rw [HX.out]; exact powsP_step zs C i j i6 j6 hlj)
              have e4 := hb.out.setCell (p := ⟨g + 1, 2 + i * 6 + j, none⟩) (by simp) (.int .u16 (pwr x j))
              generalize World.setCell wr _ _ = wd at e2 e3 e4 ⊢
              clear M2 M3 hb c3 f3
              have q1 : wd.cell? ⟨b, off + i, none⟩ = some (.int .u16 x) := ((e4.cell (p := ⟨b, off + i, none⟩) (by show b < g; omega)).trans (HCELL.out i hli)).trans (by rw [← HX.out])
              go_wp2_with fail
              refine (ltimes_eq (pwr x j) x pb.1 pb.2 xb.1 xb.2 _).mono ?_
              rintro e wz ⟨rfl, rfl⟩
              go_wp2_with fail
              exact ⟨⟨j + 1, rfl, by omega, rfl, e2, e3, Lib.hid e4⟩, by simp [intOf]; omega⟩
            · obtain rfl : j = C := by omega
              have T2 : decide ((j : Int) < (j : Int)) = false := by simp
              go_wp2_with fail
              exact ⟨⟨i + 1, rfl, by omega, m2, m3.ext (powsP_row zs j i), hb⟩, by simp [intOf]; omega⟩
        · obtain rfl : i = n := by omega
          have T1 : decide ((i : Int) < (i : Int)) = false := by simp
          go_wp2_with (first | (guard_target =~ wpList _ _ _ (⟨_, Op.load 33 (Operand.tmp 7), _, _, _, _⟩ :: _) _ _; refine wpList_load_row rfl 33 _ rfl (g + 1) rfl _ (CL i C (powsP zs C i 0)).toArray (0, 0) _ m3 Try.underlying33 rfl (by kernel_rfl) ?_) | (guard_target =~ wpList _ _ _ (⟨_, Op.store 33 (Operand.tmp 4) _, _, _, _, _⟩ :: _) _ _; refine wpList_store_row rfl 33 _ _ rfl (g) (CL i C (powsP zs C i 0)).toArray rfl rfl _ _ m2 (by kernel_rfl) rfl (CL_one _ _ _) ?_))
          refine bodyPost_ret (v := .tuple #[MV i C (powsP zs C i 0), .int .i64 0]) ?_ rfl ⟨congrArg Ending.returned HV.out.symm, by obtain rfl := HG.out; exact Below.setRow hb.out (Nat.le_refl _) _⟩
          exact results_cell_tmp2 rfl _ _ g _ _ (0, 0) _ _ rfl rfl (m2.setRow _) Try.underlying33 rfl (by kernel_rfl)

set_option maxRecDepth 100000 in
set_option maxHeartbeats 2000000 in
theorem impl_PowersMatrix (v : Value) (zs : List Int) (c : Int) (w : World) (h : NS w v zs) : Calls Try.prog 73 #[v, .int .i64 c] w fun e w' => e = .returned (powersV zs c) ∧ Below w.heap.size w w' := by
  obtain ⟨A, cp, rfl, hz, hc⟩ := h
  have HZ := Lib.hid hz
  have HC := Lib.hid hc
  clear hz hc
  go_enter Try.func73, Try.ntmps73
  go_upto_region 1 with fail
  obtain ⟨a2, a4, a5⟩ := new1 w (.cells (CL 0 0 fun _ => 0).toArray 33)
  rw [zero38]
  obtain ⟨g, hg⟩ : ∃ g, g = w.heap.size := ⟨_, rfl⟩
  rw [← hg] at a2 a4 a5 ⊢
  generalize World.alloc w _ = w2 at a2 a4 a5 ⊢
  replace a2 : MB w2 g 33 0 0 (fun _ => 0) := a2
  have HG := Lib.hid hg
  have A5 := Lib.hid a5
  clear hg a5
  go_wp2_with fail
  refine (is_side _ _).mono ?_
  rintro e wn ⟨rfl, rfl⟩
  rcases ok1 : inSide (zs.length : Int) with _ | _
  · have hV : powersV zs c = .tuple #[MV 0 0 (fun _ => 0), .int .i64 2] := by unfold powersV; rw [ok1]; rfl
    clear ok1
    have HV := Lib.hid hV
    clear hV
    go_wp2_with (first | (guard_target =~ wpList _ _ _ (⟨_, Op.build 33 _, _, _, _, _⟩ :: _) _ _; refine wpList_build0 rfl 33 rfl (CL 0 0 fun _ => 0).toArray (by kernel_rfl) ?_) | (guard_target =~ wpList _ _ _ (⟨_, Op.store 33 (Operand.tmp 4) _, _, _, _, _⟩ :: _) _ _; refine wpList_store_row rfl 33 _ _ rfl (g) (CL 0 0 fun _ => 0).toArray rfl rfl _ _ a2 (by kernel_rfl) rfl (CL_one _ _ _) ?_))
    refine bodyPost_ret (v := .tuple #[MV 0 0 (fun _ => 0), .int .i64 2]) ?_ rfl ⟨congrArg Ending.returned HV.out.symm, by obtain rfl := HG.out; exact Below.setRow a4 (Nat.le_refl _) _⟩
    exact results_cell_tmp2 rfl _ _ g _ _ (0, 0) _ _ rfl rfl (a2.setRow _) Try.underlying33 rfl (by kernel_rfl)
  · go_wp2_with fail
    refine (is_side _ _).mono ?_
    rintro e wk ⟨rfl, rfl⟩
    rcases ok2 : inSide c with _ | _
    · have hV : powersV zs c = .tuple #[MV 0 0 (fun _ => 0), .int .i64 2] := by unfold powersV; rw [ok1, ok2]; rfl
      clear ok1 ok2
      have HV := Lib.hid hV
      clear hV
      go_wp2_with (first | (guard_target =~ wpList _ _ _ (⟨_, Op.build 33 _, _, _, _, _⟩ :: _) _ _; refine wpList_build0 rfl 33 rfl (CL 0 0 fun _ => 0).toArray (by kernel_rfl) ?_) | (guard_target =~ wpList _ _ _ (⟨_, Op.store 33 (Operand.tmp 4) _, _, _, _, _⟩ :: _) _ _; refine wpList_store_row rfl 33 _ _ rfl (g) (CL 0 0 fun _ => 0).toArray rfl rfl _ _ a2 (by kernel_rfl) rfl (CL_one _ _ _) ?_))
      refine bodyPost_ret (v := .tuple #[MV 0 0 (fun _ => 0), .int .i64 2]) ?_ rfl ⟨congrArg Ending.returned HV.out.symm, by obtain rfl := HG.out; exact Below.setRow a4 (Nat.le_refl _) _⟩
      exact results_cell_tmp2 rfl _ _ g _ _ (0, 0) _ _ rfl rfl (a2.setRow _) Try.underlying33 rfl (by kernel_rfl)
    · have hV : powersV zs c = .tuple #[MV zs.length c (powsP zs c.toNat zs.length 0), .int .i64 0] := by unfold powersV; rw [ok1, ok2]; rfl
      unfold inSide at ok1 ok2
      simp only [decide_eq_true_eq] at ok1 ok2
      obtain ⟨C, hCe⟩ : ∃ C : Nat, c = C := ⟨c.toNat, by omega⟩
      subst hCe
      rw [show (C : Int).toNat = C from rfl] at hV
      have HV := Lib.hid hV
      obtain ⟨b, off, hA, hlt, hcell⟩ := HC.out (by omega)
      subst hA
      obtain ⟨n, hn⟩ : ∃ n, n = zs.length := ⟨_, rfl⟩
      rw [← hn] at ok1 hcell HV ⊢
      have HCELL := Lib.hid hcell
      have HN := Lib.hid hn
      have hb0 : b < g := by have := HG.out; omega
      have n1 : (n : Int) ≤ 6 := by omega
      have n2 : (C : Int) ≤ 6 := by omega
      have n3 : (1 : Int) ≤ n := by omega
      have n4 : (1 : Int) ≤ C := by omega
      clear hV hcell hlt hn ok1 ok2
      go_upto_region 4 with (first | (guard_target =~ wpList _ _ _ (⟨_, Op.build 33 _, _, _, _, _⟩ :: _) _ _; refine wpList_build2 rfl 33 _ _ rfl ((n : Int)) ((C : Int)) rfl rfl (fun _ _ => by kernel_rfl) ?_) | (guard_target =~ wpList _ _ _ (⟨_, Op.store 33 _ _, _, _, _, _⟩ :: _) _ _; refine wpList_store_fresh (cells := (CL n C fun _ => 0).toArray) rfl 33 _ _ rfl rfl rfl (by kernel_rfl) (by rw [CL_size]; rfl) (CL_one _ _ _) ?_))
      have b2 := a2.alloc (.cells (CL n C fun _ => 0).toArray 33)
      have b3 : MB (wk.alloc (.cells (CL n C fun _ => 0).toArray 33)) wk.heap.size 33 n C (fun _ => 0) := heap_alloc_last _ _
      have b4 := a4.alloc (show g ≤ wk.heap.size by have := A5.out; omega) (.cells (CL n C fun _ => 0).toArray 33)
      rw [A5.out] at b3
      rw [A5.out]
      generalize wk.alloc (.cells (CL n C fun _ => 0).toArray 33) = w3 at b2 b3 b4 ⊢
      clear a2 a4 A5
      go_wp2_with fail
      go_loopw [29] (fun y wr => ∃ (i : Nat), y = .int .i64 i ∧ i ≤ n ∧ MB wr g 33 0 0 (fun _ => 0) ∧ MB wr (g + 1) 33 n C (powsP zs C i 0) ∧ Hid (Below g w wr)) (fun y _ => (6 - intOf y).toNat)
      case atStart => exact ⟨0, rfl, by omega, b2, b3.ext (fun s _ => by rw [powsP_zero]), Lib.hid b4⟩
      case round =>
        clear b2 b3 b4
        obtain ⟨i, rfl, hi, m2, m3, hb⟩ := hrel
        by_cases hli : i < n
        · have T1 : decide ((i : Int) < (n : Int)) = true := by simp; omega
          have i6 : i < 6 := by omega
          have i1 : (i : Int) < 6 := by omega
          have q1 : wr.cell? ⟨b, off + i, none⟩ = some (.int .u16 (zs.getD i 0)) := (hb.out.cell (p := ⟨b, off + i, none⟩) (by show b < g; omega)).trans (HCELL.out i hli)
          have xb : 0 ≤ zs.getD i 0 ∧ zs.getD i 0 < 65536 := by
            have hil : i < zs.length := by rw [← HN.out]; exact hli
            have := HZ.out zs[i] (List.getElem_mem hil); simp [List.getD, hil]; exact this
          obtain ⟨x, hx⟩ : ∃ x, x = zs.getD i 0 := ⟨_, rfl⟩
          rw [← hx] at q1 xb
          have HX := Lib.hid hx
          clear hx
          go_wp2_with fail
          clear q1
          go_loopw [35, 9] (fun y s wr => ∃ (j : Nat), y = .int .i64 j ∧ j ≤ C ∧ s = .int .u16 (pwr x j) ∧ MB wr g 33 0 0 (fun _ => 0) ∧ MB wr (g + 1) 33 n C (powsP zs C i j) ∧ Hid (Below g w wr)) (fun y _ _ => (6 - intOf y).toNat)
          case atStart => exact ⟨0, rfl, by omega, rfl, m2, m3, hb⟩
          case round =>
            clear m2 m3 hb
            obtain ⟨j, rfl, hj, rfl, m2, m3, hb⟩ := hrel
            have pb := pwr_b xb.1 xb.2 j
            by_cases hlj : j < C
            · have T2 : decide ((j : Int) < (C : Int)) = true := by simp; omega
              have j6 : j < 6 := by omega
              have j1 : (j : Int) < 6 := by omega
              have c3 := m3.cell2 i j i6 j6
              have f3 := m3.free (2 + i * 6 + j)
              have M2 := Lib.hid m2; have M3 := Lib.hid m3
              clear m2 m3
              go_upto_region 12 with fail
              have e2 := M2.out.other (b := g + 1) (o := 2 + i * 6 + j) (by omega) (.int .u16 (pwr x j))
              have e3 := (M3.out.put2 i j i6 j6 (pwr x j)).ext (f' := powsP zs C i (j + 1)) (by rw [HX.out]; exact powsP_step zs C i j i6 j6 hlj)
              have e4 := hb.out.setCell (p := ⟨g + 1, 2 + i * 6 + j, none⟩) (by simp) (.int .u16 (pwr x j))
              generalize World.setCell wr _ _ = wd at e2 e3 e4 ⊢
              clear M2 M3 hb c3 f3
              go_wp2_with fail
              refine (times_eq (pwr x j) x pb.1 pb.2 xb.1 xb.2 _).mono ?_
              rintro e wz ⟨rfl, rfl⟩
              go_wp2_with fail
              exact ⟨⟨j + 1, rfl, by omega, rfl, e2, e3, Lib.hid e4⟩, by simp [intOf]; omega⟩
            · obtain rfl : j = C := by omega
              have T2 : decide ((j : Int) < (j : Int)) = false := by simp
              go_wp2_with fail
              exact ⟨⟨i + 1, rfl, by omega, m2, m3.ext (powsP_row zs j i), hb⟩, by simp [intOf]; omega⟩
        · obtain rfl : i = n := by omega
          have T1 : decide ((i : Int) < (i : Int)) = false := by simp
          go_wp2_with (first | (guard_target =~ wpList _ _ _ (⟨_, Op.load 33 (Operand.tmp 6), _, _, _, _⟩ :: _) _ _; refine wpList_load_row rfl 33 _ rfl (g + 1) rfl _ (CL i C (powsP zs C i 0)).toArray (0, 0) _ m3 Try.underlying33 rfl (by kernel_rfl) ?_) | (guard_target =~ wpList _ _ _ (⟨_, Op.store 33 (Operand.tmp 4) _, _, _, _, _⟩ :: _) _ _; refine wpList_store_row rfl 33 _ _ rfl (g) (CL i C (powsP zs C i 0)).toArray rfl rfl _ _ m2 (by kernel_rfl) rfl (CL_one _ _ _) ?_))
          refine bodyPost_ret (v := .tuple #[MV i C (powsP zs C i 0), .int .i64 0]) ?_ rfl ⟨congrArg Ending.returned HV.out.symm, by obtain rfl := HG.out; exact Below.setRow hb.out (Nat.le_refl _) _⟩
          exact results_cell_tmp2 rfl _ _ g _ _ (0, 0) _ _ rfl rfl (m2.setRow _) Try.underlying33 rfl (by kernel_rfl)
end Go.Proofs.Ytjbaeomjinnlhaa
