/-
  The matrix that changes nothing; the trace.
-/
import Derived.Test.YtjbaeomjinnlhaaOk2
import Derived.Deep.RegionHeld
import Derived.Test.YtjbaeomjinnlhaaScale
namespace Go.Proofs.Ytjbaeomjinnlhaa
set_option linter.unusedVariables false
set_option linter.unusedSimpArgs false
open Go.ChangeShapes Go.WideShapes Go.ChangeAt Go.RowKit

def oneN (n : Nat) : Nat → Int := fun s => if s / 6 < n ∧ s % 6 = s / 6 then 1 else 0
theorem oneN_zero : oneN 0 = fun _ => 0 := by funext s; unfold oneN; rw [if_neg (by omega)]
theorem oneN_step (n : Nat) (hn : n < 6) : ∀ s, s < 36 → upd (oneN n) (n * 6 + n) 1 s = oneN (n + 1) s := fun s hs => by
  unfold upd oneN
  by_cases e : s = n * 6 + n
  · rw [if_pos e, if_pos (by omega)]
  · rw [if_neg e]
    by_cases h : s / 6 < n ∧ s % 6 = s / 6
    · rw [if_pos h, if_pos (by omega)]
    · rw [if_neg h, if_neg (by omega)]
theorem oneN_b (n : Nat) : VW (oneN n) := fun t => by unfold oneN; split <;> omega

set_option maxRecDepth 100000 in
set_option maxHeartbeats 1000000 in
theorem spec_l02One (n : Nat) (hn : n ≤ 6) (w : World) : Calls Try.prog 104 #[.int .i8 n] w fun e w' => e = .returned (MV n n (oneN n)) ∧ Below w.heap.size w w' := by
  go_enter Try.func104, Try.ntmps104
  go_upto_region 1 with fail
  obtain ⟨a2, a4, a5⟩ := new1 w (.cells (CL 0 0 fun _ => 0).toArray 33)
  rw [zero38]
  obtain ⟨g, hg⟩ : ∃ g, g = w.heap.size := ⟨_, rfl⟩
  rw [← hg] at a2 a4 a5 ⊢
  generalize World.alloc w _ = w2 at a2 a4 a5 ⊢
  replace a2 : MB w2 g 33 0 0 (fun _ => 0) := a2
  have HG := Lib.hid hg
  have A5 := Lib.hid a5
  clear hg a5
  go_upto_region 2 with (first | (guard_target =~ wpList _ _ _ (⟨_, Op.build 33 _, _, _, _, _⟩ :: _) _ _; refine wpList_build2 rfl 33 _ _ rfl ((n : Int)) ((n : Int)) rfl rfl (fun _ _ => by kernel_rfl) ?_) | (guard_target =~ wpList _ _ _ (⟨_, Op.store 33 _ _, _, _, _, _⟩ :: _) _ _; refine wpList_store_fresh (cells := (CL n n fun _ => 0).toArray) rfl 33 _ _ rfl rfl rfl (by kernel_rfl) (by rw [CL_size]; rfl) (CL_one _ _ _) ?_))
  have b2 := a2.alloc (.cells (CL n n fun _ => 0).toArray 33)
  have b3 : MB (w2.alloc (.cells (CL n n fun _ => 0).toArray 33)) w2.heap.size 33 n n (fun _ => 0) := heap_alloc_last _ _
  have b4 := a4.alloc (show g ≤ w2.heap.size by have := A5.out; omega) (.cells (CL n n fun _ => 0).toArray 33)
  rw [A5.out] at b3
  rw [A5.out]
  generalize w2.alloc (.cells (CL n n fun _ => 0).toArray 33) = w3 at b2 b3 b4 ⊢
  clear a2 a4 A5
  have n1 : (n : Int) ≤ 6 := by omega
  go_wp2_with fail
  go_loopw [4] (fun p wr => ∃ (i : Nat), p = .int .i64 i ∧ i ≤ n ∧ MB wr g 33 0 0 (fun _ => 0) ∧ MB wr (g + 1) 33 n n (oneN i) ∧ Hid (Below g w wr)) (fun p _ => (6 - intOf p).toNat)
  case atStart => exact ⟨0, rfl, by omega, b2, b3.ext (fun s _ => by rw [oneN_zero]), Lib.hid b4⟩
  case round =>
    clear b2 b3 b4
    obtain ⟨i, rfl, hi, m2, m3, hb⟩ := hrel
    by_cases hlt : i < n
    · have T1 : decide ((i : Int) < (n : Int)) = true := by simp; omega
      have hi6 : i < 6 := by omega
      have i1 : (i : Int) < 6 := by omega
      have c3 := m3.cell2 i i hi6 hi6
      have f3 := m3.free (2 + i * 6 + i)
      have M2 := Lib.hid m2; have M3 := Lib.hid m3
      clear m2 m3
      go_wp2_with fail
      exact ⟨⟨i + 1, rfl, by omega, M2.out.other (by omega) _, (M3.out.put2 i i hi6 hi6 _).ext (oneN_step i hi6), Lib.hid (hb.out.setCell (p := ⟨g + 1, 2 + i * 6 + i, none⟩) (by simp) _)⟩, by simp [intOf]; omega⟩
    · obtain rfl : i = n := by omega
      have T1 : decide ((i : Int) < (i : Int)) = false := by simp
      go_wp2_with (first | (guard_target =~ wpList _ _ _ (⟨_, Op.load 33 (Operand.tmp 3), _, _, _, _⟩ :: _) _ _; refine wpList_load_row rfl 33 _ rfl (g + 1) rfl _ (CL i i (oneN i)).toArray (0, 0) _ m3 Try.underlying33 rfl (by kernel_rfl) ?_) | (guard_target =~ wpList _ _ _ (⟨_, Op.store 33 (Operand.tmp 2) _, _, _, _, _⟩ :: _) _ _; refine wpList_store_row rfl 33 _ _ rfl (g) (CL i i (oneN i)).toArray rfl rfl _ _ m2 (by kernel_rfl) rfl (CL_one _ _ _) ?_))
      refine bodyPost_ret (v := MV i i (oneN i)) ?_ rfl ⟨rfl, by obtain rfl := HG.out; exact Below.setRow hb.out (Nat.le_refl _) _⟩
      exact results_cell_row rfl _ _ g _ _ (0, 0) _ rfl (m2.setRow _) Try.underlying33 rfl (by kernel_rfl)

set_option maxRecDepth 100000 in
set_option maxHeartbeats 1000000 in
theorem impl_oneOf (n : Nat) (hn : n ≤ 6) (w : World) : Calls Try.prog 105 #[.int .i8 n] w fun e w' => e = .returned (MV n n (oneN n)) ∧ Below w.heap.size w w' := by
  go_enter Try.func105, Try.ntmps105
  go_upto_region 1 with fail
  obtain ⟨a2, a4, a5⟩ := new1 w (.cells (CL 0 0 fun _ => 0).toArray 33)
  rw [zero38]
  obtain ⟨g, hg⟩ : ∃ g, g = w.heap.size := ⟨_, rfl⟩
  rw [← hg] at a2 a4 a5 ⊢
  generalize World.alloc w _ = w2 at a2 a4 a5 ⊢
  replace a2 : MB w2 g 33 0 0 (fun _ => 0) := a2
  have HG := Lib.hid hg
  have A5 := Lib.hid a5
  clear hg a5
  go_upto_region 2 with (first | (guard_target =~ wpList _ _ _ (⟨_, Op.build 33 _, _, _, _, _⟩ :: _) _ _; refine wpList_build2 rfl 33 _ _ rfl ((n : Int)) ((n : Int)) rfl rfl (fun _ _ => by kernel_rfl) ?_) | (guard_target =~ wpList _ _ _ (⟨_, Op.store 33 _ _, _, _, _, _⟩ :: _) _ _; refine wpList_store_fresh (cells := (CL n n fun _ => 0).toArray) rfl 33 _ _ rfl rfl rfl (by kernel_rfl) (by rw [CL_size]; rfl) (CL_one _ _ _) ?_))
  have b2 := a2.alloc (.cells (CL n n fun _ => 0).toArray 33)
  have b3 : MB (w2.alloc (.cells (CL n n fun _ => 0).toArray 33)) w2.heap.size 33 n n (fun _ => 0) := heap_alloc_last _ _
  have b4 := a4.alloc (show g ≤ w2.heap.size by have := A5.out; omega) (.cells (CL n n fun _ => 0).toArray 33)
  rw [A5.out] at b3
  rw [A5.out]
  generalize w2.alloc (.cells (CL n n fun _ => 0).toArray 33) = w3 at b2 b3 b4 ⊢
  clear a2 a4 A5
  have n1 : (n : Int) ≤ 6 := by omega
  go_wp2_with fail
  go_loopw [9] (fun p wr => ∃ (i : Nat), p = .int .i8 i ∧ i ≤ n ∧ MB wr g 33 0 0 (fun _ => 0) ∧ MB wr (g + 1) 33 n n (oneN i) ∧ Hid (Below g w wr)) (fun p _ => (6 - intOf p).toNat)
  case atStart => exact ⟨0, rfl, by omega, b2, b3.ext (fun s _ => by rw [oneN_zero]), Lib.hid b4⟩
  case round =>
    clear b2 b3 b4
    obtain ⟨i, rfl, hi, m2, m3, hb⟩ := hrel
    by_cases hlt : i < n
    · have T1 : decide ((i : Int) < (n : Int)) = true := by simp; omega
      have hi6 : i < 6 := by omega
      have i1 : (i : Int) < 6 := by omega
      have c3 := m3.cell2 i i hi6 hi6
      have f3 := m3.free (2 + i * 6 + i)
      have M2 := Lib.hid m2; have M3 := Lib.hid m3
      clear m2 m3
      go_wp2_with fail
      exact ⟨⟨i + 1, rfl, by omega, M2.out.other (by omega) _, (M3.out.put2 i i hi6 hi6 _).ext (oneN_step i hi6), Lib.hid (hb.out.setCell (p := ⟨g + 1, 2 + i * 6 + i, none⟩) (by simp) _)⟩, by simp [intOf]; omega⟩
    · obtain rfl : i = n := by omega
      have T1 : decide ((i : Int) < (i : Int)) = false := by simp
      go_wp2_with (first | (guard_target =~ wpList _ _ _ (⟨_, Op.load 33 (Operand.tmp 3), _, _, _, _⟩ :: _) _ _; refine wpList_load_row rfl 33 _ rfl (g + 1) rfl _ (CL i i (oneN i)).toArray (0, 0) _ m3 Try.underlying33 rfl (by kernel_rfl) ?_) | (guard_target =~ wpList _ _ _ (⟨_, Op.store 33 (Operand.tmp 2) _, _, _, _, _⟩ :: _) _ _; refine wpList_store_row rfl 33 _ _ rfl (g) (CL i i (oneN i)).toArray rfl rfl _ _ m2 (by kernel_rfl) rfl (CL_one _ _ _) ?_))
      refine bodyPost_ret (v := MV i i (oneN i)) ?_ rfl ⟨rfl, by obtain rfl := HG.out; exact Below.setRow hb.out (Nat.le_refl _) _⟩
      exact results_cell_row rfl _ _ g _ _ (0, 0) _ rfl (m2.setRow _) Try.underlying33 rfl (by kernel_rfl)

def oneV (n : Int) : Value := if inSide n then .tuple #[MV n n (oneN n.toNat), .int .i64 0] else .tuple #[MV 0 0 (fun _ => 0), .int .i64 2]
theorem oneV_form (n : Int) : ∃ R C F k, oneV n = .tuple #[MV R C F, .int .i64 k] ∧ MW R C F := by
  unfold oneV
  split
  · rename_i h
    unfold inSide at h
    rw [decide_eq_true_eq] at h
    exact ⟨_, _, _, _, rfl, by omega, by omega, by omega, by omega, oneN_b _⟩
  · exact ⟨_, _, _, _, rfl, by omega, by omega, by omega, by omega, fun _ => ⟨Int.le_refl 0, show (0 : Int) < 65536 by decide⟩⟩

set_option maxRecDepth 100000 in
set_option maxHeartbeats 1000000 in
theorem spec_OneMatrix (n : Int) (w : World) : Calls Try.prog 31 #[.int .i64 n] w fun e w' => e = .returned (oneV n) ∧ Below w.heap.size w w' := by
  go_enter Try.func31, Try.ntmps31
  go_upto_region 1 with fail
  obtain ⟨a2, a4, a5⟩ := new1 w (.cells (CL 0 0 fun _ => 0).toArray 33)
  rw [zero38]
  obtain ⟨g, hg⟩ : ∃ g, g = w.heap.size := ⟨_, rfl⟩
  rw [← hg] at a2 a4 a5 ⊢
  generalize World.alloc w _ = w2 at a2 a4 a5 ⊢
  replace a2 : MB w2 g 33 0 0 (fun _ => 0) := a2
  have HG := Lib.hid hg
  clear hg
  go_wp2_with fail
  refine (in_side n _).mono ?_
  rintro e wn ⟨rfl, rfl⟩
  rcases hok : inSide n with _ | _
  · have hV : oneV n = .tuple #[MV 0 0 (fun _ => 0), .int .i64 2] := by unfold oneV; rw [hok]; rfl
    have HV := Lib.hid hV
    clear hok hV
    go_wp2_with (first | (guard_target =~ wpList _ _ _ (⟨_, Op.build 33 _, _, _, _, _⟩ :: _) _ _; refine wpList_build0 rfl 33 rfl (CL 0 0 fun _ => 0).toArray (by kernel_rfl) ?_) | (guard_target =~ wpList _ _ _ (⟨_, Op.store 33 (Operand.tmp 2) _, _, _, _, _⟩ :: _) _ _; refine wpList_store_row rfl 33 _ _ rfl (g) (CL 0 0 fun _ => 0).toArray rfl rfl _ _ a2 (by kernel_rfl) rfl (CL_one _ _ _) ?_))
    refine bodyPost_ret (v := .tuple #[MV 0 0 (fun _ => 0), .int .i64 2]) ?_ rfl ⟨congrArg Ending.returned HV.out.symm, by obtain rfl := HG.out; exact Below.setRow a4 (Nat.le_refl _) _⟩
    exact results_cell_tmp2 rfl _ _ g _ _ (0, 0) _ _ rfl rfl (a2.setRow _) Try.underlying33 rfl (by kernel_rfl)
  · have hn : 1 ≤ n ∧ n ≤ 6 := by unfold inSide at hok; rw [decide_eq_true_eq] at hok; exact hok
    have hV : oneV n = .tuple #[MV n n (oneN n.toNat), .int .i64 0] := by unfold oneV; rw [hok]; rfl
    have HV := Lib.hid hV
    clear hok hV
    obtain ⟨m, rfl⟩ : ∃ m : Nat, n = m := ⟨n.toNat, by omega⟩
    have n1 : (m : Int) ≤ 6 := hn.2
    have HN := Lib.hid hn
    clear hn
    go_wp2_with fail
    refine (spec_l02One m (by omega) _).mono ?_
    rintro e wm ⟨rfl, hn⟩
    replace a2 := a2.below hn a2.lt
    replace a4 := bnext a4 hn (by omega)
    clear hn
    go_wp2_with (first | (guard_target =~ wpList _ _ _ (⟨_, Op.store 33 (Operand.tmp 2) _, _, _, _, _⟩ :: _) _ _; refine wpList_store_row rfl 33 _ _ rfl (g) (CL m m (oneN m)).toArray rfl rfl _ _ a2 (by kernel_rfl) rfl (CL_one _ _ _) ?_))
    refine bodyPost_ret (v := .tuple #[MV m m (oneN m), .int .i64 0]) ?_ rfl ⟨congrArg Ending.returned HV.out.symm, by obtain rfl := HG.out; exact Below.setRow a4 (Nat.le_refl _) _⟩
    exact results_cell_tmp2 rfl _ _ g _ _ (0, 0) _ _ rfl rfl (a2.setRow _) Try.underlying33 rfl (by kernel_rfl)

set_option maxRecDepth 100000 in
set_option maxHeartbeats 1000000 in
theorem impl_OneMatrix (n : Int) (w : World) : Calls Try.prog 32 #[.int .i64 n] w fun e w' => e = .returned (oneV n) ∧ Below w.heap.size w w' := by
  go_enter Try.func32, Try.ntmps32
  go_upto_region 1 with fail
  obtain ⟨a2, a4, a5⟩ := new1 w (.cells (CL 0 0 fun _ => 0).toArray 33)
  rw [zero38]
  obtain ⟨g, hg⟩ : ∃ g, g = w.heap.size := ⟨_, rfl⟩
  rw [← hg] at a2 a4 a5 ⊢
  generalize World.alloc w _ = w2 at a2 a4 a5 ⊢
  replace a2 : MB w2 g 33 0 0 (fun _ => 0) := a2
  have HG := Lib.hid hg
  clear hg
  go_wp2_with fail
  refine (is_side n _).mono ?_
  rintro e wn ⟨rfl, rfl⟩
  rcases hok : inSide n with _ | _
  · have hV : oneV n = .tuple #[MV 0 0 (fun _ => 0), .int .i64 2] := by unfold oneV; rw [hok]; rfl
    have HV := Lib.hid hV
    clear hok hV
    go_wp2_with (first | (guard_target =~ wpList _ _ _ (⟨_, Op.build 33 _, _, _, _, _⟩ :: _) _ _; refine wpList_build0 rfl 33 rfl (CL 0 0 fun _ => 0).toArray (by kernel_rfl) ?_) | (guard_target =~ wpList _ _ _ (⟨_, Op.store 33 (Operand.tmp 2) _, _, _, _, _⟩ :: _) _ _; refine wpList_store_row rfl 33 _ _ rfl (g) (CL 0 0 fun _ => 0).toArray rfl rfl _ _ a2 (by kernel_rfl) rfl (CL_one _ _ _) ?_))
    refine bodyPost_ret (v := .tuple #[MV 0 0 (fun _ => 0), .int .i64 2]) ?_ rfl ⟨congrArg Ending.returned HV.out.symm, by obtain rfl := HG.out; exact Below.setRow a4 (Nat.le_refl _) _⟩
    exact results_cell_tmp2 rfl _ _ g _ _ (0, 0) _ _ rfl rfl (a2.setRow _) Try.underlying33 rfl (by kernel_rfl)
  · have hn : 1 ≤ n ∧ n ≤ 6 := by unfold inSide at hok; rw [decide_eq_true_eq] at hok; exact hok
    have hV : oneV n = .tuple #[MV n n (oneN n.toNat), .int .i64 0] := by unfold oneV; rw [hok]; rfl
    have HV := Lib.hid hV
    clear hok hV
    obtain ⟨m, rfl⟩ : ∃ m : Nat, n = m := ⟨n.toNat, by omega⟩
    have n1 : (m : Int) ≤ 6 := hn.2
    have HN := Lib.hid hn
    clear hn
    go_wp2_with fail
    refine (impl_oneOf m (by omega) _).mono ?_
    rintro e wm ⟨rfl, hn⟩
    replace a2 := a2.below hn a2.lt
    replace a4 := bnext a4 hn (by omega)
    clear hn
    go_wp2_with (first | (guard_target =~ wpList _ _ _ (⟨_, Op.store 33 (Operand.tmp 2) _, _, _, _, _⟩ :: _) _ _; refine wpList_store_row rfl 33 _ _ rfl (g) (CL m m (oneN m)).toArray rfl rfl _ _ a2 (by kernel_rfl) rfl (CL_one _ _ _) ?_))
    refine bodyPost_ret (v := .tuple #[MV m m (oneN m), .int .i64 0]) ?_ rfl ⟨congrArg Ending.returned HV.out.symm, by obtain rfl := HG.out; exact Below.setRow a4 (Nat.le_refl _) _⟩
    exact results_cell_tmp2 rfl _ _ g _ _ (0, 0) _ _ rfl rfl (a2.setRow _) Try.underlying33 rfl (by kernel_rfl)

/-- the sum of the first n cells of the diagonal -/
def diag (f : Nat → Int) : Nat → Int
  | 0 => 0
  | n + 1 => xorI (diag f n) (f (n * 6 + n))
theorem diag_b {f : Nat → Int} (h : VW f) : ∀ n, 0 ≤ diag f n ∧ diag f n < 65536
  | 0 => by unfold diag; omega
  | n + 1 => by unfold diag; exact xorI_b (diag_b h n).1 (diag_b h n).2 (h _).1 (h _).2
def traceV (r c : Int) (f : Nat → Int) : Value := if okB r c f then (if r = c then .tuple #[.int .u16 (diag f 6), .int .i64 0] else .tuple #[.int .u16 0, .int .i64 4]) else .tuple #[.int .u16 0, .int .i64 1]
theorem traceV_form (r c : Int) (f : Nat → Int) (hm : MW r c f) : ∃ v k, traceV r c f = .tuple #[.int .u16 v, .int .i64 k] := by
  unfold traceV
  split
  · split
    · exact ⟨_, _, rfl⟩
    · exact ⟨_, _, rfl⟩
  · exact ⟨_, _, rfl⟩
set_option maxRecDepth 100000 in
theorem isSquare_any (r c : Int) (f : Nat → Int) (hm : MW r c f) (w : World) : Calls Try.prog 117 #[MV r c f] w fun e w' => e = .returned (.bool (r == c)) ∧ Below w.heap.size w w' := by
  go_enter Try.func117, Try.ntmps117
  go_upto_region 1 with fail
  obtain ⟨a1, a4, a5⟩ := new1 w (.cells (CL r c f).toArray 33)
  generalize World.alloc w _ = w2 at a1 a4 a5 ⊢
  replace a1 : MB w2 w.heap.size 33 r c f := a1
  have c0 := a1.rows
  have c1 := a1.cols
  clear a1 a5
  go_wp2_with fail
  go_ret
  exact ⟨rfl, a4⟩

set_option maxRecDepth 100000 in
set_option maxHeartbeats 1000000 in
theorem spec_TraceMatrix (r c : Int) (f : Nat → Int) (hm : MW r c f) (w : World) : Calls Try.prog 75 #[MV r c f] w fun e w' => e = .returned (traceV r c f) ∧ Below w.heap.size w w' := by
  go_enter Try.func75, Try.ntmps75
  go_upto_region 1 with fail
  obtain ⟨a1, a4, a5⟩ := new1 w (.cells (CL r c f).toArray 33)
  obtain ⟨g, hg⟩ : ∃ g, g = w.heap.size := ⟨_, rfl⟩
  rw [← hg] at a1 a4 a5 ⊢
  generalize World.alloc w _ = w2 at a1 a4 a5 ⊢
  replace a1 : MB w2 g 33 r c f := a1
  have HG := Lib.hid hg
  clear hg a5
  go_wp2_with fail
  refine (l02Ok_any r c f hm g _ _ a1).mono ?_
  rintro e wn ⟨rfl, rfl⟩
  rcases hok : okB r c f with _ | _
  · have hV : traceV r c f = .tuple #[.int .u16 0, .int .i64 1] := by unfold traceV; rw [hok]; rfl
    have HV := Lib.hid hV
    clear hok hV
    go_wp2_with fail
    go_ret2
    obtain rfl := HG.out
    exact ⟨congrArg Ending.returned HV.out.symm, a4⟩
  · have HF := Lib.hid hm.2.2.2.2
    have c0 := a1.rows
    have c1 := a1.cols
    rcases hsq : (r == c) with _ | _
    · have hne : ¬ r = c := by simpa using hsq
      have hV : traceV r c f = .tuple #[.int .u16 0, .int .i64 4] := by unfold traceV; rw [hok, if_pos rfl, if_neg hne]
      have hne2 : (r != c) = true := by simpa using hne
      have HV := Lib.hid hV
      have HO := Lib.hid hok
      clear hok hV hne
      skip
      go_wp2_with fail
      go_ret2
      obtain rfl := HG.out
      exact ⟨congrArg Ending.returned HV.out.symm, a4⟩
    · have he : r = c := by simpa using hsq
      have hV : traceV r c f = .tuple #[.int .u16 (diag f 6), .int .i64 0] := by unfold traceV; rw [hok, if_pos rfl, if_pos he]
      have hne2 : (r != c) = false := by simpa using he
      have HV := Lib.hid hV
      have HO := Lib.hid hok
      have HE := Lib.hid he
      clear hok hV he
      skip
      have A1 := Lib.hid a1
      clear a1
      go_wp2_with fail
      go_loopw [5, 4] (fun p q wr => ∃ (i : Nat), p = .int .i64 i ∧ i ≤ 6 ∧ Hid (MB wr g 33 r c f) ∧ q = .int .u16 (diag f i) ∧ Hid (Below g w wr)) (fun p _ _ => (6 - intOf p).toNat)
      case atStart => exact ⟨0, rfl, by omega, A1, rfl, Lib.hid a4⟩
      case round =>
        clear c0 c1 A1 a4
        obtain ⟨i, rfl, hi, m1, rfl, hb⟩ := hrel
        have b2 := diag_b HF.out i
        by_cases hlt : i < 6
        · have T1 : decide ((i : Int) < 6) = true := by simp; omega
          have i1 : (i : Int) < 6 := by omega
          have cc := m1.out.cell2 i i hlt hlt
          have b1 := HF.out (i * 6 + i)
          have bx := bits_xor (diag f i) (f (i * 6 + i)) b2.1 b2.2 b1.1 b1.2
          go_wp2_with fail
          exact ⟨⟨i + 1, rfl, by omega, m1.out, rfl, hb⟩, by simp [intOf]; omega⟩
        · obtain rfl : i = 6 := by omega
          have T1 : decide (((6 : Nat) : Int) < 6) = false := by simp
          go_wp2_with fail
          go_ret2
          obtain rfl := HG.out
          exact ⟨congrArg Ending.returned HV.out.symm, hb.out⟩

set_option maxRecDepth 100000 in
set_option maxHeartbeats 1000000 in
theorem impl_TraceMatrix (r c : Int) (f : Nat → Int) (hm : MW r c f) (w : World) : Calls Try.prog 76 #[MV r c f] w fun e w' => e = .returned (traceV r c f) ∧ Below w.heap.size w w' := by
  go_enter Try.func76, Try.ntmps76
  go_upto_region 1 with fail
  obtain ⟨a1, a4, a5⟩ := new1 w (.cells (CL r c f).toArray 33)
  obtain ⟨g, hg⟩ : ∃ g, g = w.heap.size := ⟨_, rfl⟩
  rw [← hg] at a1 a4 a5 ⊢
  generalize World.alloc w _ = w2 at a1 a4 a5 ⊢
  replace a1 : MB w2 g 33 r c f := a1
  have HG := Lib.hid hg
  clear hg a5
  go_wp2_with (first | (guard_target =~ wpList _ _ _ (⟨_, Op.load 33 (Operand.tmp 1), _, _, _, _⟩ :: _) _ _; refine wpList_load_row rfl 33 _ rfl (g) rfl _ (CL r c f).toArray (0, 0) _ a1 Try.underlying33 rfl (by kernel_rfl) ?_))
  refine (impl_ValidMatrix r c f hm _).mono ?_
  rintro e wn ⟨rfl, hn⟩
  replace a4 := bnext a4 hn (Nat.le_of_lt a1.lt)
  replace a1 := a1.below hn a1.lt
  clear hn
  rcases hok : okB r c f with _ | _
  · have hV : traceV r c f = .tuple #[.int .u16 0, .int .i64 1] := by unfold traceV; rw [hok]; rfl
    have HV := Lib.hid hV
    clear hok hV
    go_wp2_with fail
    go_ret2
    obtain rfl := HG.out
    exact ⟨congrArg Ending.returned HV.out.symm, a4⟩
  · have HF := Lib.hid hm.2.2.2.2
    have c0 := a1.rows
    have c1 := a1.cols
    rcases hsq : (r == c) with _ | _
    · have hne : ¬ r = c := by simpa using hsq
      have hV : traceV r c f = .tuple #[.int .u16 0, .int .i64 4] := by unfold traceV; rw [hok, if_pos rfl, if_neg hne]
      have hne2 : (r != c) = true := by simpa using hne
      have HV := Lib.hid hV
      have HO := Lib.hid hok
      clear hok hV hne
      go_wp2_with (first | (guard_target =~ wpList _ _ _ (⟨_, Op.load 33 (Operand.tmp 1), _, _, _, _⟩ :: _) _ _; refine wpList_load_row rfl 33 _ rfl (g) rfl _ (CL r c f).toArray (0, 0) _ a1 Try.underlying33 rfl (by kernel_rfl) ?_))
      refine (isSquare_any r c f hm _).mono ?_
      rintro e wm ⟨rfl, hn⟩
      replace a4 := bnext a4 hn (Nat.le_of_lt a1.lt)
      replace a1 := a1.below hn a1.lt
      clear hn
      rw [hsq]
      go_wp2_with fail
      go_ret2
      obtain rfl := HG.out
      exact ⟨congrArg Ending.returned HV.out.symm, a4⟩
    · have he : r = c := by simpa using hsq
      have hV : traceV r c f = .tuple #[.int .u16 (diag f 6), .int .i64 0] := by unfold traceV; rw [hok, if_pos rfl, if_pos he]
      have hne2 : (r != c) = false := by simpa using he
      have HV := Lib.hid hV
      have HO := Lib.hid hok
      have HE := Lib.hid he
      clear hok hV he
      go_wp2_with (first | (guard_target =~ wpList _ _ _ (⟨_, Op.load 33 (Operand.tmp 1), _, _, _, _⟩ :: _) _ _; refine wpList_load_row rfl 33 _ rfl (g) rfl _ (CL r c f).toArray (0, 0) _ a1 Try.underlying33 rfl (by kernel_rfl) ?_))
      refine (isSquare_any r c f hm _).mono ?_
      rintro e wm ⟨rfl, hn⟩
      replace a4 := bnext a4 hn (Nat.le_of_lt a1.lt)
      replace a1 := a1.below hn a1.lt
      clear hn
      rw [hsq]
      have A1 := Lib.hid a1
      clear a1
      go_wp2_with fail
      go_loopw [12, 4] (fun p q wr => ∃ (i : Nat), p = .int .i64 i ∧ i ≤ 6 ∧ Hid (MB wr g 33 r c f) ∧ q = .int .u16 (diag f i) ∧ Hid (Below g w wr)) (fun p _ _ => (6 - intOf p).toNat)
      case atStart => exact ⟨0, rfl, by omega, A1, rfl, Lib.hid a4⟩
      case round =>
        clear c0 c1 A1 a4
        obtain ⟨i, rfl, hi, m1, rfl, hb⟩ := hrel
        have b2 := diag_b HF.out i
        by_cases hlt : i < 6
        · have T1 : decide ((i : Int) < 6) = true := by simp; omega
          have i1 : (i : Int) < 6 := by omega
          have cc := m1.out.cell2 i i hlt hlt
          have b1 := HF.out (i * 6 + i)
          have bx := bits_xor (diag f i) (f (i * 6 + i)) b2.1 b2.2 b1.1 b1.2
          go_wp2_with fail
          refine (nplus_eq (diag f i) (f (i * 6 + i)) b2.1 b2.2 b1.1 b1.2 _).mono ?_
          rintro e wn ⟨rfl, rfl⟩
          go_wp2_with fail
          exact ⟨⟨i + 1, rfl, by omega, m1.out, rfl, hb⟩, by simp [intOf]; omega⟩
        · obtain rfl : i = 6 := by omega
          have T1 : decide (((6 : Nat) : Int) < 6) = false := by simp
          go_wp2_with fail
          go_ret2
          obtain rfl := HG.out
          exact ⟨congrArg Ending.returned HV.out.symm, hb.out⟩
end Go.Proofs.Ytjbaeomjinnlhaa
