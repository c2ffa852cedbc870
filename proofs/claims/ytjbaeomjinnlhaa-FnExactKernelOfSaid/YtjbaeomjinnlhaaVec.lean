/-
  Vectors; the model's product of a matrix and a vector; ApplyMatrix.
-/
import Derived.Test.YtjbaeomjinnlhaaOk2
import Derived.Deep.RegionHeld
import Derived.Test.YtjbaeomjinnlhaaApply
namespace Go.Proofs.Ytjbaeomjinnlhaa
set_option linter.unusedVariables false
set_option linter.unusedSimpArgs false
open Go.ChangeShapes Go.WideShapes Go.ChangeAt Go.RowKit

theorem toVector_any (f : Nat → Int) (hf : VW f) (w : World) : Calls Try.prog 43 #[VV f] w fun e w' => e = .returned (VV f) ∧ Below w.heap.size w w' := by
  go_enter Try.func43, Try.ntmps43
  go_wp2_with fail
  obtain ⟨a1, a2, a3, a4, _⟩ := new3 w (.cells (TL 6 f).toArray 24) (.cells (TL 6 fun _ => 0).toArray 45) (.cells (TL 6 fun _ => 0).toArray 45)
  rw [zero6]
  obtain ⟨g, hg⟩ : ∃ g, g = w.heap.size := ⟨_, rfl⟩
  rw [← hg] at a1 a2 a3 a4 ⊢
  generalize World.alloc (World.alloc (World.alloc w _) _) _ = w2 at a1 a2 a3 a4 ⊢
  have HF := Lib.hid hf
  have HG := Lib.hid hg
  clear hg hf
  go_loopw [4] (fun i wr => ∃ (k : Nat) (h : Nat → Int), i = .int .i64 k ∧ k ≤ 6 ∧ RB wr g 24 6 f ∧ RB wr (g + 1) 45 6 (fun _ => 0) ∧ RB wr (g + 1 + 1) 45 6 h ∧ Hid (∀ s, s < k → h s = f s) ∧ Below g w wr) (fun i _ => (6 - intOf i).toNat)
  case atStart => exact ⟨0, fun _ => 0, rfl, by omega, a1, a2, a3, Lib.hid (fun s hs => by omega), a4⟩
  case round =>
    clear a1 a2 a3 a4
    obtain ⟨k, h, rfl, hk, h1, h2, h3, hh, hb⟩ := hrel
    by_cases hlt : k < 6
    · have c1 := h1.cell k hlt
      have c2 := h3.cell k hlt
      have c3 := h3.free k
      have b1 := HF.out k
      have T1 : decide ((k : Int) < 6) = true := by simp; omega
      go_wp2_with fail
      refine ⟨⟨k + 1, upd h k (f k), rfl, by omega, h1.other (by omega) _, h2.other (by omega) _, h3.put k hlt _, Lib.hid (fun s hs => ?_), hb.setCell (p := ⟨g + 1 + 1, k, none⟩) (by simp; omega) _⟩, by simp [intOf]; omega⟩
      unfold upd
      by_cases e : s = k
      · rw [if_pos e, e]
      · rw [if_neg e]; exact hh.out s (by omega)
    · obtain rfl : k = 6 := by omega
      have h3' := h3.ext hh.out
      have T1 : decide (((6 : Nat) : Int) < 6) = false := by simp
      clear hh h3 h1
      go_wp2_with (first | (guard_target =~ wpList _ _ _ (⟨_, Op.load 45 _, _, _, _, _⟩ :: _) _ _; refine wpList_load_row rfl 45 _ rfl (g + 1 + 1) rfl _ (TL 6 f).toArray (0, 0) (.array 6 29) (h3') (by kernel_rfl) rfl (by kernel_rfl) ?_) | (guard_target =~ wpList _ _ _ (⟨_, Op.store 45 _ _, _, _, _, _⟩ :: _) _ _; refine wpList_store_row rfl 45 _ _ rfl (g + 1) (TL 6 f).toArray rfl rfl _ _ (h2) (by kernel_rfl) rfl (TL_one _ _) ?_))
      refine bodyPost_ret (v := VV f) ?_ rfl ⟨rfl, by obtain rfl := HG.out; exact Below.setRow hb (Nat.le_succ _) _⟩
      refine results_cell_row rfl _ _ (g + 1) _ _ (0, 0) (.array 6 29) rfl (h2.setRow f) (by kernel_rfl) rfl (by kernel_rfl)


theorem fitB_out {c : Nat} {f : Nat → Int} (h : fitB c f = true) : ∀ k, k < 6 → c ≤ k → f k = 0 := by
  unfold fitB at h
  simpa using h
set_option maxRecDepth 100000 in
theorem l02Vector_any (x : Nat → Int) (hx : VW x) (c : Nat) (hc : c ≤ 6) (g : Nat) (w : World) (hR : RB w g 45 6 x) : Calls Try.prog 114 #[.pointer (some ⟨g, 0, none⟩), .int .i8 c] w fun e w' => e = .returned (.bool (fitB c x)) ∧ w' = w := by
  have HX := Lib.hid hx
  have n1 : (c : Int) ≤ 6 := by omega
  clear hx
  go_enter Try.func114, Try.ntmps114
  go_wp2_with fail
  go_loopw [5] (fun p wr => ∃ (k : Nat), p = .int .i64 k ∧ c ≤ k ∧ k ≤ 6 ∧ wr = w ∧ Hid (∀ j, c ≤ j → j < k → x j = 0)) (fun p _ => (6 - intOf p).toNat)
  case atStart => exact ⟨c, rfl, Nat.le_refl c, hc, rfl, Lib.hid (fun j h1 h2 => by omega)⟩
  case round =>
    obtain ⟨k, rfl, hck, hk, rfl, hz⟩ := hrel
    by_cases hlt : k < 6
    · have T1 : decide ((k : Int) < 6) = true := by simp; omega
      have k1 : (k : Int) < 6 := by omega
      have c1 := hR.cell k hlt
      have b1 := HX.out k
      by_cases h0 : x k = 0
      · have T2 : (x k != 0) = false := by simpa using h0
        have H0 := Lib.hid h0
        have HRR := Lib.hid hR
        clear h0 hR
        go_wp2_with fail
        exact ⟨⟨k + 1, rfl, by omega, by omega, by first | rfl | trivial, Lib.hid (fun j h1 h2 => by
          by_cases e : j = k
          · rw [e]; exact H0.out
          · exact hz.out j h1 (by omega))⟩, by simp [intOf]; omega⟩
      · have T2 : (x k != 0) = true := by simpa using h0
        have hV : fitB c x = false := by
          unfold fitB
          simp only [decide_eq_false_iff_not]
          exact fun h => h0 (h k hlt hck)
        have HV := Lib.hid hV
        clear h0 hV hR
        go_wp2_with fail
        go_ret
        exact ⟨congrArg (fun b => Ending.returned (.bool b)) HV.out.symm, rfl⟩
    · obtain rfl : k = 6 := by omega
      have T1 : decide (((6 : Nat) : Int) < 6) = false := by simp
      have hV : fitB c x = true := by
        unfold fitB
        simp only [decide_eq_true_eq]
        exact fun j h1 h2 => hz.out j h2 h1
      have HV := Lib.hid hV
      clear hV hR
      go_wp2_with fail
      go_ret
      exact ⟨congrArg (fun b => Ending.returned (.bool b)) HV.out.symm, rfl⟩
/-- the model's product: R rows, C columns -/
def appF (R C : Nat) (f x : Nat → Int) : Nat → Int := fun i => if i < R then dotI (fun k => f (i * 6 + k)) x C else 0
theorem appF_eq {R C : Nat} {f x : Nat → Int} (hf : VW f) (hx : VW x) (hC : C ≤ 6) (hz : ∀ i k : Nat, i < 6 → k < 6 → R ≤ i ∨ C ≤ k → f (i * 6 + k) = 0) : ∀ s, s < 6 → appF R C f x s = applyF f x s := fun s hs => by
  unfold appF applyF
  by_cases h : s < R
  · rw [if_pos h]
    exact (dotI_more (fun t => hf _) hx C 6 hC (fun k h1 h2 => .inl (hz s k hs h2 (.inr h1)))).symm
  · rw [if_neg h]
    exact (dotI_zero 6 (fun k hk => hz s k hs hk (.inl (by omega)))).symm
theorem ok_zeros {R C : Nat} {f : Nat → Int} (h : okB (R : Int) (C : Int) f = true) : ∀ i k : Nat, i < 6 → k < 6 → R ≤ i ∨ C ≤ k → f (i * 6 + k) = 0 := fun i k hi hk ho => by
  unfold okB at h
  simp only [Bool.and_eq_true, decide_eq_true_eq] at h
  exact h.2.2 i hi k hk (by omega)
set_option maxRecDepth 100000 in
set_option maxHeartbeats 1000000 in
theorem l02Apply_any (R C : Nat) (hR6 : R ≤ 6) (hC6 : C ≤ 6) (f x : Nat → Int) (hf : VW f) (hx : VW x) (p q : Nat) (w : World) (hM : MB w p 33 R C f) (hV : RB w q 45 6 x) : Calls Try.prog 115 #[.pointer (some ⟨p, 0, none⟩), .pointer (some ⟨q, 0, none⟩)] w fun e w' => e = .returned (VV (appF R C f x)) ∧ Below w.heap.size w w' := by
  have hp := hM.lt
  have hq := hV.lt
  have n1 : (R : Int) ≤ 6 := by omega
  have n2 : (C : Int) ≤ 6 := by omega
  have HF := Lib.hid hf
  have HX := Lib.hid hx
  clear hf hx
  go_enter Try.func115, Try.ntmps115
  go_upto_region 1 with fail
  obtain ⟨a3, a4, a6⟩ := new1 w (.cells (TL 6 fun _ => 0).toArray 45)
  rw [zero6]
  replace hM := hM.alloc (.cells (TL 6 fun _ => 0).toArray 45)
  replace hV := hV.alloc (.cells (TL 6 fun _ => 0).toArray 45)
  obtain ⟨g, hg⟩ : ∃ g, g = w.heap.size := ⟨_, rfl⟩
  rw [← hg] at a3 a4 a6 hp hq ⊢
  generalize World.alloc w _ = w2 at a3 a4 a6 hM hV ⊢
  replace a3 : RB w2 g 45 6 (fun _ => 0) := a3
  have HG := Lib.hid hg
  have A6 := Lib.hid a6
  clear hg a6
  go_upto_region 2 with (first | guard_target =~ wpList _ _ _ (⟨_, Op.build 45 _, _, _, _, _⟩ :: _) _ _; refine wpList_build0 rfl 45 rfl (TL 6 fun _ => 0).toArray (by kernel_rfl) ?_ | guard_target =~ wpList _ _ _ (⟨_, Op.store 45 _ _, _, _, _, _⟩ :: _) _ _; refine wpList_store_fresh (cells := (TL 6 fun _ => 0).toArray) rfl 45 _ _ rfl rfl rfl (by kernel_rfl) rfl (TL_one _ _) ?_)
  have b1 := hM.alloc (.cells (TL 6 fun _ => 0).toArray 45)
  have b2 := hV.alloc (.cells (TL 6 fun _ => 0).toArray 45)
  have b3 := a3.alloc (.cells (TL 6 fun _ => 0).toArray 45)
  have b5 : RB (w2.alloc (.cells (TL 6 fun _ => 0).toArray 45)) w2.heap.size 45 6 (fun _ => 0) := heap_alloc_last _ _
  have b4 := a4.alloc (show g ≤ w2.heap.size by have := A6.out; omega) (.cells (TL 6 fun _ => 0).toArray 45)
  rw [A6.out] at b5
  rw [A6.out]
  generalize w2.alloc (.cells (TL 6 fun _ => 0).toArray 45) = w3 at b1 b2 b3 b4 b5 ⊢
  clear a3 a4 A6 hM hV
  go_wp2_with fail
  go_loopw [6] (fun u wr => ∃ (i : Nat), u = .int .i64 i ∧ i ≤ R ∧ MB wr p 33 R C f ∧ RB wr q 45 6 x ∧ RB wr g 45 6 (fun _ => 0) ∧ RB wr (g + 1) 45 6 (mix i (appF R C f x) fun _ => 0) ∧ Hid (Below g w wr)) (fun u _ => (6 - intOf u).toNat)
  case atStart => exact ⟨0, rfl, by omega, b1, b2, b3, b5.ext (fun s _ => by rw [mix_zero]), Lib.hid b4⟩
  case round =>
    clear b1 b2 b3 b4 b5
    obtain ⟨i, rfl, hi, m1, m2, m3, m5, hb⟩ := hrel
    have d1 := m1.rows
    have d2 := m1.cols
    by_cases hlt : i < R
    · have T1 : decide ((i : Int) < (R : Int)) = true := by simp; omega
      have i6 : i < 6 := by omega
      go_wp2_with fail
      go_loopw [8, 7] (fun u s wr => ∃ (k : Nat), u = .int .i64 k ∧ k ≤ C ∧ s = .int .u16 (dotI (fun k => f (i * 6 + k)) x k) ∧ MB wr p 33 R C f ∧ RB wr q 45 6 x ∧ RB wr g 45 6 (fun _ => 0) ∧ RB wr (g + 1) 45 6 (mix i (appF R C f x) fun _ => 0) ∧ Hid (Below g w wr)) (fun u _ _ => (6 - intOf u).toNat)
      case atStart => exact ⟨0, rfl, by omega, rfl, m1, m2, m3, m5, hb⟩
      case round =>
        clear m1 m2 m3 m5 hb d1 d2
        obtain ⟨k, rfl, hk, rfl, m1, m2, m3, m5, hb⟩ := hrel
        have d1 := m1.rows
        have d2 := m1.cols
        have b3 := dotI_b (a := fun k => f (i * 6 + k)) (fun t => HF.out _) HX.out k
        by_cases hlk : k < C
        · have T2 : decide ((k : Int) < (C : Int)) = true := by simp; omega
          have k6 : k < 6 := by omega
          have i1 : (i : Int) < 6 := by omega
          have k1 : (k : Int) < 6 := by omega
          have q1 := m1.cell2 i k i6 k6
          have q2 := m2.cell k k6
          have b1 := HF.out (i * 6 + k)
          have b2 := HX.out k
          have bm := mulI_b b1.1 b1.2 b2.1 b2.2
          have bx := bits_xor (dotI (fun k => f (i * 6 + k)) x k) (mulI (f (i * 6 + k)) (x k)) b3.1 b3.2 bm.1 bm.2
          have M1 := Lib.hid m1; have M2 := Lib.hid m2; have M3 := Lib.hid m3; have M5 := Lib.hid m5
          clear m1 m2 m3 m5
          go_wp2_with fail
          refine wp_region_still_tail 16 (by kernel_rfl) (by kernel_rfl) ?_
          simp only [List.take_succ_cons, List.take_zero, List.drop_succ_cons, List.drop_zero]
          iterate 14 still_step
          still_call (ltimes_eq (f (i * 6 + k)) (x k) b1.1 b1.2 b2.1 b2.2 _)
          iterate 1 still_step
          refine wpStill_nil ?_
          change wpList _ _ _ _ _ wr.drew
          go_wp2_with fail
          exact ⟨⟨k + 1, rfl, by omega, rfl, M1.out, M2.out, M3.out, M5.out, Lib.hid hb.out.drew⟩, by simp [intOf]; omega⟩
        · obtain rfl : k = C := by omega
          have T2 : decide ((k : Int) < (k : Int)) = false := by simp
          have c3 := m5.cell i i6
          rw [mix_at] at c3
          have c4 := m5.free i
          have i1 : (i : Int) < 6 := by omega
          have hv : dotI (fun k => f (i * 6 + k)) x k = appF R k f x i := by unfold appF; rw [if_pos hlt]
          have HVV := Lib.hid hv
          have M1 := Lib.hid m1; have M2 := Lib.hid m2; have M3 := Lib.hid m3; have M5 := Lib.hid m5
          clear m1 m2 m3 m5 hv
          go_wp2_with fail
          exact ⟨⟨i + 1, rfl, by omega, M1.out.other (by omega) _, M2.out.other (by omega) _, M3.out.other (by omega) _, (M5.out.put i i6 _).ext (fun s _ => congrFun (mix_step i (appF R k f x) (fun _ => 0) _ HVV.out) s), Lib.hid (hb.out.setCell (p := ⟨g + 1, i, none⟩) (by simp) _)⟩, by simp [intOf]; omega⟩
    · obtain rfl : i = R := by omega
      have T1 : decide ((i : Int) < (i : Int)) = false := by simp
      have m5' := m5.ext (f' := appF i C f x) (fun s hs => by
        by_cases h : s < i
        · rw [mix_new _ _ h]
        · rw [mix_old _ _ (by omega)]; unfold appF; rw [if_neg h])
      clear m5
      go_wp2_with (first | (guard_target =~ wpList _ _ _ (⟨_, Op.load 45 (Operand.tmp 5), _, _, _, _⟩ :: _) _ _; refine wpList_load_row rfl 45 _ rfl (g + 1) rfl _ (TL 6 (appF i C f x)).toArray (0, 0) (.array 6 29) (m5') (by kernel_rfl) rfl (by kernel_rfl) ?_) | (guard_target =~ wpList _ _ _ (⟨_, Op.store 45 (Operand.tmp 4) _, _, _, _, _⟩ :: _) _ _; refine wpList_store_row rfl 45 _ _ rfl (g) (TL 6 (appF i C f x)).toArray rfl rfl _ _ (m3) (by kernel_rfl) rfl (TL_one _ _) ?_))
      refine bodyPost_ret (v := VV (appF i C f x)) ?_ rfl ⟨rfl, by obtain rfl := HG.out; exact Below.setRow hb.out (by omega) _⟩
      exact results_cell_row rfl _ _ g _ _ (0, 0) (.array 6 29) rfl (m3.setRow (appF i C f x)) (by kernel_rfl) rfl (by kernel_rfl)

def applyV (r c : Int) (f x : Nat → Int) : Value := if (okB r c f && fitB c.toNat x) = true then .tuple #[VV (applyF f x), .int .i64 0] else .tuple #[VV fun _ => 0, .int .i64 1]
theorem applyV_form (r c : Int) (f x : Nat → Int) (hf : VW f) (hx : VW x) : ∃ F k, applyV r c f x = .tuple #[VV F, .int .i64 k] ∧ VW F := by
  unfold applyV
  split
  · exact ⟨_, _, rfl, applyF_b hf hx⟩
  · exact ⟨_, _, rfl, fun _ => ⟨Int.le_refl 0, show (0 : Int) < 65536 by decide⟩⟩

set_option maxRecDepth 100000 in
set_option maxHeartbeats 2000000 in
theorem spec_ApplyMatrix (r c : Int) (f : Nat → Int) (hm : MW r c f) (x : Nat → Int) (hx : VW x) (w : World) : Calls Try.prog 42 #[MV r c f, VV x] w fun e w' => e = .returned (applyV r c f x) ∧ Below w.heap.size w w' := by
  go_enter Try.func42, Try.ntmps42
  go_upto_region 1 with fail
  obtain ⟨a1, a2, a3, a4, a5⟩ := new3 w (.cells (CL r c f).toArray 33) (.cells (TL 6 x).toArray 45) (.cells (TL 6 fun _ => 0).toArray 45)
  rw [zero6]
  obtain ⟨g, hg⟩ : ∃ g, g = w.heap.size := ⟨_, rfl⟩
  rw [← hg] at a1 a2 a3 a4 a5 ⊢
  generalize World.alloc (World.alloc (World.alloc w _) _) _ = w2 at a1 a2 a3 a4 a5 ⊢
  replace a1 : MB w2 g 33 r c f := a1
  replace a2 : RB w2 (g + 1) 45 6 x := a2
  replace a3 : RB w2 (g + 1 + 1) 45 6 (fun _ => 0) := a3
  have HG := Lib.hid hg
  clear hg a5
  go_wp2_with fail
  refine (l02Ok_any r c f hm g _ _ a1).mono ?_
  rintro e wn ⟨rfl, rfl⟩
  rcases ok1 : okB r c f with _ | _
  · have hV : applyV r c f x = .tuple #[VV fun _ => 0, .int .i64 1] := by unfold applyV; rw [ok1]; rfl
    have HV := Lib.hid hV
    clear ok1 hV
    go_wp2_with (first | (guard_target =~ wpList _ _ _ (⟨_, Op.build 45 _, _, _, _, _⟩ :: _) _ _; refine wpList_build0 rfl 45 rfl (TL 6 fun _ => 0).toArray (by kernel_rfl) ?_) | (guard_target =~ wpList _ _ _ (⟨_, Op.store 45 (Operand.tmp 4) _, _, _, _, _⟩ :: _) _ _; refine wpList_store_row rfl 45 _ _ rfl (g + 1 + 1) (TL 6 fun _ => 0).toArray rfl rfl _ _ (a3) (by kernel_rfl) rfl (TL_one _ _) ?_))
    refine bodyPost_ret (v := .tuple #[VV fun _ => 0, .int .i64 1]) ?_ rfl ⟨congrArg Ending.returned HV.out.symm, by obtain rfl := HG.out; exact Below.setRow a4 (by omega) _⟩
    exact results_cell_tmp2 rfl _ _ (g + 1 + 1) _ _ (0, 0) (.array 6 29) _ rfl rfl (a3.setRow _) (by kernel_rfl) rfl (by kernel_rfl)
  · obtain ⟨R, C, rfl, rfl, _, hR, _, hC⟩ := ok_dims ok1
    have hz := Lib.hid (ok_zeros ok1)
    have d2 := a1.cols
    have HO := Lib.hid ok1
    go_wp2_with fail
    refine (l02Vector_any x hx C hC (g + 1) _ a2).mono ?_
    rintro e wk ⟨rfl, rfl⟩
    rcases ok2 : fitB C x with _ | _
    · have hV : applyV R C f x = .tuple #[VV fun _ => 0, .int .i64 1] := by unfold applyV; rw [ok1, show (C : Int).toNat = C from rfl, ok2]; rfl
      have HV := Lib.hid hV
      clear ok1 ok2 hV
      go_wp2_with (first | (guard_target =~ wpList _ _ _ (⟨_, Op.build 45 _, _, _, _, _⟩ :: _) _ _; refine wpList_build0 rfl 45 rfl (TL 6 fun _ => 0).toArray (by kernel_rfl) ?_) | (guard_target =~ wpList _ _ _ (⟨_, Op.store 45 (Operand.tmp 4) _, _, _, _, _⟩ :: _) _ _; refine wpList_store_row rfl 45 _ _ rfl (g + 1 + 1) (TL 6 fun _ => 0).toArray rfl rfl _ _ (a3) (by kernel_rfl) rfl (TL_one _ _) ?_))
      refine bodyPost_ret (v := .tuple #[VV fun _ => 0, .int .i64 1]) ?_ rfl ⟨congrArg Ending.returned HV.out.symm, by obtain rfl := HG.out; exact Below.setRow a4 (by omega) _⟩
      exact results_cell_tmp2 rfl _ _ (g + 1 + 1) _ _ (0, 0) (.array 6 29) _ rfl rfl (a3.setRow _) (by kernel_rfl) rfl (by kernel_rfl)
    · have hV : applyV R C f x = .tuple #[VV (applyF f x), .int .i64 0] := by unfold applyV; rw [ok1, show (C : Int).toNat = C from rfl, ok2]; rfl
      have HV := Lib.hid hV
      clear ok1 ok2 hV d2
      go_wp2_with fail
      refine (l02Apply_any R C hR hC f x hm.2.2.2.2 hx g (g + 1) _ a1 a2).mono ?_
      rintro e wm ⟨rfl, hn⟩
      replace a4 := bnext a4 hn (Nat.le_of_lt a1.lt)
      replace a1 := a1.below hn a1.lt
      replace a2 := a2.below hn a2.lt
      replace a3 := a3.below hn a3.lt
      have hE : VV (appF R C f x) = VV (applyF f x) := congrArg (fun l : List Value => Value.agg l.toArray) (TL_ext (appF_eq hm.2.2.2.2 hx hC hz.out))
      rw [hE]
      clear hn hE
      go_wp2_with (first | (guard_target =~ wpList _ _ _ (⟨_, Op.store 45 (Operand.tmp 4) _, _, _, _, _⟩ :: _) _ _; refine wpList_store_row rfl 45 _ _ rfl (g + 1 + 1) (TL 6 (applyF f x)).toArray rfl rfl _ _ (a3) (by kernel_rfl) rfl (TL_one _ _) ?_))
      refine bodyPost_ret (v := .tuple #[VV (applyF f x), .int .i64 0]) ?_ rfl ⟨congrArg Ending.returned HV.out.symm, by obtain rfl := HG.out; exact Below.setRow a4 (by omega) _⟩
      exact results_cell_tmp2 rfl _ _ (g + 1 + 1) _ _ (0, 0) (.array 6 29) _ rfl rfl (a3.setRow _) (by kernel_rfl) rfl (by kernel_rfl)

set_option maxRecDepth 100000 in
set_option maxHeartbeats 2000000 in
theorem impl_ApplyMatrix (r c : Int) (f : Nat → Int) (hm : MW r c f) (x : Nat → Int) (hx : VW x) (w : World) : Calls Try.prog 44 #[MV r c f, VV x] w fun e w' => e = .returned (applyV r c f x) ∧ Below w.heap.size w w' := by
  go_enter Try.func44, Try.ntmps44
  go_upto_region 1 with fail
  obtain ⟨a1, a2, a3, a4, a5⟩ := new3 w (.cells (CL r c f).toArray 33) (.cells (TL 6 x).toArray 45) (.cells (TL 6 fun _ => 0).toArray 45)
  rw [zero6]
  obtain ⟨g, hg⟩ : ∃ g, g = w.heap.size := ⟨_, rfl⟩
  rw [← hg] at a1 a2 a3 a4 a5 ⊢
  generalize World.alloc (World.alloc (World.alloc w _) _) _ = w2 at a1 a2 a3 a4 a5 ⊢
  replace a1 : MB w2 g 33 r c f := a1
  replace a2 : RB w2 (g + 1) 45 6 x := a2
  replace a3 : RB w2 (g + 1 + 1) 45 6 (fun _ => 0) := a3
  have HG := Lib.hid hg
  clear hg a5
  go_wp2_with (first | (guard_target =~ wpList _ _ _ (⟨_, Op.load 33 (Operand.tmp 2), _, _, _, _⟩ :: _) _ _; refine wpList_load_row rfl 33 _ rfl (g) rfl _ (CL r c f).toArray (0, 0) _ a1 Try.underlying33 rfl (by kernel_rfl) ?_))
  refine (impl_ValidMatrix r c f hm _).mono ?_
  rintro e wn ⟨rfl, hn⟩
  replace a4 := bnext a4 hn (Nat.le_of_lt a1.lt)
  replace a1 := a1.below hn a1.lt
  replace a2 := a2.below hn a2.lt
  replace a3 := a3.below hn a3.lt
  clear hn
  rcases ok1 : okB r c f with _ | _
  · have hV : applyV r c f x = .tuple #[VV fun _ => 0, .int .i64 1] := by unfold applyV; rw [ok1]; rfl
    have HV := Lib.hid hV
    clear ok1 hV
    go_wp2_with (first | (guard_target =~ wpList _ _ _ (⟨_, Op.build 45 _, _, _, _, _⟩ :: _) _ _; refine wpList_build0 rfl 45 rfl (TL 6 fun _ => 0).toArray (by kernel_rfl) ?_) | (guard_target =~ wpList _ _ _ (⟨_, Op.store 45 (Operand.tmp 4) _, _, _, _, _⟩ :: _) _ _; refine wpList_store_row rfl 45 _ _ rfl (g + 1 + 1) (TL 6 fun _ => 0).toArray rfl rfl _ _ (a3) (by kernel_rfl) rfl (TL_one _ _) ?_))
    refine bodyPost_ret (v := .tuple #[VV fun _ => 0, .int .i64 1]) ?_ rfl ⟨congrArg Ending.returned HV.out.symm, by obtain rfl := HG.out; exact Below.setRow a4 (by omega) _⟩
    exact results_cell_tmp2 rfl _ _ (g + 1 + 1) _ _ (0, 0) (.array 6 29) _ rfl rfl (a3.setRow _) (by kernel_rfl) rfl (by kernel_rfl)
  · obtain ⟨R, C, rfl, rfl, _, hR, _, hC⟩ := ok_dims ok1
    have hz := Lib.hid (ok_zeros ok1)
    have d2 := a1.cols
    have HO := Lib.hid ok1
    go_wp2_with (first | (guard_target =~ wpList _ _ _ (⟨_, Op.load 45 (Operand.tmp 3), _, _, _, _⟩ :: _) _ _; refine wpList_load_row_w rfl 45 _ rfl (g + 1) rfl _ (TL 6 x).toArray (0, 0) (.array 6 29) (a2) (by kernel_rfl) rfl (by kernel_rfl) ?_))
    refine (fits_any x hx C hC _).mono ?_
    rintro e wk ⟨rfl, hn⟩
    replace a4 := bnext a4 hn (Nat.le_of_lt a1.lt)
    replace a1 := a1.below hn a1.lt
    replace a2 := a2.below hn a2.lt
    replace a3 := a3.below hn a3.lt
    clear hn
    rcases ok2 : fitB C x with _ | _
    · have hV : applyV R C f x = .tuple #[VV fun _ => 0, .int .i64 1] := by unfold applyV; rw [ok1, show (C : Int).toNat = C from rfl, ok2]; rfl
      have HV := Lib.hid hV
      clear ok1 ok2 hV
      go_wp2_with (first | (guard_target =~ wpList _ _ _ (⟨_, Op.build 45 _, _, _, _, _⟩ :: _) _ _; refine wpList_build0 rfl 45 rfl (TL 6 fun _ => 0).toArray (by kernel_rfl) ?_) | (guard_target =~ wpList _ _ _ (⟨_, Op.store 45 (Operand.tmp 4) _, _, _, _, _⟩ :: _) _ _; refine wpList_store_row rfl 45 _ _ rfl (g + 1 + 1) (TL 6 fun _ => 0).toArray rfl rfl _ _ (a3) (by kernel_rfl) rfl (TL_one _ _) ?_))
      refine bodyPost_ret (v := .tuple #[VV fun _ => 0, .int .i64 1]) ?_ rfl ⟨congrArg Ending.returned HV.out.symm, by obtain rfl := HG.out; exact Below.setRow a4 (by omega) _⟩
      exact results_cell_tmp2 rfl _ _ (g + 1 + 1) _ _ (0, 0) (.array 6 29) _ rfl rfl (a3.setRow _) (by kernel_rfl) rfl (by kernel_rfl)
    · have hV : applyV R C f x = .tuple #[VV (applyF f x), .int .i64 0] := by unfold applyV; rw [ok1, show (C : Int).toNat = C from rfl, ok2]; rfl
      have HV := Lib.hid hV
      clear ok1 ok2 hV d2
      go_wp2_with (first | (guard_target =~ wpList _ _ _ (⟨_, Op.load 33 (Operand.tmp 2), _, _, _, _⟩ :: _) _ _; refine wpList_load_row rfl 33 _ rfl (g) rfl _ (CL R C f).toArray (0, 0) _ a1 Try.underlying33 rfl (by kernel_rfl) ?_) | (guard_target =~ wpList _ _ _ (⟨_, Op.load 45 (Operand.tmp 3), _, _, _, _⟩ :: _) _ _; refine wpList_load_row rfl 45 _ rfl (g + 1) rfl _ (TL 6 x).toArray (0, 0) (.array 6 29) (a2) (by kernel_rfl) rfl (by kernel_rfl) ?_))
      refine (apply_any R C f x hm.2.2.2.2 hx _).mono ?_
      rintro e wm ⟨rfl, hn⟩
      replace a4 := bnext a4 hn (Nat.le_of_lt a1.lt)
      replace a1 := a1.below hn a1.lt
      replace a2 := a2.below hn a2.lt
      replace a3 := a3.below hn a3.lt
      clear hn
      go_wp2_with (first | (guard_target =~ wpList _ _ _ (⟨_, Op.store 45 (Operand.tmp 4) _, _, _, _, _⟩ :: _) _ _; refine wpList_store_row rfl 45 _ _ rfl (g + 1 + 1) (TL 6 (applyF f x)).toArray rfl rfl _ _ (a3) (by kernel_rfl) rfl (TL_one _ _) ?_))
      refine bodyPost_ret (v := .tuple #[VV (applyF f x), .int .i64 0]) ?_ rfl ⟨congrArg Ending.returned HV.out.symm, by obtain rfl := HG.out; exact Below.setRow a4 (by omega) _⟩
      exact results_cell_tmp2 rfl _ _ (g + 1 + 1) _ _ (0, 0) (.array 6 29) _ rfl rfl (a3.setRow _) (by kernel_rfl) rfl (by kernel_rfl)
end Go.Proofs.Ytjbaeomjinnlhaa
