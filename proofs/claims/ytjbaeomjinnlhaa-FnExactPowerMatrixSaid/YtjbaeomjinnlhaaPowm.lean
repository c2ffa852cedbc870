/-
  Powers of a matrix.
-/
import Derived.Test.YtjbaeomjinnlhaaOk2
import Derived.Deep.RegionHeld
import Derived.Test.YtjbaeomjinnlhaaTimes
import Derived.Test.YtjbaeomjinnlhaaOne
import Derived.Test.YtjbaeomjinnlhaaArr2
import Derived.Test.YtjbaeomjinnlhaaInv
namespace Go.Proofs.Ytjbaeomjinnlhaa
set_option linter.unusedVariables false
set_option linter.unusedSimpArgs false
open Go.ChangeShapes Go.WideShapes Go.ChangeAt Go.RowKit

/-- the loop of both -/
def mpow : Nat → Int → (Nat → Int) → (Nat → Int) → (Nat → Int)
  | 0, _, P, _ => P
  | t + 1, n, P, M => if n = 0 then P else mpow t (n / 2) (if n % 2 = 1 then timesF P M else P) (timesF M M)
theorem mpow_zero (t : Nat) (P M : Nat → Int) : mpow t 0 P M = P := by cases t <;> simp [mpow]
def powF (r : Nat) (f : Nat → Int) (n : Int) : Nat → Int := mpow 20 n (oneN r) f
theorem mpow_b : ∀ (t : Nat) (n : Int) (P M : Nat → Int), VW P → VW M → VW (mpow t n P M)
  | 0, _, P, _, hp, _ => hp
  | t + 1, n, P, M, hp, hm => by
    unfold mpow
    split
    · exact hp
    · refine mpow_b t _ _ _ ?_ (timesF_b hm hm)
      split
      · exact timesF_b hp hm
      · exact hp
/-- behind R rows and columns all is 0 -/
def ZQ (R : Nat) (f : Nat → Int) : Prop := ∀ i k : Nat, i < 6 → k < 6 → R ≤ i ∨ R ≤ k → f (i * 6 + k) = 0
theorem ZQ.times {R : Nat} {f h : Nat → Int} (hf : VW f) (hh : VW h) (h1 : ZQ R f) (h2 : ZQ R h) : ZQ R (timesF f h) := fun i k hi hk ho => by
  unfold timesF
  rw [show (i * 6 + k) / 6 = i from by omega, show (i * 6 + k) % 6 = k from by omega]
  rcases ho with h0' | h0'
  · exact dotI_zero 6 (fun n hn => h1 i n hi hn (.inl h0'))
  · have h0 := dotI_more (a := fun n => f (i * 6 + n)) (b := fun n => h (n * 6 + k)) (fun t => hf _) (fun t => hh _) 0 6 (by omega) (fun n _ h3 => .inr (h2 n k h3 hk (.inr h0')))
    exact h0
theorem ZQ.one (R : Nat) : ZQ R (oneN R) := fun i k hi hk ho => by
  unfold oneN
  rw [if_neg (by omega)]
def powC (r c : Int) (f : Nat → Int) (n : Int) : Int := if okB r c f = true then (if 0 ≤ n ∧ n ≤ 1000000 then (if r = c then 0 else 4) else 2) else 1
def powV (r c : Int) (f : Nat → Int) (n : Int) : Value := if powC r c f n = 0 then .tuple #[MV r c (powF r.toNat f n), .int .i64 0] else .tuple #[MV 0 0 (fun _ => 0), .int .i64 (powC r c f n)]
theorem powV_form (r c : Int) (f : Nat → Int) (hm : MW r c f) (n : Int) : ∃ R C F k, powV r c f n = .tuple #[MV R C F, .int .i64 k] ∧ MW R C F := by
  unfold powV
  split
  · exact ⟨_, _, _, _, rfl, hm.1, hm.2.1, hm.2.2.1, hm.2.2.2.1, mpow_b _ _ _ _ (oneN_b _) hm.2.2.2.2⟩
  · exact ⟨_, _, _, _, rfl, by omega, by omega, by omega, by omega, fun _ => ⟨Int.le_refl 0, show (0 : Int) < 65536 by decide⟩⟩

set_option maxRecDepth 100000 in
set_option maxHeartbeats 4000000 in
theorem spec_PowerMatrix (r c : Int) (f : Nat → Int) (hm : MW r c f) (n : Int) (hn0 : -9223372036854775808 ≤ n) (hn1 : n ≤ 9223372036854775807) (w : World) : Calls Try.prog 46 #[MV r c f, .int .i64 n] w fun e w' => e = .returned (powV r c f n) ∧ Below w.heap.size w w' := by
  go_enter Try.func46, Try.ntmps46
  go_upto_region 1 with fail
  obtain ⟨a1, a2, a4, a5⟩ := new2 w (.cells (CL r c f).toArray 33) (.cells (CL 0 0 fun _ => 0).toArray 33)
  rw [zero38]
  obtain ⟨g, hg⟩ : ∃ g, g = w.heap.size := ⟨_, rfl⟩
  rw [← hg] at a1 a2 a4 a5 ⊢
  generalize World.alloc (World.alloc w _) _ = w2 at a1 a2 a4 a5 ⊢
  replace a1 : MB w2 g 33 r c f := a1
  replace a2 : MB w2 (g + 1) 33 0 0 (fun _ => 0) := a2
  have HG := Lib.hid hg
  clear hg
  go_wp2_with fail
  refine (l02Ok_any r c f hm g _ _ a1).mono ?_
  rintro e wn ⟨rfl, rfl⟩
  clear a5
  rcases hok : okB r c f with _ | _
  · have hV : powV r c f n = .tuple #[MV 0 0 (fun _ => 0), .int .i64 1] := by unfold powV powC; rw [hok]; rfl
    have HV := Lib.hid hV
    clear hok hV
    go_wp2_with (first | (guard_target =~ wpList _ _ _ (⟨_, Op.build 33 _, _, _, _, _⟩ :: _) _ _; refine wpList_build0 rfl 33 rfl (CL 0 0 fun _ => 0).toArray (by kernel_rfl) ?_) | (guard_target =~ wpList _ _ _ (⟨_, Op.store 33 (Operand.tmp 4) _, _, _, _, _⟩ :: _) _ _; refine wpList_store_row rfl 33 _ _ rfl (g + 1) (CL 0 0 fun _ => 0).toArray rfl rfl _ _ a2 (by kernel_rfl) rfl (CL_one _ _ _) ?_))
    refine bodyPost_ret (v := .tuple #[MV 0 0 (fun _ => 0), .int .i64 1]) ?_ rfl ⟨congrArg Ending.returned HV.out.symm, by obtain rfl := HG.out; exact Below.setRow a4 (Nat.le_succ _) _⟩
    exact results_cell_tmp2 rfl _ _ (g + 1) _ _ (0, 0) _ _ rfl rfl (a2.setRow _) Try.underlying33 rfl (by kernel_rfl)
  · skip
    go_wp2_with fail
    refine (in_any n 0 1000000 _).mono ?_
    rintro e wk ⟨rfl, rfl⟩
    by_cases hr : 0 ≤ n ∧ n ≤ 1000000
    · have T1 : decide (0 ≤ n ∧ n ≤ 1000000) = true := decide_eq_true hr
      rw [T1]
      have c0 := a1.rows
      have c1 := a1.cols
      clear T1
      by_cases hs : r = c
      · have e1 : (r != c) = false := by simpa using hs
        have hV : powV r c f n = .tuple #[MV r c (powF r.toNat f n), .int .i64 0] := by unfold powV powC; rw [if_pos hok, if_pos hr, if_pos hs]; rfl
        have HV := Lib.hid hV
        obtain ⟨R, C, hRe, hCe, _, hR, _, hC⟩ := ok_dims hok
        subst hRe; subst hCe
        have hRC : R = C := by omega
        subst hRC
        have zf := ok_zeros hok
        clear hV hok hs
        go_wp2_with fail
        refine (spec_l02One R hR _).mono ?_
        rintro e wm ⟨rfl, hn⟩
        replace a4 := bnext a4 hn (Nat.le_of_lt a1.lt)
        replace a1 := a1.below hn a1.lt
        replace a2 := a2.below hn a2.lt
        clear hn c0 e1 c1
        go_wp2_with (first | guard_target =~ wpList _ _ _ (⟨_, Op.store 33 _ _, _, _, _, _⟩ :: _) _ _; refine wpList_store_fresh (cells := (CL R R (oneN R)).toArray) rfl 33 _ _ rfl rfl rfl (by kernel_rfl) (by rw [CL_size]; rfl) (CL_one _ _ _) ?_)
        have b1 := a1.alloc (.cells (CL R R (oneN R)).toArray 33)
        have b2 := a2.alloc (.cells (CL R R (oneN R)).toArray 33)
        have b3 : MB (wm.alloc (.cells (CL R R (oneN R)).toArray 33)) wm.heap.size 33 R R (oneN R) := heap_alloc_last _ _
        have b4 := a4.alloc (Nat.le_of_lt a1.lt) (.cells (CL R R (oneN R)).toArray 33)
        have hk : g + 1 < wm.heap.size := a2.lt
        obtain ⟨k, hkk⟩ : ∃ k, k = wm.heap.size := ⟨_, rfl⟩
        rw [← hkk] at b3 hk ⊢
        generalize wm.alloc (.cells (CL R R (oneN R)).toArray 33) = w5 at b1 b2 b3 b4 ⊢
        clear a1 a2 a4 hkk
        have HM := Lib.hid hm.2.2.2.2
        have ZF := Lib.hid (show ZQ R f from zf)
        clear zf hm
        simp only [Act.put]
        go_loopw [1] (fun y wr => ∃ (n' : Int) (t : Nat) (P M : Nat → Int), y = .int .i64 n' ∧ 0 ≤ n' ∧ n' ≤ 1000000 ∧ n' < 2 ^ t ∧ Hid (mpow t n' P M = powF R f n) ∧ MB wr g 33 R R M ∧ MB wr k 33 R R P ∧ MB wr (g + 1) 33 0 0 (fun _ => 0) ∧ Hid (VW P) ∧ Hid (VW M) ∧ Hid (ZQ R P) ∧ Hid (ZQ R M) ∧ Hid (Below g w wr)) (fun y _ => (intOf y).toNat)
        case atStart => exact ⟨n, 20, oneN R, f, rfl, hr.1, hr.2, by simp; omega, Lib.hid rfl, b1, b3, b2, Lib.hid (oneN_b R), HM, Lib.hid (ZQ.one R), ZF, Lib.hid b4⟩
        case round =>
          clear b1 b2 b3 b4 hr hn0 hn1
          obtain ⟨n, t, P, M, rfl, n0, n1, ht2, hF, m1, m2, m3, HP, HQ, ZP, ZM, HB⟩ := hrel
          have hb := HB.out
          by_cases hpos : 0 < n
          · have hn' : decide (0 < n) = true := by simpa using hpos
            by_cases ho : n % 2 = 1
            · have ht : (n % 2 == 1) = true := (beq_iff_eq.2 ho)
              have Ho := Lib.hid ho; clear ho
              go_wp2_with fail
              refine (l02Times_any R R R R hR hR hR P M HP.out HQ.out k g _ m2 m1).mono ?_
              rintro e wa ⟨rfl, hn⟩
              have hE1 : MV R R (timesN R R R P M) = MV R R (timesF P M) := MV_ext (timesN_eq HP.out HQ.out hR (fun i k hi hk ho => ZP.out i k hi hk ho) (fun i k hi hk ho => ZM.out i k hi hk ho))
              rw [hE1]
              clear hE1
              replace hb := bnext hb hn (Nat.le_of_lt m1.lt)
              replace m1 := m1.below hn m1.lt
              replace m2 := m2.below hn m2.lt
              replace m3 := m3.below hn m3.lt
              clear hn
              go_upto_region 11 with (first | (guard_target =~ wpList _ _ _ (⟨_, Op.store 33 (Operand.tmp 6) _, _, _, _, _⟩ :: _) _ _; refine wpList_store_row rfl 33 _ _ rfl (k) (CL R R (timesF P M)).toArray rfl rfl _ _ m2 (by kernel_rfl) rfl (CL_one _ _ _) ?_))
              replace hb := Below.setRow hb (show g ≤ k by omega) (CL R R (timesF P M)).toArray
              replace m1 := m1.setRow_other (b := k) (by omega) (CL R R (timesF P M)).toArray
              replace m3 := m3.setRow_other (b := k) (by omega) (CL R R (timesF P M)).toArray
              replace m2 := m2.setRow (r' := R) (c' := R) (timesF P M)
              generalize World.setRow wa k (CL R R (timesF P M)).toArray = wa2 at hb m1 m2 m3 ⊢
              go_wp2_with fail
              refine (l02Times_any R R R R hR hR hR M M HQ.out HQ.out g g _ m1 m1).mono ?_
              rintro e wb ⟨rfl, hn⟩
              have hE2 : MV R R (timesN R R R M M) = MV R R (timesF M M) := MV_ext (timesN_eq HQ.out HQ.out hR (fun i k hi hk ho => ZM.out i k hi hk ho) (fun i k hi hk ho => ZM.out i k hi hk ho))
              rw [hE2]
              clear hE2
              replace hb := bnext hb hn (Nat.le_of_lt m1.lt)
              replace m1 := m1.below hn m1.lt
              replace m2 := m2.below hn m2.lt
              replace m3 := m3.below hn m3.lt
              clear hn
              go_upto_region 12 with (first | (guard_target =~ wpList _ _ _ (⟨_, Op.store 33 (Operand.tmp 2) _, _, _, _, _⟩ :: _) _ _; refine wpList_store_row rfl 33 _ _ rfl (g) (CL R R (timesF M M)).toArray rfl rfl _ _ m1 (by kernel_rfl) rfl (CL_one _ _ _) ?_))
              replace hb := Below.setRow hb (Nat.le_refl g) (CL R R (timesF M M)).toArray
              replace m2 := m2.setRow_other (b := g) (by omega) (CL R R (timesF M M)).toArray
              replace m3 := m3.setRow_other (b := g) (by omega) (CL R R (timesF M M)).toArray
              replace m1 := m1.setRow (r' := R) (c' := R) (timesF M M)
              generalize World.setRow wb g (CL R R (timesF M M)).toArray = wb2 at hb m1 m2 m3 ⊢
              go_wp2_with fail
              obtain ⟨t, rfl⟩ : ∃ s, t = s + 1 := by
                cases t with
                | zero => exact absurd ht2 (by simp; omega)
                | succ s => exact ⟨s, rfl⟩
              have hp : (2 : Int) ^ (t + 1) = 2 * 2 ^ t := by rw [Int.pow_succ]; omega
              refine ⟨⟨n / 2, t, (timesF P M), timesF M M, rfl, by omega, by omega, by omega, ?_, m1, m2, m3, Lib.hid (timesF_b HP.out HQ.out), Lib.hid (timesF_b HQ.out HQ.out), Lib.hid (ZQ.times HP.out HQ.out ZP.out ZM.out), Lib.hid (ZQ.times HQ.out HQ.out ZM.out ZM.out), Lib.hid hb⟩, by simp [intOf]; omega⟩
              refine Lib.hid (Eq.trans ?_ hF.out)
              conv => rhs; unfold mpow
              rw [if_neg (by omega), if_pos Ho.out]
            · have ht : (n % 2 == 1) = false := (beq_eq_false_iff_ne.2 ho)
              have Ho := Lib.hid ho; clear ho
              go_wp2_with fail
              refine (l02Times_any R R R R hR hR hR M M HQ.out HQ.out g g _ m1 m1).mono ?_
              rintro e wb ⟨rfl, hn⟩
              have hE2 : MV R R (timesN R R R M M) = MV R R (timesF M M) := MV_ext (timesN_eq HQ.out HQ.out hR (fun i k hi hk ho => ZM.out i k hi hk ho) (fun i k hi hk ho => ZM.out i k hi hk ho))
              rw [hE2]
              clear hE2
              replace hb := bnext hb hn (Nat.le_of_lt m1.lt)
              replace m1 := m1.below hn m1.lt
              replace m2 := m2.below hn m2.lt
              replace m3 := m3.below hn m3.lt
              clear hn
              go_upto_region 12 with (first | (guard_target =~ wpList _ _ _ (⟨_, Op.store 33 (Operand.tmp 2) _, _, _, _, _⟩ :: _) _ _; refine wpList_store_row rfl 33 _ _ rfl (g) (CL R R (timesF M M)).toArray rfl rfl _ _ m1 (by kernel_rfl) rfl (CL_one _ _ _) ?_))
              replace hb := Below.setRow hb (Nat.le_refl g) (CL R R (timesF M M)).toArray
              replace m2 := m2.setRow_other (b := g) (by omega) (CL R R (timesF M M)).toArray
              replace m3 := m3.setRow_other (b := g) (by omega) (CL R R (timesF M M)).toArray
              replace m1 := m1.setRow (r' := R) (c' := R) (timesF M M)
              generalize World.setRow wb g (CL R R (timesF M M)).toArray = wb2 at hb m1 m2 m3 ⊢
              go_wp2_with fail
              obtain ⟨t, rfl⟩ : ∃ s, t = s + 1 := by
                cases t with
                | zero => exact absurd ht2 (by simp; omega)
                | succ s => exact ⟨s, rfl⟩
              have hp : (2 : Int) ^ (t + 1) = 2 * 2 ^ t := by rw [Int.pow_succ]; omega
              refine ⟨⟨n / 2, t, P, timesF M M, rfl, by omega, by omega, by omega, ?_, m1, m2, m3, Lib.hid (HP.out), Lib.hid (timesF_b HQ.out HQ.out), Lib.hid (ZP.out), Lib.hid (ZQ.times HQ.out HQ.out ZM.out ZM.out), Lib.hid hb⟩, by simp [intOf]; omega⟩
              refine Lib.hid (Eq.trans ?_ hF.out)
              conv => rhs; unfold mpow
              rw [if_neg (by omega), if_neg Ho.out]
          · have hn' : decide (0 < n) = false := by simp; omega
            obtain rfl : n = 0 := by omega
            have hE : P = powF R f _ := (mpow_zero t P M).symm.trans hF.out
            subst hE
            go_wp2_with (first | (guard_target =~ wpList _ _ _ (⟨_, Op.load 33 (Operand.tmp 6), _, _, _, _⟩ :: _) _ _; refine wpList_load_row rfl 33 _ rfl (k) rfl _ (CL R R (powF R f _)).toArray (0, 0) _ m2 Try.underlying33 rfl (by kernel_rfl) ?_) | (guard_target =~ wpList _ _ _ (⟨_, Op.store 33 (Operand.tmp 4) _, _, _, _, _⟩ :: _) _ _; refine wpList_store_row rfl 33 _ _ rfl (g + 1) (CL R R (powF R f _)).toArray rfl rfl _ _ m3 (by kernel_rfl) rfl (CL_one _ _ _) ?_))
            refine bodyPost_ret (v := .tuple #[MV R R (powF R f _), .int .i64 0]) ?_ rfl ⟨congrArg Ending.returned HV.out.symm, by obtain rfl := HG.out; exact Below.setRow hb (Nat.le_succ _) _⟩
            exact results_cell_tmp2 rfl _ _ (g + 1) _ _ (0, 0) _ _ rfl rfl (m3.setRow _) Try.underlying33 rfl (by kernel_rfl)
      · have e1 : (r != c) = true := by simpa using hs
        have hV : powV r c f n = .tuple #[MV 0 0 (fun _ => 0), .int .i64 4] := by unfold powV powC; rw [if_pos hok, if_pos hr, if_neg hs]; rfl
        have HV := Lib.hid hV
        clear hok hV
        go_wp2_with (first | (guard_target =~ wpList _ _ _ (⟨_, Op.build 33 _, _, _, _, _⟩ :: _) _ _; refine wpList_build0 rfl 33 rfl (CL 0 0 fun _ => 0).toArray (by kernel_rfl) ?_) | (guard_target =~ wpList _ _ _ (⟨_, Op.store 33 (Operand.tmp 4) _, _, _, _, _⟩ :: _) _ _; refine wpList_store_row rfl 33 _ _ rfl (g + 1) (CL 0 0 fun _ => 0).toArray rfl rfl _ _ a2 (by kernel_rfl) rfl (CL_one _ _ _) ?_))
        refine bodyPost_ret (v := .tuple #[MV 0 0 (fun _ => 0), .int .i64 4]) ?_ rfl ⟨congrArg Ending.returned HV.out.symm, by obtain rfl := HG.out; exact Below.setRow a4 (Nat.le_succ _) _⟩
        exact results_cell_tmp2 rfl _ _ (g + 1) _ _ (0, 0) _ _ rfl rfl (a2.setRow _) Try.underlying33 rfl (by kernel_rfl)
    · have hV : powV r c f n = .tuple #[MV 0 0 (fun _ => 0), .int .i64 2] := by unfold powV powC; rw [if_pos hok, if_neg hr]; rfl
      have T1 : decide (0 ≤ n ∧ n ≤ 1000000) = false := decide_eq_false hr
      rw [T1]
      have HV := Lib.hid hV
      clear hok hV
      go_wp2_with (first | (guard_target =~ wpList _ _ _ (⟨_, Op.build 33 _, _, _, _, _⟩ :: _) _ _; refine wpList_build0 rfl 33 rfl (CL 0 0 fun _ => 0).toArray (by kernel_rfl) ?_) | (guard_target =~ wpList _ _ _ (⟨_, Op.store 33 (Operand.tmp 4) _, _, _, _, _⟩ :: _) _ _; refine wpList_store_row rfl 33 _ _ rfl (g + 1) (CL 0 0 fun _ => 0).toArray rfl rfl _ _ a2 (by kernel_rfl) rfl (CL_one _ _ _) ?_))
      refine bodyPost_ret (v := .tuple #[MV 0 0 (fun _ => 0), .int .i64 2]) ?_ rfl ⟨congrArg Ending.returned HV.out.symm, by obtain rfl := HG.out; exact Below.setRow a4 (Nat.le_succ _) _⟩
      exact results_cell_tmp2 rfl _ _ (g + 1) _ _ (0, 0) _ _ rfl rfl (a2.setRow _) Try.underlying33 rfl (by kernel_rfl)

set_option maxRecDepth 100000 in
set_option maxHeartbeats 4000000 in
theorem impl_PowerMatrix (r c : Int) (f : Nat → Int) (hm : MW r c f) (n : Int) (hn0 : -9223372036854775808 ≤ n) (hn1 : n ≤ 9223372036854775807) (w : World) : Calls Try.prog 47 #[MV r c f, .int .i64 n] w fun e w' => e = .returned (powV r c f n) ∧ Below w.heap.size w w' := by
  go_enter Try.func47, Try.ntmps47
  go_upto_region 1 with fail
  obtain ⟨a1, a2, a4, a5⟩ := new2 w (.cells (CL r c f).toArray 33) (.cells (CL 0 0 fun _ => 0).toArray 33)
  rw [zero38]
  obtain ⟨g, hg⟩ : ∃ g, g = w.heap.size := ⟨_, rfl⟩
  rw [← hg] at a1 a2 a4 a5 ⊢
  generalize World.alloc (World.alloc w _) _ = w2 at a1 a2 a4 a5 ⊢
  replace a1 : MB w2 g 33 r c f := a1
  replace a2 : MB w2 (g + 1) 33 0 0 (fun _ => 0) := a2
  have HG := Lib.hid hg
  clear hg
  go_wp2_with (first | (guard_target =~ wpList _ _ _ (⟨_, Op.load 33 (Operand.tmp 2), _, _, _, _⟩ :: _) _ _; refine wpList_load_row rfl 33 _ rfl (g) rfl _ (CL r c f).toArray (0, 0) _ a1 Try.underlying33 rfl (by kernel_rfl) ?_))
  refine (impl_ValidMatrix r c f hm _).mono ?_
  rintro e wn ⟨rfl, hn⟩
  replace a4 := bnext a4 hn (Nat.le_of_lt a1.lt)
  replace a1 := a1.below hn a1.lt
  replace a2 := a2.below hn a2.lt
  clear hn
  clear a5
  rcases hok : okB r c f with _ | _
  · have hV : powV r c f n = .tuple #[MV 0 0 (fun _ => 0), .int .i64 1] := by unfold powV powC; rw [hok]; rfl
    have HV := Lib.hid hV
    clear hok hV
    go_wp2_with (first | (guard_target =~ wpList _ _ _ (⟨_, Op.build 33 _, _, _, _, _⟩ :: _) _ _; refine wpList_build0 rfl 33 rfl (CL 0 0 fun _ => 0).toArray (by kernel_rfl) ?_) | (guard_target =~ wpList _ _ _ (⟨_, Op.store 33 (Operand.tmp 4) _, _, _, _, _⟩ :: _) _ _; refine wpList_store_row rfl 33 _ _ rfl (g + 1) (CL 0 0 fun _ => 0).toArray rfl rfl _ _ a2 (by kernel_rfl) rfl (CL_one _ _ _) ?_))
    refine bodyPost_ret (v := .tuple #[MV 0 0 (fun _ => 0), .int .i64 1]) ?_ rfl ⟨congrArg Ending.returned HV.out.symm, by obtain rfl := HG.out; exact Below.setRow a4 (Nat.le_succ _) _⟩
    exact results_cell_tmp2 rfl _ _ (g + 1) _ _ (0, 0) _ _ rfl rfl (a2.setRow _) Try.underlying33 rfl (by kernel_rfl)
  · skip
    by_cases hr : 0 ≤ n ∧ n ≤ 1000000
    · have T1 : decide (n < 0) = false := by simp; omega
      have T2 : decide (1000000 < n) = false := by simp; omega
      go_wp2_with (first | (guard_target =~ wpList _ _ _ (⟨_, Op.load 33 (Operand.tmp 2), _, _, _, _⟩ :: _) _ _; refine wpList_load_row rfl 33 _ rfl (g) rfl _ (CL r c f).toArray (0, 0) _ a1 Try.underlying33 rfl (by kernel_rfl) ?_))
      refine (isSquare_any r c f hm _).mono ?_
      rintro e wk ⟨rfl, hn⟩
      replace a4 := bnext a4 hn (Nat.le_of_lt a1.lt)
      replace a1 := a1.below hn a1.lt
      replace a2 := a2.below hn a2.lt
      have c0 := a1.rows
      clear hn T1 T2
      by_cases hs : r = c
      · have e1 : (r == c) = true := by simpa using hs
        rw [e1]
        have hV : powV r c f n = .tuple #[MV r c (powF r.toNat f n), .int .i64 0] := by unfold powV powC; rw [if_pos hok, if_pos hr, if_pos hs]; rfl
        have HV := Lib.hid hV
        obtain ⟨R, C, hRe, hCe, _, hR, _, hC⟩ := ok_dims hok
        subst hRe; subst hCe
        have hRC : R = C := by omega
        subst hRC
        have zf := ok_zeros hok
        clear hV hok hs
        go_wp2_with fail
        refine (impl_oneOf R hR _).mono ?_
        rintro e wm ⟨rfl, hn⟩
        replace a4 := bnext a4 hn (Nat.le_of_lt a1.lt)
        replace a1 := a1.below hn a1.lt
        replace a2 := a2.below hn a2.lt
        clear hn c0 e1 
        go_wp2_with (first | guard_target =~ wpList _ _ _ (⟨_, Op.store 33 _ _, _, _, _, _⟩ :: _) _ _; refine wpList_store_fresh (cells := (CL R R (oneN R)).toArray) rfl 33 _ _ rfl rfl rfl (by kernel_rfl) (by rw [CL_size]; rfl) (CL_one _ _ _) ?_)
        have b1 := a1.alloc (.cells (CL R R (oneN R)).toArray 33)
        have b2 := a2.alloc (.cells (CL R R (oneN R)).toArray 33)
        have b3 : MB (wm.alloc (.cells (CL R R (oneN R)).toArray 33)) wm.heap.size 33 R R (oneN R) := heap_alloc_last _ _
        have b4 := a4.alloc (Nat.le_of_lt a1.lt) (.cells (CL R R (oneN R)).toArray 33)
        have hk : g + 1 < wm.heap.size := a2.lt
        obtain ⟨k, hkk⟩ : ∃ k, k = wm.heap.size := ⟨_, rfl⟩
        rw [← hkk] at b3 hk ⊢
        generalize wm.alloc (.cells (CL R R (oneN R)).toArray 33) = w5 at b1 b2 b3 b4 ⊢
        clear a1 a2 a4 hkk
        have HM := Lib.hid hm.2.2.2.2
        have ZF := Lib.hid (show ZQ R f from zf)
        clear zf hm
        simp only [Act.put]
        go_loopw [1] (fun y wr => ∃ (n' : Int) (t : Nat) (P M : Nat → Int), y = .int .i64 n' ∧ 0 ≤ n' ∧ n' ≤ 1000000 ∧ n' < 2 ^ t ∧ Hid (mpow t n' P M = powF R f n) ∧ MB wr g 33 R R M ∧ MB wr k 33 R R P ∧ MB wr (g + 1) 33 0 0 (fun _ => 0) ∧ Hid (VW P) ∧ Hid (VW M) ∧ Hid (ZQ R P) ∧ Hid (ZQ R M) ∧ Hid (Below g w wr)) (fun y _ => (intOf y).toNat)
        case atStart => exact ⟨n, 20, oneN R, f, rfl, hr.1, hr.2, by simp; omega, Lib.hid rfl, b1, b3, b2, Lib.hid (oneN_b R), HM, Lib.hid (ZQ.one R), ZF, Lib.hid b4⟩
        case round =>
          clear b1 b2 b3 b4 hr hn0 hn1
          obtain ⟨n, t, P, M, rfl, n0, n1, ht2, hF, m1, m2, m3, HP, HQ, ZP, ZM, HB⟩ := hrel
          have hb := HB.out
          by_cases hpos : 0 < n
          · have hn' : decide (0 < n) = true := by simpa using hpos
            by_cases ho : n % 2 = 1
            · have ht := and1_yes n n0 (by omega) ho
              have Ho := Lib.hid ho; clear ho
              go_wp2_with (first | (guard_target =~ wpList _ _ _ (⟨_, Op.load 33 (Operand.tmp 6), _, _, _, _⟩ :: _) _ _; refine wpList_load_row rfl 33 _ rfl (k) rfl _ (CL R R P).toArray (0, 0) _ m2 Try.underlying33 rfl (by kernel_rfl) ?_) | (guard_target =~ wpList _ _ _ (⟨_, Op.load 33 (Operand.tmp 2), _, _, _, _⟩ :: _) _ _; refine wpList_load_row rfl 33 _ rfl (g) rfl _ (CL R R M).toArray (0, 0) _ m1 Try.underlying33 rfl (by kernel_rfl) ?_))
              refine (mtimes_any R R P ⟨by omega, by omega, by omega, by omega, HP.out⟩ R R M ⟨by omega, by omega, by omega, by omega, HQ.out⟩ _).mono ?_
              rintro e wa ⟨rfl, hn⟩
              replace hb := bnext hb hn (Nat.le_of_lt m1.lt)
              replace m1 := m1.below hn m1.lt
              replace m2 := m2.below hn m2.lt
              replace m3 := m3.below hn m3.lt
              clear hn
              go_upto_region 12 with (first | (guard_target =~ wpList _ _ _ (⟨_, Op.store 33 (Operand.tmp 6) _, _, _, _, _⟩ :: _) _ _; refine wpList_store_row rfl 33 _ _ rfl (k) (CL R R (timesF P M)).toArray rfl rfl _ _ m2 (by kernel_rfl) rfl (CL_one _ _ _) ?_))
              replace hb := Below.setRow hb (show g ≤ k by omega) (CL R R (timesF P M)).toArray
              replace m1 := m1.setRow_other (b := k) (by omega) (CL R R (timesF P M)).toArray
              replace m3 := m3.setRow_other (b := k) (by omega) (CL R R (timesF P M)).toArray
              replace m2 := m2.setRow (r' := R) (c' := R) (timesF P M)
              generalize World.setRow wa k (CL R R (timesF P M)).toArray = wa2 at hb m1 m2 m3 ⊢
              go_wp2_with (first | (guard_target =~ wpList _ _ _ (⟨_, Op.load 33 (Operand.tmp 2), _, _, _, _⟩ :: _) _ _; refine wpList_load_row rfl 33 _ rfl (g) rfl _ (CL R R M).toArray (0, 0) _ m1 Try.underlying33 rfl (by kernel_rfl) ?_))
              refine (mtimes_any R R M ⟨by omega, by omega, by omega, by omega, HQ.out⟩ R R M ⟨by omega, by omega, by omega, by omega, HQ.out⟩ _).mono ?_
              rintro e wb ⟨rfl, hn⟩
              replace hb := bnext hb hn (Nat.le_of_lt m1.lt)
              replace m1 := m1.below hn m1.lt
              replace m2 := m2.below hn m2.lt
              replace m3 := m3.below hn m3.lt
              clear hn
              go_upto_region 9 with (first | (guard_target =~ wpList _ _ _ (⟨_, Op.store 33 (Operand.tmp 2) _, _, _, _, _⟩ :: _) _ _; refine wpList_store_row rfl 33 _ _ rfl (g) (CL R R (timesF M M)).toArray rfl rfl _ _ m1 (by kernel_rfl) rfl (CL_one _ _ _) ?_))
              replace hb := Below.setRow hb (Nat.le_refl g) (CL R R (timesF M M)).toArray
              replace m2 := m2.setRow_other (b := g) (by omega) (CL R R (timesF M M)).toArray
              replace m3 := m3.setRow_other (b := g) (by omega) (CL R R (timesF M M)).toArray
              replace m1 := m1.setRow (r' := R) (c' := R) (timesF M M)
              generalize World.setRow wb g (CL R R (timesF M M)).toArray = wb2 at hb m1 m2 m3 ⊢
              go_wp2_with fail
              obtain ⟨t, rfl⟩ : ∃ s, t = s + 1 := by
                cases t with
                | zero => exact absurd ht2 (by simp; omega)
                | succ s => exact ⟨s, rfl⟩
              have hp : (2 : Int) ^ (t + 1) = 2 * 2 ^ t := by rw [Int.pow_succ]; omega
              refine ⟨⟨n / 2, t, (timesF P M), timesF M M, rfl, by omega, by omega, by omega, ?_, m1, m2, m3, Lib.hid (timesF_b HP.out HQ.out), Lib.hid (timesF_b HQ.out HQ.out), Lib.hid (ZQ.times HP.out HQ.out ZP.out ZM.out), Lib.hid (ZQ.times HQ.out HQ.out ZM.out ZM.out), Lib.hid hb⟩, by simp [intOf]; omega⟩
              refine Lib.hid (Eq.trans ?_ hF.out)
              conv => rhs; unfold mpow
              rw [if_neg (by omega), if_pos Ho.out]
            · have ht := and1_no n n0 (by omega) ho
              have Ho := Lib.hid ho; clear ho
              go_wp2_with (first | (guard_target =~ wpList _ _ _ (⟨_, Op.load 33 (Operand.tmp 2), _, _, _, _⟩ :: _) _ _; refine wpList_load_row rfl 33 _ rfl (g) rfl _ (CL R R M).toArray (0, 0) _ m1 Try.underlying33 rfl (by kernel_rfl) ?_))
              refine (mtimes_any R R M ⟨by omega, by omega, by omega, by omega, HQ.out⟩ R R M ⟨by omega, by omega, by omega, by omega, HQ.out⟩ _).mono ?_
              rintro e wb ⟨rfl, hn⟩
              replace hb := bnext hb hn (Nat.le_of_lt m1.lt)
              replace m1 := m1.below hn m1.lt
              replace m2 := m2.below hn m2.lt
              replace m3 := m3.below hn m3.lt
              clear hn
              go_upto_region 9 with (first | (guard_target =~ wpList _ _ _ (⟨_, Op.store 33 (Operand.tmp 2) _, _, _, _, _⟩ :: _) _ _; refine wpList_store_row rfl 33 _ _ rfl (g) (CL R R (timesF M M)).toArray rfl rfl _ _ m1 (by kernel_rfl) rfl (CL_one _ _ _) ?_))
              replace hb := Below.setRow hb (Nat.le_refl g) (CL R R (timesF M M)).toArray
              replace m2 := m2.setRow_other (b := g) (by omega) (CL R R (timesF M M)).toArray
              replace m3 := m3.setRow_other (b := g) (by omega) (CL R R (timesF M M)).toArray
              replace m1 := m1.setRow (r' := R) (c' := R) (timesF M M)
              generalize World.setRow wb g (CL R R (timesF M M)).toArray = wb2 at hb m1 m2 m3 ⊢
              go_wp2_with fail
              obtain ⟨t, rfl⟩ : ∃ s, t = s + 1 := by
                cases t with
                | zero => exact absurd ht2 (by simp; omega)
                | succ s => exact ⟨s, rfl⟩
              have hp : (2 : Int) ^ (t + 1) = 2 * 2 ^ t := by rw [Int.pow_succ]; omega
              refine ⟨⟨n / 2, t, P, timesF M M, rfl, by omega, by omega, by omega, ?_, m1, m2, m3, Lib.hid (HP.out), Lib.hid (timesF_b HQ.out HQ.out), Lib.hid (ZP.out), Lib.hid (ZQ.times HQ.out HQ.out ZM.out ZM.out), Lib.hid hb⟩, by simp [intOf]; omega⟩
              refine Lib.hid (Eq.trans ?_ hF.out)
              conv => rhs; unfold mpow
              rw [if_neg (by omega), if_neg Ho.out]
          · have hn' : decide (0 < n) = false := by simp; omega
            obtain rfl : n = 0 := by omega
            have hE : P = powF R f _ := (mpow_zero t P M).symm.trans hF.out
            subst hE
            go_wp2_with (first | (guard_target =~ wpList _ _ _ (⟨_, Op.load 33 (Operand.tmp 6), _, _, _, _⟩ :: _) _ _; refine wpList_load_row rfl 33 _ rfl (k) rfl _ (CL R R (powF R f _)).toArray (0, 0) _ m2 Try.underlying33 rfl (by kernel_rfl) ?_) | (guard_target =~ wpList _ _ _ (⟨_, Op.store 33 (Operand.tmp 4) _, _, _, _, _⟩ :: _) _ _; refine wpList_store_row rfl 33 _ _ rfl (g + 1) (CL R R (powF R f _)).toArray rfl rfl _ _ m3 (by kernel_rfl) rfl (CL_one _ _ _) ?_))
            refine bodyPost_ret (v := .tuple #[MV R R (powF R f _), .int .i64 0]) ?_ rfl ⟨congrArg Ending.returned HV.out.symm, by obtain rfl := HG.out; exact Below.setRow hb (Nat.le_succ _) _⟩
            exact results_cell_tmp2 rfl _ _ (g + 1) _ _ (0, 0) _ _ rfl rfl (m3.setRow _) Try.underlying33 rfl (by kernel_rfl)
      · have e1 : (r == c) = false := by simpa using hs
        rw [e1]
        have hV : powV r c f n = .tuple #[MV 0 0 (fun _ => 0), .int .i64 4] := by unfold powV powC; rw [if_pos hok, if_pos hr, if_neg hs]; rfl
        have HV := Lib.hid hV
        clear hok hV
        go_wp2_with (first | (guard_target =~ wpList _ _ _ (⟨_, Op.build 33 _, _, _, _, _⟩ :: _) _ _; refine wpList_build0 rfl 33 rfl (CL 0 0 fun _ => 0).toArray (by kernel_rfl) ?_) | (guard_target =~ wpList _ _ _ (⟨_, Op.store 33 (Operand.tmp 4) _, _, _, _, _⟩ :: _) _ _; refine wpList_store_row rfl 33 _ _ rfl (g + 1) (CL 0 0 fun _ => 0).toArray rfl rfl _ _ a2 (by kernel_rfl) rfl (CL_one _ _ _) ?_))
        refine bodyPost_ret (v := .tuple #[MV 0 0 (fun _ => 0), .int .i64 4]) ?_ rfl ⟨congrArg Ending.returned HV.out.symm, by obtain rfl := HG.out; exact Below.setRow a4 (Nat.le_succ _) _⟩
        exact results_cell_tmp2 rfl _ _ (g + 1) _ _ (0, 0) _ _ rfl rfl (a2.setRow _) Try.underlying33 rfl (by kernel_rfl)
    · have hV : powV r c f n = .tuple #[MV 0 0 (fun _ => 0), .int .i64 2] := by unfold powV powC; rw [if_pos hok, if_neg hr]; rfl
      by_cases h0 : n < 0
      · have T1 : decide (n < 0) = true := by simpa using h0
        have HV := Lib.hid hV
        clear hok hV
        go_wp2_with (first | (guard_target =~ wpList _ _ _ (⟨_, Op.build 33 _, _, _, _, _⟩ :: _) _ _; refine wpList_build0 rfl 33 rfl (CL 0 0 fun _ => 0).toArray (by kernel_rfl) ?_) | (guard_target =~ wpList _ _ _ (⟨_, Op.store 33 (Operand.tmp 4) _, _, _, _, _⟩ :: _) _ _; refine wpList_store_row rfl 33 _ _ rfl (g + 1) (CL 0 0 fun _ => 0).toArray rfl rfl _ _ a2 (by kernel_rfl) rfl (CL_one _ _ _) ?_))
        refine bodyPost_ret (v := .tuple #[MV 0 0 (fun _ => 0), .int .i64 2]) ?_ rfl ⟨congrArg Ending.returned HV.out.symm, by obtain rfl := HG.out; exact Below.setRow a4 (Nat.le_succ _) _⟩
        exact results_cell_tmp2 rfl _ _ (g + 1) _ _ (0, 0) _ _ rfl rfl (a2.setRow _) Try.underlying33 rfl (by kernel_rfl)
      · have T1 : decide (n < 0) = false := by simpa using h0
        have T2 : decide (1000000 < n) = true := by simp; omega
        have HV := Lib.hid hV
        clear hok hV
        go_wp2_with (first | (guard_target =~ wpList _ _ _ (⟨_, Op.build 33 _, _, _, _, _⟩ :: _) _ _; refine wpList_build0 rfl 33 rfl (CL 0 0 fun _ => 0).toArray (by kernel_rfl) ?_) | (guard_target =~ wpList _ _ _ (⟨_, Op.store 33 (Operand.tmp 4) _, _, _, _, _⟩ :: _) _ _; refine wpList_store_row rfl 33 _ _ rfl (g + 1) (CL 0 0 fun _ => 0).toArray rfl rfl _ _ a2 (by kernel_rfl) rfl (CL_one _ _ _) ?_))
        refine bodyPost_ret (v := .tuple #[MV 0 0 (fun _ => 0), .int .i64 2]) ?_ rfl ⟨congrArg Ending.returned HV.out.symm, by obtain rfl := HG.out; exact Below.setRow a4 (Nat.le_succ _) _⟩
        exact results_cell_tmp2 rfl _ _ (g + 1) _ _ (0, 0) _ _ rfl rfl (a2.setRow _) Try.underlying33 rfl (by kernel_rfl)
end Go.Proofs.Ytjbaeomjinnlhaa
