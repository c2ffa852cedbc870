/-
  SolveMatrix.
-/
import Derived.Test.YtjbaeomjinnlhaaOk2
import Derived.Deep.RegionHeld
import Derived.Test.YtjbaeomjinnlhaaSolveS
import Derived.Test.YtjbaeomjinnlhaaSolveI
namespace Go.Proofs.Ytjbaeomjinnlhaa
set_option linter.unusedVariables false
set_option linter.unusedSimpArgs false
open Go.ChangeShapes Go.WideShapes Go.ChangeAt Go.RowKit

theorem dotI_dot (a : Nat → Nat) (b : Nat → Int) : ∀ n, dotI (fun k => ((a k : Nat) : Int)) b n = ((Nim.dot a (fun k => (b k).toNat) n : Nat) : Int)
  | 0 => rfl
  | n + 1 => by
    unfold dotI Nim.dot
    rw [dotI_dot a b n]
    unfold xorI mulI
    simp only [Int.toNat_natCast]
theorem solN_tail {F : Nat → Nat → Nat} (hF : Nim.GB F) {C : Nat} (hc : ∀ k, C ≤ k → k < 6 → Nim.ZC k F) (u : Nat → Int) : ∀ n, C ≤ n → n ≤ 6 → solN F u n = solN F u C
  | 0, h, _ => by rw [show C = 0 from by omega]
  | n + 1, h, h6 => by
    by_cases e : C = n + 1
    · rw [e]
    · have hz := (hc n (by omega) (by omega)).redN hF n (by omega)
      have hl := Nim.redN_len hF n
      have hp : ¬ Nim.pivotFrom (Nim.redN F n).1 n (6 - (Nim.redN F n).2.length) (Nim.redN F n).2.length < 6 := by
        rw [Nim.pivot_zero _ n _ _ (fun r _ hr => hz r (by omega))]; omega
      rw [solN_succ, if_neg hp]
      exact solN_tail hF hc u n (by omega) (by omega)
theorem sums_same {R C : Nat} {f : Nat → Int} (hf : VW f) (hR : R ≤ 6) (hC : C ≤ 6) (hok : okB (R : Int) (C : Int) f = true) {v : Nat → Int} (hv : VW v) (h0 : ∀ r, r < 6 → R ≤ r → v r = 0) : ∀ s, s < 6 → applyF (trcF f R) v s = solN (natG f) v C s := fun s hs => by
  rw [← solN_tail (natG_b hf) (ok_zc hok) v 6 hC (Nat.le_refl 6)]
  rw [solN_dot (natG_b hf) R hv h0 6 (Nat.le_refl 6) s hs]
  rw [← dotI_dot]
  unfold applyF
  exact dotI_ext 6 (fun k hk => by
    unfold trcF wideM
    rw [show (s * 6 + k) / 6 = s from by omega, show (s * 6 + k) % 6 = k from by omega]) (fun _ _ => rfl)
theorem firstI_cast (G : Nat → Nat → Nat) (j : Nat) (RF : Nat → Int) (h : ∀ k, k < 6 → RF (j * 6 + k) = ((G j k : Nat) : Int)) : firstI (fun k => RF (j * 6 + k)) = Nim.firstOf (G j) := by
  unfold firstI
  exact first_like (fun k hk => by show (RF (j * 6 + k)).toNat = G j k; rw [h k hk, Int.toNat_natCast])
theorem redF_cell (f : Nat → Int) (R j k : Nat) (hk : k < 6) : redF f R (j * 6 + k) = ((wideM f R j k : Nat) : Int) := by
  unfold redF
  rw [show (j * 6 + k) / 6 = j from by omega, show (j * 6 + k) % 6 = k from by omega]
theorem bang_pos (l : List Nat) (j : Nat) (hj : j < l.length) : l[j]! = l[j] := getElem!_pos l j hj
theorem row_first {f : Nat → Int} (hf : VW f) (R : Nat) (j : Nat) (hj : j < (Nim.redN (Nim.wide (natG f) R) 6).2.length) : firstI (fun k => redF f R (j * 6 + k)) = (Nim.redN (Nim.wide (natG f) R) 6).2[j]! := by
  have h6 : Nim.Red 6 (wideM f R) (Nim.redN (Nim.wide (natG f) R) 6).2 := Nim.redN_red (Nim.wide_b (natG_b hf) R) 6
  have h1 := firstI_cast (wideM f R) j (redF f R) (fun k hk => redF_cell f R j k hk)
  have h2 := h6.first j hj
  exact (h1.trans h2).trans (bang_pos _ j hj).symm
theorem row_none {f : Nat → Int} (hf : VW f) (R : Nat) (j : Nat) (h6 : j < 6) (hj : (Nim.redN (Nim.wide (natG f) R) 6).2.length ≤ j) : firstI (fun k => redF f R (j * 6 + k)) = 6 := by
  have hr : Nim.Red 6 (wideM f R) (Nim.redN (Nim.wide (natG f) R) 6).2 := Nim.redN_red (Nim.wide_b (natG_b hf) R) 6
  have h1 := firstI_cast (wideM f R) j (redF f R) (fun k hk => redF_cell f R j k hk)
  have h2 := hr.firstNone j hj h6
  exact h1.trans h2
def fineL (RF SU : Nat → Int) : Bool := decide (∀ n : Nat, n < 6 → (firstI (fun k => RF (n * 6 + k)) < 6 ∨ SU n = 0))
def solV (RF SU : Nat → Int) : Value := if fineL RF SU = true then .tuple #[VV (xP RF SU 6), .bool true] else .tuple #[VV fun _ => 0, .bool false]
theorem SolveI.eq {RF SU : Nat → Int} {e : Ending} (h : SolveI RF SU e) : e = .returned (solV RF SU) := by
  rcases h with ⟨h, rfl⟩ | ⟨⟨n, hn, h⟩, rfl⟩
  · have : fineL RF SU = true := by unfold fineL; rw [decide_eq_true_eq]; exact h
    unfold solV; rw [if_pos this]
  · have : ¬ fineL RF SU = true := by unfold fineL; rw [decide_eq_true_eq]; exact fun x => h (x n hn)
    unfold solV; rw [if_neg this]
theorem xS_stop (fs : List Nat) (U : Nat → Int) (m : Nat) (hm : fs.length ≤ m) : ∀ n, m ≤ n → xS fs U n = xS fs U m
  | 0, h => by rw [show m = 0 from by omega]
  | n + 1, h => by
    by_cases e : m = n + 1
    · rw [e]
    · rw [xS_no fs U n (by omega)]; exact xS_stop fs U m hm n (by omega)
theorem xP_xS {RF SU U : Nat → Int} {fs : List Nat} (h1 : ∀ j, j < fs.length → firstI (fun k => RF (j * 6 + k)) = fs[j]!) (hlt : ∀ j, j < fs.length → fs[j]! < 6) (h2 : ∀ j, j < 6 → fs.length ≤ j → firstI (fun k => RF (j * 6 + k)) = 6) (hs : ∀ s, s < 6 → SU s = U s) : ∀ n, n ≤ 6 → xP RF SU n = xS fs U n
  | 0, _ => rfl
  | n + 1, hn => by
    have ih := xP_xS h1 hlt h2 hs n (by omega)
    by_cases e : n < fs.length
    · rw [xP_yes RF SU n fs[n]! (hlt n e) (h1 n e).symm, xS_yes fs U n e, ih, hs n (by omega)]
    · rw [xP_no RF SU n (by rw [h2 n (by omega) (by omega)]; omega), xS_no fs U n e, ih]
theorem SolveR.eq {RF SU U : Nat → Int} {fs : List Nat} {R : Nat} {e : Ending} (hl : fs.length ≤ R) (hR : R ≤ 6) (h1 : ∀ j, j < fs.length → firstI (fun k => RF (j * 6 + k)) = fs[j]!) (hlt : ∀ j, j < fs.length → fs[j]! < 6) (h2 : ∀ j, j < 6 → fs.length ≤ j → firstI (fun k => RF (j * 6 + k)) = 6) (hs : ∀ s, s < 6 → SU s = U s) (hz : ∀ s, s < 6 → R ≤ s → SU s = 0)
    (h : SolveR fs U R e) : e = .returned (solV RF SU) := by
  rcases h with ⟨h, rfl⟩ | ⟨⟨i, hi, hiR, hne⟩, rfl⟩
  · have hx : xP RF SU 6 = xS fs U R := by rw [xP_xS h1 hlt h2 hs 6 (Nat.le_refl 6)]; exact xS_stop fs U R hl 6 hR
    have hfine : fineL RF SU = true := by
      unfold fineL; rw [decide_eq_true_eq]
      intro n hn
      by_cases e : n < fs.length
      · exact .inl (by rw [h1 n e]; exact hlt n e)
      · refine .inr ?_
        by_cases e2 : n < R
        · rw [hs n hn]; exact h n (by omega) e2
        · exact hz n hn (by omega)
    unfold solV; rw [if_pos hfine, hx]
  · have hfine : ¬ fineL RF SU = true := by
      unfold fineL; rw [decide_eq_true_eq]
      intro x
      rcases x i (by omega) with y | y
      · rw [h2 i (by omega) hi] at y; omega
      · exact hne (by rw [← hs i (by omega)]; exact y)
    unfold solV; rw [if_neg hfine]
theorem sums_zero {R C : Nat} {f : Nat → Int} (hf : VW f) (hok : okB (R : Int) (C : Int) f = true) (v : Nat → Int) : ∀ s, s < 6 → R ≤ s → applyF (trcF f R) v s = 0 := fun s hs hR => by
  unfold applyF
  exact dotI_zero 6 (fun k hk => by
    unfold trcF wideM
    rw [show (s * 6 + k) / 6 = s from by omega, show (s * 6 + k) % 6 = k from by omega]
    rw [Nim.wide_zr (natG_b hf) (ok_zr hok) 6 (Nat.le_refl 6) s (6 + k) hR hs (by omega)]; rfl)
theorem impl_solve (R C : Nat) (hR : R ≤ 6) (f : Nat → Int) (hm : MW R C f) (v : Nat → Int) (hv : VW v) (w : World) : Calls Try.prog 124 #[MV R C f, VV v] w fun e w' => e = .returned (solV (redF f R) (applyF (trcF f R) v)) ∧ Below w.heap.size w w' :=
  (solve_any R hR C f hm v hv w).mono fun e w' h => ⟨h.1.eq, h.2⟩
theorem spec_solve (R C : Nat) (hR : R ≤ 6) (hC : C ≤ 6) (f : Nat → Int) (hm : MW R C f) (hok : okB (R : Int) (C : Int) f = true) (v : Nat → Int) (hv : VW v) (h0 : ∀ r, r < 6 → R ≤ r → v r = 0) (w : World) : Calls Try.prog 123 #[MV R C f, VV v] w fun e w' => e = .returned (solV (redF f R) (applyF (trcF f R) v)) ∧ Below w.heap.size w w' := by
  have hf : VW f := hm.2.2.2.2
  have hu : un6 (natG f) = f := funext (un6_nat hf)
  have h := l02Solve_any R C hR hC (natG f) (natG_b hf) (ok_zr hok) (ok_zc hok) v hv w
  rw [hu, red_firsts hf hC hok] at h
  have a1 := row_first hf R
  have a2 := row_none hf R
  have h6 := Nim.redN_red (Nim.wide_b (natG_b hf) R) 6
  have a3 := h6.lt
  have a4 := sums_same hf hR hC hok hv h0
  have a5 := sums_zero hf hok v
  have a6 := (ok_zr hok).len (natG_b hf) C hC
  rw [red_firsts hf hC hok] at a6
  clear h6 hu
  generalize redF f R = RF at a1 a2 ⊢
  generalize applyF (trcF f R) v = SU at a4 a5 ⊢
  generalize solN (natG f) v C = U at a4 h
  generalize (Nim.redN (Nim.wide (natG f) R) 6).2 = fs at a1 a2 a3 a6 h
  exact h.mono fun e w' h => ⟨h.1.eq a6 hR a1 (fun j hj => by rw [getElem!_pos _ j hj]; exact a3 j hj) (fun j h1 h2 => a2 j h1 h2) a4 a5, h.2⟩
def solveV (r c : Int) (f v : Nat → Int) : Value := if (okB r c f && fitB r.toNat v) = true then (if fineL (redF f r.toNat) (applyF (trcF f r.toNat) v) = true then .tuple #[VV (xP (redF f r.toNat) (applyF (trcF f r.toNat) v) 6), .int .i64 0] else .tuple #[VV fun _ => 0, .int .i64 6]) else .tuple #[VV fun _ => 0, .int .i64 1]
theorem solveV_form (r c : Int) (f x : Nat → Int) (hf : VW f) (hx : VW x) : ∃ F k, solveV r c f x = .tuple #[VV F, .int .i64 k] ∧ VW F := by
  have hz : VW fun _ => 0 := fun _ => ⟨Int.le_refl 0, show (0 : Int) < 65536 by decide⟩
  unfold solveV
  split
  · split
    · exact ⟨_, _, rfl, xP_b (applyF_b (trcF_b hf _) hx) 6⟩
    · exact ⟨_, _, rfl, hz⟩
  · exact ⟨_, _, rfl, hz⟩

set_option maxRecDepth 100000 in
set_option maxHeartbeats 2000000 in
theorem spec_SolveMatrix (r c : Int) (f : Nat → Int) (hm : MW r c f) (x : Nat → Int) (hx : VW x) (w : World) : Calls Try.prog 58 #[MV r c f, VV x] w fun e w' => e = .returned (solveV r c f x) ∧ Below w.heap.size w w' := by
  go_enter Try.func58, Try.ntmps58
  go_upto_region 1 with fail
  obtain ⟨a1, a2, a3, a4, a5⟩ := new3 w (.cells (CL r c f).toArray 33) (.cells (TL 6 x).toArray 45) (.cells (TL 6 fun _ => 0).toArray 45)
  rw [zero6]
  obtain ⟨g, hg⟩ : ∃ g, g = w.heap.size := ⟨_, rfl⟩
  rw [← hg] at a1 a2 a3 a4 a5 ⊢
  generalize World.alloc (World.alloc (World.alloc w _) _) _ = w2 at a1 a2 a3 a4 a5 ⊢
  replace a1 : MB w2 g 33 r c f := a1
  replace a2 : RB w2 (g + 1) 45 6 x := a2
  replace a3 : RB w2 (g + 1 + 1) 45 6 (fun _ => 0) := a3
  have HG := Lib.hid hg
  clear hg a5
  go_wp2_with fail
  refine (l02Ok_any r c f hm g _ _ a1).mono ?_
  rintro e wn ⟨rfl, rfl⟩
  rcases ok1 : okB r c f with _ | _
  · have hV : solveV r c f x = .tuple #[VV fun _ => 0, .int .i64 1] := by unfold solveV; rw [ok1]; rfl
    have HV := Lib.hid hV
    clear ok1 hV
    go_wp2_with (first | (guard_target =~ wpList _ _ _ (⟨_, Op.build 45 _, _, _, _, _⟩ :: _) _ _; refine wpList_build0 rfl 45 rfl (TL 6 fun _ => 0).toArray (by kernel_rfl) ?_) | (guard_target =~ wpList _ _ _ (⟨_, Op.store 45 (Operand.tmp 4) _, _, _, _, _⟩ :: _) _ _; refine wpList_store_row rfl 45 _ _ rfl (g + 1 + 1) (TL 6 fun _ => 0).toArray rfl rfl _ _ (a3) (by kernel_rfl) rfl (TL_one _ _) ?_))
    refine bodyPost_ret (v := .tuple #[VV fun _ => 0, .int .i64 1]) ?_ rfl ⟨congrArg Ending.returned HV.out.symm, by obtain rfl := HG.out; exact Below.setRow a4 (by omega) _⟩
    exact results_cell_tmp2 rfl _ _ (g + 1 + 1) _ _ (0, 0) (.array 6 29) _ rfl rfl (a3.setRow _) (by kernel_rfl) rfl (by kernel_rfl)
  · obtain ⟨R, C, rfl, rfl, _, hR, _, hC⟩ := ok_dims ok1
    have d1 := a1.rows
    have HO := Lib.hid ok1
    go_wp2_with fail
    refine (l02Vector_any x hx R hR (g + 1) _ a2).mono ?_
    rintro e wk ⟨rfl, rfl⟩
    rcases ok2 : fitB R x with _ | _
    · have hV : solveV R C f x = .tuple #[VV fun _ => 0, .int .i64 1] := by unfold solveV; rw [ok1, show (R : Int).toNat = R from rfl, ok2]; rfl
      have HV := Lib.hid hV
      clear ok1 ok2 hV
      go_wp2_with (first | (guard_target =~ wpList _ _ _ (⟨_, Op.build 45 _, _, _, _, _⟩ :: _) _ _; refine wpList_build0 rfl 45 rfl (TL 6 fun _ => 0).toArray (by kernel_rfl) ?_) | (guard_target =~ wpList _ _ _ (⟨_, Op.store 45 (Operand.tmp 4) _, _, _, _, _⟩ :: _) _ _; refine wpList_store_row rfl 45 _ _ rfl (g + 1 + 1) (TL 6 fun _ => 0).toArray rfl rfl _ _ (a3) (by kernel_rfl) rfl (TL_one _ _) ?_))
      refine bodyPost_ret (v := .tuple #[VV fun _ => 0, .int .i64 1]) ?_ rfl ⟨congrArg Ending.returned HV.out.symm, by obtain rfl := HG.out; exact Below.setRow a4 (by omega) _⟩
      exact results_cell_tmp2 rfl _ _ (g + 1 + 1) _ _ (0, 0) (.array 6 29) _ rfl rfl (a3.setRow _) (by kernel_rfl) rfl (by kernel_rfl)
    · have hz := Lib.hid (fun r (h1 : r < 6) (h2 : R ≤ r) => fitB_out ok2 r h1 h2)
      obtain ⟨RF, hRF⟩ : ∃ RF, RF = redF f R := ⟨_, rfl⟩
      obtain ⟨SU, hSU⟩ : ∃ SU, SU = applyF (trcF f R) x := ⟨_, rfl⟩
      have HF := Lib.hid hRF
      have HS := Lib.hid hSU
      have hV : solveV R C f x = if fineL RF SU = true then .tuple #[VV (xP RF SU 6), .int .i64 0] else .tuple #[VV fun _ => 0, .int .i64 6] := by
        unfold solveV
        rw [ok1, show (R : Int).toNat = R from rfl, ok2, ← hRF, ← hSU, if_pos (by rfl)]
      have HV0 := Lib.hid hV
      clear ok1 ok2 hV d1 hRF hSU
      go_wp2_with (first | (guard_target =~ wpList _ _ _ (⟨_, Op.load 33 (Operand.tmp 2), _, _, _, _⟩ :: _) _ _; refine wpList_load_row rfl 33 _ rfl (g) rfl _ (CL R C f).toArray (0, 0) _ a1 Try.underlying33 rfl (by kernel_rfl) ?_) | (guard_target =~ wpList _ _ _ (⟨_, Op.load 45 (Operand.tmp 3), _, _, _, _⟩ :: _) _ _; refine wpList_load_row rfl 45 _ rfl (g + 1) rfl _ (TL 6 x).toArray (0, 0) (.array 6 29) (a2) (by kernel_rfl) rfl (by kernel_rfl) ?_))
      refine (spec_solve R C hR hC f hm HO.out x hx hz.out _).mono ?_
      rintro e wm ⟨rfl, hn⟩
      rw [← HF.out, ← HS.out]
      replace a4 := bnext a4 hn (Nat.le_of_lt a1.lt)
      replace a1 := a1.below hn a1.lt
      replace a2 := a2.below hn a2.lt
      replace a3 := a3.below hn a3.lt
      clear hn HF HS
      rcases hfine : fineL RF SU with _ | _
      · have hs : solV RF SU = .tuple #[VV fun _ => 0, .bool false] := by unfold solV; rw [hfine]; rfl
        have HV := Lib.hid (show solveV R C f x = .tuple #[VV fun _ => 0, .int .i64 6] by rw [HV0.out, hfine]; rfl)
        rw [hs]
        clear hs hfine HV0
        go_upto_region 4 with (first | (guard_target =~ wpList _ _ _ (⟨_, Op.store 45 _ _, _, _, _, _⟩ :: _) _ _; refine wpList_store_fresh (cells := (TL 6 fun _ => 0).toArray) rfl 45 _ _ rfl rfl rfl (by kernel_rfl) rfl (TL_one _ _) ?_))
        have c1 := a1.alloc (.cells (TL 6 fun _ => 0).toArray 45)
        have c2 := a2.alloc (.cells (TL 6 fun _ => 0).toArray 45)
        have c3 := a3.alloc (.cells (TL 6 fun _ => 0).toArray 45)
        have c5 : RB (wm.alloc (.cells (TL 6 fun _ => 0).toArray 45)) wm.heap.size 45 6 (fun _ => 0) := heap_alloc_last _ _
        have c4 := a4.alloc (show g ≤ wm.heap.size by have := a3.lt; omega) (.cells (TL 6 fun _ => 0).toArray 45)
        obtain ⟨k5, hk5⟩ : ∃ k, k = wm.heap.size := ⟨_, rfl⟩
        have l5 : g + 1 + 1 < k5 := by rw [hk5]; exact a3.lt
        rw [← hk5] at c5 ⊢
        generalize wm.alloc (.cells (TL 6 fun _ => 0).toArray 45) = wq at c1 c2 c3 c4 c5 ⊢
        clear a1 a2 a3 a4 hk5
        go_wp2_with (first | (guard_target =~ wpList _ _ _ (⟨_, Op.build 45 _, _, _, _, _⟩ :: _) _ _; refine wpList_build0 rfl 45 rfl (TL 6 fun _ => 0).toArray (by kernel_rfl) ?_) | (guard_target =~ wpList _ _ _ (⟨_, Op.store 45 (Operand.tmp 4) _, _, _, _, _⟩ :: _) _ _; refine wpList_store_row rfl 45 _ _ rfl (g + 1 + 1) (TL 6 fun _ => 0).toArray rfl rfl _ _ (c3) (by kernel_rfl) rfl (TL_one _ _) ?_))
        refine bodyPost_ret (v := .tuple #[VV (fun _ => 0), .int .i64 6]) ?_ rfl ⟨congrArg Ending.returned HV.out.symm, by obtain rfl := HG.out; exact Below.setRow c4 (by omega) _⟩
        exact results_cell_tmp2 rfl _ _ (g + 1 + 1) _ _ (0, 0) (.array 6 29) _ rfl rfl (c3.setRow _) (by kernel_rfl) rfl (by kernel_rfl)
      · have hs : solV RF SU = .tuple #[VV (xP RF SU 6), .bool true] := by unfold solV; rw [hfine]; rfl
        have HV := Lib.hid (show solveV R C f x = .tuple #[VV (xP RF SU 6), .int .i64 0] by rw [HV0.out, hfine]; rfl)
        rw [hs]
        clear hs hfine HV0
        generalize xP RF SU 6 = XX at HV ⊢
        go_upto_region 4 with (first | (guard_target =~ wpList _ _ _ (⟨_, Op.store 45 _ _, _, _, _, _⟩ :: _) _ _; refine wpList_store_fresh (cells := (TL 6 XX).toArray) rfl 45 _ _ rfl rfl rfl (by kernel_rfl) rfl (TL_one _ _) ?_))
        have c1 := a1.alloc (.cells (TL 6 XX).toArray 45)
        have c2 := a2.alloc (.cells (TL 6 XX).toArray 45)
        have c3 := a3.alloc (.cells (TL 6 XX).toArray 45)
        have c5 : RB (wm.alloc (.cells (TL 6 XX).toArray 45)) wm.heap.size 45 6 (XX) := heap_alloc_last _ _
        have c4 := a4.alloc (show g ≤ wm.heap.size by have := a3.lt; omega) (.cells (TL 6 XX).toArray 45)
        obtain ⟨k5, hk5⟩ : ∃ k, k = wm.heap.size := ⟨_, rfl⟩
        have l5 : g + 1 + 1 < k5 := by rw [hk5]; exact a3.lt
        rw [← hk5] at c5 ⊢
        generalize wm.alloc (.cells (TL 6 XX).toArray 45) = wq at c1 c2 c3 c4 c5 ⊢
        clear a1 a2 a3 a4 hk5
        go_wp2_with (first | (guard_target =~ wpList _ _ _ (⟨_, Op.load 45 (Operand.tmp 6), _, _, _, _⟩ :: _) _ _; refine wpList_load_row rfl 45 _ rfl (k5) rfl _ (TL 6 XX).toArray (0, 0) (.array 6 29) (c5) (by kernel_rfl) rfl (by kernel_rfl) ?_) | (guard_target =~ wpList _ _ _ (⟨_, Op.store 45 (Operand.tmp 4) _, _, _, _, _⟩ :: _) _ _; refine wpList_store_row rfl 45 _ _ rfl (g + 1 + 1) (TL 6 XX).toArray rfl rfl _ _ (c3) (by kernel_rfl) rfl (TL_one _ _) ?_))
        refine bodyPost_ret (v := .tuple #[VV (XX), .int .i64 0]) ?_ rfl ⟨congrArg Ending.returned HV.out.symm, by obtain rfl := HG.out; exact Below.setRow c4 (by omega) _⟩
        exact results_cell_tmp2 rfl _ _ (g + 1 + 1) _ _ (0, 0) (.array 6 29) _ rfl rfl (c3.setRow _) (by kernel_rfl) rfl (by kernel_rfl)

set_option maxRecDepth 100000 in
set_option maxHeartbeats 2000000 in
theorem impl_SolveMatrix (r c : Int) (f : Nat → Int) (hm : MW r c f) (x : Nat → Int) (hx : VW x) (w : World) : Calls Try.prog 59 #[MV r c f, VV x] w fun e w' => e = .returned (solveV r c f x) ∧ Below w.heap.size w w' := by
  go_enter Try.func59, Try.ntmps59
  go_upto_region 1 with fail
  obtain ⟨a1, a2, a3, a4, a5⟩ := new3 w (.cells (CL r c f).toArray 33) (.cells (TL 6 x).toArray 45) (.cells (TL 6 fun _ => 0).toArray 45)
  rw [zero6]
  obtain ⟨g, hg⟩ : ∃ g, g = w.heap.size := ⟨_, rfl⟩
  rw [← hg] at a1 a2 a3 a4 a5 ⊢
  generalize World.alloc (World.alloc (World.alloc w _) _) _ = w2 at a1 a2 a3 a4 a5 ⊢
  replace a1 : MB w2 g 33 r c f := a1
  replace a2 : RB w2 (g + 1) 45 6 x := a2
  replace a3 : RB w2 (g + 1 + 1) 45 6 (fun _ => 0) := a3
  have HG := Lib.hid hg
  clear hg a5
  go_wp2_with (first | (guard_target =~ wpList _ _ _ (⟨_, Op.load 33 (Operand.tmp 2), _, _, _, _⟩ :: _) _ _; refine wpList_load_row rfl 33 _ rfl (g) rfl _ (CL r c f).toArray (0, 0) _ a1 Try.underlying33 rfl (by kernel_rfl) ?_))
  refine (impl_ValidMatrix r c f hm _).mono ?_
  rintro e wn ⟨rfl, hn⟩
  replace a4 := bnext a4 hn (Nat.le_of_lt a1.lt)
  replace a1 := a1.below hn a1.lt
  replace a2 := a2.below hn a2.lt
  replace a3 := a3.below hn a3.lt
  clear hn
  rcases ok1 : okB r c f with _ | _
  · have hV : solveV r c f x = .tuple #[VV fun _ => 0, .int .i64 1] := by unfold solveV; rw [ok1]; rfl
    have HV := Lib.hid hV
    clear ok1 hV
    go_wp2_with (first | (guard_target =~ wpList _ _ _ (⟨_, Op.build 45 _, _, _, _, _⟩ :: _) _ _; refine wpList_build0 rfl 45 rfl (TL 6 fun _ => 0).toArray (by kernel_rfl) ?_) | (guard_target =~ wpList _ _ _ (⟨_, Op.store 45 (Operand.tmp 4) _, _, _, _, _⟩ :: _) _ _; refine wpList_store_row rfl 45 _ _ rfl (g + 1 + 1) (TL 6 fun _ => 0).toArray rfl rfl _ _ (a3) (by kernel_rfl) rfl (TL_one _ _) ?_))
    refine bodyPost_ret (v := .tuple #[VV fun _ => 0, .int .i64 1]) ?_ rfl ⟨congrArg Ending.returned HV.out.symm, by obtain rfl := HG.out; exact Below.setRow a4 (by omega) _⟩
    exact results_cell_tmp2 rfl _ _ (g + 1 + 1) _ _ (0, 0) (.array 6 29) _ rfl rfl (a3.setRow _) (by kernel_rfl) rfl (by kernel_rfl)
  · obtain ⟨R, C, rfl, rfl, _, hR, _, hC⟩ := ok_dims ok1
    have d1 := a1.rows
    have HO := Lib.hid ok1
    go_wp2_with (first | (guard_target =~ wpList _ _ _ (⟨_, Op.load 45 (Operand.tmp 3), _, _, _, _⟩ :: _) _ _; refine wpList_load_row_w rfl 45 _ rfl (g + 1) rfl _ (TL 6 x).toArray (0, 0) (.array 6 29) (a2) (by kernel_rfl) rfl (by kernel_rfl) ?_))
    refine (fits_any x hx R hR _).mono ?_
    rintro e wk ⟨rfl, hn⟩
    replace a4 := bnext a4 hn (Nat.le_of_lt a1.lt)
    replace a1 := a1.below hn a1.lt
    replace a2 := a2.below hn a2.lt
    replace a3 := a3.below hn a3.lt
    clear hn
    rcases ok2 : fitB R x with _ | _
    · have hV : solveV R C f x = .tuple #[VV fun _ => 0, .int .i64 1] := by unfold solveV; rw [ok1, show (R : Int).toNat = R from rfl, ok2]; rfl
      have HV := Lib.hid hV
      clear ok1 ok2 hV
      go_wp2_with (first | (guard_target =~ wpList _ _ _ (⟨_, Op.build 45 _, _, _, _, _⟩ :: _) _ _; refine wpList_build0 rfl 45 rfl (TL 6 fun _ => 0).toArray (by kernel_rfl) ?_) | (guard_target =~ wpList _ _ _ (⟨_, Op.store 45 (Operand.tmp 4) _, _, _, _, _⟩ :: _) _ _; refine wpList_store_row rfl 45 _ _ rfl (g + 1 + 1) (TL 6 fun _ => 0).toArray rfl rfl _ _ (a3) (by kernel_rfl) rfl (TL_one _ _) ?_))
      refine bodyPost_ret (v := .tuple #[VV fun _ => 0, .int .i64 1]) ?_ rfl ⟨congrArg Ending.returned HV.out.symm, by obtain rfl := HG.out; exact Below.setRow a4 (by omega) _⟩
      exact results_cell_tmp2 rfl _ _ (g + 1 + 1) _ _ (0, 0) (.array 6 29) _ rfl rfl (a3.setRow _) (by kernel_rfl) rfl (by kernel_rfl)
    · have hz := Lib.hid (fun r (h1 : r < 6) (h2 : R ≤ r) => fitB_out ok2 r h1 h2)
      obtain ⟨RF, hRF⟩ : ∃ RF, RF = redF f R := ⟨_, rfl⟩
      obtain ⟨SU, hSU⟩ : ∃ SU, SU = applyF (trcF f R) x := ⟨_, rfl⟩
      have HF := Lib.hid hRF
      have HS := Lib.hid hSU
      have hV : solveV R C f x = if fineL RF SU = true then .tuple #[VV (xP RF SU 6), .int .i64 0] else .tuple #[VV fun _ => 0, .int .i64 6] := by
        unfold solveV
        rw [ok1, show (R : Int).toNat = R from rfl, ok2, ← hRF, ← hSU, if_pos (by rfl)]
      have HV0 := Lib.hid hV
      clear ok1 ok2 hV d1 hRF hSU
      go_wp2_with (first | (guard_target =~ wpList _ _ _ (⟨_, Op.load 33 (Operand.tmp 2), _, _, _, _⟩ :: _) _ _; refine wpList_load_row rfl 33 _ rfl (g) rfl _ (CL R C f).toArray (0, 0) _ a1 Try.underlying33 rfl (by kernel_rfl) ?_) | (guard_target =~ wpList _ _ _ (⟨_, Op.load 45 (Operand.tmp 3), _, _, _, _⟩ :: _) _ _; refine wpList_load_row rfl 45 _ rfl (g + 1) rfl _ (TL 6 x).toArray (0, 0) (.array 6 29) (a2) (by kernel_rfl) rfl (by kernel_rfl) ?_))
      refine (impl_solve R C hR f hm x hx _).mono ?_
      rintro e wm ⟨rfl, hn⟩
      rw [← HF.out, ← HS.out]
      replace a4 := bnext a4 hn (Nat.le_of_lt a1.lt)
      replace a1 := a1.below hn a1.lt
      replace a2 := a2.below hn a2.lt
      replace a3 := a3.below hn a3.lt
      clear hn HF HS
      rcases hfine : fineL RF SU with _ | _
      · have hs : solV RF SU = .tuple #[VV fun _ => 0, .bool false] := by unfold solV; rw [hfine]; rfl
        have HV := Lib.hid (show solveV R C f x = .tuple #[VV fun _ => 0, .int .i64 6] by rw [HV0.out, hfine]; rfl)
        rw [hs]
        clear hs hfine HV0
        go_upto_region 4 with (first | (guard_target =~ wpList _ _ _ (⟨_, Op.store 45 _ _, _, _, _, _⟩ :: _) _ _; refine wpList_store_fresh (cells := (TL 6 fun _ => 0).toArray) rfl 45 _ _ rfl rfl rfl (by kernel_rfl) rfl (TL_one _ _) ?_))
        have c1 := a1.alloc (.cells (TL 6 fun _ => 0).toArray 45)
        have c2 := a2.alloc (.cells (TL 6 fun _ => 0).toArray 45)
        have c3 := a3.alloc (.cells (TL 6 fun _ => 0).toArray 45)
        have c5 : RB (wm.alloc (.cells (TL 6 fun _ => 0).toArray 45)) wm.heap.size 45 6 (fun _ => 0) := heap_alloc_last _ _
        have c4 := a4.alloc (show g ≤ wm.heap.size by have := a3.lt; omega) (.cells (TL 6 fun _ => 0).toArray 45)
        obtain ⟨k5, hk5⟩ : ∃ k, k = wm.heap.size := ⟨_, rfl⟩
        have l5 : g + 1 + 1 < k5 := by rw [hk5]; exact a3.lt
        rw [← hk5] at c5 ⊢
        generalize wm.alloc (.cells (TL 6 fun _ => 0).toArray 45) = wq at c1 c2 c3 c4 c5 ⊢
        clear a1 a2 a3 a4 hk5
        go_wp2_with (first | (guard_target =~ wpList _ _ _ (⟨_, Op.build 45 _, _, _, _, _⟩ :: _) _ _; refine wpList_build0 rfl 45 rfl (TL 6 fun _ => 0).toArray (by kernel_rfl) ?_) | (guard_target =~ wpList _ _ _ (⟨_, Op.store 45 (Operand.tmp 4) _, _, _, _, _⟩ :: _) _ _; refine wpList_store_row rfl 45 _ _ rfl (g + 1 + 1) (TL 6 fun _ => 0).toArray rfl rfl _ _ (c3) (by kernel_rfl) rfl (TL_one _ _) ?_))
        refine bodyPost_ret (v := .tuple #[VV (fun _ => 0), .int .i64 6]) ?_ rfl ⟨congrArg Ending.returned HV.out.symm, by obtain rfl := HG.out; exact Below.setRow c4 (by omega) _⟩
        exact results_cell_tmp2 rfl _ _ (g + 1 + 1) _ _ (0, 0) (.array 6 29) _ rfl rfl (c3.setRow _) (by kernel_rfl) rfl (by kernel_rfl)
      · have hs : solV RF SU = .tuple #[VV (xP RF SU 6), .bool true] := by unfold solV; rw [hfine]; rfl
        have HV := Lib.hid (show solveV R C f x = .tuple #[VV (xP RF SU 6), .int .i64 0] by rw [HV0.out, hfine]; rfl)
        rw [hs]
        clear hs hfine HV0
        generalize xP RF SU 6 = XX at HV ⊢
        go_upto_region 4 with (first | (guard_target =~ wpList _ _ _ (⟨_, Op.store 45 _ _, _, _, _, _⟩ :: _) _ _; refine wpList_store_fresh (cells := (TL 6 XX).toArray) rfl 45 _ _ rfl rfl rfl (by kernel_rfl) rfl (TL_one _ _) ?_))
        have c1 := a1.alloc (.cells (TL 6 XX).toArray 45)
        have c2 := a2.alloc (.cells (TL 6 XX).toArray 45)
        have c3 := a3.alloc (.cells (TL 6 XX).toArray 45)
        have c5 : RB (wm.alloc (.cells (TL 6 XX).toArray 45)) wm.heap.size 45 6 (XX) := heap_alloc_last _ _
        have c4 := a4.alloc (show g ≤ wm.heap.size by have := a3.lt; omega) (.cells (TL 6 XX).toArray 45)
        obtain ⟨k5, hk5⟩ : ∃ k, k = wm.heap.size := ⟨_, rfl⟩
        have l5 : g + 1 + 1 < k5 := by rw [hk5]; exact a3.lt
        rw [← hk5] at c5 ⊢
        generalize wm.alloc (.cells (TL 6 XX).toArray 45) = wq at c1 c2 c3 c4 c5 ⊢
        clear a1 a2 a3 a4 hk5
        go_wp2_with (first | (guard_target =~ wpList _ _ _ (⟨_, Op.load 45 (Operand.tmp 6), _, _, _, _⟩ :: _) _ _; refine wpList_load_row rfl 45 _ rfl (k5) rfl _ (TL 6 XX).toArray (0, 0) (.array 6 29) (c5) (by kernel_rfl) rfl (by kernel_rfl) ?_) | (guard_target =~ wpList _ _ _ (⟨_, Op.store 45 (Operand.tmp 4) _, _, _, _, _⟩ :: _) _ _; refine wpList_store_row rfl 45 _ _ rfl (g + 1 + 1) (TL 6 XX).toArray rfl rfl _ _ (c3) (by kernel_rfl) rfl (TL_one _ _) ?_))
        refine bodyPost_ret (v := .tuple #[VV (XX), .int .i64 0]) ?_ rfl ⟨congrArg Ending.returned HV.out.symm, by obtain rfl := HG.out; exact Below.setRow c4 (by omega) _⟩
        exact results_cell_tmp2 rfl _ _ (g + 1 + 1) _ _ (0, 0) (.array 6 29) _ rfl rfl (c3.setRow _) (by kernel_rfl) rfl (by kernel_rfl)
end Go.Proofs.Ytjbaeomjinnlhaa
