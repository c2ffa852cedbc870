/-
  InverseMatrix.
-/
import Derived.Test.YtjbaeomjinnlhaaOk2
import Derived.Deep.RegionHeld
import Derived.Test.YtjbaeomjinnlhaaSol
import Derived.Test.YtjbaeomjinnlhaaIsRed
namespace Go.Proofs.Ytjbaeomjinnlhaa
set_option linter.unusedVariables false
set_option linter.unusedSimpArgs false
open Go.ChangeShapes Go.WideShapes Go.ChangeAt Go.RowKit

def unitF (k : Nat) : Nat → Int := fun s => if s = k then 1 else 0
theorem unitF_b (k : Nat) : VW (unitF k) := fun s => by unfold unitF; split <;> omega
theorem unitF_put (k : Nat) : upd (fun _ => 0) k 1 = unitF k := by funext s; unfold upd unitF; rfl
theorem apply_unit {f : Nat → Int} (hf : VW f) (k : Nat) (hk : k < 6) (s : Nat) : applyF f (unitF k) s = f (s * 6 + k) := by
  have h1 : ∀ n, n ≤ 6 → dotI (fun j => f (s * 6 + j)) (unitF k) n = if k < n then f (s * 6 + k) else 0 := by
    intro n
    induction n with
    | zero => intro _; rfl
    | succ n ih =>
      intro hn
      unfold dotI
      rw [ih (by omega)]
      have m0 : ∀ a : Int, mulI a 0 = 0 := fun a => by unfold mulI; rw [show (0 : Int).toNat = 0 from rfl, Nim.mul_zero_right]; rfl
      by_cases e : n = k
      · have u : unitF k n = 1 := by unfold unitF; rw [if_pos e]
        rw [u, if_neg (by omega), if_pos (by omega), e]
        have hb := hf (s * 6 + k)
        unfold xorI mulI
        rw [show (1 : Int).toNat = 1 from rfl, Nim.mul_comm, Nim.mul_one_left (by omega), show (0 : Int).toNat = 0 from rfl, Int.toNat_natCast, Nat.zero_xor]
        omega
      · have u : unitF k n = 0 := by unfold unitF; rw [if_neg e]
        rw [u, m0]
        by_cases e2 : k < n
        · rw [if_pos e2, if_pos (by omega), xorI_zero (hf _).1]
        · rw [if_neg e2, if_neg (by omega), xorI_zero (Int.le_refl 0)]
  unfold applyF
  rw [h1 6 (Nat.le_refl 6), if_pos hk]
theorem red_firsts6 (f : Nat → Int) (hf : VW f) (R : Nat) : (Nim.redN (natG f) 6).2 = (Nim.redN (Nim.wide (natG f) R) 6).2 := ((Nim.wide_like (natG f) R).redN (natG_b hf) 6 (Nat.le_refl 6)).2
/-- as many first columns as there are: the matrix of ones -/
theorem full_one {R : Nat} {f : Nat → Int} (hf : VW f) (hR : R ≤ 6) (hok : okB (R : Int) (R : Int) f = true) (hq : rankN f R = R) : ∀ r k, r < 6 → k < 6 → redF f R (r * 6 + k) = if r = k ∧ r < R then 1 else 0 := fun r k hr hk => by
  have h := Nim.inv_full (natG_b hf) hR (ok_zr hok) (ok_zc hok) (by rw [red_firsts6 f hf R]; exact hq) r k hr hk
  rw [((Nim.wide_like (natG f) R).redN (natG_b hf) 6 (Nat.le_refl 6)).1 r k hr hk] at h
  unfold redF wideM
  rw [show (r * 6 + k) / 6 = r from by omega, show (r * 6 + k) % 6 = k from by omega, h]
  split <;> rfl
theorem full_same {R : Nat} {f : Nat → Int} (hf : VW f) (hR : R ≤ 6) (hok : okB (R : Int) (R : Int) f = true) (hq : rankN f R = R) : sameC (redF f R) (oneN R) = true := by
  unfold sameC
  simp only [List.all_eq_true, List.mem_range, beq_iff_eq]
  intro i hi k hk
  rw [full_one hf hR hok hq i k hi hk]
  unfold oneN
  rw [show (i * 6 + k) / 6 = i from by omega, show (i * 6 + k) % 6 = k from by omega]
  by_cases h : i = k ∧ i < R
  · rw [if_pos h, if_pos (by omega)]
  · rw [if_neg h, if_neg (by omega)]
theorem rank_le {R : Nat} {f : Nat → Int} (hf : VW f) (hok : okB (R : Int) (R : Int) f = true) : rankN f R ≤ R := by
  unfold rankN
  rw [← red_firsts6 f hf R]
  exact (ok_zr hok).len (natG_b hf) 6 (Nat.le_refl 6)
theorem less_zero {R : Nat} {f : Nat → Int} (hf : VW f) (j k : Nat) (hj : rankN f R ≤ j) (h6 : j < 6) (hk : k < 6) : redF f R (j * 6 + k) = 0 := by
  have hr := Nim.redN_red (Nim.wide_b (natG_b hf) R) 6
  have h := hr.rest j hj h6 k hk
  unfold redF wideM
  rw [show (j * 6 + k) / 6 = j from by omega, show (j * 6 + k) % 6 = k from by omega, h]; rfl
theorem less_same {R : Nat} {f : Nat → Int} (hf : VW f) (hR : R ≤ 6) (hok : okB (R : Int) (R : Int) f = true) (hq : ¬ rankN f R = R) : sameC (redF f R) (oneN R) = false := by
  have hl := rank_le hf hok
  cases h : sameC (redF f R) (oneN R) with
  | false => rfl
  | true =>
    unfold sameC at h
    simp only [List.all_eq_true, List.mem_range, beq_iff_eq] at h
    have h1 := h (R - 1) (by omega) (R - 1) (by omega)
    rw [less_zero hf (R - 1) (R - 1) (by omega) (by omega) (by omega)] at h1
    unfold oneN at h1
    rw [if_pos (by omega)] at h1
    exact absurd h1 (by decide)
theorem full_first {R : Nat} {f : Nat → Int} (hf : VW f) (hR : R ≤ 6) (hok : okB (R : Int) (R : Int) f = true) (hq : rankN f R = R) (j : Nat) (hj : j < R) : firstI (fun k => redF f R (j * 6 + k)) = j :=
  firstI_is (fun t => redF_b hf R _) (by omega) (by rw [full_one hf hR hok hq j j (by omega) (by omega), if_pos ⟨rfl, hj⟩]; decide) (fun k hk => by rw [full_one hf hR hok hq j k (by omega) (by omega), if_neg (by omega)])
theorem full_none {R : Nat} {f : Nat → Int} (hf : VW f) (hq : rankN f R = R) (j : Nat) (hj : R ≤ j) (h6 : j < 6) : ¬ firstI (fun k => redF f R (j * 6 + k)) < 6 := by
  have := row_none hf R j h6 (by show rankN f R ≤ j; omega)
  omega
theorem full_fine {R : Nat} {f : Nat → Int} (hf : VW f) (hR : R ≤ 6) (hok : okB (R : Int) (R : Int) f = true) (hq : rankN f R = R) (v : Nat → Int) : fineL (redF f R) (applyF (trcF f R) v) = true := by
  unfold fineL
  rw [decide_eq_true_eq]
  intro n hn
  by_cases h : n < R
  · exact .inl (by rw [full_first hf hR hok hq n h]; omega)
  · exact .inr (sums_zero hf hok v n hn (by omega))
theorem full_col {R : Nat} {f : Nat → Int} (hf : VW f) (hR : R ≤ 6) (hok : okB (R : Int) (R : Int) f = true) (hq : rankN f R = R) (SU : Nat → Int) : ∀ n, n ≤ 6 → ∀ i, xP (redF f R) SU n i = if i < n ∧ i < R then SU i else 0
  | 0, _, i => by rw [if_neg (by omega)]; rfl
  | n + 1, hn, i => by
    have ih := full_col hf hR hok hq SU n (by omega) i
    by_cases h : n < R
    · rw [xP_yes (redF f R) SU n n (by omega) (full_first hf hR hok hq n h).symm]
      unfold upd
      by_cases e : i = n
      · rw [if_pos e, if_pos (by omega), e]
      · rw [if_neg e, ih]
        by_cases e2 : i < n ∧ i < R
        · rw [if_pos e2, if_pos (by omega)]
        · rw [if_neg e2, if_neg (by omega)]
    · rw [xP_no (redF f R) SU n (full_none hf hq n (by omega) (by omega)), ih]
      by_cases e2 : i < n ∧ i < R
      · rw [if_pos e2, if_pos (by omega)]
      · rw [if_neg e2, if_neg (by omega)]
theorem less_fine {R : Nat} {f : Nat → Int} (hf : VW f) (hR : R ≤ 6) (hok : okB (R : Int) (R : Int) f = true) (hq : ¬ rankN f R = R) : ∃ k, k < R ∧ fineL (redF f R) (applyF (trcF f R) (unitF k)) = false := by
  have hl := rank_le hf hok
  obtain ⟨k, hk, hne⟩ := Nim.inv_less (natG_b hf) hR (ok_zr hok) (show (Nim.redN (natG f) 6).2.length < R by rw [red_firsts6 f hf R]; show rankN f R < R; omega)
  refine ⟨k, hk, ?_⟩
  have e : applyF (trcF f R) (unitF k) (R - 1) = ((wideM f R (R - 1) (6 + k) : Nat) : Int) := by
    rw [apply_unit (trcF_b hf R) k (by omega)]
    unfold trcF
    rw [show ((R - 1) * 6 + k) / 6 = R - 1 from by omega, show ((R - 1) * 6 + k) % 6 = k from by omega]
  unfold fineL
  rw [decide_eq_false_iff_not]
  intro x
  rcases x (R - 1) (by omega) with y | y
  · rw [row_none hf R (R - 1) (by omega) (by show rankN f R ≤ R - 1; omega)] at y; omega
  · rw [e] at y
    exact hne (by unfold wideM at y; omega)
theorem trc_zero {R : Nat} {f : Nat → Int} (hf : VW f) (hok : okB (R : Int) (R : Int) f = true) (s : Nat) (hs : s < 36) (h : R ≤ s / 6 ∨ R ≤ s % 6) : trcF f R s = 0 := by
  unfold trcF wideM
  rcases h with h | h
  · rw [Nim.wide_zr (natG_b hf) (ok_zr hok) 6 (Nat.le_refl 6) (s / 6) (6 + s % 6) h (by omega) (by omega)]; rfl
  · rw [Nim.wide_zc (natG_b hf) (s % 6) h 6 (Nat.le_refl 6) (s / 6) (by omega)]; rfl
/-- columns that are laid one by one -/
def colX (X : Nat → Nat → Int) (R k i : Nat) : Nat → Int := fun s => if (s % 6 < k ∨ s % 6 = k ∧ s / 6 < i) ∧ s / 6 < R then X (s % 6) (s / 6) else 0
theorem colX_zero (X : Nat → Nat → Int) (R : Nat) : colX X R 0 0 = fun _ => 0 := by funext s; unfold colX; rw [if_neg (by omega)]
theorem colX_put (X : Nat → Nat → Int) (R k i : Nat) (hi : i < R) (hR : R ≤ 6) (hk : k < 6) : ∀ s, s < 36 → upd (colX X R k i) (i * 6 + k) (X k i) s = colX X R k (i + 1) s := fun s hs => by
  unfold upd colX
  by_cases e : s = i * 6 + k
  · rw [if_pos e, if_pos (by omega), show s % 6 = k from by omega, show s / 6 = i from by omega]
  · rw [if_neg e]
    by_cases h : (s % 6 < k ∨ s % 6 = k ∧ s / 6 < i) ∧ s / 6 < R
    · rw [if_pos h, if_pos (by omega)]
    · rw [if_neg h, if_neg (by omega)]
theorem colX_next (X : Nat → Nat → Int) (R k : Nat) : colX X R k R = colX X R (k + 1) 0 := by
  funext s; unfold colX
  by_cases h : (s % 6 < k ∨ s % 6 = k ∧ s / 6 < R) ∧ s / 6 < R
  · rw [if_pos h, if_pos (by omega)]
  · rw [if_neg h, if_neg (by omega)]
theorem col_end {R : Nat} {f : Nat → Int} (hf : VW f) (hR : R ≤ 6) (hok : okB (R : Int) (R : Int) f = true) (hq : rankN f R = R) : ∀ s, s < 36 → colX (fun k => xP (redF f R) (applyF (trcF f R) (unitF k)) 6) R R 0 s = trcF f R s := fun s hs => by
  unfold colX
  by_cases h : s / 6 < R ∧ s % 6 < R
  · rw [if_pos (by omega)]
    show xP (redF f R) (applyF (trcF f R) (unitF (s % 6))) 6 (s / 6) = _
    rw [full_col hf hR hok hq _ 6 (Nat.le_refl 6), if_pos (by omega), apply_unit (trcF_b hf R) (s % 6) (by omega), show s / 6 * 6 + s % 6 = s from by omega]
  · rw [if_neg (by omega), trc_zero hf hok s hs (by omega)]
def invV (r c : Int) (f : Nat → Int) : Value := if okB r c f = true then (if r = c then (if rankN f r.toNat = r.toNat then .tuple #[MV r r (trcF f r.toNat), .int .i64 0] else .tuple #[MV 0 0 (fun _ => 0), .int .i64 6]) else .tuple #[MV 0 0 (fun _ => 0), .int .i64 4]) else .tuple #[MV 0 0 (fun _ => 0), .int .i64 1]
theorem invV_form (r c : Int) (f : Nat → Int) (hm : MW r c f) : ∃ R C F k, invV r c f = .tuple #[MV R C F, .int .i64 k] ∧ MW R C F := by
  have hz : MW 0 0 fun _ => 0 := ⟨by omega, by omega, by omega, by omega, fun _ => ⟨Int.le_refl 0, show (0 : Int) < 65536 by decide⟩⟩
  unfold invV
  split
  · split
    · split
      · exact ⟨_, _, _, _, rfl, hm.1, hm.2.1, hm.1, hm.2.1, trcF_b hm.2.2.2.2 _⟩
      · exact ⟨_, _, _, _, rfl, hz⟩
    · exact ⟨_, _, _, _, rfl, hz⟩
  · exact ⟨_, _, _, _, rfl, hz⟩
section
variable {P : Program} {w : World} {o : Oper} {a : Act}
theorem exec_field_grid {gt rt : TypeId} {fs : Array Field} (ty : TypeId) (x : Operand) (n : Nat) (ho : o.op = .field ty x n) (r c : Int) (f : Nat → Int) (hx : a.eval x = MV r c f)
    (fd : Field) (ht : P.underlying ty = some (.struct fs)) (hf : fs[n]? = some fd) (hty : fd.type = gt) (hoff : fd.offset = 2) (hg : P.underlying gt = some (.array 6 rt)) (hs : (P.info? gt).map (·.size) = some 36) :
    (execOp a.eval o).run P w = .ok (.value (.agg (TL 36 f).toArray)) w := by
  unfold execOp
  simp only [ho, hx, Sem.run_bind, Sem.run_pure, Result.andThen_ok, field_grid n fd ht hf hty hoff hg hs r c f]
theorem exec_neq_agg (ty ty' : TypeId) (x y : Operand) (ho : o.op = .binOp .neq ty x y ty') (b : Bool) (xs ys : Array Value) (hx : a.eval x = .agg xs) (hy : a.eval y = .agg ys)
    (hG : P.eqGuardType P.depth ty = false) (hr : (Op.equal ty (.agg xs) (.agg ys)).run P w = .ok b w) : (execOp a.eval o).run P w = .ok (.value (.bool (!b))) w := by
  unfold execOp
  have : (do eqGuard .neq ty x y (.agg xs) (.agg ys); binOp .neq ty (.agg xs) (.agg ys) : Sem Value).run P w = .ok (.bool (!b)) w := by
    have hp : ∀ w : World, Sem.run P (Sem.program Sem.pure) w = .ok P w := fun _ => rfl
    simp [eqGuard, binOp, hr, Go.program, hp, hG]
  simp only [ho, hx, hy, Sem.run_bind, Sem.run_pure, Result.andThen_ok] at this ⊢
  rw [this]
  rfl
end

set_option maxRecDepth 100000 in
set_option maxHeartbeats 2000000 in
theorem impl_InverseMatrix (r c : Int) (f : Nat → Int) (hm : MW r c f) (w : World) : Calls Try.prog 57 #[MV r c f] w fun e w' => e = .returned (invV r c f) ∧ Below w.heap.size w w' := by
  go_enter Try.func57, Try.ntmps57
  go_upto_region 1 with fail
  obtain ⟨a1, a2, a4, a5⟩ := new2 w (.cells (CL r c f).toArray 33) (.cells (CL 0 0 fun _ => 0).toArray 33)
  rw [zero38]
  obtain ⟨g, hg⟩ : ∃ g, g = w.heap.size := ⟨_, rfl⟩
  rw [← hg] at a1 a2 a4 a5 ⊢
  generalize World.alloc (World.alloc w _) _ = w2 at a1 a2 a4 a5 ⊢
  replace a1 : MB w2 g 33 r c f := a1
  replace a2 : MB w2 (g + 1) 33 0 0 (fun _ => 0) := a2
  have HG := Lib.hid hg
  clear hg
  go_wp2_with (first | (guard_target =~ wpList _ _ _ (⟨_, Op.load 33 (Operand.tmp 1), _, _, _, _⟩ :: _) _ _; refine wpList_load_row rfl 33 _ rfl (g) rfl _ (CL r c f).toArray (0, 0) _ a1 Try.underlying33 rfl (by kernel_rfl) ?_))
  refine (impl_ValidMatrix r c f hm _).mono ?_
  rintro e wn ⟨rfl, hn⟩
  replace a1 := a1.below hn a1.lt
  replace a2 := a2.below hn a2.lt
  replace a4 := bnext a4 hn (by omega)
  have a6 : g + 1 + 1 ≤ wn.heap.size := by have := hn.size; omega
  clear hn
  clear a5
  rcases hok : okB r c f with _ | _
  · have hV : invV r c f = .tuple #[MV 0 0 (fun _ => 0), .int .i64 1] := by unfold invV; rw [hok]; rfl
    have HV := Lib.hid hV
    clear hok hV
    go_wp2_with (first | (guard_target =~ wpList _ _ _ (⟨_, Op.build 33 _, _, _, _, _⟩ :: _) _ _; refine wpList_build0 rfl 33 rfl (CL 0 0 fun _ => 0).toArray (by kernel_rfl) ?_) | (guard_target =~ wpList _ _ _ (⟨_, Op.store 33 (Operand.tmp 2) _, _, _, _, _⟩ :: _) _ _; refine wpList_store_row rfl 33 _ _ rfl (g + 1) (CL 0 0 fun _ => 0).toArray rfl rfl _ _ a2 (by kernel_rfl) rfl (CL_one _ _ _) ?_))
    refine bodyPost_ret (v := .tuple #[MV 0 0 (fun _ => 0), .int .i64 1]) ?_ rfl ⟨congrArg Ending.returned HV.out.symm, by obtain rfl := HG.out; exact Below.setRow a4 (Nat.le_succ _) _⟩
    exact results_cell_tmp2 rfl _ _ (g + 1) _ _ (0, 0) _ _ rfl rfl (a2.setRow _) Try.underlying33 rfl (by kernel_rfl)
  · obtain ⟨R, C, hRe, hCe, h1R, hR, _, hC⟩ := ok_dims hok
    subst hRe; subst hCe
    have HF := Lib.hid hm.2.2.2.2
    go_wp2_with (first | (guard_target =~ wpList _ _ _ (⟨_, Op.load 33 (Operand.tmp 1), _, _, _, _⟩ :: _) _ _; refine wpList_load_row rfl 33 _ rfl (g) rfl _ (CL R C f).toArray (0, 0) _ a1 Try.underlying33 rfl (by kernel_rfl) ?_))
    refine (isSquare_any R C f hm _).mono ?_
    rintro e wn2 ⟨rfl, hn⟩
    replace a4 := bnext a4 hn (Nat.le_of_lt a1.lt)
    replace a1 := a1.below hn a1.lt
    replace a2 := a2.below hn a2.lt
    clear hn a6
    by_cases hrc : R = C
    · subst hrc
      have T1 : ((R : Int) == (R : Int)) = true := by simp
      obtain ⟨RF, hRF⟩ : ∃ RF, RF = redF f R := ⟨_, rfl⟩
      obtain ⟨TF, hTF⟩ : ∃ TF, TF = trcF f R := ⟨_, rfl⟩
      obtain ⟨q, hq⟩ : ∃ q, q = rankN f R := ⟨_, rfl⟩
      have HRF := Lib.hid hRF
      have HTF := Lib.hid hTF
      have HQ := Lib.hid hq
      have HOK := Lib.hid hok
      clear hok hRF hTF hq
      go_wp2_with (first | (guard_target =~ wpList _ _ _ (⟨_, Op.load 33 (Operand.tmp 1), _, _, _, _⟩ :: _) _ _; refine wpList_load_row rfl 33 _ rfl (g) rfl _ (CL R R f).toArray (0, 0) _ a1 Try.underlying33 rfl (by kernel_rfl) ?_))
      refine (reduction_any R hR R f hm _).mono ?_
      rintro e wm ⟨rfl, hn⟩
      rw [← HRF.out, ← HTF.out]
      have b1 := a1.below hn a1.lt
      have b2 := a2.below hn a2.lt
      have b4 := bnext a4 hn (Nat.le_of_lt a1.lt)
      clear a1 a2 a4 hn
      have hlt := b2.lt
      obtain ⟨s1, s2, s4, s5⟩ := new2 wm (.cells (CL 0 0 fun _ => 0).toArray 33) (.cells (CL 0 0 fun _ => 0).toArray 33)
      replace s1 : MB _ wm.heap.size 33 0 0 (fun _ => 0) := s1
      replace s2 : MB _ (wm.heap.size + 1) 33 0 0 (fun _ => 0) := s2
      have c1 := (b1.alloc (.cells (CL 0 0 fun _ => 0).toArray 33)).alloc (.cells (CL 0 0 fun _ => 0).toArray 33)
      have c2 := (b2.alloc (.cells (CL 0 0 fun _ => 0).toArray 33)).alloc (.cells (CL 0 0 fun _ => 0).toArray 33)
      have c4 := (b4.alloc (show g ≤ wm.heap.size by omega) (.cells (CL 0 0 fun _ => 0).toArray 33)).alloc (show g ≤ _ by rw [World.size_alloc]; omega) (.cells (CL 0 0 fun _ => 0).toArray 33)
      have t2 := s2.setRow_other (b := wm.heap.size) (by omega) (CL R R RF).toArray
      go_upto_region 6 with (first | (guard_target =~ wpList _ _ _ (⟨_, Op.store 33 (Operand.tmp 4) _, _, _, _, _⟩ :: _) _ _; rw [zero38]; refine wpList_store_row rfl 33 _ _ rfl (wm.heap.size) (CL R R RF).toArray rfl rfl _ _ s1 (by kernel_rfl) (by rw [CL_size, CL_size]) (CL_one _ _ _) ?_) | (guard_target =~ wpList _ _ _ (⟨_, Op.store 33 (Operand.tmp 5) _, _, _, _, _⟩ :: _) _ _; refine wpList_store_row rfl 33 _ _ rfl (wm.heap.size + 1) (CL R R TF).toArray rfl rfl _ _ t2 (by kernel_rfl) (by rw [CL_size, CL_size]) (CL_one _ _ _) ?_))
      have e1 : MB (World.setRow (World.setRow _ wm.heap.size (CL R R RF).toArray) (wm.heap.size + 1) (CL R R TF).toArray) wm.heap.size 33 R R RF := (s1.setRow RF).setRow_other (by omega) _
      have e5 : MB (World.setRow (World.setRow _ wm.heap.size (CL R R RF).toArray) (wm.heap.size + 1) (CL R R TF).toArray) (wm.heap.size + 1) 33 R R TF := t2.setRow TF
      have e0 := (c1.setRow_other (b := wm.heap.size) (by omega) (CL R R RF).toArray).setRow_other (b := wm.heap.size + 1) (by omega) (CL R R TF).toArray
      have e2 := (c2.setRow_other (b := wm.heap.size) (by omega) (CL R R RF).toArray).setRow_other (b := wm.heap.size + 1) (by omega) (CL R R TF).toArray
      have e4 := Below.setRow (Below.setRow c4 (show g ≤ wm.heap.size by omega) (CL R R RF).toArray) (show g ≤ wm.heap.size + 1 by omega) (CL R R TF).toArray
      generalize World.setRow (World.setRow _ wm.heap.size (CL R R RF).toArray) (wm.heap.size + 1) (CL R R TF).toArray = wk at e0 e1 e2 e4 e5 ⊢
      obtain ⟨k, hk⟩ : ∃ k, k = wm.heap.size := ⟨_, rfl⟩
      rw [← hk] at e1 e5 hlt ⊢
      clear s1 s2 s4 s5 c1 c2 c4 t2 b1 b2 b4 hk
      by_cases hqR : q = R
      · have HE := Lib.hid hqR
        have T2 : sameC RF (oneN R) = true := by rw [HRF.out]; exact full_same HF.out hR HOK.out (HQ.out.symm.trans hqR)
        have hV : invV R R f = .tuple #[MV R R TF, .int .i64 0] := by unfold invV; rw [HOK.out, if_pos rfl, if_pos rfl, show (R : Int).toNat = R from rfl, ← HQ.out, ← HTF.out, if_pos HE.out]
        have HV := Lib.hid hV
        clear hV
        clear hqR
        refine wp_region_held_drew (S := (fun v => MB v k 33 R R RF ∧ MB v g 33 R R f ∧ MB v (k + 1) 33 R R TF ∧ MB v (g + 1) 33 0 0 (fun _ => 0) ∧ Hid (Below g w v))) (by kernel_rfl) ?hS6t (fun hS => ?_)
        case hS6t => exact ⟨e1, e0, e5, e2, Lib.hid e4.drew⟩
        change wpAnyH _ _ _ _ _ _ _ _ wk.drew at *
        generalize wk.drew = wv0 at hS ⊢
        clear e0 e1 e2 e4 e5
        refine takeH (i := 0) (v := ?v0t) rfl rfl (by kernel_rfl) (by kernel_rfl) (by kernel_rfl) (fun _ _ _ h => h) rfl ?hy0t hS ?rs0t
        case hy0t => (intro wq hq; go_simp; try (with_reducible rfl))
        simp only [Act.put, List.setIfInBounds_toArray, List.set_cons_zero, List.set_cons_succ]
        refine takeH (i := 1) (v := .agg (TL 36 RF).toArray) rfl rfl (by kernel_rfl) (by kernel_rfl) (by kernel_rfl) (fun _ _ _ h => h) rfl ?hy1t hS ?rs1t
        case hy1t => exact fun wq hq => exec_load_mid 31 _ rfl k 2 rfl (TL 36 RF) (.array 6 30) (hq.1.grid) (by kernel_rfl) rfl (by kernel_rfl)
        simp only [Act.put, List.setIfInBounds_toArray, List.set_cons_zero, List.set_cons_succ]
        refine takeH (i := 2) (v := ?v2t) rfl rfl (by kernel_rfl) (by kernel_rfl) (by kernel_rfl) (fun _ _ _ h => h) rfl ?hy2t hS ?rs2t
        case hy2t => (intro wq hq; go_simp; try (with_reducible rfl))
        simp only [Act.put, List.setIfInBounds_toArray, List.set_cons_zero, List.set_cons_succ]
        refine takeH (i := 3) (v := .int .i8 R) rfl rfl (by kernel_rfl) (by kernel_rfl) (by kernel_rfl) (fun _ _ _ h => h) rfl ?hy3t hS ?rs3t
        case hy3t => intro wq hq; have hr := hq.2.1.rows; go_simp; try (with_reducible rfl)
        simp only [Act.put, List.setIfInBounds_toArray, List.set_cons_zero, List.set_cons_succ]
        refine wpAnyH_ready (rs := [4]) (by kernel_rfl) (by simp) ?_
        refine AllReadyH.cons rfl (fun K hK => ?_) AllReadyH.nil
        go_simp
        refine (impl_oneOf R hR _).mono ?_
        rintro e wv1 ⟨rfl, hn⟩
        refine hK.out _ _ ⟨hS.1.below hn hS.1.lt, hS.2.1.below hn hS.2.1.lt, hS.2.2.1.below hn hS.2.2.1.lt, hS.2.2.2.1.below hn hS.2.2.2.1.lt, Lib.hid (bnext hS.2.2.2.2.out hn (Nat.le_of_lt hS.2.1.lt))⟩ (fun hS => ?_)
        clear hK hn
        refine takeH (i := 5) (v := .agg (TL 36 (oneN R)).toArray) rfl rfl (by kernel_rfl) (by kernel_rfl) (by kernel_rfl) (fun _ _ _ h => h) rfl ?hy5t hS ?rs5t
        case hy5t => exact fun wq hq => exec_field_grid 33 _ 2 rfl R R (oneN R) rfl _ Try.underlying33 rfl rfl rfl (gt := 31) (rt := 30) (by kernel_rfl) (by kernel_rfl)
        simp only [Act.put, List.setIfInBounds_toArray, List.set_cons_zero, List.set_cons_succ]
        refine takeH (i := 6) (v := .bool false) rfl rfl (by kernel_rfl) (by kernel_rfl) (by kernel_rfl) (fun _ _ _ h => h) rfl ?hy6t hS ?rs6t
        case hy6t => exact fun wq hq => (exec_neq_agg 31 31 _ _ rfl (sameC RF (oneN R)) _ _ rfl rfl (by kernel_rfl) (grid_run RF (oneN R) wq)).trans (by rw [T2]; rfl)
        simp only [Act.put, List.setIfInBounds_toArray, List.set_cons_zero, List.set_cons_succ]
        refine wpAnyH_done (by kernel_rfl) ?_ _
        obtain ⟨e1, e0, e5, e2, e4⟩ := hS
        replace e4 := e4.out
        go_wp2_with (first | (guard_target =~ wpList _ _ _ (⟨_, Op.load 33 (Operand.tmp 5), _, _, _, _⟩ :: _) _ _; refine wpList_load_row rfl 33 _ rfl (k + 1) rfl _ (CL R R TF).toArray (0, 0) _ e5 Try.underlying33 rfl (by kernel_rfl) ?_) | (guard_target =~ wpList _ _ _ (⟨_, Op.store 33 (Operand.tmp 2) _, _, _, _, _⟩ :: _) _ _; refine wpList_store_row rfl 33 _ _ rfl (g + 1) (CL R R TF).toArray rfl rfl _ _ e2 (by kernel_rfl) rfl (CL_one _ _ _) ?_))
        refine bodyPost_ret (v := .tuple #[MV R R TF, .int .i64 0]) ?_ rfl ⟨congrArg Ending.returned HV.out.symm, by obtain rfl := HG.out; exact Below.setRow e4 (Nat.le_succ _) _⟩
        exact results_cell_tmp2 rfl _ _ (g + 1) _ _ (0, 0) _ _ rfl rfl (e2.setRow _) Try.underlying33 rfl (by kernel_rfl)
      · have HE := Lib.hid hqR
        have T2 : sameC RF (oneN R) = false := by rw [HRF.out]; exact less_same HF.out hR HOK.out (fun x => hqR (HQ.out.trans x))
        have hV : invV R R f = .tuple #[MV 0 0 (fun _ => 0), .int .i64 6] := by unfold invV; rw [HOK.out, if_pos rfl, if_pos rfl, show (R : Int).toNat = R from rfl, ← HQ.out, if_neg HE.out]
        have HV := Lib.hid hV
        clear hV
        clear hqR
        refine wp_region_held_drew (S := (fun v => MB v k 33 R R RF ∧ MB v g 33 R R f ∧ MB v (k + 1) 33 R R TF ∧ MB v (g + 1) 33 0 0 (fun _ => 0) ∧ Hid (Below g w v))) (by kernel_rfl) ?hS6f (fun hS => ?_)
        case hS6f => exact ⟨e1, e0, e5, e2, Lib.hid e4.drew⟩
        change wpAnyH _ _ _ _ _ _ _ _ wk.drew at *
        generalize wk.drew = wv0 at hS ⊢
        clear e0 e1 e2 e4 e5
        refine takeH (i := 0) (v := ?v0f) rfl rfl (by kernel_rfl) (by kernel_rfl) (by kernel_rfl) (fun _ _ _ h => h) rfl ?hy0f hS ?rs0f
        case hy0f => (intro wq hq; go_simp; try (with_reducible rfl))
        simp only [Act.put, List.setIfInBounds_toArray, List.set_cons_zero, List.set_cons_succ]
        refine takeH (i := 1) (v := .agg (TL 36 RF).toArray) rfl rfl (by kernel_rfl) (by kernel_rfl) (by kernel_rfl) (fun _ _ _ h => h) rfl ?hy1f hS ?rs1f
        case hy1f => exact fun wq hq => exec_load_mid 31 _ rfl k 2 rfl (TL 36 RF) (.array 6 30) (hq.1.grid) (by kernel_rfl) rfl (by kernel_rfl)
        simp only [Act.put, List.setIfInBounds_toArray, List.set_cons_zero, List.set_cons_succ]
        refine takeH (i := 2) (v := ?v2f) rfl rfl (by kernel_rfl) (by kernel_rfl) (by kernel_rfl) (fun _ _ _ h => h) rfl ?hy2f hS ?rs2f
        case hy2f => (intro wq hq; go_simp; try (with_reducible rfl))
        simp only [Act.put, List.setIfInBounds_toArray, List.set_cons_zero, List.set_cons_succ]
        refine takeH (i := 3) (v := .int .i8 R) rfl rfl (by kernel_rfl) (by kernel_rfl) (by kernel_rfl) (fun _ _ _ h => h) rfl ?hy3f hS ?rs3f
        case hy3f => intro wq hq; have hr := hq.2.1.rows; go_simp; try (with_reducible rfl)
        simp only [Act.put, List.setIfInBounds_toArray, List.set_cons_zero, List.set_cons_succ]
        refine wpAnyH_ready (rs := [4]) (by kernel_rfl) (by simp) ?_
        refine AllReadyH.cons rfl (fun K hK => ?_) AllReadyH.nil
        go_simp
        refine (impl_oneOf R hR _).mono ?_
        rintro e wv1 ⟨rfl, hn⟩
        refine hK.out _ _ ⟨hS.1.below hn hS.1.lt, hS.2.1.below hn hS.2.1.lt, hS.2.2.1.below hn hS.2.2.1.lt, hS.2.2.2.1.below hn hS.2.2.2.1.lt, Lib.hid (bnext hS.2.2.2.2.out hn (Nat.le_of_lt hS.2.1.lt))⟩ (fun hS => ?_)
        clear hK hn
        refine takeH (i := 5) (v := .agg (TL 36 (oneN R)).toArray) rfl rfl (by kernel_rfl) (by kernel_rfl) (by kernel_rfl) (fun _ _ _ h => h) rfl ?hy5f hS ?rs5f
        case hy5f => exact fun wq hq => exec_field_grid 33 _ 2 rfl R R (oneN R) rfl _ Try.underlying33 rfl rfl rfl (gt := 31) (rt := 30) (by kernel_rfl) (by kernel_rfl)
        simp only [Act.put, List.setIfInBounds_toArray, List.set_cons_zero, List.set_cons_succ]
        refine takeH (i := 6) (v := .bool true) rfl rfl (by kernel_rfl) (by kernel_rfl) (by kernel_rfl) (fun _ _ _ h => h) rfl ?hy6f hS ?rs6f
        case hy6f => exact fun wq hq => (exec_neq_agg 31 31 _ _ rfl (sameC RF (oneN R)) _ _ rfl rfl (by kernel_rfl) (grid_run RF (oneN R) wq)).trans (by rw [T2]; rfl)
        simp only [Act.put, List.setIfInBounds_toArray, List.set_cons_zero, List.set_cons_succ]
        refine wpAnyH_done (by kernel_rfl) ?_ _
        obtain ⟨e1, e0, e5, e2, e4⟩ := hS
        replace e4 := e4.out
        go_wp2_with (first | (guard_target =~ wpList _ _ _ (⟨_, Op.build 33 _, _, _, _, _⟩ :: _) _ _; refine wpList_build0 rfl 33 rfl (CL 0 0 fun _ => 0).toArray (by kernel_rfl) ?_) | (guard_target =~ wpList _ _ _ (⟨_, Op.store 33 (Operand.tmp 2) _, _, _, _, _⟩ :: _) _ _; refine wpList_store_row rfl 33 _ _ rfl (g + 1) (CL 0 0 fun _ => 0).toArray rfl rfl _ _ e2 (by kernel_rfl) rfl (CL_one _ _ _) ?_))
        refine bodyPost_ret (v := .tuple #[MV 0 0 (fun _ => 0), .int .i64 6]) ?_ rfl ⟨congrArg Ending.returned HV.out.symm, by obtain rfl := HG.out; exact Below.setRow e4 (Nat.le_succ _) _⟩
        exact results_cell_tmp2 rfl _ _ (g + 1) _ _ (0, 0) _ _ rfl rfl (e2.setRow _) Try.underlying33 rfl (by kernel_rfl)
    · have T1 : ((R : Int) == (C : Int)) = false := by simp; omega
      have hV : invV R C f = .tuple #[MV 0 0 (fun _ => 0), .int .i64 4] := by unfold invV; rw [hok, if_pos rfl, if_neg (by omega)]
      have HV := Lib.hid hV
      clear hok hV
      go_wp2_with (first | (guard_target =~ wpList _ _ _ (⟨_, Op.build 33 _, _, _, _, _⟩ :: _) _ _; refine wpList_build0 rfl 33 rfl (CL 0 0 fun _ => 0).toArray (by kernel_rfl) ?_) | (guard_target =~ wpList _ _ _ (⟨_, Op.store 33 (Operand.tmp 2) _, _, _, _, _⟩ :: _) _ _; refine wpList_store_row rfl 33 _ _ rfl (g + 1) (CL 0 0 fun _ => 0).toArray rfl rfl _ _ a2 (by kernel_rfl) rfl (CL_one _ _ _) ?_))
      refine bodyPost_ret (v := .tuple #[MV 0 0 (fun _ => 0), .int .i64 4]) ?_ rfl ⟨congrArg Ending.returned HV.out.symm, by obtain rfl := HG.out; exact Below.setRow a4 (Nat.le_succ _) _⟩
      exact results_cell_tmp2 rfl _ _ (g + 1) _ _ (0, 0) _ _ rfl rfl (a2.setRow _) Try.underlying33 rfl (by kernel_rfl)


set_option maxRecDepth 100000 in
set_option maxHeartbeats 2000000 in
theorem spec_InverseMatrix (r c : Int) (f : Nat → Int) (hm : MW r c f) (w : World) : Calls Try.prog 56 #[MV r c f] w fun e w' => e = .returned (invV r c f) ∧ Below w.heap.size w w' := by
  go_enter Try.func56, Try.ntmps56
  go_upto_region 1 with fail
  obtain ⟨a1, a2, a4, a5⟩ := new2 w (.cells (CL r c f).toArray 33) (.cells (CL 0 0 fun _ => 0).toArray 33)
  rw [zero38]
  obtain ⟨g, hg⟩ : ∃ g, g = w.heap.size := ⟨_, rfl⟩
  rw [← hg] at a1 a2 a4 a5 ⊢
  generalize World.alloc (World.alloc w _) _ = w2 at a1 a2 a4 a5 ⊢
  replace a1 : MB w2 g 33 r c f := a1
  replace a2 : MB w2 (g + 1) 33 0 0 (fun _ => 0) := a2
  have HG := Lib.hid hg
  clear hg
  go_wp2_with fail
  refine (l02Ok_any r c f hm g _ _ a1).mono ?_
  rintro e wn ⟨rfl, rfl⟩
  have a6 : g + 1 + 1 ≤ wn.heap.size := by omega
  clear a5
  rcases hok : okB r c f with _ | _
  · have hV : invV r c f = .tuple #[MV 0 0 (fun _ => 0), .int .i64 1] := by unfold invV; rw [hok]; rfl
    have HV := Lib.hid hV
    clear hok hV
    go_wp2_with (first | (guard_target =~ wpList _ _ _ (⟨_, Op.build 33 _, _, _, _, _⟩ :: _) _ _; refine wpList_build0 rfl 33 rfl (CL 0 0 fun _ => 0).toArray (by kernel_rfl) ?_) | (guard_target =~ wpList _ _ _ (⟨_, Op.store 33 (Operand.tmp 2) _, _, _, _, _⟩ :: _) _ _; refine wpList_store_row rfl 33 _ _ rfl (g + 1) (CL 0 0 fun _ => 0).toArray rfl rfl _ _ a2 (by kernel_rfl) rfl (CL_one _ _ _) ?_))
    refine bodyPost_ret (v := .tuple #[MV 0 0 (fun _ => 0), .int .i64 1]) ?_ rfl ⟨congrArg Ending.returned HV.out.symm, by obtain rfl := HG.out; exact Below.setRow a4 (Nat.le_succ _) _⟩
    exact results_cell_tmp2 rfl _ _ (g + 1) _ _ (0, 0) _ _ rfl rfl (a2.setRow _) Try.underlying33 rfl (by kernel_rfl)
  · obtain ⟨R, C, hRe, hCe, h1R, hR, _, hC⟩ := ok_dims hok
    subst hRe; subst hCe
    have HF := Lib.hid hm.2.2.2.2
    have d1 := a1.rows
    have d2 := a1.cols
    by_cases hrc : R = C
    · subst hrc
      have T1 : ((R : Int) != (R : Int)) = false := by simp
      obtain ⟨RF, hRF⟩ : ∃ RF, RF = redF f R := ⟨_, rfl⟩
      obtain ⟨TF, hTF⟩ : ∃ TF, TF = trcF f R := ⟨_, rfl⟩
      obtain ⟨q, hq⟩ : ∃ q, q = rankN f R := ⟨_, rfl⟩
      have HRF := Lib.hid hRF
      have HTF := Lib.hid hTF
      have HQ := Lib.hid hq
      have HOK := Lib.hid hok
      obtain ⟨XX, hXX⟩ : ∃ XX : Nat → Nat → Int, XX = fun k => xP RF (applyF TF (unitF k)) 6 := ⟨_, rfl⟩
      have HXX := Lib.hid hXX
      clear hok hRF hTF hq hXX
      go_upto_region 6 with (first | guard_target =~ wpList _ _ _ (⟨_, Op.build 33 _, _, _, _, _⟩ :: _) _ _; refine wpList_build2 rfl 33 _ _ rfl (R) (R) rfl rfl (fun _ _ => by kernel_rfl) ?_ | guard_target =~ wpList _ _ _ (⟨_, Op.store 33 _ _, _, _, _, _⟩ :: _) _ _; refine wpList_store_fresh (cells := (CL R R fun _ => 0).toArray) rfl 33 _ _ rfl rfl rfl (by kernel_rfl) (by rw [CL_size]; rfl) (CL_one _ _ _) ?_)
      have b1 := a1.alloc (.cells (CL R R fun _ => 0).toArray 33)
      have b2 := a2.alloc (.cells (CL R R fun _ => 0).toArray 33)
      have b4 := a4.alloc (Nat.le_of_lt a1.lt) (.cells (CL R R fun _ => 0).toArray 33)
      have b5 : MB (wn.alloc (.cells (CL R R fun _ => 0).toArray 33)) wn.heap.size 33 R R (fun _ => 0) := heap_alloc_last _ _
      obtain ⟨ob, hob⟩ : ∃ ob, ob = wn.heap.size := ⟨_, rfl⟩
      have lo : g + 1 < ob := by rw [hob]; exact a2.lt
      rw [← hob] at b5 ⊢
      generalize wn.alloc (.cells (CL R R fun _ => 0).toArray 33) = wk at b1 b2 b4 b5 ⊢
      clear a1 a2 a4 a6 d1 d2 hob
      go_wp2_with fail
      go_loopw [5] (fun y wr => ∃ (k : Nat), y = .int .i64 k ∧ k ≤ R ∧ MB wr g 33 R R f ∧ MB wr (g + 1) 33 0 0 (fun _ => 0) ∧ MB wr ob 33 R R (colX XX R k 0) ∧ Hid (Below g w wr) ∧ Hid (∀ j, j < k → fineL RF (applyF TF (unitF j)) = true)) (fun y _ => (6 - intOf y).toNat)
      case atStart => exact ⟨0, rfl, by omega, b1, b2, b5.ext (fun s _ => by rw [colX_zero]), Lib.hid b4, Lib.hid (fun j hj => by omega)⟩
      case round =>
        clear b1 b2 b4 b5
        obtain ⟨k, rfl, hk, m1, m2, m3, HB, HJ⟩ := hrel
        have d2 := m1.cols
        by_cases hlt : k < R
        · have T3 : decide ((k : Int) < (R : Int)) = true := by simp; omega
          have k6 : k < 6 := by omega
          have k1 : (k : Int) < 6 := by omega
          go_upto_region 10 with (first | guard_target =~ wpList _ _ _ (⟨_, Op.build 45 _, _, _, _, _⟩ :: _) _ _; refine wpList_build0 rfl 45 rfl (TL 6 fun _ => 0).toArray (by kernel_rfl) ?_ | guard_target =~ wpList _ _ _ (⟨_, Op.store 45 _ _, _, _, _, _⟩ :: _) _ _; refine wpList_store_fresh (cells := (TL 6 fun _ => 0).toArray) rfl 45 _ _ rfl rfl rfl (by kernel_rfl) rfl (TL_one _ _) ?_)
          have c1 := m1.alloc (.cells (TL 6 fun _ => 0).toArray 45)
          have c2 := m2.alloc (.cells (TL 6 fun _ => 0).toArray 45)
          have c3 := m3.alloc (.cells (TL 6 fun _ => 0).toArray 45)
          have c5 : RB (wr.alloc (.cells (TL 6 fun _ => 0).toArray 45)) wr.heap.size 45 6 (fun _ => 0) := heap_alloc_last _ _
          have c4 := HB.out.alloc (show g ≤ wr.heap.size by have := m1.lt; omega) (.cells (TL 6 fun _ => 0).toArray 45)
          obtain ⟨b, hb⟩ : ∃ b, b = wr.heap.size := ⟨_, rfl⟩
          have lb : ob < b := by rw [hb]; exact m3.lt
          rw [← hb] at c5 ⊢
          generalize wr.alloc (.cells (TL 6 fun _ => 0).toArray 45) = wa at c1 c2 c3 c4 c5 ⊢
          clear m1 m2 m3 HB hb d2
          have q1 := c5.free k
          have q2 := c5.cell k k6
          go_upto_region 11 with fail
          have e1 := c1.other (b := b) (o := k) (by omega) (.int .u16 1)
          have e2 := c2.other (b := b) (o := k) (by omega) (.int .u16 1)
          have e3 := c3.other (b := b) (o := k) (by omega) (.int .u16 1)
          have e5 := c5.put k k6 1
          have e4 := c4.setCell (p := ⟨b, k, none⟩) (by show g ≤ b; omega) (.int .u16 1)
          rw [unitF_put] at e5
          generalize World.setCell wa _ _ = wb at e1 e2 e3 e4 e5 ⊢
          clear c1 c2 c3 c4 c5 q1 q2
          go_wp2_with (first | (guard_target =~ wpList _ _ _ (⟨_, Op.load 33 (Operand.tmp 1), _, _, _, _⟩ :: _) _ _; refine wpList_load_row rfl 33 _ rfl (g) rfl _ (CL R R f).toArray (0, 0) _ e1 Try.underlying33 rfl (by kernel_rfl) ?_) | (guard_target =~ wpList _ _ _ (⟨_, Op.load 45 (Operand.tmp 6), _, _, _, _⟩ :: _) _ _; refine wpList_load_row rfl 45 _ rfl (b) rfl _ (TL 6 (unitF k)).toArray (0, 0) (.array 6 29) (e5) (by kernel_rfl) rfl (by kernel_rfl) ?_))
          refine (spec_solve R R hR hR f hm HOK.out (unitF k) (unitF_b k) (fun r h1 h2 => by unfold unitF; rw [if_neg (by omega)]) _).mono ?_
          rintro e wc ⟨rfl, hn⟩
          rw [← HRF.out, ← HTF.out]
          replace e4 := bnext e4 hn (Nat.le_of_lt e1.lt)
          replace e1 := e1.below hn e1.lt
          replace e2 := e2.below hn e2.lt
          replace e3 := e3.below hn e3.lt
          clear hn e5
          rcases hfine : fineL RF (applyF TF (unitF k)) with _ | _
          · have hs : solV RF (applyF TF (unitF k)) = .tuple #[VV fun _ => 0, .bool false] := by unfold solV; rw [hfine]; rfl
            rw [hs]
            have hqR : ¬ q = R := fun x => by
              have := full_fine HF.out hR HOK.out (HQ.out.symm.trans x) (unitF k)
              rw [← HRF.out, ← HTF.out, hfine] at this
              exact absurd this (by decide)
            have HE := Lib.hid hqR
            have hV : invV R R f = .tuple #[MV 0 0 (fun _ => 0), .int .i64 6] := by unfold invV; rw [HOK.out, if_pos rfl, if_pos rfl, show (R : Int).toNat = R from rfl, ← HQ.out, if_neg HE.out]
            have HV := Lib.hid hV
            clear hV
            clear hs hfine hqR
            go_upto_region 12 with (first | guard_target =~ wpList _ _ _ (⟨_, Op.store 45 _ _, _, _, _, _⟩ :: _) _ _; refine wpList_store_fresh (cells := (TL 6 fun _ => 0).toArray) rfl 45 _ _ rfl rfl rfl (by kernel_rfl) rfl (TL_one _ _) ?_)
            have f1 := e1.alloc (.cells (TL 6 fun _ => 0).toArray 45)
            have f2 := e2.alloc (.cells (TL 6 fun _ => 0).toArray 45)
            have f3 := e3.alloc (.cells (TL 6 fun _ => 0).toArray 45)
            have f5 : RB (wc.alloc (.cells (TL 6 fun _ => 0).toArray 45)) wc.heap.size 45 6 (fun _ => 0) := heap_alloc_last _ _
            have f4 := e4.alloc (show g ≤ wc.heap.size by have := e1.lt; omega) (.cells (TL 6 fun _ => 0).toArray 45)
            obtain ⟨x, hx⟩ : ∃ x, x = wc.heap.size := ⟨_, rfl⟩
            have lx : ob < x := by rw [hx]; exact e3.lt
            rw [← hx] at f5 ⊢
            generalize wc.alloc (.cells (TL 6 fun _ => 0).toArray 45) = wd at f1 f2 f3 f4 f5 ⊢
            clear e1 e2 e3 e4 hx
            go_wp2_with (first | (guard_target =~ wpList _ _ _ (⟨_, Op.build 33 _, _, _, _, _⟩ :: _) _ _; refine wpList_build0 rfl 33 rfl (CL 0 0 fun _ => 0).toArray (by kernel_rfl) ?_) | (guard_target =~ wpList _ _ _ (⟨_, Op.store 33 (Operand.tmp 2) _, _, _, _, _⟩ :: _) _ _; refine wpList_store_row rfl 33 _ _ rfl (g + 1) (CL 0 0 fun _ => 0).toArray rfl rfl _ _ f2 (by kernel_rfl) rfl (CL_one _ _ _) ?_))
            refine bodyPost_ret (v := .tuple #[MV 0 0 (fun _ => 0), .int .i64 6]) ?_ rfl ⟨congrArg Ending.returned HV.out.symm, by obtain rfl := HG.out; exact Below.setRow f4 (Nat.le_succ _) _⟩
            exact results_cell_tmp2 rfl _ _ (g + 1) _ _ (0, 0) _ _ rfl rfl (f2.setRow _) Try.underlying33 rfl (by kernel_rfl)
          · have hs : solV RF (applyF TF (unitF k)) = .tuple #[VV (XX k), .bool true] := by unfold solV; rw [hfine, HXX.out]; rfl
            rw [hs]
            have HFK := Lib.hid hfine
            clear hs hfine
            go_upto_region 12 with (first | guard_target =~ wpList _ _ _ (⟨_, Op.store 45 _ _, _, _, _, _⟩ :: _) _ _; refine wpList_store_fresh (cells := (TL 6 (XX k)).toArray) rfl 45 _ _ rfl rfl rfl (by kernel_rfl) rfl (TL_one _ _) ?_)
            have f1 := e1.alloc (.cells (TL 6 (XX k)).toArray 45)
            have f2 := e2.alloc (.cells (TL 6 (XX k)).toArray 45)
            have f3 := e3.alloc (.cells (TL 6 (XX k)).toArray 45)
            have f5 : RB (wc.alloc (.cells (TL 6 (XX k)).toArray 45)) wc.heap.size 45 6 ((XX k)) := heap_alloc_last _ _
            have f4 := e4.alloc (show g ≤ wc.heap.size by have := e1.lt; omega) (.cells (TL 6 (XX k)).toArray 45)
            obtain ⟨x, hx⟩ : ∃ x, x = wc.heap.size := ⟨_, rfl⟩
            have lx : ob < x := by rw [hx]; exact e3.lt
            rw [← hx] at f5 ⊢
            generalize wc.alloc (.cells (TL 6 (XX k)).toArray 45) = wd at f1 f2 f3 f4 f5 ⊢
            clear e1 e2 e3 e4 hx
            go_wp2_with fail
            go_loopw [9] (fun y wr => ∃ (i : Nat), y = .int .i64 i ∧ i ≤ R ∧ MB wr g 33 R R f ∧ MB wr (g + 1) 33 0 0 (fun _ => 0) ∧ MB wr ob 33 R R (colX XX R k i) ∧ Hid (Below g w wr) ∧ RB wr x 45 6 (XX k)) (fun y _ => (6 - intOf y).toNat)
            case atStart => exact ⟨0, rfl, by omega, f1, f2, f3, Lib.hid f4, f5⟩
            case round =>
              clear f1 f2 f3 f4 f5
              obtain ⟨i, rfl, hi, m1, m2, m3, HB, m5⟩ := hrel
              have d1 := m1.rows
              by_cases hli : i < R
              · have T4 : decide ((i : Int) < (R : Int)) = true := by simp; omega
                have i6 : i < 6 := by omega
                have i1 : (i : Int) < 6 := by omega
                have q1 := m5.cell i i6
                have q3 := m3.free (2 + i * 6 + k)
                have q4 := m3.cell2 i k i6 k6
                have M1 := Lib.hid m1; have M2 := Lib.hid m2; have M3 := Lib.hid m3; have M5 := Lib.hid m5
                clear m1 m2 m3 m5
                go_upto_region 17 with fail
                refine wp_region_still_tail 8 (by kernel_rfl) (by kernel_rfl) ?_
                simp only [List.take_succ_cons, List.take_zero, List.drop_succ_cons, List.drop_zero]
                iterate 8 still_step
                refine wpStill_nil ?_
                change wpList _ _ _ _ _ (World.drew _)
                go_wp2_with fail
                exact ⟨⟨i + 1, rfl, by omega, M1.out.other (by omega) _, M2.out.other (by omega) _, (M3.out.put2 i k i6 k6 _).ext (colX_put XX R k i hli hR k6), Lib.hid (HB.out.drew.setCell (p := ⟨ob, 2 + i * 6 + k, none⟩) (by show g ≤ ob; omega) _), M5.out.other (by omega) _⟩, by simp [intOf]; omega⟩
              · obtain rfl : i = R := by omega
                have T4 : decide ((i : Int) < (i : Int)) = false := by simp
                rw [colX_next] at m3
                go_wp2_with fail
                exact ⟨⟨k + 1, rfl, by omega, m1, m2, m3, HB, Lib.hid (fun j hj => by
                  by_cases e : j = k
                  · rw [e]; exact HFK.out
                  · exact HJ.out j (by omega))⟩, by simp [intOf]; omega⟩
        · obtain rfl : k = R := by omega
          have T3 : decide ((k : Int) < (k : Int)) = false := by simp
          have hqR : q = k := Classical.byContradiction fun x => by
            obtain ⟨j, hj, hf0⟩ := less_fine HF.out hR HOK.out (fun y => x (HQ.out.trans y))
            have := HJ.out j hj
            rw [HRF.out, HTF.out, hf0] at this
            exact absurd this (by decide)
          have HE := Lib.hid hqR
          have hV : invV k k f = .tuple #[MV k k TF, .int .i64 0] := by unfold invV; rw [HOK.out, if_pos rfl, if_pos rfl, show (k : Int).toNat = k from rfl, ← HQ.out, ← HTF.out, if_pos HE.out]
          have HV := Lib.hid hV
          clear hV
          have m3' := m3.ext (f' := TF) (fun s hs => by rw [HXX.out, HRF.out, HTF.out]; exact col_end HF.out hR HOK.out (HQ.out.symm.trans hqR) s hs)
          have HB4 := HB.out
          clear m3 hqR
          go_wp2_with (first | (guard_target =~ wpList _ _ _ (⟨_, Op.load 33 (Operand.tmp 4), _, _, _, _⟩ :: _) _ _; refine wpList_load_row rfl 33 _ rfl (ob) rfl _ (CL k k TF).toArray (0, 0) _ m3' Try.underlying33 rfl (by kernel_rfl) ?_) | (guard_target =~ wpList _ _ _ (⟨_, Op.store 33 (Operand.tmp 2) _, _, _, _, _⟩ :: _) _ _; refine wpList_store_row rfl 33 _ _ rfl (g + 1) (CL k k TF).toArray rfl rfl _ _ m2 (by kernel_rfl) rfl (CL_one _ _ _) ?_))
          refine bodyPost_ret (v := .tuple #[MV k k TF, .int .i64 0]) ?_ rfl ⟨congrArg Ending.returned HV.out.symm, by obtain rfl := HG.out; exact Below.setRow HB4 (Nat.le_succ _) _⟩
          exact results_cell_tmp2 rfl _ _ (g + 1) _ _ (0, 0) _ _ rfl rfl (m2.setRow _) Try.underlying33 rfl (by kernel_rfl)
    · have T1 : ((R : Int) != (C : Int)) = true := by simp; omega
      have hV : invV R C f = .tuple #[MV 0 0 (fun _ => 0), .int .i64 4] := by unfold invV; rw [hok, if_pos rfl, if_neg (by omega)]
      have HV := Lib.hid hV
      clear hok hV
      go_wp2_with (first | (guard_target =~ wpList _ _ _ (⟨_, Op.build 33 _, _, _, _, _⟩ :: _) _ _; refine wpList_build0 rfl 33 rfl (CL 0 0 fun _ => 0).toArray (by kernel_rfl) ?_) | (guard_target =~ wpList _ _ _ (⟨_, Op.store 33 (Operand.tmp 2) _, _, _, _, _⟩ :: _) _ _; refine wpList_store_row rfl 33 _ _ rfl (g + 1) (CL 0 0 fun _ => 0).toArray rfl rfl _ _ a2 (by kernel_rfl) rfl (CL_one _ _ _) ?_))
      refine bodyPost_ret (v := .tuple #[MV 0 0 (fun _ => 0), .int .i64 4]) ?_ rfl ⟨congrArg Ending.returned HV.out.symm, by obtain rfl := HG.out; exact Below.setRow a4 (Nat.le_succ _) _⟩
      exact results_cell_tmp2 rfl _ _ (g + 1) _ _ (0, 0) _ _ rfl rfl (a2.setRow _) Try.underlying33 rfl (by kernel_rfl)

end Go.Proofs.Ytjbaeomjinnlhaa
