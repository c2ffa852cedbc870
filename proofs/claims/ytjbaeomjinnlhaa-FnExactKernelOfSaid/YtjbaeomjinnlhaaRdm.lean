/-
  ReduceMatrix.
-/
import Derived.Test.YtjbaeomjinnlhaaOk2
import Derived.Deep.RegionHeld
import Derived.Test.YtjbaeomjinnlhaaRedS
namespace Go.Proofs.Ytjbaeomjinnlhaa
set_option linter.unusedVariables false
set_option linter.unusedSimpArgs false
open Go.ChangeShapes Go.WideShapes Go.ChangeAt Go.RowKit

theorem ok_zr {R C : Nat} {f : Nat → Int} (h : okB (R : Int) (C : Int) f = true) : Nim.ZR R (natG f) := fun r k h1 h2 h3 => by
  unfold natG; rw [ok_zeros h r k h2 h3 (.inl h1)]; rfl
theorem ok_zc {R C : Nat} {f : Nat → Int} (h : okB (R : Int) (C : Int) f = true) : ∀ k, C ≤ k → k < 6 → Nim.ZC k (natG f) := fun k h1 h2 r hr => by
  unfold natG; rw [ok_zeros h r k hr h2 (.inr h1)]; rfl
theorem red_firsts {R C : Nat} {f : Nat → Int} (hf : VW f) (hC : C ≤ 6) (h : okB (R : Int) (C : Int) f = true) : (Nim.redN (natG f) C).2 = (Nim.redN (Nim.wide (natG f) R) 6).2 := by
  rw [← Nim.redN_tail (natG_b hf) (ok_zc h) 6 hC (Nat.le_refl 6)]
  exact ((Nim.wide_like (natG f) R).redN (natG_b hf) 6 (Nat.le_refl 6)).2
theorem red_same {R C : Nat} {f : Nat → Int} (hf : VW f) (hC : C ≤ 6) (h : okB (R : Int) (C : Int) f = true) : ∀ s, s < 36 → un6 (Nim.redN (natG f) C).1 s = redF f R s := fun s hs => by
  rw [← Nim.redN_tail (natG_b hf) (ok_zc h) 6 hC (Nat.le_refl 6)]
  unfold un6 redF wideM
  rw [((Nim.wide_like (natG f) R).redN (natG_b hf) 6 (Nat.le_refl 6)).1 (s / 6) (s % 6) (by omega) (by omega)]
def reduceV (r c : Int) (f : Nat → Int) : Value := if okB r c f = true then .tuple #[MV r c (redF f r.toNat), .int .i64 0] else .tuple #[MV 0 0 (fun _ => 0), .int .i64 1]
theorem reduceV_form (r c : Int) (f : Nat → Int) (hm : MW r c f) : ∃ R C F k, reduceV r c f = .tuple #[MV R C F, .int .i64 k] ∧ MW R C F := by
  unfold reduceV
  split
  · exact ⟨_, _, _, _, rfl, hm.1, hm.2.1, hm.2.2.1, hm.2.2.2.1, redF_b hm.2.2.2.2 _⟩
  · exact ⟨_, _, _, _, rfl, by omega, by omega, by omega, by omega, fun _ => ⟨Int.le_refl 0, show (0 : Int) < 65536 by decide⟩⟩
theorem Beside.below {B p g : Nat} {w0 w w' : World} (h : Below g w0 w) (hb : Beside B p w w') (hp : g ≤ p) (hB : g ≤ B) : Below g w0 w' :=
  h.trans ⟨hb.1, hb.2.1, hb.2.2.1, hb.2.2.2.1, fun k hk => hb.2.2.2.2 k (by omega) (by omega)⟩

set_option maxRecDepth 100000 in
set_option maxHeartbeats 2000000 in
theorem spec_ReduceMatrix (r c : Int) (f : Nat → Int) (hm : MW r c f) (w : World) : Calls Try.prog 48 #[MV r c f] w fun e w' => e = .returned (reduceV r c f) ∧ Below w.heap.size w w' := by
  go_enter Try.func48, Try.ntmps48
  go_upto_region 1 with fail
  obtain ⟨a1, a2, a4, a5⟩ := new2 w (.cells (CL r c f).toArray 33) (.cells (CL 0 0 fun _ => 0).toArray 33)
  rw [zero38]
  obtain ⟨g, hg⟩ : ∃ g, g = w.heap.size := ⟨_, rfl⟩
  rw [← hg] at a1 a2 a4 a5 ⊢
  generalize World.alloc (World.alloc w _) _ = w2 at a1 a2 a4 a5 ⊢
  replace a1 : MB w2 g 33 r c f := a1
  replace a2 : MB w2 (g + 1) 33 0 0 (fun _ => 0) := a2
  have HG := Lib.hid hg
  clear hg
  go_wp2_with fail
  refine (l02Ok_any r c f hm g _ _ a1).mono ?_
  rintro e wn ⟨rfl, rfl⟩
  have a6 : g + 1 + 1 ≤ wn.heap.size := by omega
  clear a5
  rcases hok : okB r c f with _ | _
  · have hV : reduceV r c f = .tuple #[MV 0 0 (fun _ => 0), .int .i64 1] := by unfold reduceV; rw [hok]; rfl
    have HV := Lib.hid hV
    clear hok hV
    go_wp2_with (first | (guard_target =~ wpList _ _ _ (⟨_, Op.build 33 _, _, _, _, _⟩ :: _) _ _; refine wpList_build0 rfl 33 rfl (CL 0 0 fun _ => 0).toArray (by kernel_rfl) ?_) | (guard_target =~ wpList _ _ _ (⟨_, Op.store 33 (Operand.tmp 2) _, _, _, _, _⟩ :: _) _ _; refine wpList_store_row rfl 33 _ _ rfl (g + 1) (CL 0 0 fun _ => 0).toArray rfl rfl _ _ a2 (by kernel_rfl) rfl (CL_one _ _ _) ?_))
    refine bodyPost_ret (v := .tuple #[MV 0 0 (fun _ => 0), .int .i64 1]) ?_ rfl ⟨congrArg Ending.returned HV.out.symm, by obtain rfl := HG.out; exact Below.setRow a4 (Nat.le_succ _) _⟩
    exact results_cell_tmp2 rfl _ _ (g + 1) _ _ (0, 0) _ _ rfl rfl (a2.setRow _) Try.underlying33 rfl (by kernel_rfl)
  · have hV : reduceV r c f = .tuple #[MV r c (redF f r.toNat), .int .i64 0] := by unfold reduceV; rw [hok]; rfl
    obtain ⟨R, C, hRe, hCe, _, hR, _, hC⟩ := ok_dims hok
    subst hRe; subst hCe
    rw [show (R : Int).toNat = R from rfl] at hV
    obtain ⟨RF, hRF⟩ : ∃ RF, RF = redF f R := ⟨_, rfl⟩
    obtain ⟨TF, hTF⟩ : ∃ TF, TF = trcF f R := ⟨_, rfl⟩
    rw [← hRF] at hV
    have HRF := Lib.hid hRF
    have HTF := Lib.hid hTF
    have HV := Lib.hid hV
    have HOK := Lib.hid hok
    have HF := Lib.hid hm.2.2.2.2
    clear hok hV hRF hTF
    go_wp2_with fail
    refine (l02Reduce_any R C hR hC (natG f) (natG_b HF.out) (ok_zr HOK.out) (ok_zc HOK.out) g _ (a1.ext fun s _ => (un6_nat HF.out s).symm)).mono ?_
    rintro e wm ⟨v, rfl, _, b1, hb⟩
    replace b1 := b1.ext (f' := RF) (fun s hs => by rw [HRF.out]; exact red_same HF.out hC HOK.out s hs)
    have b2 : MB wm (g + 1) 33 0 0 (fun _ => 0) := (hb.2.2.2.2 (g + 1) a2.lt (by omega)).trans a2
    have b4 := Beside.below a4 hb (Nat.le_refl g) (Nat.le_of_lt a1.lt)
    clear a1 a2 a4 a6 hb
    go_wp2_with (first | (guard_target =~ wpList _ _ _ (⟨_, Op.load 33 (Operand.tmp 1), _, _, _, _⟩ :: _) _ _; refine wpList_load_row rfl 33 _ rfl (g) rfl _ (CL R C RF).toArray (0, 0) _ b1 Try.underlying33 rfl (by kernel_rfl) ?_) | (guard_target =~ wpList _ _ _ (⟨_, Op.store 33 (Operand.tmp 2) _, _, _, _, _⟩ :: _) _ _; refine wpList_store_row rfl 33 _ _ rfl (g + 1) (CL R C RF).toArray rfl rfl _ _ b2 (by kernel_rfl) rfl (CL_one _ _ _) ?_))
    refine bodyPost_ret (v := .tuple #[MV R C RF, .int .i64 0]) ?_ rfl ⟨congrArg Ending.returned HV.out.symm, by obtain rfl := HG.out; exact Below.setRow b4 (Nat.le_succ _) _⟩
    exact results_cell_tmp2 rfl _ _ (g + 1) _ _ (0, 0) _ _ rfl rfl (b2.setRow _) Try.underlying33 rfl (by kernel_rfl)

set_option maxRecDepth 100000 in
set_option maxHeartbeats 2000000 in
theorem impl_ReduceMatrix (r c : Int) (f : Nat → Int) (hm : MW r c f) (w : World) : Calls Try.prog 49 #[MV r c f] w fun e w' => e = .returned (reduceV r c f) ∧ Below w.heap.size w w' := by
  go_enter Try.func49, Try.ntmps49
  go_upto_region 1 with fail
  obtain ⟨a1, a2, a4, a5⟩ := new2 w (.cells (CL r c f).toArray 33) (.cells (CL 0 0 fun _ => 0).toArray 33)
  rw [zero38]
  obtain ⟨g, hg⟩ : ∃ g, g = w.heap.size := ⟨_, rfl⟩
  rw [← hg] at a1 a2 a4 a5 ⊢
  generalize World.alloc (World.alloc w _) _ = w2 at a1 a2 a4 a5 ⊢
  replace a1 : MB w2 g 33 r c f := a1
  replace a2 : MB w2 (g + 1) 33 0 0 (fun _ => 0) := a2
  have HG := Lib.hid hg
  clear hg
  go_wp2_with (first | (guard_target =~ wpList _ _ _ (⟨_, Op.load 33 (Operand.tmp 1), _, _, _, _⟩ :: _) _ _; refine wpList_load_row rfl 33 _ rfl (g) rfl _ (CL r c f).toArray (0, 0) _ a1 Try.underlying33 rfl (by kernel_rfl) ?_))
  refine (impl_ValidMatrix r c f hm _).mono ?_
  rintro e wn ⟨rfl, hn⟩
  replace a1 := a1.below hn a1.lt
  replace a2 := a2.below hn a2.lt
  replace a4 := bnext a4 hn (by omega)
  have a6 : g + 1 + 1 ≤ wn.heap.size := by have := hn.size; omega
  clear hn
  clear a5
  rcases hok : okB r c f with _ | _
  · have hV : reduceV r c f = .tuple #[MV 0 0 (fun _ => 0), .int .i64 1] := by unfold reduceV; rw [hok]; rfl
    have HV := Lib.hid hV
    clear hok hV
    go_wp2_with (first | (guard_target =~ wpList _ _ _ (⟨_, Op.build 33 _, _, _, _, _⟩ :: _) _ _; refine wpList_build0 rfl 33 rfl (CL 0 0 fun _ => 0).toArray (by kernel_rfl) ?_) | (guard_target =~ wpList _ _ _ (⟨_, Op.store 33 (Operand.tmp 2) _, _, _, _, _⟩ :: _) _ _; refine wpList_store_row rfl 33 _ _ rfl (g + 1) (CL 0 0 fun _ => 0).toArray rfl rfl _ _ a2 (by kernel_rfl) rfl (CL_one _ _ _) ?_))
    refine bodyPost_ret (v := .tuple #[MV 0 0 (fun _ => 0), .int .i64 1]) ?_ rfl ⟨congrArg Ending.returned HV.out.symm, by obtain rfl := HG.out; exact Below.setRow a4 (Nat.le_succ _) _⟩
    exact results_cell_tmp2 rfl _ _ (g + 1) _ _ (0, 0) _ _ rfl rfl (a2.setRow _) Try.underlying33 rfl (by kernel_rfl)
  · have hV : reduceV r c f = .tuple #[MV r c (redF f r.toNat), .int .i64 0] := by unfold reduceV; rw [hok]; rfl
    obtain ⟨R, C, hRe, hCe, _, hR, _, hC⟩ := ok_dims hok
    subst hRe; subst hCe
    rw [show (R : Int).toNat = R from rfl] at hV
    obtain ⟨RF, hRF⟩ : ∃ RF, RF = redF f R := ⟨_, rfl⟩
    obtain ⟨TF, hTF⟩ : ∃ TF, TF = trcF f R := ⟨_, rfl⟩
    rw [← hRF] at hV
    have HRF := Lib.hid hRF
    have HTF := Lib.hid hTF
    have HV := Lib.hid hV
    have HOK := Lib.hid hok
    have HF := Lib.hid hm.2.2.2.2
    clear hok hV hRF hTF
    go_wp2_with (first | (guard_target =~ wpList _ _ _ (⟨_, Op.load 33 (Operand.tmp 1), _, _, _, _⟩ :: _) _ _; refine wpList_load_row rfl 33 _ rfl (g) rfl _ (CL R C f).toArray (0, 0) _ a1 Try.underlying33 rfl (by kernel_rfl) ?_))
    refine (reduction_any R hR C f hm _).mono ?_
    rintro e wm ⟨rfl, hn⟩
    rw [← HRF.out, ← HTF.out]
    have b2 := a2.below hn a2.lt
    have b4 := bnext a4 hn (Nat.le_of_lt a1.lt)
    clear a1 a2 a4 a6 hn
    have hlt := b2.lt
    obtain ⟨s1, s2, s4, s5⟩ := new2 wm (.cells (CL 0 0 fun _ => 0).toArray 33) (.cells (CL 0 0 fun _ => 0).toArray 33)
    replace s1 : MB _ wm.heap.size 33 0 0 (fun _ => 0) := s1
    replace s2 : MB _ (wm.heap.size + 1) 33 0 0 (fun _ => 0) := s2
    have c2 := (b2.alloc (.cells (CL 0 0 fun _ => 0).toArray 33)).alloc (.cells (CL 0 0 fun _ => 0).toArray 33)
    have c4 := (b4.alloc (show g ≤ wm.heap.size by omega) (.cells (CL 0 0 fun _ => 0).toArray 33)).alloc (show g ≤ _ by rw [World.size_alloc]; omega) (.cells (CL 0 0 fun _ => 0).toArray 33)
    have t2 := s2.setRow_other (b := wm.heap.size) (by omega) (CL R C RF).toArray
    go_upto_region 4 with (first | (guard_target =~ wpList _ _ _ (⟨_, Op.store 33 (Operand.tmp 4) _, _, _, _, _⟩ :: _) _ _; rw [zero38]; refine wpList_store_row rfl 33 _ _ rfl (wm.heap.size) (CL R C RF).toArray rfl rfl _ _ s1 (by kernel_rfl) (by rw [CL_size, CL_size]) (CL_one _ _ _) ?_) | (guard_target =~ wpList _ _ _ (⟨_, Op.store 33 (Operand.tmp 5) _, _, _, _, _⟩ :: _) _ _; refine wpList_store_row rfl 33 _ _ rfl (wm.heap.size + 1) (CL R R TF).toArray rfl rfl _ _ t2 (by kernel_rfl) (by rw [CL_size, CL_size]) (CL_one _ _ _) ?_))
    have e1 : MB (World.setRow (World.setRow _ wm.heap.size (CL R C RF).toArray) (wm.heap.size + 1) (CL R R TF).toArray) wm.heap.size 33 R C RF := (s1.setRow RF).setRow_other (by omega) _
    have e2 := (c2.setRow_other (b := wm.heap.size) (by omega) (CL R C RF).toArray).setRow_other (b := wm.heap.size + 1) (by omega) (CL R R TF).toArray
    have e4 := Below.setRow (Below.setRow c4 (show g ≤ wm.heap.size by omega) (CL R C RF).toArray) (show g ≤ wm.heap.size + 1 by omega) (CL R R TF).toArray
    generalize World.setRow (World.setRow _ wm.heap.size (CL R C RF).toArray) (wm.heap.size + 1) (CL R R TF).toArray = wk at e1 e2 e4 ⊢
    obtain ⟨k, hk⟩ : ∃ k, k = wm.heap.size := ⟨_, rfl⟩
    rw [← hk] at e1 ⊢
    clear s1 s2 s4 s5 c2 c4 t2 b2 b4 hlt hk
    go_wp2_with (first | (guard_target =~ wpList _ _ _ (⟨_, Op.load 33 (Operand.tmp 4), _, _, _, _⟩ :: _) _ _; refine wpList_load_row rfl 33 _ rfl (k) rfl _ (CL R C RF).toArray (0, 0) _ e1 Try.underlying33 rfl (by kernel_rfl) ?_) | (guard_target =~ wpList _ _ _ (⟨_, Op.store 33 (Operand.tmp 2) _, _, _, _, _⟩ :: _) _ _; refine wpList_store_row rfl 33 _ _ rfl (g + 1) (CL R C RF).toArray rfl rfl _ _ e2 (by kernel_rfl) rfl (CL_one _ _ _) ?_))
    refine bodyPost_ret (v := .tuple #[MV R C RF, .int .i64 0]) ?_ rfl ⟨congrArg Ending.returned HV.out.symm, by obtain rfl := HG.out; exact Below.setRow e4 (Nat.le_succ _) _⟩
    exact results_cell_tmp2 rfl _ _ (g + 1) _ _ (0, 0) _ _ rfl rfl (e2.setRow _) Try.underlying33 rfl (by kernel_rfl)

end Go.Proofs.Ytjbaeomjinnlhaa
