/-
  Rows exchanged.
-/
import Derived.Test.YtjbaeomjinnlhaaOk2
import Derived.Deep.RegionHeld
import Derived.Test.YtjbaeomjinnlhaaArr2
namespace Go.Proofs.Ytjbaeomjinnlhaa
set_option linter.unusedVariables false
set_option linter.unusedSimpArgs false
open Go.ChangeShapes Go.WideShapes Go.ChangeAt Go.RowKit

def swapF (f : Nat → Int) (a b : Nat) : Nat → Int := fun s => if s / 6 = b then f (a * 6 + s % 6) else if s / 6 = a then f (b * 6 + s % 6) else f s
theorem swap_puts (f : Nat → Int) (a b : Nat) (ha : a < 6) (hb : b < 6) : ∀ s, s < 36 → puts (puts f (a * 6) 6 fun k => f (b * 6 + k)) (b * 6) 6 (fun k => f (a * 6 + k)) s = swapF f a b s := fun s hs => by
  unfold puts swapF
  by_cases h1 : s / 6 = b
  · rw [if_pos (by omega), if_pos h1]
    show f (a * 6 + (s - b * 6)) = _
    rw [show s - b * 6 = s % 6 from by omega]
  · rw [if_neg (by omega), if_neg h1]
    by_cases h2 : s / 6 = a
    · rw [if_pos (by omega), if_pos h2]
      show f (b * 6 + (s - a * 6)) = _
      rw [show s - a * 6 = s % 6 from by omega]
    · rw [if_neg (by omega), if_neg h2]
theorem swapF_b {f : Nat → Int} (h : VW f) (a b : Nat) : VW (swapF f a b) := fun t => by unfold swapF; split; exact h _; split <;> exact h _
set_option maxRecDepth 100000 in
set_option maxHeartbeats 1000000 in
theorem spec_l02Swap (r c : Int) (f : Nat → Int) (g : Nat) (a b : Nat) (ha : a < 6) (hb : b < 6) (w : World) (hM : MB w g 33 r c f) :
    Calls Try.prog 131 #[.pointer (some ⟨g, 0, none⟩), .int .i64 a, .int .i64 b] w fun e w' => e = .returned (.tuple #[]) ∧ MB w' g 33 r c (swapF f a b) ∧ (∀ x, x ≠ g → x < w.heap.size → w'.heap[x]? = w.heap[x]?) ∧ w.heap.size ≤ w'.heap.size ∧ w'.os = w.os ∧ w'.tape = w.tape ∧ w'.output = w.output := by
  have r1 := hM.sub2 a ha
  have i1 : (a : Int) < 6 := by omega
  have i2 : (b : Int) < 6 := by omega
  go_enter Try.func131, Try.ntmps131
  go_upto_region 1 with (first | (guard_target =~ wpList _ _ _ (⟨_, Op.load 30 _, _, _, _, _⟩ :: _) _ _; refine wpList_load_mid rfl 30 _ rfl (g) _ rfl (TL 6 fun k => f (a * 6 + k)) (.array 6 29) (r1) (by kernel_rfl) rfl (by kernel_rfl) ?_) | (guard_target =~ wpList _ _ _ (⟨_, Op.store 30 _ _, _, _, _, _⟩ :: _) _ _; refine wpList_store_fresh (cells := (TL 6 fun k => f (a * 6 + k)).toArray) rfl 30 _ _ rfl rfl rfl (by kernel_rfl) rfl (TL_one _ _) ?_))
  have b1 := hM.alloc (.cells (TL 6 fun k => f (a * 6 + k)).toArray 30)
  have b2 : RB (w.alloc (.cells (TL 6 fun k => f (a * 6 + k)).toArray 30)) w.heap.size 30 6 (fun k => f (a * 6 + k)) := heap_alloc_last _ _
  have b3 := (Below.refl w.heap.size w).alloc (Nat.le_refl _) (.cells (TL 6 fun k => f (a * 6 + k)).toArray 30)
  have hlt := hM.lt
  obtain ⟨h, hh⟩ : ∃ h, h = w.heap.size := ⟨_, rfl⟩
  rw [← hh] at b2 b3 hlt ⊢
  generalize w.alloc (.cells (TL 6 fun k => f (a * 6 + k)).toArray 30) = w2 at b1 b2 b3 ⊢
  have r2 := b1.sub2 b hb
  have HH := Lib.hid hh
  clear r1 hM hh
  refine wp_region_still_tail 11 (by kernel_rfl) (by kernel_rfl) ?_
  simp only [List.take_succ_cons, List.take_zero, List.drop_succ_cons, List.drop_zero]
  iterate 7 still_step
  refine still_load_mid rfl 30 _ rfl (g) _ rfl (TL 6 fun k => f (b * 6 + k)) (.array 6 29) (r2) (by kernel_rfl) rfl (by kernel_rfl) ?_
  iterate 3 still_step
  refine wpStill_nil ?_
  change wpList _ _ _ _ _ w2.drew
  have t1 := b1.there (2 + a * 6) 6 (by omega)
  go_upto_region 2 with (first | (guard_target =~ wpList _ _ _ (⟨_, Op.store 30 _ _, _, _, _, _⟩ :: _) _ _; refine wpList_store_mid rfl 30 _ _ rfl (g) _ (TL 6 fun k => f (b * 6 + k)).toArray rfl rfl (by rw [List.size_toArray, TL_len]; exact t1) (by kernel_rfl) (TL_one _ _) ?_))
  have d1 := MB.puts 6 (a * 6) (fun k => f (b * 6 + k)) _ _ b1 (by omega)
  have d2 := b2.setCells_other (b := g) (o := 2 + a * 6) (by omega) (TL 6 fun k => f (b * 6 + k))
  have d3 : ∀ x, x ≠ g → x < h → (w2.setCells g (2 + a * 6) (TL 6 fun k => f (b * 6 + k))).heap[x]? = w.heap[x]? := fun x hx hl => (heap_setCells_other _ _ _ _ _ hx).trans (b3.block x hl)
  have d4 := Below.setCells (B := 0) (g := g) (a := w) (Nat.zero_le _) (TL 6 fun k => f (b * 6 + k)) (2 + a * 6) w2 (b3.mono (Nat.zero_le _))
  rw [show w2.drew.setCells g (2 + a * 6) (TL 6 fun k => f (b * 6 + k)) = (w2.setCells g (2 + a * 6) (TL 6 fun k => f (b * 6 + k))).drew from drew_setCells _ _ _ _]
  generalize w2.setCells g (2 + a * 6) (TL 6 fun k => f (b * 6 + k)) = w3 at d1 d2 d3 d4 ⊢
  clear b1 b2 b3 r2 t1
  have r3 := d2.range
  refine wp_region_still_tail 6 (by kernel_rfl) (by kernel_rfl) ?_
  simp only [List.take_succ_cons, List.take_zero, List.drop_succ_cons, List.drop_zero]
  iterate 2 still_step
  refine still_load_mid rfl 30 _ rfl (h) _ rfl (TL 6 fun k => f (a * 6 + k)) (.array 6 29) (r3) (by kernel_rfl) rfl (by kernel_rfl) ?_
  iterate 3 still_step
  refine wpStill_nil ?_
  change wpList _ _ _ _ _ w3.drew.drew
  have t2 := d1.there (2 + b * 6) 6 (by omega)
  go_wp2_with (first | (guard_target =~ wpList _ _ _ (⟨_, Op.store 30 _ _, _, _, _, _⟩ :: _) _ _; refine wpList_store_mid rfl 30 _ _ rfl (g) _ (TL 6 fun k => f (a * 6 + k)).toArray rfl rfl (by rw [List.size_toArray, TL_len]; exact t2) (by kernel_rfl) (TL_one _ _) ?_))
  have e1 := (MB.puts 6 (b * 6) (fun k => f (a * 6 + k)) _ _ d1 (by omega)).ext (swap_puts f a b ha hb)
  have e3 : ∀ x, x ≠ g → x < h → (w3.setCells g (2 + b * 6) (TL 6 fun k => f (a * 6 + k))).heap[x]? = w.heap[x]? := fun x hx hl => (heap_setCells_other _ _ _ _ _ hx).trans (d3 x hx hl)
  have e4 := Below.setCells (B := 0) (g := g) (a := w) (Nat.zero_le _) (TL 6 fun k => f (a * 6 + k)) (2 + b * 6) w3 d4
  rw [show w3.drew.drew.setCells g (2 + b * 6) (TL 6 fun k => f (a * 6 + k)) = (w3.setCells g (2 + b * 6) (TL 6 fun k => f (a * 6 + k))).drew.drew from by rw [drew_setCells, drew_setCells]]
  generalize w3.setCells g (2 + b * 6) (TL 6 fun k => f (a * 6 + k)) = w4 at e1 e3 e4 ⊢
  refine bodyPost_end (results_none rfl _ _ _) rfl ?_
  obtain rfl := HH.out
  exact ⟨rfl, e1, e3, e4.size, e4.os, e4.tape, e4.output⟩
def swapV (r c : Int) (f : Nat → Int) (a b : Int) : Value := if rowC r c f a b = 0 then .tuple #[MV r c (swapF f a.toNat b.toNat), .int .i64 0] else .tuple #[MV 0 0 (fun _ => 0), .int .i64 (rowC r c f a b)]
theorem swapV_form (r c : Int) (f : Nat → Int) (hm : MW r c f) (a b : Int) : ∃ R C F k, swapV r c f a b = .tuple #[MV R C F, .int .i64 k] ∧ MW R C F := by
  unfold swapV
  split
  · exact ⟨_, _, _, _, rfl, hm.1, hm.2.1, hm.2.2.1, hm.2.2.2.1, swapF_b hm.2.2.2.2 _ _⟩
  · exact ⟨_, _, _, _, rfl, by omega, by omega, by omega, by omega, fun _ => ⟨Int.le_refl 0, show (0 : Int) < 65536 by decide⟩⟩
theorem rowC_cases (r c : Int) (f : Nat → Int) (a b : Int) : (rowC r c f a b = 1 ∧ okB r c f = false) ∨ (rowC r c f a b = 2 ∧ okB r c f = true ∧ (inRow a r && inRow b r) = false) ∨
    (rowC r c f a b = 0 ∧ okB r c f = true ∧ inRow a r = true ∧ inRow b r = true ∧ ∃ x y : Nat, a = x ∧ b = y ∧ x < 6 ∧ y < 6) := by
  unfold rowC
  rcases h1 : okB r c f with _ | _
  · left; exact ⟨rfl, rfl⟩
  · right
    rcases h2 : inRow a r with _ | _
    · left; exact ⟨rfl, rfl, rfl⟩
    · rcases h3 : inRow b r with _ | _
      · left; exact ⟨rfl, rfl, rfl⟩
      · right
        refine ⟨rfl, rfl, rfl, rfl, a.toNat, b.toNat, ?_⟩
        unfold okB inSide at h1
        unfold inRow at h2 h3
        simp only [Bool.and_eq_true, decide_eq_true_eq] at h1 h2 h3
        omega
/-- what a call leaves that writes only into one block of the caller's -/
theorem Below.one {B g : Nat} {w0 w w' : World} (h : Below B w0 w) (hB : B ≤ g) (hs : B ≤ w.heap.size) (h3 : ∀ x, x ≠ g → x < w.heap.size → w'.heap[x]? = w.heap[x]?) (h4 : w.heap.size ≤ w'.heap.size) (h5 : w'.os = w.os) (h6 : w'.tape = w.tape) (h7 : w'.output = w.output) : Below B w0 w' :=
  h.trans ⟨h5, h6, h7, h4, fun k hk => h3 k (by omega) (by omega)⟩

set_option maxRecDepth 100000 in
set_option maxHeartbeats 2000000 in
theorem spec_SwapRows (r c : Int) (f : Nat → Int) (hm : MW r c f) (a b : Int) (w : World) : Calls Try.prog 69 #[MV r c f, .int .i64 a, .int .i64 b] w fun e w' => e = .returned (swapV r c f a b) ∧ Below w.heap.size w w' := by
  go_enter Try.func69, Try.ntmps69
  go_upto_region 1 with fail
  obtain ⟨a1, a2, a4, a5⟩ := new2 w (.cells (CL r c f).toArray 33) (.cells (CL 0 0 fun _ => 0).toArray 33)
  rw [zero38]
  obtain ⟨g, hg⟩ : ∃ g, g = w.heap.size := ⟨_, rfl⟩
  rw [← hg] at a1 a2 a4 a5 ⊢
  generalize World.alloc (World.alloc w _) _ = w2 at a1 a2 a4 a5 ⊢
  replace a1 : MB w2 g 33 r c f := a1
  replace a2 : MB w2 (g + 1) 33 0 0 (fun _ => 0) := a2
  have HG := Lib.hid hg
  clear hg
  go_wp2_with fail
  refine (spec_l02Row r c f hm a b g _ _ a1).mono ?_
  rintro e wn ⟨rfl, rfl⟩
  rcases rowC_cases r c f a b with ⟨hc, h1⟩ | ⟨hc, h1, h2⟩ | ⟨hc, h1, h2, h3, x, y, rfl, rfl, hx, hy⟩
  · have hV : swapV r c f a b = .tuple #[MV 0 0 (fun _ => 0), .int .i64 1] := by unfold swapV; rw [hc]; rfl
    have HV := Lib.hid hV
    rw [hc]
    clear hV h1 hc
    go_wp2_with (first | (guard_target =~ wpList _ _ _ (⟨_, Op.build 33 _, _, _, _, _⟩ :: _) _ _; refine wpList_build0 rfl 33 rfl (CL 0 0 fun _ => 0).toArray (by kernel_rfl) ?_) | (guard_target =~ wpList _ _ _ (⟨_, Op.store 33 (Operand.tmp 6) _, _, _, _, _⟩ :: _) _ _; refine wpList_store_row rfl 33 _ _ rfl (g + 1) (CL 0 0 fun _ => 0).toArray rfl rfl _ _ a2 (by kernel_rfl) rfl (CL_one _ _ _) ?_))
    refine bodyPost_ret (v := .tuple #[MV 0 0 (fun _ => 0), .int .i64 1]) ?_ rfl ⟨congrArg Ending.returned HV.out.symm, by obtain rfl := HG.out; exact Below.setRow a4 (Nat.le_succ _) _⟩
    exact results_cell_tmp2 rfl _ _ (g + 1) _ _ (0, 0) _ _ rfl rfl (a2.setRow _) Try.underlying33 rfl (by kernel_rfl)
  · have hV : swapV r c f a b = .tuple #[MV 0 0 (fun _ => 0), .int .i64 2] := by unfold swapV; rw [hc]; rfl
    have HV := Lib.hid hV
    rw [hc]
    clear hV h1 h2 hc
    go_wp2_with (first | (guard_target =~ wpList _ _ _ (⟨_, Op.build 33 _, _, _, _, _⟩ :: _) _ _; refine wpList_build0 rfl 33 rfl (CL 0 0 fun _ => 0).toArray (by kernel_rfl) ?_) | (guard_target =~ wpList _ _ _ (⟨_, Op.store 33 (Operand.tmp 6) _, _, _, _, _⟩ :: _) _ _; refine wpList_store_row rfl 33 _ _ rfl (g + 1) (CL 0 0 fun _ => 0).toArray rfl rfl _ _ a2 (by kernel_rfl) rfl (CL_one _ _ _) ?_))
    refine bodyPost_ret (v := .tuple #[MV 0 0 (fun _ => 0), .int .i64 2]) ?_ rfl ⟨congrArg Ending.returned HV.out.symm, by obtain rfl := HG.out; exact Below.setRow a4 (Nat.le_succ _) _⟩
    exact results_cell_tmp2 rfl _ _ (g + 1) _ _ (0, 0) _ _ rfl rfl (a2.setRow _) Try.underlying33 rfl (by kernel_rfl)
  · have hV : swapV r c f x y = .tuple #[MV r c (swapF f x y), .int .i64 0] := by unfold swapV; rw [if_pos hc]; rfl
    have HV := Lib.hid hV
    rw [hc]
    clear hV h1 h2 h3 hc
    have i1 : (x : Int) < 6 := by omega
    have i2 : (y : Int) < 6 := by omega
    go_wp2_with fail
    refine (spec_l02Swap r c f g x y hx hy _ a1).mono ?_
    rintro e wm ⟨rfl, b1, b3, b4, b5, b6, b7⟩
    have b2 : MB wm (g + 1) 33 0 0 (fun _ => 0) := (b3 _ (by omega) a2.lt).trans a2
    have b8 := Below.one a4 (Nat.le_refl g) (by omega) b3 b4 b5 b6 b7
    clear a1 a2 a4 b3 b4 b5 b6 b7
    go_wp2_with (first | (guard_target =~ wpList _ _ _ (⟨_, Op.load 33 (Operand.tmp 3), _, _, _, _⟩ :: _) _ _; refine wpList_load_row rfl 33 _ rfl (g) rfl _ (CL r c (swapF f x y)).toArray (0, 0) _ b1 Try.underlying33 rfl (by kernel_rfl) ?_) | (guard_target =~ wpList _ _ _ (⟨_, Op.store 33 (Operand.tmp 6) _, _, _, _, _⟩ :: _) _ _; refine wpList_store_row rfl 33 _ _ rfl (g + 1) (CL r c (swapF f x y)).toArray rfl rfl _ _ b2 (by kernel_rfl) rfl (CL_one _ _ _) ?_))
    refine bodyPost_ret (v := .tuple #[MV r c (swapF f x y), .int .i64 0]) ?_ rfl ⟨congrArg Ending.returned HV.out.symm, by obtain rfl := HG.out; exact Below.setRow b8 (Nat.le_succ _) _⟩
    exact results_cell_tmp2 rfl _ _ (g + 1) _ _ (0, 0) _ _ rfl rfl (b2.setRow _) Try.underlying33 rfl (by kernel_rfl)
end Go.Proofs.Ytjbaeomjinnlhaa
