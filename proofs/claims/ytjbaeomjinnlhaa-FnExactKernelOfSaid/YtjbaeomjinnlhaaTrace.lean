/-
  Rows with their traces.
-/
import Derived.Test.YtjbaeomjinnlhaaOk2
import Derived.Deep.RegionHeld
import Derived.Test.YtjbaeomjinnlhaaTimes
import Derived.Test.YtjbaeomjinnlhaaInv
import Derived.Test.YtjbaeomjinnlhaaRed2
namespace Go.Proofs.Ytjbaeomjinnlhaa
set_option linter.unusedVariables false
set_option linter.unusedSimpArgs false
open Go.ChangeShapes Go.WideShapes Go.ChangeAt Go.RowKit

/-- two halves -/
def joinT (a b : Nat → Int) : Nat → Int := fun k => if k < 6 then a k else b (k - 6)
theorem exec_buildT {P : Program} {o : Oper} {a : Act} (ty : TypeId) (x y : Operand) (ho : o.op = .build ty #[(0, x), (1, y)]) (f h : Nat → Int) (hx : a.eval x = .agg (TL 6 f).toArray) (hy : a.eval y = .agg (TL 6 h).toArray)
    (hb : ∀ f h : Nat → Int, P.built ty [(0, .agg (TL 6 f).toArray), (1, .agg (TL 6 h).toArray)] = some (TL 12 (joinT f h)).toArray) (w : World) : (execOp a.eval o).run P w = .ok (.value (.agg (TL 12 (joinT f h)).toArray)) w := by
  unfold execOp
  have hr := run_build (P := P) w ty #[(0, .agg (TL 6 f).toArray), (1, .agg (TL 6 h).toArray)] _ (hb f h)
  simp only [ho, List.map_toArray, List.map_cons, List.map_nil, hx, hy, Sem.run_bind, hr, Result.andThen_ok, Sem.run_pure]
theorem RB.sub0 {w : World} {g m : Nat} {t : TypeId} {f : Nat → Int} (h : RB w g t m f) (n : Nat) (hn : n ≤ m) : w.rangeAt g 0 (TL n f) := by
  have := RB.sub h 0 n (by omega)
  simpa only [Nat.zero_add] using this
theorem joinT_eq (f : Nat → Int) : ∀ k, k < 12 → joinT f (fun k => f (6 + k)) k = f k := fun k _ => by
  unfold joinT
  by_cases e : k < 6
  · rw [if_pos e]
  · rw [if_neg e]; show f (6 + (k - 6)) = f k; rw [show 6 + (k - 6) = k from by omega]
theorem zero12 : #[Value.int .u16 0, .int .u16 0, .int .u16 0, .int .u16 0, .int .u16 0, .int .u16 0, .int .u16 0, .int .u16 0, .int .u16 0, .int .u16 0, .int .u16 0, .int .u16 0] = (TL 12 fun _ => 0).toArray := rfl
set_option maxRecDepth 100000 in
set_option maxHeartbeats 1000000 in
theorem scaledT_any (h : Nat → Int) (hh : VW h) (y : Int) (y0 : 0 ≤ y) (y1 : y < 65536) (w : World) : Calls Try.prog 171 #[.agg (TL 12 h).toArray, .int .u16 y] w fun e w' => e = .returned (.agg (TL 12 fun k => mulI (h k) y).toArray) ∧ Below w.heap.size w w' := by
  go_enter Try.func171, Try.ntmps171
  go_upto_region 1 with fail
  obtain ⟨a1, a2, a4, _⟩ := new2 w (.cells (TL 12 h).toArray 149) (.cells (TL 12 fun _ => 0).toArray 149)
  rw [zero12]
  obtain ⟨g, hg⟩ : ∃ g, g = w.heap.size := ⟨_, rfl⟩
  rw [← hg] at a1 a2 a4 ⊢
  generalize World.alloc (World.alloc w _) _ = w2 at a1 a2 a4 ⊢
  replace a1 : RB w2 g 149 12 h := a1
  replace a2 : RB w2 (g + 1) 149 12 (fun _ => 0) := a2
  have HH := Lib.hid hh
  have HG := Lib.hid hg
  clear hg hh
  refine wp_region_held_drew (S := (fun w => RB w g 149 12 h)) (by kernel_rfl) ?hS0 (fun hS => ?_)
  case hS0 => exact a1
  change wpAnyH _ _ _ _ _ _ _ _ w2.drew at *
  replace a2 : RB w2.drew (g + 1) 149 12 (fun _ => 0) := a2
  replace a4 := a4.drew
  clear a1
  generalize w2.drew = wd at a2 a4 hS ⊢
  refine takeH (i := 0) (v := ?v0) rfl rfl (by kernel_rfl) (by kernel_rfl) (by kernel_rfl) (fun _ _ _ h => h) rfl ?hy0 hS ?rs0
  case hy0 => (intro wq hq; go_simp; try (with_reducible rfl))
  simp only [Act.put, List.setIfInBounds_toArray, List.set_cons_zero, List.set_cons_succ]
  refine takeH (i := 1) (v := .agg (TL 6 h).toArray) rfl rfl (by kernel_rfl) (by kernel_rfl) (by kernel_rfl) (fun _ _ _ h => h) rfl ?hy1 hS ?rs1
  case hy1 => exact fun wq hq => exec_load_mid 45 _ rfl (g) 0 rfl (TL 6 h) (.array 6 29) (RB.sub0 hq 6 (by omega)) (by kernel_rfl) rfl (by kernel_rfl)
  simp only [Act.put, List.setIfInBounds_toArray, List.set_cons_zero, List.set_cons_succ]
  refine takeH (i := 2) (v := ?v2) rfl rfl (by kernel_rfl) (by kernel_rfl) (by kernel_rfl) (fun _ _ _ h => h) rfl ?hy2 hS ?rs2
  case hy2 => (intro wq hq; go_simp; try (with_reducible rfl))
  simp only [Act.put, List.setIfInBounds_toArray, List.set_cons_zero, List.set_cons_succ]
  refine takeH (i := 4) (v := ?v4) rfl rfl (by kernel_rfl) (by kernel_rfl) (by kernel_rfl) (fun _ _ _ h => h) rfl ?hy4 hS ?rs4
  case hy4 => (intro wq hq; go_simp; try (with_reducible rfl))
  simp only [Act.put, List.setIfInBounds_toArray, List.set_cons_zero, List.set_cons_succ]
  refine takeH (i := 5) (v := .agg (TL 6 (fun k => h (6 + k))).toArray) rfl rfl (by kernel_rfl) (by kernel_rfl) (by kernel_rfl) (fun _ _ _ h => h) rfl ?hy5 hS ?rs5
  case hy5 => exact fun wq hq => exec_load_mid 45 _ rfl (g) 6 rfl (TL 6 (fun k => h (6 + k))) (.array 6 29) (RB.sub hq 6 6 (by omega)) (by kernel_rfl) rfl (by kernel_rfl)
  simp only [Act.put, List.setIfInBounds_toArray, List.set_cons_zero, List.set_cons_succ]
  refine takeH (i := 6) (v := ?v6) rfl rfl (by kernel_rfl) (by kernel_rfl) (by kernel_rfl) (fun _ _ _ h => h) rfl ?hy6 hS ?rs6
  case hy6 => (intro wq hq; go_simp; try (with_reducible rfl))
  simp only [Act.put, List.setIfInBounds_toArray, List.set_cons_zero, List.set_cons_succ]
  refine wpAnyH_ready (rs := [3]) (by kernel_rfl) (by simp) ?_
  refine AllReadyH.cons rfl (fun K hK => ?_) AllReadyH.nil
  simp only [List.getElem_toArray, List.getElem_cons_zero, List.getElem_cons_succ]
  go_simp
  refine (scaled_any h HH.out y y0 y1 _).mono ?_
  rintro e wn ⟨rfl, hn⟩
  replace a4 := bnext a4 hn (Nat.le_of_lt hS.lt)
  replace a2 := a2.below hn a2.lt
  refine hK.out _ _ (hS.below hn hS.lt) (fun hS => ?_)
  clear hK
  clear hn
  refine wpAnyH_ready (rs := [7]) (by kernel_rfl) (by simp) ?_
  refine AllReadyH.cons rfl (fun K hK => ?_) AllReadyH.nil
  simp only [List.getElem_toArray, List.getElem_cons_zero, List.getElem_cons_succ]
  go_simp
  refine (scaled_any (fun k => h (6 + k)) (fun t => HH.out _) y y0 y1 _).mono ?_
  rintro e wm ⟨rfl, hn⟩
  replace a4 := bnext a4 hn (Nat.le_of_lt hS.lt)
  replace a2 := a2.below hn a2.lt
  refine hK.out _ _ (hS.below hn hS.lt) (fun hS => ?_)
  clear hK
  clear hn
  refine takeH (i := 8) (v := .agg (TL 12 (joinT (fun k => mulI (h k) y) (fun k => mulI (h (6 + k)) y))).toArray) rfl rfl (by kernel_rfl) (by kernel_rfl) (by kernel_rfl) (fun _ _ _ h => h) rfl ?hy8 hS ?rs8
  case hy8 => exact fun wq _ => exec_buildT 149 _ _ rfl (fun k => mulI (h k) y) (fun k => mulI (h (6 + k)) y) rfl rfl (fun _ _ => by kernel_rfl) wq
  simp only [Act.put, List.setIfInBounds_toArray, List.set_cons_zero, List.set_cons_succ]
  refine wpAnyH_ready (rs := [9]) (by kernel_rfl) (by simp) ?_
  refine AllReadyH.cons rfl (fun K hK => ?_) AllReadyH.nil
  simp only [List.getElem_toArray, List.getElem_cons_zero, List.getElem_cons_succ]
  rw [if_pos (by rfl)]
  refine wp_store_row 149 _ _ rfl (g + 1) (TL 12 (joinT (fun k => mulI (h k) y) (fun k => mulI (h (6 + k)) y))).toArray rfl rfl _ _ a2 (by kernel_rfl) rfl (TL_one _ _) ?_
  refine hK.out _ _ (hS.setRow_other (by omega) _) (fun hS => ?_)
  clear hK
  refine wpAnyH_done (by kernel_rfl) ?_ _
  have b3 : RB (World.setRow _ (g + 1) (TL 12 (joinT (fun k => mulI (h k) y) (fun k => mulI (h (6 + k)) y))).toArray) (g + 1) 149 12 (fun k => mulI (h k) y) := (a2.setRow _).ext (joinT_eq (fun k => mulI (h k) y))
  have b4 := Below.setRow a4 (show g ≤ (g + 1) by omega) (TL 12 (joinT (fun k => mulI (h k) y) (fun k => mulI (h (6 + k)) y))).toArray
  generalize World.setRow _ (g + 1) (TL 12 (joinT (fun k => mulI (h k) y) (fun k => mulI (h (6 + k)) y))).toArray = w9 at b3 b4 ⊢
  clear a2 a4 hS
  go_wp2_with fail
  refine bodyPost_ret (v := .agg (TL 12 fun k => mulI (h k) y).toArray) ?_ rfl ⟨rfl, by obtain rfl := HG.out; exact b4⟩
  exact results_cell_row rfl _ _ (g + 1) _ _ (0, 0) _ rfl b3 Try.underlying149 rfl (by kernel_rfl)

set_option maxRecDepth 100000 in
set_option maxHeartbeats 1000000 in
theorem plusT_any (h x : Nat → Int) (hh : VW h) (hx : VW x) (w : World) : Calls Try.prog 172 #[.agg (TL 12 h).toArray, .agg (TL 12 x).toArray] w fun e w' => e = .returned (.agg (TL 12 fun k => xorI (h k) (x k)).toArray) ∧ Below w.heap.size w w' := by
  go_enter Try.func172, Try.ntmps172
  go_upto_region 1 with fail
  obtain ⟨a1, a3, a2, a4, _⟩ := new3 w (.cells (TL 12 h).toArray 149) (.cells (TL 12 x).toArray 149) (.cells (TL 12 fun _ => 0).toArray 149)
  rw [zero12]
  obtain ⟨g, hg⟩ : ∃ g, g = w.heap.size := ⟨_, rfl⟩
  rw [← hg] at a1 a2 a3 a4 ⊢
  generalize World.alloc (World.alloc (World.alloc w _) _) _ = w2 at a1 a2 a3 a4 ⊢
  replace a1 : RB w2 g 149 12 h := a1
  replace a3 : RB w2 (g + 1) 149 12 x := a3
  replace a2 : RB w2 (g + 1 + 1) 149 12 (fun _ => 0) := a2
  have HH := Lib.hid hh
  have HX := Lib.hid hx
  have HG := Lib.hid hg
  clear hg hh hx
  refine wp_region_held_drew (S := (fun w => RB w g 149 12 h ∧ RB w (g + 1) 149 12 x)) (by kernel_rfl) ?hS0 (fun hS => ?_)
  case hS0 => exact ⟨a1, a3⟩
  change wpAnyH _ _ _ _ _ _ _ _ w2.drew at *
  replace a2 : RB w2.drew (g + 1 + 1) 149 12 (fun _ => 0) := a2
  replace a4 := a4.drew
  clear a1 a3
  generalize w2.drew = wd at a2 a4 hS ⊢
  refine takeH (i := 0) (v := ?v0) rfl rfl (by kernel_rfl) (by kernel_rfl) (by kernel_rfl) (fun _ _ _ h => h) rfl ?hy0 hS ?rs0
  case hy0 => (intro wq hq; go_simp; try (with_reducible rfl))
  simp only [Act.put, List.setIfInBounds_toArray, List.set_cons_zero, List.set_cons_succ]
  refine takeH (i := 1) (v := .agg (TL 6 h).toArray) rfl rfl (by kernel_rfl) (by kernel_rfl) (by kernel_rfl) (fun _ _ _ h => h) rfl ?hy1 hS ?rs1
  case hy1 => exact fun wq hq => exec_load_mid 45 _ rfl (g) 0 rfl (TL 6 h) (.array 6 29) (RB.sub0 hq.1 6 (by omega)) (by kernel_rfl) rfl (by kernel_rfl)
  simp only [Act.put, List.setIfInBounds_toArray, List.set_cons_zero, List.set_cons_succ]
  refine takeH (i := 2) (v := ?v2) rfl rfl (by kernel_rfl) (by kernel_rfl) (by kernel_rfl) (fun _ _ _ h => h) rfl ?hy2 hS ?rs2
  case hy2 => (intro wq hq; go_simp; try (with_reducible rfl))
  simp only [Act.put, List.setIfInBounds_toArray, List.set_cons_zero, List.set_cons_succ]
  refine takeH (i := 3) (v := .agg (TL 6 x).toArray) rfl rfl (by kernel_rfl) (by kernel_rfl) (by kernel_rfl) (fun _ _ _ h => h) rfl ?hy3 hS ?rs3
  case hy3 => exact fun wq hq => exec_load_mid 45 _ rfl (g + 1) 0 rfl (TL 6 x) (.array 6 29) (RB.sub0 hq.2 6 (by omega)) (by kernel_rfl) rfl (by kernel_rfl)
  simp only [Act.put, List.setIfInBounds_toArray, List.set_cons_zero, List.set_cons_succ]
  refine takeH (i := 5) (v := ?v5) rfl rfl (by kernel_rfl) (by kernel_rfl) (by kernel_rfl) (fun _ _ _ h => h) rfl ?hy5 hS ?rs5
  case hy5 => (intro wq hq; go_simp; try (with_reducible rfl))
  simp only [Act.put, List.setIfInBounds_toArray, List.set_cons_zero, List.set_cons_succ]
  refine takeH (i := 6) (v := .agg (TL 6 (fun k => h (6 + k))).toArray) rfl rfl (by kernel_rfl) (by kernel_rfl) (by kernel_rfl) (fun _ _ _ h => h) rfl ?hy6 hS ?rs6
  case hy6 => exact fun wq hq => exec_load_mid 45 _ rfl (g) 6 rfl (TL 6 (fun k => h (6 + k))) (.array 6 29) (RB.sub hq.1 6 6 (by omega)) (by kernel_rfl) rfl (by kernel_rfl)
  simp only [Act.put, List.setIfInBounds_toArray, List.set_cons_zero, List.set_cons_succ]
  refine takeH (i := 7) (v := ?v7) rfl rfl (by kernel_rfl) (by kernel_rfl) (by kernel_rfl) (fun _ _ _ h => h) rfl ?hy7 hS ?rs7
  case hy7 => (intro wq hq; go_simp; try (with_reducible rfl))
  simp only [Act.put, List.setIfInBounds_toArray, List.set_cons_zero, List.set_cons_succ]
  refine takeH (i := 8) (v := .agg (TL 6 (fun k => x (6 + k))).toArray) rfl rfl (by kernel_rfl) (by kernel_rfl) (by kernel_rfl) (fun _ _ _ h => h) rfl ?hy8 hS ?rs8
  case hy8 => exact fun wq hq => exec_load_mid 45 _ rfl (g + 1) 6 rfl (TL 6 (fun k => x (6 + k))) (.array 6 29) (RB.sub hq.2 6 6 (by omega)) (by kernel_rfl) rfl (by kernel_rfl)
  simp only [Act.put, List.setIfInBounds_toArray, List.set_cons_zero, List.set_cons_succ]
  refine wpAnyH_ready (rs := [4]) (by kernel_rfl) (by simp) ?_
  refine AllReadyH.cons rfl (fun K hK => ?_) AllReadyH.nil
  simp only [List.getElem_toArray, List.getElem_cons_zero, List.getElem_cons_succ]
  go_simp
  refine (vplus_any h x HH.out HX.out _).mono ?_
  rintro e wn ⟨rfl, hn⟩
  replace a4 := bnext a4 hn (Nat.le_of_lt hS.1.lt)
  replace a2 := a2.below hn a2.lt
  refine hK.out _ _ ⟨hS.1.below hn hS.1.lt, hS.2.below hn hS.2.lt⟩ (fun hS => ?_)
  clear hK
  clear hn
  refine wpAnyH_ready (rs := [9]) (by kernel_rfl) (by simp) ?_
  refine AllReadyH.cons rfl (fun K hK => ?_) AllReadyH.nil
  simp only [List.getElem_toArray, List.getElem_cons_zero, List.getElem_cons_succ]
  go_simp
  refine (vplus_any (fun k => h (6 + k)) (fun k => x (6 + k)) (fun t => HH.out _) (fun t => HX.out _) _).mono ?_
  rintro e wm ⟨rfl, hn⟩
  replace a4 := bnext a4 hn (Nat.le_of_lt hS.1.lt)
  replace a2 := a2.below hn a2.lt
  refine hK.out _ _ ⟨hS.1.below hn hS.1.lt, hS.2.below hn hS.2.lt⟩ (fun hS => ?_)
  clear hK
  clear hn
  refine takeH (i := 10) (v := .agg (TL 12 (joinT (fun k => xorI (h k) (x k)) (fun k => xorI (h (6 + k)) (x (6 + k))))).toArray) rfl rfl (by kernel_rfl) (by kernel_rfl) (by kernel_rfl) (fun _ _ _ h => h) rfl ?hy10 hS ?rs10
  case hy10 => exact fun wq _ => exec_buildT 149 _ _ rfl (fun k => xorI (h k) (x k)) (fun k => xorI (h (6 + k)) (x (6 + k))) rfl rfl (fun _ _ => by kernel_rfl) wq
  simp only [Act.put, List.setIfInBounds_toArray, List.set_cons_zero, List.set_cons_succ]
  refine wpAnyH_ready (rs := [11]) (by kernel_rfl) (by simp) ?_
  refine AllReadyH.cons rfl (fun K hK => ?_) AllReadyH.nil
  simp only [List.getElem_toArray, List.getElem_cons_zero, List.getElem_cons_succ]
  rw [if_pos (by rfl)]
  refine wp_store_row 149 _ _ rfl (g + 1 + 1) (TL 12 (joinT (fun k => xorI (h k) (x k)) (fun k => xorI (h (6 + k)) (x (6 + k))))).toArray rfl rfl _ _ a2 (by kernel_rfl) rfl (TL_one _ _) ?_
  refine hK.out _ _ ⟨hS.1.setRow_other (by omega) _, hS.2.setRow_other (by omega) _⟩ (fun hS => ?_)
  clear hK
  refine wpAnyH_done (by kernel_rfl) ?_ _
  have b3 : RB (World.setRow _ (g + 1 + 1) (TL 12 (joinT (fun k => xorI (h k) (x k)) (fun k => xorI (h (6 + k)) (x (6 + k))))).toArray) (g + 1 + 1) 149 12 (fun k => xorI (h k) (x k)) := (a2.setRow _).ext (joinT_eq (fun k => xorI (h k) (x k)))
  have b4 := Below.setRow a4 (show g ≤ (g + 1 + 1) by omega) (TL 12 (joinT (fun k => xorI (h k) (x k)) (fun k => xorI (h (6 + k)) (x (6 + k))))).toArray
  generalize World.setRow _ (g + 1 + 1) (TL 12 (joinT (fun k => xorI (h k) (x k)) (fun k => xorI (h (6 + k)) (x (6 + k))))).toArray = w9 at b3 b4 ⊢
  clear a2 a4 hS
  go_wp2_with fail
  refine bodyPost_ret (v := .agg (TL 12 fun k => xorI (h k) (x k)).toArray) ?_ rfl ⟨rfl, by obtain rfl := HG.out; exact b4⟩
  exact results_cell_row rfl _ _ (g + 1 + 1) _ _ (0, 0) _ rfl b3 Try.underlying149 rfl (by kernel_rfl)
end Go.Proofs.Ytjbaeomjinnlhaa
