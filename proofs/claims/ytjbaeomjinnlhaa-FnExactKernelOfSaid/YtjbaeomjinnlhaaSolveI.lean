/-
  The program solves.
-/
import Derived.Test.YtjbaeomjinnlhaaOk2
import Derived.Deep.RegionHeld
import Derived.Test.YtjbaeomjinnlhaaRank
import Derived.Test.YtjbaeomjinnlhaaVec
namespace Go.Proofs.Ytjbaeomjinnlhaa
set_option linter.unusedVariables false
set_option linter.unusedSimpArgs false
open Go.ChangeShapes Go.WideShapes Go.ChangeAt Go.RowKit

/-- the vector behind n rows -/
def xP (RF SU : Nat → Int) : Nat → (Nat → Int)
  | 0 => fun _ => 0
  | n + 1 => if firstI (fun k => RF (n * 6 + k)) < 6 then upd (xP RF SU n) (firstI fun k => RF (n * 6 + k)) (SU n) else xP RF SU n
def fineAt (RF SU : Nat → Int) (n : Nat) : Prop := firstI (fun k => RF (n * 6 + k)) < 6 ∨ SU n = 0
theorem xP_yes (RF SU : Nat → Int) (n p : Nat) (hp : p < 6) (h : p = firstI fun k => RF (n * 6 + k)) : xP RF SU (n + 1) = upd (xP RF SU n) p (SU n) := by
  show (if firstI (fun k => RF (n * 6 + k)) < 6 then upd (xP RF SU n) (firstI fun k => RF (n * 6 + k)) (SU n) else xP RF SU n) = _
  rw [← h, if_pos hp]
theorem xP_no (RF SU : Nat → Int) (n : Nat) (h : ¬ firstI (fun k => RF (n * 6 + k)) < 6) : xP RF SU (n + 1) = xP RF SU n := by
  show (if firstI (fun k => RF (n * 6 + k)) < 6 then upd (xP RF SU n) (firstI fun k => RF (n * 6 + k)) (SU n) else xP RF SU n) = _
  rw [if_neg h]
theorem xP_b {RF SU : Nat → Int} (hs : VW SU) : ∀ n, VW (xP RF SU n)
  | 0 => fun _ => ⟨Int.le_refl 0, show (0 : Int) < 65536 by decide⟩
  | n + 1 => by
    unfold xP
    split
    · intro t; unfold upd; split
      · exact hs n
      · exact xP_b hs n t
    · exact xP_b hs n
/-- what solve answers: the reduced cells, the sums -/
def SolveI (RF SU : Nat → Int) (e : Ending) : Prop :=
  ((∀ n, n < 6 → fineAt RF SU n) ∧ e = .returned (.tuple #[VV (xP RF SU 6), .bool true])) ∨ ((∃ n, n < 6 ∧ ¬ fineAt RF SU n) ∧ e = .returned (.tuple #[VV fun _ => 0, .bool false]))
set_option maxRecDepth 100000 in
set_option maxHeartbeats 2000000 in
theorem solve_any (R : Nat) (hR : R ≤ 6) (c : Int) (f : Nat → Int) (hm : MW R c f) (v : Nat → Int) (hv : VW v) (w : World) : Calls Try.prog 124 #[MV R c f, VV v] w fun e w' => SolveI (redF f R) (applyF (trcF f R) v) e ∧ Below w.heap.size w w' := by
  have hta1 : ∀ (v : Value) (w : World), (Instr.typeAssert (.iface 153 v) 144 153 true).run Try.prog w = .ok (.tuple #[v, .bool true]) w := fun _ _ => by kernel_rfl
  have hta2 : ∀ (w : World), (Instr.typeAssert (.iface 159 (.agg #[])) 144 153 true).run Try.prog w = .ok (.tuple #[.agg (LRC 0 fun _ => 0).toArray, .bool false]) w := fun _ => by kernel_rfl
  have hta3 : ∀ (v : Value) (w : World), (Instr.typeAssert (.iface 159 v) 144 159 true).run Try.prog w = .ok (.tuple #[v, .bool true]) w := fun _ _ => by kernel_rfl
  obtain ⟨RF, hRF⟩ : ∃ RF, RF = redF f R := ⟨_, rfl⟩
  obtain ⟨TF, hTF⟩ : ∃ TF, TF = trcF f R := ⟨_, rfl⟩
  have hRB : VW RF := by rw [hRF]; exact redF_b hm.2.2.2.2 R
  have hTB : VW TF := by rw [hTF]; exact trcF_b hm.2.2.2.2 R
  obtain ⟨SU, hSU⟩ : ∃ SU, SU = applyF TF v := ⟨_, rfl⟩
  have hSB : VW SU := by rw [hSU]; exact applyF_b hTB hv
  rw [← hRF, ← hTF, ← hSU]
  have HSU := Lib.hid hSU
  have HSB := Lib.hid hSB
  clear hSU hSB
  have HRF := Lib.hid hRF
  have HTF := Lib.hid hTF
  have HRB := Lib.hid hRB
  have HTB := Lib.hid hTB
  have HV := Lib.hid hv
  clear hRF hTF hRB hTB hv
  go_enter Try.func124, Try.ntmps124
  go_upto_region 1 with fail
  obtain ⟨a1, a2, a3, a4, a5⟩ := new3 w (.cells (CL R c f).toArray 33) (.cells (TL 6 v).toArray 45) (.cells (TL 6 fun _ => 0).toArray 45)
  rw [zero6]
  obtain ⟨g, hg⟩ : ∃ g, g = w.heap.size := ⟨_, rfl⟩
  rw [← hg] at a1 a2 a3 a4 a5 ⊢
  generalize World.alloc (World.alloc (World.alloc w _) _) _ = w2 at a1 a2 a3 a4 a5 ⊢
  replace a1 : MB w2 g 33 R c f := a1
  replace a2 : RB w2 (g + 1) 45 6 v := a2
  replace a3 : RB w2 (g + 1 + 1) 45 6 (fun _ => 0) := a3
  have HG := Lib.hid hg
  clear hg a5
  go_wp2_with (first | (guard_target =~ wpList _ _ _ (⟨_, Op.load 33 (Operand.tmp 2), _, _, _, _⟩ :: _) _ _; refine wpList_load_row rfl 33 _ rfl (g) rfl _ (CL R c f).toArray (0, 0) _ a1 Try.underlying33 rfl (by kernel_rfl) ?_))
  refine (reduction_any R hR c f hm _).mono ?_
  rintro e wm ⟨rfl, hn⟩
  rw [← HRF.out, ← HTF.out]
  have b4 := bnext a4 hn (Nat.le_of_lt a1.lt)
  have b2 := a2.below hn a2.lt
  have b3 := a3.below hn a3.lt
  clear a1 a2 a3 a4 hn
  have hlt := b3.lt
  obtain ⟨s1, s2, s4, s5⟩ := new2 wm (.cells (CL 0 0 fun _ => 0).toArray 33) (.cells (CL 0 0 fun _ => 0).toArray 33)
  replace s1 : MB _ wm.heap.size 33 0 0 (fun _ => 0) := s1
  replace s2 : MB _ (wm.heap.size + 1) 33 0 0 (fun _ => 0) := s2
  have c2 := (b2.alloc (.cells (CL 0 0 fun _ => 0).toArray 33)).alloc (.cells (CL 0 0 fun _ => 0).toArray 33)
  have c3 := (b3.alloc (.cells (CL 0 0 fun _ => 0).toArray 33)).alloc (.cells (CL 0 0 fun _ => 0).toArray 33)
  have c4 := (b4.alloc (show g ≤ wm.heap.size by omega) (.cells (CL 0 0 fun _ => 0).toArray 33)).alloc (show g ≤ _ by rw [World.size_alloc]; omega) (.cells (CL 0 0 fun _ => 0).toArray 33)
  have t2 := s2.setRow_other (b := wm.heap.size) (by omega) (CL R c RF).toArray
  go_upto_region 2 with (first | (guard_target =~ wpList _ _ _ (⟨_, Op.store 33 (Operand.tmp 6) _, _, _, _, _⟩ :: _) _ _; rw [zero38]; refine wpList_store_row rfl 33 _ _ rfl (wm.heap.size) (CL R c RF).toArray rfl rfl _ _ s1 (by kernel_rfl) (by rw [CL_size, CL_size]) (CL_one _ _ _) ?_) | (guard_target =~ wpList _ _ _ (⟨_, Op.store 33 (Operand.tmp 7) _, _, _, _, _⟩ :: _) _ _; refine wpList_store_row rfl 33 _ _ rfl (wm.heap.size + 1) (CL R R TF).toArray rfl rfl _ _ t2 (by kernel_rfl) (by rw [CL_size, CL_size]) (CL_one _ _ _) ?_))
  have e1 : MB (World.setRow (World.setRow _ wm.heap.size (CL R c RF).toArray) (wm.heap.size + 1) (CL R R TF).toArray) wm.heap.size 33 R c RF := (s1.setRow RF).setRow_other (by omega) _
  have e5 : MB (World.setRow (World.setRow _ wm.heap.size (CL R c RF).toArray) (wm.heap.size + 1) (CL R R TF).toArray) (wm.heap.size + 1) 33 R R TF := t2.setRow TF
  have e2 := (c2.setRow_other (b := wm.heap.size) (by omega) (CL R c RF).toArray).setRow_other (b := wm.heap.size + 1) (by omega) (CL R R TF).toArray
  have e3 := (c3.setRow_other (b := wm.heap.size) (by omega) (CL R c RF).toArray).setRow_other (b := wm.heap.size + 1) (by omega) (CL R R TF).toArray
  have e4 := Below.setRow (Below.setRow c4 (show g ≤ wm.heap.size by omega) (CL R c RF).toArray) (show g ≤ wm.heap.size + 1 by omega) (CL R R TF).toArray
  generalize World.setRow (World.setRow _ wm.heap.size (CL R c RF).toArray) (wm.heap.size + 1) (CL R R TF).toArray = wk at e1 e2 e3 e4 e5 ⊢
  obtain ⟨k6, hk⟩ : ∃ k, k = wm.heap.size := ⟨_, rfl⟩
  rw [← hk] at e1 e5 ⊢
  clear s1 s2 s4 s5 c2 c3 c4 t2 b2 b3 b4 hlt hk
  go_wp2_with (first | (guard_target =~ wpList _ _ _ (⟨_, Op.load 33 (Operand.tmp 7), _, _, _, _⟩ :: _) _ _; refine wpList_load_row rfl 33 _ rfl (k6 + 1) rfl _ (CL R R TF).toArray (0, 0) _ e5 Try.underlying33 rfl (by kernel_rfl) ?_) | (guard_target =~ wpList _ _ _ (⟨_, Op.load 45 (Operand.tmp 3), _, _, _, _⟩ :: _) _ _; refine wpList_load_row rfl 45 _ rfl (g + 1) rfl _ (TL 6 v).toArray (0, 0) (.array 6 29) (e2) (by kernel_rfl) rfl (by kernel_rfl) ?_))
  refine (apply_any R R TF v HTB.out HV.out _).mono ?_
  rintro e wn ⟨rfl, hn⟩
  rw [← HSU.out]
  replace e4 := bnext e4 hn (by have := e3.lt; omega)
  replace e1 := e1.below hn e1.lt
  replace e3 := e3.below hn e3.lt
  clear hn e2 e5
  have ls := e3.lt
  go_upto_region 3 with (first | (guard_target =~ wpList _ _ _ (⟨_, Op.store 45 _ _, _, _, _, _⟩ :: _) _ _; refine wpList_store_fresh (cells := (TL 6 SU).toArray) rfl 45 _ _ rfl rfl rfl (by kernel_rfl) rfl (TL_one _ _) ?_))
  have c1 := e1.alloc (.cells (TL 6 SU).toArray 45)
  have c3 := e3.alloc (.cells (TL 6 SU).toArray 45)
  have c8 : RB (wn.alloc (.cells (TL 6 SU).toArray 45)) wn.heap.size 45 6 SU := heap_alloc_last _ _
  have c4 := e4.alloc (show g ≤ wn.heap.size by omega) (.cells (TL 6 SU).toArray 45)
  obtain ⟨k8, hk8⟩ : ∃ k, k = wn.heap.size := ⟨_, rfl⟩
  rw [← hk8] at c8 ls ⊢
  generalize wn.alloc (.cells (TL 6 SU).toArray 45) = wd at c1 c3 c4 c8 ⊢
  clear e1 e3 e4 hk8
  have l8 := c8.lt
  go_upto_region 4 with fail
  rw [zero6]
  have d1 := c1.alloc (.cells (TL 6 fun _ => 0).toArray 45)
  have d3 := c3.alloc (.cells (TL 6 fun _ => 0).toArray 45)
  have d8 := c8.alloc (.cells (TL 6 fun _ => 0).toArray 45)
  have d9 : RB (wd.alloc (.cells (TL 6 fun _ => 0).toArray 45)) wd.heap.size 45 6 (fun _ => 0) := heap_alloc_last _ _
  have d4 := c4.alloc (show g ≤ wd.heap.size by omega) (.cells (TL 6 fun _ => 0).toArray 45)
  obtain ⟨k9, hk9⟩ : ∃ k, k = wd.heap.size := ⟨_, rfl⟩
  rw [← hk9] at d9 l8 ⊢
  generalize wd.alloc (.cells (TL 6 fun _ => 0).toArray 45) = we at d1 d3 d4 d8 d9 ⊢
  clear c1 c3 c4 c8 hk9
  go_wp2_with (first | (guard_target =~ wpList _ _ _ (⟨_, Op.load 33 (Operand.tmp 6), _, _, _, _⟩ :: _) _ _; refine wpList_load_row rfl 33 _ rfl (k6) rfl _ (CL R c RF).toArray (0, 0) _ d1 Try.underlying33 rfl (by kernel_rfl) ?_))
  refine (rows_any R c RF HRB.out _).mono ?_
  rintro e wx ⟨rfl, hn⟩
  have l9 := d9.lt
  have hsz := hn.size
  replace d4 := bnext d4 hn (by omega)
  replace d3 := d3.below hn d3.lt
  replace d8 := d8.below hn d8.lt
  replace d9 := d9.below hn d9.lt
  clear hn d1
  go_wp2_with fail
  go_loopw [24] (fun y wr => ∃ (k : Nat), y = .int .i64 k ∧ k ≤ 6 ∧ RB wr (g + 1 + 1) 45 6 (fun _ => 0) ∧ RB wr k8 45 6 SU ∧ RB wr k9 45 6 (xP RF SU k) ∧ Hid (∀ n, n < k → fineAt RF SU n) ∧ Hid (Below g w wr)) (fun y _ => (6 - intOf y).toNat)
  case atStart => exact ⟨0, rfl, by omega, d3, d8, d9, Lib.hid (fun n hn => by omega), Lib.hid d4⟩
  case round =>
    clear d3 d4 d8 d9 l9 hsz
    obtain ⟨k, rfl, hk, h3, h8, h9, HF, HB2⟩ := hrel
    by_cases hlt : k < 6
    · have T1 : decide ((k : Int) < 6) = true := by simp; omega
      have k1 : (k : Int) < 6 := by omega
      have ix : (IL 6 RF).toArray[k]? = some (rowV fun j => RF (k * 6 + j)) := by rw [List.getElem?_toArray, IL_at 6 RF k hlt, if_pos hlt]
      by_cases hp : firstI (fun j => RF (k * 6 + j)) < 6
      · have hR2 : rowV (fun j => RF (k * 6 + j)) = .iface 153 (.agg (LRC (firstI fun j => RF (k * 6 + j)) fun j => RF (k * 6 + j)).toArray) := by unfold rowV; rw [if_pos hp]
        rw [hR2] at ix
        have HFK := Lib.hid (show fineAt RF SU k from .inl hp)
        obtain ⟨q, hq⟩ : ∃ q, q = firstI fun j => RF (k * 6 + j) := ⟨_, rfl⟩
        rw [← hq] at ix hp
        have HX := Lib.hid (xP_yes RF SU k q hp hq)
        clear hR2 hq
        go_upto_region 10 with (first | guard_target =~ wpList _ _ _ (⟨_, Op.index 145 _ _, _, _, _, _⟩ :: _) _ _; refine wpList_index_iface (e := 144) rfl 145 _ _ rfl (IL 6 RF).toArray k rfl rfl hlt _ ix (by kernel_rfl) Try.underlying144 (by kernel_rfl) ?_ | guard_target =~ wpList _ _ _ (⟨_, Op.store 153 _ _, _, _, _, _⟩ :: _) _ _; refine wpList_store_fresh (cells := (LRC q fun j => RF (k * 6 + j)).toArray) rfl 153 _ _ rfl rfl rfl (by kernel_rfl) rfl (LRC_one _ _) ?_)
        have b1 : HB (wr.alloc (.cells (LRC q fun j => RF (k * 6 + j)).toArray 153)) wr.heap.size q (fun j => RF (k * 6 + j)) := heap_alloc_last _ _
        have n3 := h3.alloc (.cells (LRC q fun j => RF (k * 6 + j)).toArray 153)
        have n8 := h8.alloc (.cells (LRC q fun j => RF (k * 6 + j)).toArray 153)
        have n9 := h9.alloc (.cells (LRC q fun j => RF (k * 6 + j)).toArray 153)
        have n4 := HB2.out.alloc (show g ≤ wr.heap.size by have := h3.lt; omega) (.cells (LRC q fun j => RF (k * 6 + j)).toArray 153)
        obtain ⟨k12, hk12⟩ : ∃ k, k = wr.heap.size := ⟨_, rfl⟩
        rw [← hk12] at b1 ⊢
        generalize wr.alloc (.cells (LRC q fun j => RF (k * 6 + j)).toArray 153) = wy at b1 n3 n8 n9 n4 ⊢
        clear h3 h8 h9 HB2 ix hk12
        have c0 := b1.first
        have q1 := n8.cell k hlt
        have c9 := n9.cell q hp
        have f9 := n9.free q
        have q6 : (q : Int) < 6 := by omega
        have N3 := Lib.hid n3; have N8 := Lib.hid n8; have N9 := Lib.hid n9; have N4 := Lib.hid n4
        clear n3 n8 n9 n4 b1
        refine wp_region_still_tail 6 (by kernel_rfl) (by kernel_rfl) ?_
        simp only [List.take_succ_cons, List.take_zero, List.drop_succ_cons, List.drop_zero]
        iterate 6 still_step
        refine wpStill_nil ?_
        change wpList _ _ _ _ _ wy.drew
        go_wp2_with fail
        exact ⟨⟨k + 1, rfl, by omega, N3.out.other (by omega) _, N8.out.other (by omega) _, (N9.out.put q hp (SU k)).ext (fun s _ => by rw [HX.out]), Lib.hid (fun n hn => by
          by_cases e : n = k
          · rw [e]; exact HFK.out
          · exact HF.out n (by omega)), Lib.hid (N4.out.setCell (p := ⟨k9, q, none⟩) (by simp; omega) _).drew⟩, by simp [intOf]; omega⟩
      · have hR2 : rowV (fun j => RF (k * 6 + j)) = .iface 159 (.agg #[]) := by unfold rowV; rw [if_neg hp]
        rw [hR2] at ix
        have HX := Lib.hid (xP_no RF SU k hp)
        have HNP := Lib.hid hp
        clear hR2 hp
        have sb := HSB.out k
        go_upto_region 13 with (first | guard_target =~ wpList _ _ _ (⟨_, Op.index 145 _ _, _, _, _, _⟩ :: _) _ _; refine wpList_index_iface (e := 144) rfl 145 _ _ rfl (IL 6 RF).toArray k rfl rfl hlt _ ix (by kernel_rfl) Try.underlying144 (by kernel_rfl) ?_)
        have n3 := h3.alloc (.cells #[] 159)
        have n8 := h8.alloc (.cells #[] 159)
        have n9 := h9.alloc (.cells #[] 159)
        have n4 := HB2.out.alloc (show g ≤ wr.heap.size by have := h3.lt; omega) (.cells #[] 159)
        generalize wr.alloc (.cells #[] 159) = wy at n3 n8 n9 n4 ⊢
        clear h3 h8 h9 HB2 ix
        have q1 := n8.cell k hlt
        by_cases hz : SU k = 0
        · have T2 : (SU k != 0) = false := by simpa using hz
          have HFK := Lib.hid (show fineAt RF SU k from .inr hz)
          have N3 := Lib.hid n3; have N8 := Lib.hid n8; have N9 := Lib.hid n9; have N4 := Lib.hid n4
          clear hz n3 n8 n9 n4
          go_wp2_with fail
          exact ⟨⟨k + 1, rfl, by omega, N3.out, N8.out, N9.out.ext (fun s _ => by rw [HX.out]), Lib.hid (fun n hn => by
            by_cases e : n = k
            · rw [e]; exact HFK.out
            · exact HF.out n (by omega)), N4⟩, by simp [intOf]; omega⟩
        · have T2 : (SU k != 0) = true := by simpa using hz
          have HNF := Lib.hid (show ¬ fineAt RF SU k from fun x => by
            rcases x with x | x
            · exact HNP.out x
            · exact hz x)
          clear hz
          go_wp2_with (first | (guard_target =~ wpList _ _ _ (⟨_, Op.build 45 _, _, _, _, _⟩ :: _) _ _; refine wpList_build0 rfl 45 rfl (TL 6 fun _ => 0).toArray (by kernel_rfl) ?_) | (guard_target =~ wpList _ _ _ (⟨_, Op.store 45 (Operand.tmp 4) _, _, _, _, _⟩ :: _) _ _; refine wpList_store_row rfl 45 _ _ rfl (g + 1 + 1) (TL 6 fun _ => 0).toArray rfl rfl _ _ (n3) (by kernel_rfl) rfl (TL_one _ _) ?_))
          try rw [Exit.noGoto_ret]
          refine bodyPost_ret (v := .tuple #[VV fun _ => 0, .bool false]) ?_ rfl ⟨.inr ⟨⟨k, hlt, HNF.out⟩, rfl⟩, by obtain rfl := HG.out; exact Below.setRow n4 (by omega) _⟩
          exact results_cell_tmp2 rfl _ _ (g + 1 + 1) _ _ (0, 0) (.array 6 29) _ rfl rfl (n3.setRow _) (by kernel_rfl) rfl (by kernel_rfl)
    · obtain rfl : k = 6 := by omega
      have T1 : decide (((6 : Nat) : Int) < 6) = false := by simp
      have HB3 := HB2.out
      go_wp2_with (first | (guard_target =~ wpList _ _ _ (⟨_, Op.load 45 (Operand.tmp 9), _, _, _, _⟩ :: _) _ _; refine wpList_load_row rfl 45 _ rfl (k9) rfl _ (TL 6 (xP RF SU 6)).toArray (0, 0) (.array 6 29) (h9) (by kernel_rfl) rfl (by kernel_rfl) ?_) | (guard_target =~ wpList _ _ _ (⟨_, Op.store 45 (Operand.tmp 4) _, _, _, _, _⟩ :: _) _ _; refine wpList_store_row rfl 45 _ _ rfl (g + 1 + 1) (TL 6 (xP RF SU 6)).toArray rfl rfl _ _ (h3) (by kernel_rfl) rfl (TL_one _ _) ?_))
      refine bodyPost_ret (v := .tuple #[VV (xP RF SU 6), .bool true]) ?_ rfl ⟨.inl ⟨HF.out, rfl⟩, by obtain rfl := HG.out; exact Below.setRow HB3 (by omega) _⟩
      exact results_cell_tmp2 rfl _ _ (g + 1 + 1) _ _ (0, 0) (.array 6 29) _ rfl rfl (h3.setRow _) (by kernel_rfl) rfl (by kernel_rfl)
end Go.Proofs.Ytjbaeomjinnlhaa
