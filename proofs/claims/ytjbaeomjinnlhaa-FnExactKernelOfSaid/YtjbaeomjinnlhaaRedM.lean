/-
  The program makes a matrix reduced, with its traces.
-/
import Derived.Test.YtjbaeomjinnlhaaOk2
import Derived.Deep.RegionHeld
import Derived.Test.YtjbaeomjinnlhaaRedI
import Derived.Test.YtjbaeomjinnlhaaOne
namespace Go.Proofs.Ytjbaeomjinnlhaa
set_option linter.unusedVariables false
set_option linter.unusedSimpArgs false
open Go.ChangeShapes Go.WideShapes Go.ChangeAt Go.RowKit

def natG (f : Nat → Int) : Nat → Nat → Nat := fun r k => (f (r * 6 + k)).toNat
theorem natG_b {f : Nat → Int} (h : VW f) : Nim.GB (natG f) := fun r k => by have := h (r * 6 + k); unfold natG; omega
theorem natG_at {f : Nat → Int} (h : VW f) (r k : Nat) : ((natG f r k : Nat) : Int) = f (r * 6 + k) := by have := h (r * 6 + k); unfold natG; omega
def wideM (f : Nat → Int) (R : Nat) : Nat → Nat → Nat := Nim.redN (Nim.wide (natG f) R) 6 |>.1
def redF (f : Nat → Int) (R : Nat) : Nat → Int := fun s => ((wideM f R (s / 6) (s % 6) : Nat) : Int)
def trcF (f : Nat → Int) (R : Nat) : Nat → Int := fun s => ((wideM f R (s / 6) (6 + s % 6) : Nat) : Int)
theorem wideM_b {f : Nat → Int} (h : VW f) (R : Nat) : Nim.GB (wideM f R) := Nim.redN_b (Nim.wide_b (natG_b h) R) 6
theorem redF_b {f : Nat → Int} (h : VW f) (R : Nat) : VW (redF f R) := fun s => by have := wideM_b h R (s / 6) (s % 6); unfold redF; omega
theorem trcF_b {f : Nat → Int} (h : VW f) (R : Nat) : VW (trcF f R) := fun s => by have := wideM_b h R (s / 6) (6 + s % 6); unfold trcF; omega
/-- a row with its trace, at the beginning -/
theorem join_wide {f : Nat → Int} (h : VW f) (R i : Nat) (hi : i < 6) : ∀ k, k < 12 → joinT (fun k => f (i * 6 + k)) (fun k => oneN R (i * 6 + k)) k = un12 (Nim.wide (natG f) R) (i * 12 + k) := fun k hk => by
  rw [un12_at _ _ _ hk]
  unfold joinT row12 Nim.wide oneN
  by_cases e : k < 6
  · rw [if_pos e, if_pos e, natG_at h]
  · rw [if_neg e, if_neg e]
    show (if (i * 6 + (k - 6)) / 6 < R ∧ (i * 6 + (k - 6)) % 6 = (i * 6 + (k - 6)) / 6 then (1 : Int) else 0) = _
    by_cases e2 : i < R ∧ k = 6 + i
    · rw [if_pos e2, if_pos (by omega)]; rfl
    · rw [if_neg e2, if_neg (by omega)]; rfl
theorem redF_row (f : Nat → Int) (R i k : Nat) (hk : k < 6) : un12 (wideM f R) (i * 12 + k) = redF f R (i * 6 + k) := by
  rw [un12_at _ _ _ (by omega)]
  unfold redF row12
  rw [show (i * 6 + k) / 6 = i from by omega, show (i * 6 + k) % 6 = k from by omega]
theorem trcF_row (f : Nat → Int) (R i k : Nat) (hk : k < 6) : un12 (wideM f R) (i * 12 + (6 + k)) = trcF f R (i * 6 + k) := by
  rw [un12_at _ _ _ (by omega)]
  unfold trcF row12
  rw [show (i * 6 + k) / 6 = i from by omega, show (i * 6 + k) % 6 = k from by omega]
theorem results_cell2 {P : Program} {fn : Func} {p q : Tmp} {ty ty2 : TypeId} (h : fn.results = #[.cell p ty, .cell q ty2]) (tmps : Array Value) (w : World) (g g2 : Nat) (t t2 : TypeId) (cs cs2 : Array Value) (fr fr2 : Nat × Nat) (d d2 : TypeDesc)
    (hp : tmps.getD p undef = .pointer (some ⟨g, 0, none⟩)) (hq : tmps.getD q undef = .pointer (some ⟨g2, 0, none⟩)) (hg : w.heap[g]? = some (.cells cs t fr)) (hg2 : w.heap[g2]? = some (.cells cs2 t2 fr2))
    (hu : P.underlying ty = some d) (hd : (match d with | .struct _ | .array _ _ => true | _ => false) = true) (hi : (P.info? ty).map (·.size) = some cs.size)
    (hu2 : P.underlying ty2 = some d2) (hd2 : (match d2 with | .struct _ | .array _ _ => true | _ => false) = true) (hi2 : (P.info? ty2).map (·.size) = some cs2.size) :
    (results fn tmps).run P w = .ok (.tuple #[.agg cs, .agg cs2]) w := by
  have hp' : tmps[p]?.getD undef = .pointer (some ⟨g, 0, none⟩) := by simpa using hp
  have hq' : tmps[q]?.getD undef = .pointer (some ⟨g2, 0, none⟩) := by simpa using hq
  simp [results, h, hp', hq', asAddr, run_loadVar_row w g t ty cs fr d hg hu hd hi, run_loadVar_row w g2 t2 ty2 cs2 fr2 d2 hg2 hu2 hd2 hi2]
set_option maxRecDepth 100000 in
set_option maxHeartbeats 4000000 in
theorem reduction_any (R : Nat) (hR : R ≤ 6) (c : Int) (f : Nat → Int) (hm : MW R c f) (w : World) : Calls Try.prog 119 #[MV R c f] w fun e w' => e = .returned (.tuple #[MV R c (redF f R), MV R R (trcF f R)]) ∧ Below w.heap.size w w' := by
  obtain ⟨W, hW⟩ : ∃ W, W = wideM f R := ⟨_, rfl⟩
  have HW := Lib.hid hW
  clear hW
  obtain ⟨F0, hF0⟩ : ∃ F, F = Nim.wide (natG f) R := ⟨_, rfl⟩
  have HF0 := Lib.hid hF0
  clear hF0
  have HF := Lib.hid hm.2.2.2.2
  have HR := Lib.hid hm
  go_enter Try.func119, Try.ntmps119
  go_upto_region 2 with fail
  obtain ⟨a1, a2, a3, a5, a4⟩ := new4 w (.cells (CL R c f).toArray 33) (.cells (CL 0 0 fun _ => 0).toArray 33) (.cells (CL 0 0 fun _ => 0).toArray 33) (.cells (TL 72 fun _ => 0).toArray 150)
  rw [zero38, zero72]
  obtain ⟨g, hg⟩ : ∃ g, g = w.heap.size := ⟨_, rfl⟩
  rw [← hg] at a1 a2 a3 a4 a5 ⊢
  generalize World.alloc (World.alloc (World.alloc (World.alloc w _) _) _) _ = w2 at a1 a2 a3 a4 a5 ⊢
  replace a1 : MB w2 g 33 R c f := a1
  replace a2 : MB w2 (g + 1) 33 0 0 (fun _ => 0) := a2
  replace a3 : MB w2 (g + 1 + 1) 33 0 0 (fun _ => 0) := a3
  replace a5 : RB w2 (g + 1 + 1 + 1) 150 72 (fun _ => 0) := a5
  have HG := Lib.hid hg
  have d1 := a1.rows
  clear hg
  go_wp2_with fail
  refine (impl_oneOf R hR _).mono ?_
  rintro e wn ⟨rfl, hn⟩
  replace a4 := bnext a4 hn (Nat.le_of_lt a1.lt)
  replace a1 := a1.below hn a1.lt
  replace a2 := a2.below hn a2.lt
  replace a3 := a3.below hn a3.lt
  replace a5 := a5.below hn a5.lt
  clear hn d1
  go_wp2_with (first | (guard_target =~ wpList _ _ _ (⟨_, Op.field 33 _ _, _, _, _, _⟩ :: _) _ _; refine wpList_field_grid rfl 33 _ 2 rfl R R (oneN R) rfl _ Try.underlying33 rfl rfl rfl (gt := 31) (rt := 30) (by kernel_rfl) (by kernel_rfl) ?_))
  clear hm
  go_loopw [15] (fun p wr => ∃ (i : Nat), p = .int .i64 i ∧ i ≤ 6 ∧ MB wr g 33 R c f ∧ MB wr (g + 1) 33 0 0 (fun _ => 0) ∧ MB wr (g + 1 + 1) 33 0 0 (fun _ => 0) ∧ RB wr (g + 1 + 1 + 1) 150 72 (mix (i * 12) (un12 F0) fun _ => 0) ∧ Hid (Below g w wr)) (fun p _ => (6 - intOf p).toNat)
  case atStart => exact ⟨0, rfl, by omega, a1, a2, a3, a5.ext (fun s _ => by rw [Nat.zero_mul, mix_zero]), Lib.hid a4⟩
  case round =>
    clear a1 a2 a3 a4 a5
    obtain ⟨i, rfl, hi, m1, m2, m3, m5, hb⟩ := hrel
    by_cases hlt : i < 6
    · have T1 : decide ((i : Int) < 6) = true := by simp; omega
      have i1 : (i : Int) < 6 := by omega
      go_upto_region 5 with (first | (guard_target =~ wpList _ _ _ (⟨_, Op.index 31 _ _, _, _, _, _⟩ :: _) _ _; refine wpList_index_row rfl 31 _ _ rfl (oneN R) i rfl rfl hlt (r := 30) (e := 29) (by kernel_rfl) (by kernel_rfl) (by kernel_rfl) ?_) | (guard_target =~ wpList _ _ _ (⟨_, Op.store 30 _ _, _, _, _, _⟩ :: _) _ _; refine wpList_store_fresh (cells := (TL 6 fun k => oneN R (i * 6 + k)).toArray) rfl 30 _ _ rfl rfl rfl (by kernel_rfl) rfl (TL_one _ _) ?_))
      have n1 := m1.alloc (.cells (TL 6 fun k => oneN R (i * 6 + k)).toArray 30)
      have n2 := m2.alloc (.cells (TL 6 fun k => oneN R (i * 6 + k)).toArray 30)
      have n3 := m3.alloc (.cells (TL 6 fun k => oneN R (i * 6 + k)).toArray 30)
      have n5 := m5.alloc (.cells (TL 6 fun k => oneN R (i * 6 + k)).toArray 30)
      have n6 : RB (wr.alloc (.cells (TL 6 fun k => oneN R (i * 6 + k)).toArray 30)) wr.heap.size 30 6 (fun k => oneN R (i * 6 + k)) := heap_alloc_last _ _
      have n4 := hb.out.alloc (show g ≤ wr.heap.size by have := m1.lt; omega) (.cells (TL 6 fun k => oneN R (i * 6 + k)).toArray 30)
      have hlt6 := m5.lt
      obtain ⟨k6, hk6⟩ : ∃ k6, k6 = wr.heap.size := ⟨_, rfl⟩
      rw [← hk6] at n6 hlt6 ⊢
      generalize wr.alloc (.cells (TL 6 fun k => oneN R (i * 6 + k)).toArray 30) = wd at n1 n2 n3 n4 n5 n6 ⊢
      clear m1 m2 m3 m5 hb hk6
      have N2 := Lib.hid n2; have N3 := Lib.hid n3; have N4 := Lib.hid n4; have N5 := Lib.hid n5
      clear n2 n3 n4 n5
      refine wp_region_held_drew (S := (fun v => MB v g 33 R c f ∧ RB v k6 30 6 (fun k => oneN R (i * 6 + k)))) (by kernel_rfl) ?hS5 (fun hS => ?_)
      case hS5 => exact ⟨n1, n6⟩
      change wpAnyH _ _ _ _ _ _ _ _ wd.drew at *
      replace N2 : Hid (MB wd.drew (g + 1) 33 0 0 (fun _ => 0)) := N2
      replace N3 : Hid (MB wd.drew (g + 1 + 1) 33 0 0 (fun _ => 0)) := N3
      replace N5 : Hid (RB wd.drew (g + 1 + 1 + 1) 150 72 (mix (i * 12) (un12 F0) fun _ => 0)) := N5
      replace N4 := Lib.hid N4.out.drew
      clear n1 n6
      generalize wd.drew = we at N2 N3 N4 N5 hS ⊢
      refine takeH (i := 0) (v := ?v0p) rfl rfl (by kernel_rfl) (by kernel_rfl) (by kernel_rfl) (fun _ _ _ h => h) rfl ?hy0p hS ?rs0p
      case hy0p => (intro wq hq; go_simp; try (with_reducible rfl))
      simp only [Act.put, List.setIfInBounds_toArray, List.set_cons_zero, List.set_cons_succ]
      refine takeH (i := 1) (v := ?v1p) rfl rfl (by kernel_rfl) (by kernel_rfl) (by kernel_rfl) (fun _ _ _ h => h) rfl ?hy1p hS ?rs1p
      case hy1p => (intro wq hq; go_simp; try (with_reducible rfl))
      simp only [Act.put, List.setIfInBounds_toArray, List.set_cons_zero, List.set_cons_succ]
      refine takeH (i := 2) (v := ?v2p) rfl rfl (by kernel_rfl) (by kernel_rfl) (by kernel_rfl) (fun _ _ _ h => h) rfl ?hy2p hS ?rs2p
      case hy2p => (intro wq hq; go_simp; try (with_reducible rfl))
      simp only [Act.put, List.setIfInBounds_toArray, List.set_cons_zero, List.set_cons_succ]
      refine takeH (i := 3) (v := ?v3p) rfl rfl (by kernel_rfl) (by kernel_rfl) (by kernel_rfl) (fun _ _ _ h => h) rfl ?hy3p hS ?rs3p
      case hy3p => (intro wq hq; go_simp; try (with_reducible rfl))
      simp only [Act.put, List.setIfInBounds_toArray, List.set_cons_zero, List.set_cons_succ]
      refine takeH (i := 4) (v := .agg (TL 6 fun k => f (i * 6 + k)).toArray) rfl rfl (by kernel_rfl) (by kernel_rfl) (by kernel_rfl) (fun _ _ _ h => h) rfl ?hy4p hS ?rs4p
      case hy4p => exact fun wq hq => exec_load_mid 30 _ rfl (g) _ rfl (TL 6 fun k => f (i * 6 + k)) (.array 6 29) (hq.1.sub2 i hlt) (by kernel_rfl) rfl (by kernel_rfl)
      simp only [Act.put, List.setIfInBounds_toArray, List.set_cons_zero, List.set_cons_succ]
      refine takeH (i := 5) (v := .agg (TL 6 fun k => oneN R (i * 6 + k)).toArray) rfl rfl (by kernel_rfl) (by kernel_rfl) (by kernel_rfl) (fun _ _ _ h => h) rfl ?hy5p hS ?rs5p
      case hy5p => exact fun wq hq => exec_load_mid 30 _ rfl (k6) _ rfl (TL 6 fun k => oneN R (i * 6 + k)) (.array 6 29) (hq.2.range) (by kernel_rfl) rfl (by kernel_rfl)
      simp only [Act.put, List.setIfInBounds_toArray, List.set_cons_zero, List.set_cons_succ]
      refine takeH (i := 6) (v := .agg (TL 12 (joinT (fun k => f (i * 6 + k)) (fun k => oneN R (i * 6 + k)))).toArray) rfl rfl (by kernel_rfl) (by kernel_rfl) (by kernel_rfl) (fun _ _ _ h => h) rfl ?hy6p hS ?rs6p
      case hy6p => exact fun wq _ => exec_buildT 149 _ _ rfl (fun k => f (i * 6 + k)) (fun k => oneN R (i * 6 + k)) rfl rfl (fun _ _ => by kernel_rfl) wq
      simp only [Act.put, List.setIfInBounds_toArray, List.set_cons_zero, List.set_cons_succ]
      refine takeH (i := 7) (v := ?v7p) rfl rfl (by kernel_rfl) (by kernel_rfl) (by kernel_rfl) (fun _ _ _ h => h) rfl ?hy7p hS ?rs7p
      case hy7p => (intro wq hq; go_simp; try (with_reducible rfl))
      simp only [Act.put, List.setIfInBounds_toArray, List.set_cons_zero, List.set_cons_succ]
      refine wpAnyH_ready (rs := [8]) (by kernel_rfl) (by simp) ?_
      refine AllReadyH.cons rfl (fun K hK => ?_) AllReadyH.nil
      simp only [List.getElem_toArray, List.getElem_cons_zero, List.getElem_cons_succ]
      rw [if_pos (by rfl)]
      have q1 := N5.out.there (i * 12) 12 (by omega)
      refine wp_store_mid0 149 _ _ rfl rfl (g + 1 + 1 + 1) _ (TL 12 (joinT (fun k => f (i * 6 + k)) (fun k => oneN R (i * 6 + k)))) rfl rfl (by rw [TL_len]; exact q1) (by kernel_rfl) (TL_one _ _) ?_
      have e1 := hS.1.setCells_other (b := g + 1 + 1 + 1) (o := i * 12) (by omega) (TL 12 (joinT (fun k => f (i * 6 + k)) (fun k => oneN R (i * 6 + k))))
      have e6 := hS.2.setCells_other (b := g + 1 + 1 + 1) (o := i * 12) (by omega) (TL 12 (joinT (fun k => f (i * 6 + k)) (fun k => oneN R (i * 6 + k))))
      have e2 := N2.out.setCells_other (b := g + 1 + 1 + 1) (o := i * 12) (by omega) (TL 12 (joinT (fun k => f (i * 6 + k)) (fun k => oneN R (i * 6 + k))))
      have e3 := N3.out.setCells_other (b := g + 1 + 1 + 1) (o := i * 12) (by omega) (TL 12 (joinT (fun k => f (i * 6 + k)) (fun k => oneN R (i * 6 + k))))
      have e5 := RB.puts 12 (i * 12) (joinT (fun k => f (i * 6 + k)) (fun k => oneN R (i * 6 + k))) _ _ N5.out (by omega)
      have e4 := Below.setCells (show g ≤ g + 1 + 1 + 1 by omega) (TL 12 (joinT (fun k => f (i * 6 + k)) (fun k => oneN R (i * 6 + k)))) (i * 12) _ N4.out
      refine hK.out _ _ ⟨e1, e6⟩ (fun hS => ?_)
      clear hK
      refine wpAnyH_done (by kernel_rfl) ?_ _
      generalize World.setCells _ (g + 1 + 1 + 1) (i * 12) (TL 12 (joinT (fun k => f (i * 6 + k)) (fun k => oneN R (i * 6 + k)))) = wk at e1 e2 e3 e4 e5 ⊢
      clear hS N2 N3 N4 N5 q1 e6
      go_wp2_with fail
      exact ⟨⟨i + 1, rfl, by omega, e1, e2, e3, e5.ext (fun s _ => (congrFun (mix_row (i * 12) 12 (un12 F0) (fun _ => 0) _ (fun k hk => by rw [HF0.out]; exact join_wide HF.out R i hlt k hk)) s).trans (by rw [show (i + 1) * 12 = i * 12 + 12 from by omega])), Lib.hid e4⟩, by simp [intOf]; omega⟩
    · obtain rfl : i = 6 := by omega
      have T1 : decide (((6 : Nat) : Int) < 6) = false := by simp
      have m5' := m5.ext (f' := un12 F0) (fun s hs => by rw [mix_new _ _ hs])
      have d1 := m1.rows
      have d2 := m1.cols
      clear m5
      go_upto_region 8 with (first | (guard_target =~ wpList _ _ _ (⟨_, Op.build 33 _, _, _, _, _⟩ :: _) _ _; refine wpList_build2 rfl 33 _ _ rfl (R) (c) rfl rfl (fun _ _ => by kernel_rfl) ?_) | (guard_target =~ wpList _ _ _ (⟨_, Op.store 33 _ _, _, _, _, _⟩ :: _) _ _; refine wpList_store_fresh (cells := (CL R c fun _ => 0).toArray) rfl 33 _ _ rfl rfl rfl (by kernel_rfl) (by rw [CL_size]; rfl) (CL_one _ _ _) ?_))
      have hlt8 := m5'.lt
      have n1 := m1.alloc (.cells (CL R c fun _ => 0).toArray 33)
      have n2 := m2.alloc (.cells (CL R c fun _ => 0).toArray 33)
      have n3 := m3.alloc (.cells (CL R c fun _ => 0).toArray 33)
      have n5 := m5'.alloc (.cells (CL R c fun _ => 0).toArray 33)
      have n7 : MB (wr.alloc (.cells (CL R c fun _ => 0).toArray 33)) wr.heap.size 33 R c (fun _ => 0) := heap_alloc_last _ _
      have n4 := hb.out.alloc (Nat.le_of_lt m1.lt) (.cells (CL R c fun _ => 0).toArray 33)
      obtain ⟨k7, hk7⟩ : ∃ k7, k7 = wr.heap.size := ⟨_, rfl⟩
      rw [← hk7] at n7 hlt8 ⊢
      generalize wr.alloc (.cells (CL R c fun _ => 0).toArray 33) = wd at n1 n2 n3 n4 n5 n7 ⊢
      clear m1 m2 m3 m5' hb hk7 d1 d2
      have d1 := n1.rows
      go_upto_region 9 with (first | (guard_target =~ wpList _ _ _ (⟨_, Op.build 33 _, _, _, _, _⟩ :: _) _ _; refine wpList_build2 rfl 33 _ _ rfl (R) (R) rfl rfl (fun _ _ => by kernel_rfl) ?_) | (guard_target =~ wpList _ _ _ (⟨_, Op.store 33 _ _, _, _, _, _⟩ :: _) _ _; refine wpList_store_fresh (cells := (CL R R fun _ => 0).toArray) rfl 33 _ _ rfl rfl rfl (by kernel_rfl) (by rw [CL_size]; rfl) (CL_one _ _ _) ?_))
      have hlt9 := n7.lt
      have o2 := n2.alloc (.cells (CL R R fun _ => 0).toArray 33)
      have o3 := n3.alloc (.cells (CL R R fun _ => 0).toArray 33)
      have o5 := n5.alloc (.cells (CL R R fun _ => 0).toArray 33)
      have o7 := n7.alloc (.cells (CL R R fun _ => 0).toArray 33)
      have o8 : MB (wd.alloc (.cells (CL R R fun _ => 0).toArray 33)) wd.heap.size 33 R R (fun _ => 0) := heap_alloc_last _ _
      have o4 := n4.alloc (Nat.le_of_lt n1.lt) (.cells (CL R R fun _ => 0).toArray 33)
      obtain ⟨k8, hk8⟩ : ∃ k8, k8 = wd.heap.size := ⟨_, rfl⟩
      rw [← hk8] at o8 hlt9 ⊢
      generalize wd.alloc (.cells (CL R R fun _ => 0).toArray 33) = we at o2 o3 o4 o5 o7 o8 ⊢
      clear n1 n2 n3 n4 n5 n7 hk8 d1
      go_wp2_with (first | (guard_target =~ wpList _ _ _ (⟨_, Op.load 150 _, _, _, _, _⟩ :: _) _ _; refine wpList_load_row rfl 150 _ rfl (g + 1 + 1 + 1) rfl _ (TL 72 (un12 F0)).toArray (0, 0) (.array 6 149) o5 (by kernel_rfl) rfl (by kernel_rfl) ?_))
      refine (reduceRows_any F0 (HF0.out ▸ Nim.wide_b (natG_b HF.out) R) _).mono ?_
      rintro e wx ⟨rfl, hn⟩
      have hWF : (Nim.redN F0 6).1 = W := by rw [HW.out, HF0.out]; unfold wideM; rfl
      rw [hWF]
      replace o4 := bnext o4 hn (Nat.le_of_lt (by have := o2.lt; omega))
      replace o2 := o2.below hn o2.lt
      replace o3 := o3.below hn o3.lt
      replace o7 := o7.below hn o7.lt
      replace o8 := o8.below hn o8.lt
      clear hn o5 hWF
      go_wp2_with fail
      go_loopw [40] (fun p wr => ∃ (i : Nat), p = .int .i64 i ∧ i ≤ 6 ∧ MB wr (g + 1) 33 0 0 (fun _ => 0) ∧ MB wr (g + 1 + 1) 33 0 0 (fun _ => 0) ∧ MB wr k7 33 R c (mix (i * 6) (redF f R) fun _ => 0) ∧ MB wr k8 33 R R (mix (i * 6) (trcF f R) fun _ => 0) ∧ Hid (Below g w wr)) (fun p _ => (6 - intOf p).toNat)
      case atStart => exact ⟨0, rfl, by omega, o2, o3, o7.ext (fun s _ => by rw [Nat.zero_mul, mix_zero]), o8.ext (fun s _ => by rw [Nat.zero_mul, mix_zero]), Lib.hid o4⟩
      case round =>
        clear o2 o3 o4 o7 o8
        obtain ⟨i, rfl, hi, m2, m3, m7, m8, hb⟩ := hrel
        by_cases hlt : i < 6
        · have T1 : decide ((i : Int) < 6) = true := by simp; omega
          have i1 : (i : Int) < 6 := by omega
          go_upto_region 12 with (first | (guard_target =~ wpList _ _ _ (⟨_, Op.index 150 _ _, _, _, _, _⟩ :: _) _ _; refine wpList_index_struct rfl 150 _ _ rfl (un12 W) i rfl rfl hlt (r := 149) (by kernel_rfl) Try.underlying149 (by kernel_rfl) ?_) | (guard_target =~ wpList _ _ _ (⟨_, Op.store 149 _ _, _, _, _, _⟩ :: _) _ _; refine wpList_store_fresh (cells := (TL 12 (fun k => un12 W (i * 12 + k))).toArray) rfl 149 _ _ rfl rfl rfl (by kernel_rfl) rfl (TL_one _ _) ?_))
          have n2 := m2.alloc (.cells (TL 12 (fun k => un12 W (i * 12 + k))).toArray 149)
          have n3 := m3.alloc (.cells (TL 12 (fun k => un12 W (i * 12 + k))).toArray 149)
          have n7 := m7.alloc (.cells (TL 12 (fun k => un12 W (i * 12 + k))).toArray 149)
          have n8 := m8.alloc (.cells (TL 12 (fun k => un12 W (i * 12 + k))).toArray 149)
          have n10 : RB (wr.alloc (.cells (TL 12 (fun k => un12 W (i * 12 + k))).toArray 149)) wr.heap.size 149 12 (fun k => un12 W (i * 12 + k)) := heap_alloc_last _ _
          have n4 := hb.out.alloc (show g ≤ wr.heap.size by have := m2.lt; omega) (.cells (TL 12 (fun k => un12 W (i * 12 + k))).toArray 149)
          have l7 := m7.lt
          have l8 := m8.lt
          obtain ⟨k10, hk10⟩ : ∃ k10, k10 = wr.heap.size := ⟨_, rfl⟩
          rw [← hk10] at n10 l7 l8 ⊢
          generalize wr.alloc (.cells (TL 12 (fun k => un12 W (i * 12 + k))).toArray 149) = wd at n2 n3 n4 n7 n8 n10 ⊢
          clear m2 m3 m7 m8 hb hk10
          have N2 := Lib.hid n2; have N3 := Lib.hid n3; have N4 := Lib.hid n4; have N7 := Lib.hid n7; have N8 := Lib.hid n8
          clear n2 n3 n4 n7 n8
          refine wp_region_held_drew (S := (fun v => RB v k10 149 12 (fun k => un12 W (i * 12 + k)))) (by kernel_rfl) ?hS12 (fun hS => ?_)
          case hS12 => exact n10
          change wpAnyH _ _ _ _ _ _ _ _ wd.drew at *
          replace N2 : Hid (MB wd.drew (g + 1) 33 0 0 (fun _ => 0)) := N2
          replace N3 : Hid (MB wd.drew (g + 1 + 1) 33 0 0 (fun _ => 0)) := N3
          replace N7 : Hid (MB wd.drew k7 33 R c (mix (i * 6) (redF f R) fun _ => 0)) := N7
          replace N8 : Hid (MB wd.drew k8 33 R R (mix (i * 6) (trcF f R) fun _ => 0)) := N8
          replace N4 := Lib.hid N4.out.drew
          clear n10
          generalize wd.drew = we at N2 N3 N4 N7 N8 hS ⊢
          refine takeH (i := 0) (v := ?v0q) rfl rfl (by kernel_rfl) (by kernel_rfl) (by kernel_rfl) (fun _ _ _ h => h) rfl ?hy0q hS ?rs0q
          case hy0q => (intro wq hq; go_simp; try (with_reducible rfl))
          simp only [Act.put, List.setIfInBounds_toArray, List.set_cons_zero, List.set_cons_succ]
          refine takeH (i := 1) (v := ?v1q) rfl rfl (by kernel_rfl) (by kernel_rfl) (by kernel_rfl) (fun _ _ _ h => h) rfl ?hy1q hS ?rs1q
          case hy1q => (intro wq hq; go_simp; try (with_reducible rfl))
          simp only [Act.put, List.setIfInBounds_toArray, List.set_cons_zero, List.set_cons_succ]
          refine takeH (i := 2) (v := ?v2q) rfl rfl (by kernel_rfl) (by kernel_rfl) (by kernel_rfl) (fun _ _ _ h => h) rfl ?hy2q hS ?rs2q
          case hy2q => (intro wq hq; go_simp; try (with_reducible rfl))
          simp only [Act.put, List.setIfInBounds_toArray, List.set_cons_zero, List.set_cons_succ]
          refine takeH (i := 3) (v := .agg (TL 6 (fun k => un12 W (i * 12 + k))).toArray) rfl rfl (by kernel_rfl) (by kernel_rfl) (by kernel_rfl) (fun _ _ _ h => h) rfl ?hy3q hS ?rs3q
          case hy3q => exact fun wq hq => exec_load_mid 45 _ rfl (k10) 0 rfl (TL 6 (fun k => un12 W (i * 12 + k))) (.array 6 29) (RB.sub0 hq 6 (by omega)) (by kernel_rfl) rfl (by kernel_rfl)
          simp only [Act.put, List.setIfInBounds_toArray, List.set_cons_zero, List.set_cons_succ]
          refine takeH (i := 4) (v := ?v4q) rfl rfl (by kernel_rfl) (by kernel_rfl) (by kernel_rfl) (fun _ _ _ h => h) rfl ?hy4q hS ?rs4q
          case hy4q => (intro wq hq; go_simp; try (with_reducible rfl))
          simp only [Act.put, List.setIfInBounds_toArray, List.set_cons_zero, List.set_cons_succ]
          refine takeH (i := 5) (v := .agg (TL 6 (fun k => un12 W (i * 12 + (6 + k)))).toArray) rfl rfl (by kernel_rfl) (by kernel_rfl) (by kernel_rfl) (fun _ _ _ h => h) rfl ?hy5q hS ?rs5q
          case hy5q => exact fun wq hq => exec_load_mid 45 _ rfl (k10) 6 rfl (TL 6 (fun k => un12 W (i * 12 + (6 + k)))) (.array 6 29) (RB.sub hq 6 6 (by omega)) (by kernel_rfl) rfl (by kernel_rfl)
          simp only [Act.put, List.setIfInBounds_toArray, List.set_cons_zero, List.set_cons_succ]
          refine takeH (i := 6) (v := ?v6q) rfl rfl (by kernel_rfl) (by kernel_rfl) (by kernel_rfl) (fun _ _ _ h => h) rfl ?hy6q hS ?rs6q
          case hy6q => (intro wq hq; go_simp; try (with_reducible rfl))
          simp only [Act.put, List.setIfInBounds_toArray, List.set_cons_zero, List.set_cons_succ]
          refine takeH (i := 9) (v := ?v9q) rfl rfl (by kernel_rfl) (by kernel_rfl) (by kernel_rfl) (fun _ _ _ h => h) rfl ?hy9q hS ?rs9q
          case hy9q => (intro wq hq; go_simp; try (with_reducible rfl))
          simp only [Act.put, List.setIfInBounds_toArray, List.set_cons_zero, List.set_cons_succ]
          refine takeH (i := 7) (v := ?v7q) rfl rfl (by kernel_rfl) (by kernel_rfl) (by kernel_rfl) (fun _ _ _ h => h) rfl ?hy7q hS ?rs7q
          case hy7q => (intro wq hq; go_simp; try (with_reducible rfl))
          simp only [Act.put, List.setIfInBounds_toArray, List.set_cons_zero, List.set_cons_succ]
          refine wpAnyH_ready (rs := [8]) (by kernel_rfl) (by simp) ?_
          refine AllReadyH.cons rfl (fun K hK => ?_) AllReadyH.nil
          simp only [List.getElem_toArray, List.getElem_cons_zero, List.getElem_cons_succ]
          rw [if_pos (by rfl)]
          have q1 := N7.out.there (2 + i * 6) 6 (by omega)
          refine wp_store_mid0 30 _ _ rfl rfl k7 _ (TL 6 (fun k => un12 W (i * 12 + k))) rfl rfl (by rw [TL_len]; exact q1) (by kernel_rfl) (TL_one _ _) ?_
          have e10 := hS.setCells_other (b := k7) (o := 2 + i * 6) (by omega) (TL 6 (fun k => un12 W (i * 12 + k)))
          have e2 := N2.out.setCells_other (b := k7) (o := 2 + i * 6) (by omega) (TL 6 (fun k => un12 W (i * 12 + k)))
          have e3 := N3.out.setCells_other (b := k7) (o := 2 + i * 6) (by omega) (TL 6 (fun k => un12 W (i * 12 + k)))
          have e8 := N8.out.setCells_other (b := k7) (o := 2 + i * 6) (by omega) (TL 6 (fun k => un12 W (i * 12 + k)))
          have e7 := (MB.puts 6 (i * 6) (fun k => un12 W (i * 12 + k)) _ _ N7.out (by omega)).ext (f' := mix ((i + 1) * 6) (redF f R) fun _ => 0) (fun s _ => (congrFun (mix_row (i * 6) 6 (redF f R) (fun _ => 0) _ (fun k hk => by rw [HW.out]; exact redF_row f R i k hk)) s).trans (by rw [show (i + 1) * 6 = i * 6 + 6 from by omega]))
          have e4 := Below.setCells (show g ≤ k7 by omega) (TL 6 (fun k => un12 W (i * 12 + k))) (2 + i * 6) _ N4.out
          refine hK.out _ _ e10 (fun hS => ?_)
          clear hK
          generalize World.setCells we k7 (2 + i * 6) (TL 6 (fun k => un12 W (i * 12 + k))) = wf at hS e10 e2 e3 e4 e7 e8 ⊢
          clear N2 N3 N4 N7 N8 q1 e10
          refine takeH (i := 10) (v := ?v10q) rfl rfl (by kernel_rfl) (by kernel_rfl) (by kernel_rfl) (fun _ _ _ h => h) rfl ?hy10q hS ?rs10q
          case hy10q => (intro wq hq; go_simp; try (with_reducible rfl))
          simp only [Act.put, List.setIfInBounds_toArray, List.set_cons_zero, List.set_cons_succ]
          refine wpAnyH_ready (rs := [11]) (by kernel_rfl) (by simp) ?_
          refine AllReadyH.cons rfl (fun K hK => ?_) AllReadyH.nil
          simp only [List.getElem_toArray, List.getElem_cons_zero, List.getElem_cons_succ]
          rw [if_pos (by rfl)]
          have q1 := e8.there (2 + i * 6) 6 (by omega)
          refine wp_store_mid0 30 _ _ rfl rfl k8 _ (TL 6 (fun k => un12 W (i * 12 + (6 + k)))) rfl rfl (by rw [TL_len]; exact q1) (by kernel_rfl) (TL_one _ _) ?_
          refine hK.out _ _ (hS.setCells_other (by omega) _) (fun hS => ?_)
          clear hK
          refine wpAnyH_done (by kernel_rfl) ?_ _
          have j2 := e2.setCells_other (b := k8) (o := 2 + i * 6) (by omega) (TL 6 (fun k => un12 W (i * 12 + (6 + k))))
          have j3 := e3.setCells_other (b := k8) (o := 2 + i * 6) (by omega) (TL 6 (fun k => un12 W (i * 12 + (6 + k))))
          have j7 := e7.setCells_other (b := k8) (o := 2 + i * 6) (by omega) (TL 6 (fun k => un12 W (i * 12 + (6 + k))))
          have j8 := (MB.puts 6 (i * 6) (fun k => un12 W (i * 12 + (6 + k))) _ _ e8 (by omega)).ext (f' := mix ((i + 1) * 6) (trcF f R) fun _ => 0) (fun s _ => (congrFun (mix_row (i * 6) 6 (trcF f R) (fun _ => 0) _ (fun k hk => by rw [HW.out]; exact trcF_row f R i k hk)) s).trans (by rw [show (i + 1) * 6 = i * 6 + 6 from by omega]))
          have j4 := Below.setCells (show g ≤ k8 by omega) (TL 6 (fun k => un12 W (i * 12 + (6 + k)))) (2 + i * 6) _ e4
          generalize World.setCells wf k8 (2 + i * 6) (TL 6 (fun k => un12 W (i * 12 + (6 + k)))) = wk at j2 j3 j4 j7 j8 ⊢
          clear hS q1 e2 e3 e4 e7 e8
          go_wp2_with fail
          exact ⟨⟨i + 1, rfl, by omega, j2, j3, j7, j8, Lib.hid j4⟩, by simp [intOf]; omega⟩
        · obtain rfl : i = 6 := by omega
          have T1 : decide (((6 : Nat) : Int) < 6) = false := by simp
          have m7' := m7.ext (f' := redF f R) (fun s hs => by rw [mix_new _ _ hs])
          have m8' := m8.ext (f' := trcF f R) (fun s hs => by rw [mix_new _ _ hs])
          clear m7 m8
          go_upto_region 14 with fail
          have N2 := Lib.hid m2; have N3 := Lib.hid m3
          clear m2 m3
          refine wp_region_held_drew (S := (fun v => MB v k7 33 R c (redF f R) ∧ MB v k8 33 R R (trcF f R))) (by kernel_rfl) ?hS14 (fun hS => ?_)
          case hS14 => exact ⟨m7', m8'⟩
          change wpAnyH _ _ _ _ _ _ _ _ wr.drew at *
          replace N2 : Hid (MB wr.drew (g + 1) 33 0 0 (fun _ => 0)) := N2
          replace N3 : Hid (MB wr.drew (g + 1 + 1) 33 0 0 (fun _ => 0)) := N3
          replace hb := Lib.hid hb.out.drew
          clear m7' m8'
          generalize wr.drew = we at N2 N3 hb hS ⊢
          refine takeH (i := 0) (v := .agg (CL R c (redF f R)).toArray) rfl rfl (by kernel_rfl) (by kernel_rfl) (by kernel_rfl) (fun _ _ _ h => h) rfl ?hy0r hS ?rs0r
          case hy0r => exact fun wq hq => exec_load_mid 33 _ rfl k7 0 rfl (CL R c (redF f R)) _ (hq.1.whole) Try.underlying33 (by kernel_rfl) (by kernel_rfl)
          simp only [Act.put, List.setIfInBounds_toArray, List.set_cons_zero, List.set_cons_succ]
          refine takeH (i := 1) (v := .agg (CL R R (trcF f R)).toArray) rfl rfl (by kernel_rfl) (by kernel_rfl) (by kernel_rfl) (fun _ _ _ h => h) rfl ?hy1r hS ?rs1r
          case hy1r => exact fun wq hq => exec_load_mid 33 _ rfl k8 0 rfl (CL R R (trcF f R)) _ (hq.2.whole) Try.underlying33 (by kernel_rfl) (by kernel_rfl)
          simp only [Act.put, List.setIfInBounds_toArray, List.set_cons_zero, List.set_cons_succ]
          refine wpAnyH_ready (rs := [2]) (by kernel_rfl) (by simp) ?_
          refine AllReadyH.cons rfl (fun K hK => ?_) AllReadyH.nil
          simp only [List.getElem_toArray, List.getElem_cons_zero, List.getElem_cons_succ]
          rw [if_pos (by rfl)]
          refine wp_store_row 33 _ _ rfl (g + 1) (CL R c (redF f R)).toArray rfl rfl _ _ N2.out (by kernel_rfl) (by rw [CL_size, CL_size]) (CL_one _ _ _) ?_
          have e2 : MB (World.setRow _ (g + 1) (CL R c (redF f R)).toArray) (g + 1) 33 R c (redF f R) := N2.out.setRow _
          have e3 := N3.out.setRow_other (b := g + 1) (by omega) (CL R c (redF f R)).toArray
          have e4 := Below.setRow hb.out (show g ≤ g + 1 by omega) (CL R c (redF f R)).toArray
          refine hK.out _ _ ⟨hS.1.setRow_other (by omega) _, hS.2.setRow_other (by omega) _⟩ (fun hS => ?_)
          clear hK
          generalize World.setRow we (g + 1) (CL R c (redF f R)).toArray = wf at hS e2 e3 e4 ⊢
          clear N2 N3 hb
          refine wpAnyH_ready (rs := [3]) (by kernel_rfl) (by simp) ?_
          refine AllReadyH.cons rfl (fun K hK => ?_) AllReadyH.nil
          simp only [List.getElem_toArray, List.getElem_cons_zero, List.getElem_cons_succ]
          rw [if_pos (by rfl)]
          refine wp_store_row 33 _ _ rfl (g + 1 + 1) (CL R R (trcF f R)).toArray rfl rfl _ _ e3 (by kernel_rfl) (by rw [CL_size, CL_size]) (CL_one _ _ _) ?_
          refine hK.out _ _ ⟨hS.1.setRow_other (by omega) _, hS.2.setRow_other (by omega) _⟩ (fun hS => ?_)
          clear hK
          refine wpAnyH_done (by kernel_rfl) ?_ _
          have j2 := e2.setRow_other (b := g + 1 + 1) (by omega) (CL R R (trcF f R)).toArray
          have j3 : MB (World.setRow _ (g + 1 + 1) (CL R R (trcF f R)).toArray) (g + 1 + 1) 33 R R (trcF f R) := e3.setRow _
          have j4 := Below.setRow e4 (show g ≤ g + 1 + 1 by omega) (CL R R (trcF f R)).toArray
          generalize World.setRow wf (g + 1 + 1) (CL R R (trcF f R)).toArray = wk at j2 j3 j4 ⊢
          clear hS e2 e3 e4
          go_wp2_with fail
          refine bodyPost_ret (v := .tuple #[MV R c (redF f R), MV R R (trcF f R)]) ?_ rfl ⟨rfl, by obtain rfl := HG.out; exact j4⟩
          exact results_cell2 rfl _ _ (g + 1) (g + 1 + 1) _ _ _ _ (0, 0) (0, 0) _ _ rfl rfl j2 j3 Try.underlying33 rfl (by kernel_rfl) Try.underlying33 rfl (by kernel_rfl)
end Go.Proofs.Ytjbaeomjinnlhaa
