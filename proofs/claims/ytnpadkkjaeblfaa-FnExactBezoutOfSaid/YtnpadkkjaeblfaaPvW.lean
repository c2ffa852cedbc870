/-
  Combinations of two polynomials, of the program.
-/
import Derived.Test.YtnpadkkjaeblfaaPvO
namespace Go.Proofs.Ytnpadkkjaeblfaa
set_option linter.unusedVariables false
set_option linter.unusedSimpArgs false
open Go.ChangeShapes Go.WideShapes Go.ChangeAt Go.RowKit

theorem cell_of_heap {u : World} {g : Nat} {cs : Array Value} {t : TypeId} (h : u.heap[g]? = some (.cells cs t (0, 0))) (i : Nat) : u.cell? ⟨g, i, none⟩ = cs[i]? := by
  unfold World.cell?
  rw [h]
  simp
theorem PO.setRow {w : World} {B g : Nat} {v : Value} {zs : List Int} (h : PO w B v zs) (cs : Array Value) (hB : g < B) : PO (w.setRow g cs) B v zs := by
  obtain ⟨A, c, rfl, h1, h2, hz, h3, h4⟩ := h
  refine ⟨A, c, rfl, h1, h2, hz, h3, fun hn => ?_⟩
  obtain ⟨b, k, rfl, ho⟩ := h4 hn
  refine ⟨b, k, rfl, ho.kept (row := some g) ⟨rfl, rfl, rfl, Nat.le_of_eq (size_setRow w g cs).symm, fun j _ hj => setRow_other w g j cs (fun e => hj (by rw [e]))⟩ ?_⟩
  right
  rcases ho.2 with ⟨_, h0⟩ | ⟨g', c', cur, q1, q2, _⟩
  · omega
  · cases q1
    simp [Value.ownBlock]
    omega
def S6 (h : Nat) (p0 p1 p2 r0 r1 r2 : Value) (u : World) : Prop :=
  u.cell? ⟨h, 0, none⟩ = some p0 ∧ u.cell? ⟨h, 1, none⟩ = some p1 ∧ u.cell? ⟨h, 2, none⟩ = some p2 ∧ u.cell? ⟨h + 1, 0, none⟩ = some r0 ∧ u.cell? ⟨h + 1, 1, none⟩ = some r1 ∧ u.cell? ⟨h + 1, 2, none⟩ = some r2
theorem S6.keep {h : Nat} {p0 p1 p2 r0 r1 r2 : Value} {u u' : World} (hS : S6 h p0 p1 p2 r0 r1 r2 u) (hb : ∀ k, k < h + 2 → u'.heap[k]? = u.heap[k]?) : S6 h p0 p1 p2 r0 r1 r2 u' := by
  obtain ⟨a0, a1, a2, b0, b1, b2⟩ := hS
  have e1 := hb h (by omega)
  have e2 := hb (h + 1) (by omega)
  exact ⟨(cell_same e1).trans a0, (cell_same e1).trans a1, (cell_same e1).trans a2, (cell_same e2).trans b0, (cell_same e2).trans b1, (cell_same e2).trans b2⟩
set_option maxHeartbeats 4000000 in
set_option maxRecDepth 100000 in
theorem plusTimes_any (v0 v1 v2 q u0 u1 u2 : Value) (x0 x1 x2 z y0 y1 y2 : List Int) (h0 : x0.length ≤ 10000) (h1 : x1.length ≤ 10000) (h2 : x2.length ≤ 10000) (hz : z.length ≤ 10000) (g0 : y0.length ≤ 10000) (g1 : y1.length ≤ 10000) (g2 : y2.length ≤ 10000)
    (w : World) (a0 : NS w v0 x0) (a1 : NS w v1 x1) (a2 : NS w v2 x2) (aq : NS w q z) (b0 : NS w u0 y0) (b1 : NS w u1 y1) (b2 : NS w u2 y2) :
    Calls Try.prog 137 #[.agg #[v0, v1, v2], q, .agg #[u0, u1, u2]] w fun e w' => ∃ r0 r1 r2, e = .returned (.agg #[r0, r1, r2]) ∧ PO w' w.heap.size r0 (pPlus x0 (pTimes y0 z)) ∧ PO w' w.heap.size r1 (pPlus x1 (pTimes y1 z)) ∧ PO w' w.heap.size r2 (pPlus x2 (pTimes y2 z)) ∧ Below w.heap.size w w' := by
  have HA0 := Lib.hid a0
  have HA1 := Lib.hid a1
  have HA2 := Lib.hid a2
  have HQ := Lib.hid aq
  have HB0 := Lib.hid b0
  have HB1 := Lib.hid b1
  have HB2 := Lib.hid b2
  obtain ⟨A0, c0, rfl, _⟩ := a0
  obtain ⟨A1, c1, rfl, _⟩ := a1
  obtain ⟨A2, c2, rfl, _⟩ := a2
  obtain ⟨Aq, cq, rfl, _⟩ := aq
  obtain ⟨B0, d0, rfl, _⟩ := b0
  obtain ⟨B1, d1, rfl, _⟩ := b1
  obtain ⟨B2, d2, rfl, _⟩ := b2
  obtain ⟨wd, hwd⟩ : ∃ wd, wd = (((w.alloc (.cells #[.slice A0 x0.length c0, .slice A1 x1.length c1, .slice A2 x2.length c2] 85)).alloc (.cells #[.slice B0 y0.length d0, .slice B1 y1.length d1, .slice B2 y2.length d2] 85)).alloc (.cells #[.slice none 0 0, .slice none 0 0, .slice none 0 0] 85)).drew := ⟨_, rfl⟩
  obtain ⟨hh, hhe⟩ : ∃ hh, hh = w.heap.size := ⟨_, rfl⟩
  have k1 : wd.heap[hh]? = some (.cells #[.slice A0 x0.length c0, .slice A1 x1.length c1, .slice A2 x2.length c2] 85 (0, 0)) := by
    rw [hwd, hhe]
    exact (heap_alloc_old _ _ _ (by simp <;> omega)).trans ((heap_alloc_old _ _ _ (by simp)).trans (heap_alloc_new w _))
  have k2 : wd.heap[hh + 1]? = some (.cells #[.slice B0 y0.length d0, .slice B1 y1.length d1, .slice B2 y2.length d2] 85 (0, 0)) := by
    rw [hwd, hhe]
    exact (heap_alloc_old _ _ _ (by simp)).trans (heap_alloc2_new w _ _)
  have RSwd : wd.heap[hh + 2]? = some (.cells #[.slice none 0 0, .slice none 0 0, .slice none 0 0] 85 (0, 0)) := by
    rw [hwd, hhe]
    have e9 := heap_alloc_new ((w.alloc (.cells #[.slice A0 x0.length c0, .slice A1 x1.length c1, .slice A2 x2.length c2] 85)).alloc (.cells #[.slice B0 y0.length d0, .slice B1 y1.length d1, .slice B2 y2.length d2] 85)) (.cells #[.slice none 0 0, .slice none 0 0, .slice none 0 0] 85)
    rw [World.size_alloc, World.size_alloc] at e9
    exact e9
  have SZwd : hh + 3 ≤ wd.heap.size := by rw [hwd, hhe]; simp
  have BLwd : Hid (Below w.heap.size w wd) := Lib.hid (by rw [hwd]; exact drew_b ((((Below.refl _ w).alloc (Nat.le_refl _) _).alloc (by simp) _).alloc (by simp <;> omega) _))
  have HWD := Lib.hid hwd
  have HHE := Lib.hid hhe
  have hS0 : S6 hh (.slice A0 x0.length c0) (.slice A1 x1.length c1) (.slice A2 x2.length c2) (.slice B0 y0.length d0) (.slice B1 y1.length d1) (.slice B2 y2.length d2) wd :=
    ⟨cell_of_heap k1 0, cell_of_heap k1 1, cell_of_heap k1 2, cell_of_heap k2 0, cell_of_heap k2 1, cell_of_heap k2 2⟩
  clear hwd hhe k1 k2
  go_enter Try.func137, Try.ntmps137
  go_wp2_with fail
  rw [← HHE.out]
  refine wp_region_held_drew (S := S6 hh (.slice A0 x0.length c0) (.slice A1 x1.length c1) (.slice A2 x2.length c2) (.slice B0 y0.length d0) (.slice B1 y1.length d1) (.slice B2 y2.length d2)) (by kernel_rfl) ?_ (fun hS => ?_)
  · rw [← HWD.out]; exact hS0
  rw [← HWD.out] at hS ⊢
  refine takeH (i := 0) (v := ?v0) rfl rfl (by kernel_rfl) (by kernel_rfl) (by kernel_rfl) (fun _ _ _ h => h) rfl ?hy0 hS ?rs0
  case hy0 => (intro wq hq; obtain ⟨s1, s2, s3, s4, s5, s6⟩ := hq; go_simp; try (with_reducible rfl))
  simp only [Act.put, List.setIfInBounds_toArray, List.set_cons_zero, List.set_cons_succ]
  refine takeH (i := 1) (v := ?v1) rfl rfl (by kernel_rfl) (by kernel_rfl) (by kernel_rfl) (fun _ _ _ h => h) rfl ?hy1 hS ?rs1
  case hy1 => (intro wq hq; obtain ⟨s1, s2, s3, s4, s5, s6⟩ := hq; go_simp; try (with_reducible rfl))
  simp only [Act.put, List.setIfInBounds_toArray, List.set_cons_zero, List.set_cons_succ]
  refine takeH (i := 2) (v := ?v2) rfl rfl (by kernel_rfl) (by kernel_rfl) (by kernel_rfl) (fun _ _ _ h => h) rfl ?hy2 hS ?rs2
  case hy2 => (intro wq hq; obtain ⟨s1, s2, s3, s4, s5, s6⟩ := hq; go_simp; try (with_reducible rfl))
  simp only [Act.put, List.setIfInBounds_toArray, List.set_cons_zero, List.set_cons_succ]
  refine takeH (i := 3) (v := ?v3) rfl rfl (by kernel_rfl) (by kernel_rfl) (by kernel_rfl) (fun _ _ _ h => h) rfl ?hy3 hS ?rs3
  case hy3 => (intro wq hq; obtain ⟨s1, s2, s3, s4, s5, s6⟩ := hq; go_simp; try (with_reducible rfl))
  simp only [Act.put, List.setIfInBounds_toArray, List.set_cons_zero, List.set_cons_succ]
  refine takeH (i := 4) (v := ?v4) rfl rfl (by kernel_rfl) (by kernel_rfl) (by kernel_rfl) (fun _ _ _ h => h) rfl ?hy4 hS ?rs4
  case hy4 => (intro wq hq; obtain ⟨s1, s2, s3, s4, s5, s6⟩ := hq; go_simp; try (with_reducible rfl))
  simp only [Act.put, List.setIfInBounds_toArray, List.set_cons_zero, List.set_cons_succ]
  refine takeH (i := 7) (v := ?v7) rfl rfl (by kernel_rfl) (by kernel_rfl) (by kernel_rfl) (fun _ _ _ h => h) rfl ?hy7 hS ?rs7
  case hy7 => (intro wq hq; obtain ⟨s1, s2, s3, s4, s5, s6⟩ := hq; go_simp; try (with_reducible rfl))
  simp only [Act.put, List.setIfInBounds_toArray, List.set_cons_zero, List.set_cons_succ]
  refine takeH (i := 8) (v := ?v8) rfl rfl (by kernel_rfl) (by kernel_rfl) (by kernel_rfl) (fun _ _ _ h => h) rfl ?hy8 hS ?rs8
  case hy8 => (intro wq hq; obtain ⟨s1, s2, s3, s4, s5, s6⟩ := hq; go_simp; try (with_reducible rfl))
  simp only [Act.put, List.setIfInBounds_toArray, List.set_cons_zero, List.set_cons_succ]
  refine takeH (i := 9) (v := ?v9) rfl rfl (by kernel_rfl) (by kernel_rfl) (by kernel_rfl) (fun _ _ _ h => h) rfl ?hy9 hS ?rs9
  case hy9 => (intro wq hq; obtain ⟨s1, s2, s3, s4, s5, s6⟩ := hq; go_simp; try (with_reducible rfl))
  simp only [Act.put, List.setIfInBounds_toArray, List.set_cons_zero, List.set_cons_succ]
  refine takeH (i := 10) (v := ?v10) rfl rfl (by kernel_rfl) (by kernel_rfl) (by kernel_rfl) (fun _ _ _ h => h) rfl ?hy10 hS ?rs10
  case hy10 => (intro wq hq; obtain ⟨s1, s2, s3, s4, s5, s6⟩ := hq; go_simp; try (with_reducible rfl))
  simp only [Act.put, List.setIfInBounds_toArray, List.set_cons_zero, List.set_cons_succ]
  refine takeH (i := 11) (v := ?v11) rfl rfl (by kernel_rfl) (by kernel_rfl) (by kernel_rfl) (fun _ _ _ h => h) rfl ?hy11 hS ?rs11
  case hy11 => (intro wq hq; obtain ⟨s1, s2, s3, s4, s5, s6⟩ := hq; go_simp; try (with_reducible rfl))
  simp only [Act.put, List.setIfInBounds_toArray, List.set_cons_zero, List.set_cons_succ]
  refine takeH (i := 14) (v := ?v14) rfl rfl (by kernel_rfl) (by kernel_rfl) (by kernel_rfl) (fun _ _ _ h => h) rfl ?hy14 hS ?rs14
  case hy14 => (intro wq hq; obtain ⟨s1, s2, s3, s4, s5, s6⟩ := hq; go_simp; try (with_reducible rfl))
  simp only [Act.put, List.setIfInBounds_toArray, List.set_cons_zero, List.set_cons_succ]
  refine takeH (i := 15) (v := ?v15) rfl rfl (by kernel_rfl) (by kernel_rfl) (by kernel_rfl) (fun _ _ _ h => h) rfl ?hy15 hS ?rs15
  case hy15 => (intro wq hq; obtain ⟨s1, s2, s3, s4, s5, s6⟩ := hq; go_simp; try (with_reducible rfl))
  simp only [Act.put, List.setIfInBounds_toArray, List.set_cons_zero, List.set_cons_succ]
  refine takeH (i := 16) (v := ?v16) rfl rfl (by kernel_rfl) (by kernel_rfl) (by kernel_rfl) (fun _ _ _ h => h) rfl ?hy16 hS ?rs16
  case hy16 => (intro wq hq; obtain ⟨s1, s2, s3, s4, s5, s6⟩ := hq; go_simp; try (with_reducible rfl))
  simp only [Act.put, List.setIfInBounds_toArray, List.set_cons_zero, List.set_cons_succ]
  refine takeH (i := 17) (v := ?v17) rfl rfl (by kernel_rfl) (by kernel_rfl) (by kernel_rfl) (fun _ _ _ h => h) rfl ?hy17 hS ?rs17
  case hy17 => (intro wq hq; obtain ⟨s1, s2, s3, s4, s5, s6⟩ := hq; go_simp; try (with_reducible rfl))
  simp only [Act.put, List.setIfInBounds_toArray, List.set_cons_zero, List.set_cons_succ]
  refine takeH (i := 18) (v := ?v18) rfl rfl (by kernel_rfl) (by kernel_rfl) (by kernel_rfl) (fun _ _ _ h => h) rfl ?hy18 hS ?rs18
  case hy18 => (intro wq hq; obtain ⟨s1, s2, s3, s4, s5, s6⟩ := hq; go_simp; try (with_reducible rfl))
  simp only [Act.put, List.setIfInBounds_toArray, List.set_cons_zero, List.set_cons_succ]
  refine wpAnyH_ready (rs := [5]) (by kernel_rfl) (by simp) ?_
  refine AllReadyH.cons rfl (fun K hK => ?_) AllReadyH.nil
  go_simp
  refine (ptimes_any _ _ y0 z (by omega) (by omega) _ (HB0.out.below BLwd.out) (HQ.out.below BLwd.out)).mono ?_
  rintro e t0 ⟨r, rfl, ho, hb⟩
  obtain ⟨C0, e0, rfl, _, _⟩ := own_form ho
  have HT0 := Lib.hid (PO.of_own ho rfl (pTimes_in HB0.out.all HQ.out.all))
  have BLt0 : Hid (Below w.heap.size w t0) := Lib.hid (bchain BLwd.out hb)
  have SZt0 : hh + 3 ≤ t0.heap.size := Nat.le_trans SZwd hb.size
  have RSt0 : t0.heap[hh + 2]? = _ := (hb.block (hh + 2) (by omega)).trans RSwd
  have KSt0 : ∀ j, j < hh + 2 → t0.heap[j]? = wd.heap[j]? := fun j hj => hb.block j (by omega)
  clear ho hb
  refine hK.out _ _ (hS.keep KSt0) (fun hS => ?_)
  clear hK
  clear KSt0
  try simp only [Act.put, List.setIfInBounds_toArray, List.set_cons_zero, List.set_cons_succ]
  refine wpAnyH_ready (rs := [6]) (by kernel_rfl) (by simp) ?_
  refine AllReadyH.cons rfl (fun K hK => ?_) AllReadyH.nil
  go_simp
  have HLT0 := pTimes_len y0 z
  refine (ppoly_any _ _ x0 (pTimes y0 z) (by omega) (by omega) _ (HA0.out.below BLt0.out) HT0.out.ns).mono ?_
  rintro e p0 ⟨r, rfl, ho, hb⟩
  obtain ⟨D0, f0, rfl, _, _⟩ := ho.form
  have HP0 := Lib.hid ho
  have BLp0 : Hid (Below w.heap.size w p0) := Lib.hid (bchain BLt0.out hb)
  have SZp0 : hh + 3 ≤ p0.heap.size := Nat.le_trans SZt0 hb.size
  have RSp0 : p0.heap[hh + 2]? = _ := (hb.block (hh + 2) (by omega)).trans RSt0
  have KSp0 : ∀ j, j < hh + 2 → p0.heap[j]? = t0.heap[j]? := fun j hj => hb.block j (by omega)
  clear ho hb HT0
  refine hK.out _ _ (hS.keep KSp0) (fun hS => ?_)
  clear hK
  clear KSp0
  try simp only [Act.put, List.setIfInBounds_toArray, List.set_cons_zero, List.set_cons_succ]
  refine wpAnyH_ready (rs := [12]) (by kernel_rfl) (by simp) ?_
  refine AllReadyH.cons rfl (fun K hK => ?_) AllReadyH.nil
  go_simp
  refine (ptimes_any _ _ y1 z (by omega) (by omega) _ (HB1.out.below BLp0.out) (HQ.out.below BLp0.out)).mono ?_
  rintro e t1 ⟨r, rfl, ho, hb⟩
  obtain ⟨C1, e1, rfl, _, _⟩ := own_form ho
  have HT1 := Lib.hid (PO.of_own ho rfl (pTimes_in HB1.out.all HQ.out.all))
  have BLt1 : Hid (Below w.heap.size w t1) := Lib.hid (bchain BLp0.out hb)
  have SZt1 : hh + 3 ≤ t1.heap.size := Nat.le_trans SZp0 hb.size
  have RSt1 : t1.heap[hh + 2]? = _ := (hb.block (hh + 2) (by omega)).trans RSp0
  have KSt1 : ∀ j, j < hh + 2 → t1.heap[j]? = p0.heap[j]? := fun j hj => hb.block j (by omega)
  replace HP0 := Lib.hid (HP0.out.below hb)
  clear ho hb
  refine hK.out _ _ (hS.keep KSt1) (fun hS => ?_)
  clear hK
  clear KSt1
  try simp only [Act.put, List.setIfInBounds_toArray, List.set_cons_zero, List.set_cons_succ]
  refine wpAnyH_ready (rs := [13]) (by kernel_rfl) (by simp) ?_
  refine AllReadyH.cons rfl (fun K hK => ?_) AllReadyH.nil
  go_simp
  have HLT1 := pTimes_len y1 z
  refine (ppoly_any _ _ x1 (pTimes y1 z) (by omega) (by omega) _ (HA1.out.below BLt1.out) HT1.out.ns).mono ?_
  rintro e p1 ⟨r, rfl, ho, hb⟩
  obtain ⟨D1, f1, rfl, _, _⟩ := ho.form
  have HP1 := Lib.hid ho
  have BLp1 : Hid (Below w.heap.size w p1) := Lib.hid (bchain BLt1.out hb)
  have SZp1 : hh + 3 ≤ p1.heap.size := Nat.le_trans SZt1 hb.size
  have RSp1 : p1.heap[hh + 2]? = _ := (hb.block (hh + 2) (by omega)).trans RSt1
  have KSp1 : ∀ j, j < hh + 2 → p1.heap[j]? = t1.heap[j]? := fun j hj => hb.block j (by omega)
  replace HP0 := Lib.hid (HP0.out.below hb)
  clear ho hb HT1
  refine hK.out _ _ (hS.keep KSp1) (fun hS => ?_)
  clear hK
  clear KSp1
  try simp only [Act.put, List.setIfInBounds_toArray, List.set_cons_zero, List.set_cons_succ]
  refine wpAnyH_ready (rs := [19]) (by kernel_rfl) (by simp) ?_
  refine AllReadyH.cons rfl (fun K hK => ?_) AllReadyH.nil
  go_simp
  refine (ptimes_any _ _ y2 z (by omega) (by omega) _ (HB2.out.below BLp1.out) (HQ.out.below BLp1.out)).mono ?_
  rintro e t2 ⟨r, rfl, ho, hb⟩
  obtain ⟨C2, e2, rfl, _, _⟩ := own_form ho
  have HT2 := Lib.hid (PO.of_own ho rfl (pTimes_in HB2.out.all HQ.out.all))
  have BLt2 : Hid (Below w.heap.size w t2) := Lib.hid (bchain BLp1.out hb)
  have SZt2 : hh + 3 ≤ t2.heap.size := Nat.le_trans SZp1 hb.size
  have RSt2 : t2.heap[hh + 2]? = _ := (hb.block (hh + 2) (by omega)).trans RSp1
  have KSt2 : ∀ j, j < hh + 2 → t2.heap[j]? = p1.heap[j]? := fun j hj => hb.block j (by omega)
  replace HP0 := Lib.hid (HP0.out.below hb)
  replace HP1 := Lib.hid (HP1.out.below hb)
  clear ho hb
  refine hK.out _ _ (hS.keep KSt2) (fun hS => ?_)
  clear hK
  clear KSt2
  try simp only [Act.put, List.setIfInBounds_toArray, List.set_cons_zero, List.set_cons_succ]
  refine wpAnyH_ready (rs := [20]) (by kernel_rfl) (by simp) ?_
  refine AllReadyH.cons rfl (fun K hK => ?_) AllReadyH.nil
  go_simp
  have HLT2 := pTimes_len y2 z
  refine (ppoly_any _ _ x2 (pTimes y2 z) (by omega) (by omega) _ (HA2.out.below BLt2.out) HT2.out.ns).mono ?_
  rintro e p2 ⟨r, rfl, ho, hb⟩
  obtain ⟨D2, f2, rfl, _, _⟩ := ho.form
  have HP2 := Lib.hid ho
  have BLp2 : Hid (Below w.heap.size w p2) := Lib.hid (bchain BLt2.out hb)
  have SZp2 : hh + 3 ≤ p2.heap.size := Nat.le_trans SZt2 hb.size
  have RSp2 : p2.heap[hh + 2]? = _ := (hb.block (hh + 2) (by omega)).trans RSt2
  have KSp2 : ∀ j, j < hh + 2 → p2.heap[j]? = t2.heap[j]? := fun j hj => hb.block j (by omega)
  replace HP0 := Lib.hid (HP0.out.below hb)
  replace HP1 := Lib.hid (HP1.out.below hb)
  clear ho hb HT2
  refine hK.out _ _ (hS.keep KSp2) (fun hS => ?_)
  clear hK
  clear KSp2
  try simp only [Act.put, List.setIfInBounds_toArray, List.set_cons_zero, List.set_cons_succ]
  refine takeH (i := 21) (v := ?v21) rfl rfl (by kernel_rfl) (by kernel_rfl) (by kernel_rfl) (fun _ _ _ h => h) rfl ?hy21 hS ?rs21
  case hy21 => (intro wq hq; obtain ⟨s1, s2, s3, s4, s5, s6⟩ := hq; go_simp; try (with_reducible rfl))
  simp only [Act.put, List.setIfInBounds_toArray, List.set_cons_zero, List.set_cons_succ]
  refine wpAnyH_ready (rs := [22]) (by kernel_rfl) (by simp) ?_
  refine AllReadyH.cons rfl (fun K hK => ?_) AllReadyH.nil
  rw [if_pos (by rfl)]
  refine wp_store_row 85 _ _ rfl (hh + 2) #[.slice D0 _ f0, .slice D1 _ f1, .slice D2 _ f2] rfl rfl _ _ RSp2 (by kernel_rfl) rfl (by simp [Value.oneCell']) ?_
  refine hK.out _ _ (hS.keep (fun j hj => setRow_other _ _ _ _ (by omega))) (fun hS => ?_)
  clear hK
  refine wpAnyH_done (by kernel_rfl) ?_ _
  go_wp2_with fail
  refine bodyPost_ret (v := .agg #[.slice D0 (pPlus x0 (pTimes y0 z)).length f0, .slice D1 (pPlus x1 (pTimes y1 z)).length f1, .slice D2 (pPlus x2 (pTimes y2 z)).length f2]) ?_ rfl ⟨_, _, _, rfl, ?_, ?_, ?_, ?_⟩
  · exact results_cell_row rfl _ _ (hh + 2) _ _ (0, 0) _ rfl (setRow_heap _ _ _ _ _ _ RSp2) Try.underlying85 rfl (by kernel_rfl)
  · exact (HP0.out.setRow _ (by omega)).lower (by rw [← HHE.out]; omega)
  · exact (HP1.out.setRow _ (by omega)).lower (by rw [← HHE.out]; omega)
  · exact (HP2.out.setRow _ (by omega)).lower (by rw [← HHE.out]; omega)
  · exact below_setRow BLp2.out (by rw [← HHE.out]; omega) _
def S3 (h : Nat) (p0 p1 p2 : Value) (u : World) : Prop := u.cell? ⟨h, 0, none⟩ = some p0 ∧ u.cell? ⟨h, 1, none⟩ = some p1 ∧ u.cell? ⟨h, 2, none⟩ = some p2
theorem S3.keep {h : Nat} {p0 p1 p2 : Value} {u u' : World} (hS : S3 h p0 p1 p2 u) (hb : ∀ k, k < h + 1 → u'.heap[k]? = u.heap[k]?) : S3 h p0 p1 p2 u' := by
  obtain ⟨a0, a1, a2⟩ := hS
  have e1 := hb h (by omega)
  exact ⟨(cell_same e1).trans a0, (cell_same e1).trans a1, (cell_same e1).trans a2⟩
set_option maxHeartbeats 4000000 in
set_option maxRecDepth 100000 in
theorem cscaled_any (v0 v1 v2 : Value) (y : Int) (x0 x1 x2 : List Int) (h0 : x0.length ≤ 10000) (h1 : x1.length ≤ 10000) (h2 : x2.length ≤ 10000) (y0 : 0 ≤ y) (y1 : y < 65536)
    (w : World) (a0 : NS w v0 x0) (a1 : NS w v1 x1) (a2 : NS w v2 x2) :
    Calls Try.prog 138 #[.agg #[v0, v1, v2], .int .u16 y] w fun e w' => ∃ r0 r1 r2, e = .returned (.agg #[r0, r1, r2]) ∧ PO w' w.heap.size r0 (pScale x0 y) ∧ PO w' w.heap.size r1 (pScale x1 y) ∧ PO w' w.heap.size r2 (pScale x2 y) ∧ Below w.heap.size w w' := by
  have HA0 := Lib.hid a0
  have HA1 := Lib.hid a1
  have HA2 := Lib.hid a2
  obtain ⟨A0, c0, rfl, _⟩ := a0
  obtain ⟨A1, c1, rfl, _⟩ := a1
  obtain ⟨A2, c2, rfl, _⟩ := a2
  obtain ⟨wd, hwd⟩ : ∃ wd, wd = ((w.alloc (.cells #[.slice A0 x0.length c0, .slice A1 x1.length c1, .slice A2 x2.length c2] 85)).alloc (.cells #[.slice none 0 0, .slice none 0 0, .slice none 0 0] 85)).drew := ⟨_, rfl⟩
  obtain ⟨hh, hhe⟩ : ∃ hh, hh = w.heap.size := ⟨_, rfl⟩
  have k1 : wd.heap[hh]? = some (.cells #[.slice A0 x0.length c0, .slice A1 x1.length c1, .slice A2 x2.length c2] 85 (0, 0)) := by
    rw [hwd, hhe]
    exact (heap_alloc_old _ _ _ (by simp)).trans (heap_alloc_new w _)
  have RSwd : wd.heap[hh + 1]? = some (.cells #[.slice none 0 0, .slice none 0 0, .slice none 0 0] 85 (0, 0)) := by
    rw [hwd, hhe]
    exact heap_alloc2_new w _ _
  have SZwd : hh + 2 ≤ wd.heap.size := by rw [hwd, hhe]; simp
  have BLwd : Hid (Below w.heap.size w wd) := Lib.hid (by rw [hwd]; exact drew_b (((Below.refl _ w).alloc (Nat.le_refl _) _).alloc (by simp) _))
  have HWD := Lib.hid hwd
  have HHE := Lib.hid hhe
  have hS0 : S3 hh (.slice A0 x0.length c0) (.slice A1 x1.length c1) (.slice A2 x2.length c2) wd :=
    ⟨cell_of_heap k1 0, cell_of_heap k1 1, cell_of_heap k1 2⟩
  clear hwd hhe k1
  go_enter Try.func138, Try.ntmps138
  go_wp2_with fail
  rw [← HHE.out]
  refine wp_region_held_drew (S := S3 hh (.slice A0 x0.length c0) (.slice A1 x1.length c1) (.slice A2 x2.length c2)) (by kernel_rfl) ?_ (fun hS => ?_)
  · rw [← HWD.out]; exact hS0
  rw [← HWD.out] at hS ⊢
  refine takeH (i := 0) (v := ?v0) rfl rfl (by kernel_rfl) (by kernel_rfl) (by kernel_rfl) (fun _ _ _ h => h) rfl ?hy0 hS ?rs0
  case hy0 => (intro wq hq; obtain ⟨s1, s2, s3⟩ := hq; go_simp; try (with_reducible rfl))
  simp only [Act.put, List.setIfInBounds_toArray, List.set_cons_zero, List.set_cons_succ]
  refine takeH (i := 1) (v := ?v1) rfl rfl (by kernel_rfl) (by kernel_rfl) (by kernel_rfl) (fun _ _ _ h => h) rfl ?hy1 hS ?rs1
  case hy1 => (intro wq hq; obtain ⟨s1, s2, s3⟩ := hq; go_simp; try (with_reducible rfl))
  simp only [Act.put, List.setIfInBounds_toArray, List.set_cons_zero, List.set_cons_succ]
  refine takeH (i := 2) (v := ?v2) rfl rfl (by kernel_rfl) (by kernel_rfl) (by kernel_rfl) (fun _ _ _ h => h) rfl ?hy2 hS ?rs2
  case hy2 => (intro wq hq; obtain ⟨s1, s2, s3⟩ := hq; go_simp; try (with_reducible rfl))
  simp only [Act.put, List.setIfInBounds_toArray, List.set_cons_zero, List.set_cons_succ]
  refine takeH (i := 4) (v := ?v4) rfl rfl (by kernel_rfl) (by kernel_rfl) (by kernel_rfl) (fun _ _ _ h => h) rfl ?hy4 hS ?rs4
  case hy4 => (intro wq hq; obtain ⟨s1, s2, s3⟩ := hq; go_simp; try (with_reducible rfl))
  simp only [Act.put, List.setIfInBounds_toArray, List.set_cons_zero, List.set_cons_succ]
  refine takeH (i := 5) (v := ?v5) rfl rfl (by kernel_rfl) (by kernel_rfl) (by kernel_rfl) (fun _ _ _ h => h) rfl ?hy5 hS ?rs5
  case hy5 => (intro wq hq; obtain ⟨s1, s2, s3⟩ := hq; go_simp; try (with_reducible rfl))
  simp only [Act.put, List.setIfInBounds_toArray, List.set_cons_zero, List.set_cons_succ]
  refine takeH (i := 6) (v := ?v6) rfl rfl (by kernel_rfl) (by kernel_rfl) (by kernel_rfl) (fun _ _ _ h => h) rfl ?hy6 hS ?rs6
  case hy6 => (intro wq hq; obtain ⟨s1, s2, s3⟩ := hq; go_simp; try (with_reducible rfl))
  simp only [Act.put, List.setIfInBounds_toArray, List.set_cons_zero, List.set_cons_succ]
  refine takeH (i := 8) (v := ?v8) rfl rfl (by kernel_rfl) (by kernel_rfl) (by kernel_rfl) (fun _ _ _ h => h) rfl ?hy8 hS ?rs8
  case hy8 => (intro wq hq; obtain ⟨s1, s2, s3⟩ := hq; go_simp; try (with_reducible rfl))
  simp only [Act.put, List.setIfInBounds_toArray, List.set_cons_zero, List.set_cons_succ]
  refine takeH (i := 9) (v := ?v9) rfl rfl (by kernel_rfl) (by kernel_rfl) (by kernel_rfl) (fun _ _ _ h => h) rfl ?hy9 hS ?rs9
  case hy9 => (intro wq hq; obtain ⟨s1, s2, s3⟩ := hq; go_simp; try (with_reducible rfl))
  simp only [Act.put, List.setIfInBounds_toArray, List.set_cons_zero, List.set_cons_succ]
  refine takeH (i := 10) (v := ?v10) rfl rfl (by kernel_rfl) (by kernel_rfl) (by kernel_rfl) (fun _ _ _ h => h) rfl ?hy10 hS ?rs10
  case hy10 => (intro wq hq; obtain ⟨s1, s2, s3⟩ := hq; go_simp; try (with_reducible rfl))
  simp only [Act.put, List.setIfInBounds_toArray, List.set_cons_zero, List.set_cons_succ]
  refine wpAnyH_ready (rs := [3]) (by kernel_rfl) (by simp) ?_
  refine AllReadyH.cons rfl (fun K hK => ?_) AllReadyH.nil
  go_simp
  refine (scaled_any _ x0 y (by omega) y0 y1 _ (HA0.out.below BLwd.out)).mono ?_
  rintro e t0 ⟨r, rfl, ho, hb⟩
  obtain ⟨D0, f0, rfl, _, _⟩ := own_form ho
  have HP0 := Lib.hid (PO.of_own ho rfl (pScale_in HA0.out.all y0 y1))
  have BLt0 : Hid (Below w.heap.size w t0) := Lib.hid (bchain BLwd.out hb)
  have SZt0 : hh + 2 ≤ t0.heap.size := Nat.le_trans SZwd hb.size
  have RSt0 : t0.heap[hh + 1]? = _ := (hb.block (hh + 1) (by omega)).trans RSwd
  have KSt0 : ∀ j, j < hh + 1 → t0.heap[j]? = wd.heap[j]? := fun j hj => hb.block j (by omega)
  clear ho hb
  refine hK.out _ _ (hS.keep KSt0) (fun hS => ?_)
  clear hK
  clear KSt0
  try simp only [Act.put, List.setIfInBounds_toArray, List.set_cons_zero, List.set_cons_succ]
  refine wpAnyH_ready (rs := [7]) (by kernel_rfl) (by simp) ?_
  refine AllReadyH.cons rfl (fun K hK => ?_) AllReadyH.nil
  go_simp
  refine (scaled_any _ x1 y (by omega) y0 y1 _ (HA1.out.below BLt0.out)).mono ?_
  rintro e t1 ⟨r, rfl, ho, hb⟩
  obtain ⟨D1, f1, rfl, _, _⟩ := own_form ho
  have HP1 := Lib.hid (PO.of_own ho rfl (pScale_in HA1.out.all y0 y1))
  have BLt1 : Hid (Below w.heap.size w t1) := Lib.hid (bchain BLt0.out hb)
  have SZt1 : hh + 2 ≤ t1.heap.size := Nat.le_trans SZt0 hb.size
  have RSt1 : t1.heap[hh + 1]? = _ := (hb.block (hh + 1) (by omega)).trans RSt0
  have KSt1 : ∀ j, j < hh + 1 → t1.heap[j]? = t0.heap[j]? := fun j hj => hb.block j (by omega)
  replace HP0 := Lib.hid (HP0.out.below hb)
  clear ho hb
  refine hK.out _ _ (hS.keep KSt1) (fun hS => ?_)
  clear hK
  clear KSt1
  try simp only [Act.put, List.setIfInBounds_toArray, List.set_cons_zero, List.set_cons_succ]
  refine wpAnyH_ready (rs := [11]) (by kernel_rfl) (by simp) ?_
  refine AllReadyH.cons rfl (fun K hK => ?_) AllReadyH.nil
  go_simp
  refine (scaled_any _ x2 y (by omega) y0 y1 _ (HA2.out.below BLt1.out)).mono ?_
  rintro e t2 ⟨r, rfl, ho, hb⟩
  obtain ⟨D2, f2, rfl, _, _⟩ := own_form ho
  have HP2 := Lib.hid (PO.of_own ho rfl (pScale_in HA2.out.all y0 y1))
  have BLt2 : Hid (Below w.heap.size w t2) := Lib.hid (bchain BLt1.out hb)
  have SZt2 : hh + 2 ≤ t2.heap.size := Nat.le_trans SZt1 hb.size
  have RSt2 : t2.heap[hh + 1]? = _ := (hb.block (hh + 1) (by omega)).trans RSt1
  have KSt2 : ∀ j, j < hh + 1 → t2.heap[j]? = t1.heap[j]? := fun j hj => hb.block j (by omega)
  replace HP0 := Lib.hid (HP0.out.below hb)
  replace HP1 := Lib.hid (HP1.out.below hb)
  clear ho hb
  refine hK.out _ _ (hS.keep KSt2) (fun hS => ?_)
  clear hK
  clear KSt2
  try simp only [Act.put, List.setIfInBounds_toArray, List.set_cons_zero, List.set_cons_succ]
  refine takeH (i := 12) (v := ?v12) rfl rfl (by kernel_rfl) (by kernel_rfl) (by kernel_rfl) (fun _ _ _ h => h) rfl ?hy12 hS ?rs12
  case hy12 => (intro wq hq; obtain ⟨s1, s2, s3⟩ := hq; go_simp; try (with_reducible rfl))
  simp only [Act.put, List.setIfInBounds_toArray, List.set_cons_zero, List.set_cons_succ]
  refine wpAnyH_ready (rs := [13]) (by kernel_rfl) (by simp) ?_
  refine AllReadyH.cons rfl (fun K hK => ?_) AllReadyH.nil
  rw [if_pos (by rfl)]
  refine wp_store_row 85 _ _ rfl (hh + 1) #[.slice D0 _ f0, .slice D1 _ f1, .slice D2 _ f2] rfl rfl _ _ RSt2 (by kernel_rfl) rfl (by simp [Value.oneCell']) ?_
  refine hK.out _ _ (hS.keep (fun j hj => setRow_other _ _ _ _ (by omega))) (fun hS => ?_)
  clear hK
  refine wpAnyH_done (by kernel_rfl) ?_ _
  go_wp2_with fail
  refine bodyPost_ret (v := .agg #[.slice D0 (pScale x0 y).length f0, .slice D1 (pScale x1 y).length f1, .slice D2 (pScale x2 y).length f2]) ?_ rfl ⟨_, _, _, rfl, ?_, ?_, ?_, ?_⟩
  · exact results_cell_row rfl _ _ (hh + 1) _ _ (0, 0) _ rfl (setRow_heap _ _ _ _ _ _ RSt2) Try.underlying85 rfl (by kernel_rfl)
  · exact (HP0.out.setRow _ (by omega)).lower (by rw [← HHE.out]; omega)
  · exact (HP1.out.setRow _ (by omega)).lower (by rw [← HHE.out]; omega)
  · exact (HP2.out.setRow _ (by omega)).lower (by rw [← HHE.out]; omega)
  · exact below_setRow BLt2.out (by rw [← HHE.out]; omega) _
theorem xsum_pad (f : Nat → Int) (n : Nat) (h : ∀ k, n ≤ k → f k = 0) : ∀ d, xsum f (n + d) = xsum f n
  | 0 => rfl
  | d + 1 => by
    show xorI (xsum f (n + d)) (f (n + d)) = _
    rw [h _ (by omega), xorI_zero_right _ (xsum_nn _ _), xsum_pad f n h d]
def prodT (a b : List Int) (s k : Nat) : Int := if k ≤ s then mulI (a.getD k 0) (b.getD (s - k) 0) else 0
theorem prodT_nn (a b : List Int) (s k : Nat) : 0 ≤ prodT a b s k := by
  unfold prodT
  split
  · exact mulI_nn _ _
  · exact Int.le_refl _
theorem conv_all {a b : List Int} (ha : inU a) (hb : inU b) (s : Nat) : convI a b a.length s = xsum (prodT a b s) (s + 1) := by
  rw [convI_sum ha hb]
  have e : ∀ k, termP b (fun k => a.getD k 0) s k = prodT a b s k := by
    intro k
    unfold termP prodT
    by_cases h1 : k ≤ s
    · by_cases h2 : s < k + b.length
      · rw [if_pos ⟨h1, h2⟩, if_pos h1]
      · rw [if_neg (fun h => h2 h.2), if_pos h1, getD_out b (s - k) (by omega), mulI_zero]
    · rw [if_neg (fun h => h1 h.1), if_neg h1]
  rw [xsum_congr _ (fun k _ => e k)]
  have z1 : ∀ k, a.length ≤ k → prodT a b s k = 0 := by
    intro k hk
    unfold prodT
    rw [getD_out a k hk, zero_mulI]
    split <;> rfl
  have z2 : ∀ k, s + 1 ≤ k → prodT a b s k = 0 := by
    intro k hk
    unfold prodT
    rw [if_neg (by omega)]
  rw [← xsum_pad _ a.length z1 (s + 1), ← xsum_pad _ (s + 1) z2 a.length, Nat.add_comm]
theorem pTimes_swap {a b : List Int} (ha : inU a) (hb : inU b) : pTimes a b = pTimes b a := by
  by_cases h0 : a.length = 0 ∨ b.length = 0
  · rw [pTimes_zero h0, pTimes_zero h0.symm]
  · rw [pTimes_some h0, pTimes_some (fun h => h0 h.symm), Nat.add_comm b.length a.length]
    refine tab_ext fun s _ => ?_
    rw [conv_all ha hb, conv_all hb ha, xsum_rev _ (fun k => prodT_nn _ _ _ _)]
    refine xsum_congr _ fun k hk => ?_
    unfold prodT
    rw [if_pos (by omega), if_pos (by omega), mulI_comm, show s - (s + 1 - 1 - k) = k from by omega, show s + 1 - 1 - k = s - k from by omega]
end Go.Proofs.Ytnpadkkjaeblfaa
