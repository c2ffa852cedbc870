/-
  Gates with new places; trimmed circuits.
-/
import Derived.Test.YtedcfmdgcafnmaaDoorDa
import Derived.Test.YtedcfmdgcafnmaaDoorCx
import Derived.Test.YtedcfmdgcafnmaaDoorCy
import Derived.Test.YtedcfmdgcafnmaaDoorDe
import Derived.Deep.RegionHeld
namespace Go.Proofs.YtedcfmdgcafnmaaDoor
set_option linter.unusedVariables false
set_option linter.unusedSimpArgs false
open Go.ChangeShapes Go.WideShapes Go.ChangeAt Go.RowKit Go.Deep
/-- the new place of an index; a gate with new places -/
def plc (pl : List Int) (z : Int) : Int := pl.getD z.toNat 0
def ren (pl : List Int) (g : G3) : G3 := if joinB g then (g.1, plc pl g.2.1, plc pl g.2.2) else g
/-- the places and the gates behind the first k gates -/
def trT (nd : List Bool) (gs : List G3) : Nat → List Int × List G3
  | 0 => (List.replicate gs.length 0, [])
  | k + 1 => if nd.getD k false then ((trT nd gs k).1.set k ((trT nd gs k).2.length : Int), (trT nd gs k).2 ++ [ren (trT nd gs k).1 (gs.getD k gz)]) else trT nd gs k
theorem trT_yes {nd : List Bool} {gs : List G3} {k : Nat} (h : nd.getD k false = true) : trT nd gs (k + 1) = ((trT nd gs k).1.set k ((trT nd gs k).2.length : Int), (trT nd gs k).2 ++ [ren (trT nd gs k).1 (gs.getD k gz)]) := by rw [trT, if_pos h]
theorem trT_no {nd : List Bool} {gs : List G3} {k : Nat} (h : nd.getD k false = false) : trT nd gs (k + 1) = trT nd gs k := by rw [trT, if_neg (by rw [h]; simp)]
theorem trT_len (nd : List Bool) (gs : List G3) : ∀ k, (trT nd gs k).1.length = gs.length ∧ (trT nd gs k).2.length ≤ k
  | 0 => by simp [trT]
  | k + 1 => by
    have := trT_len nd gs k
    rw [trT]
    split
    · simp; omega
    · omega
def PB (pl : List Int) : Prop := ∀ j, 0 ≤ pl.getD j 0 ∧ pl.getD j 0 ≤ 600
theorem PB.w {pl : List Int} (h : PB pl) (z : Int) : IW (plc pl z) := by have := h z.toNat; constructor <;> unfold plc <;> omega
theorem PB.set {pl : List Int} (h : PB pl) (k n : Nat) (hn : n ≤ 600) : PB (pl.set k (n : Int)) := by
  intro j
  have hj := h j
  simp only [List.getD, List.getElem?_set] at hj ⊢
  by_cases e : k = j
  · rw [if_pos e]
    split
    · simp; omega
    · simp
  · rw [if_neg e]; exact hj
theorem PB.zero (m : Nat) : PB (List.replicate m 0) := by
  intro j
  simp only [List.getD, List.getElem?_replicate]
  split <;> simp
theorem ren_w {pl : List Int} (h : PB pl) {g : G3} (hg : GW g) : GW (ren pl g) := by
  unfold ren
  split
  · exact ⟨hg.1, h.w _, h.w _⟩
  · exact hg
theorem trT_w (nd : List Bool) (gs : List G3) (hg : ∀ j, GW (gs.getD j gz)) : ∀ k, k ≤ 600 → PB (trT nd gs k).1 ∧ ∀ g ∈ (trT nd gs k).2, GW g
  | 0, _ => ⟨PB.zero _, by simp [trT]⟩
  | k + 1, h => by
    have ih := trT_w nd gs hg k (by omega)
    have hl := (trT_len nd gs k).2
    rw [trT]
    split
    · refine ⟨ih.1.set k _ (by omega), fun g hm => ?_⟩
      rcases List.mem_append.1 hm with hm | hm
      · exact ih.2 g hm
      · rcases List.mem_singleton.1 hm with rfl
        exact ren_w ih.1 (hg k)
    · exact ih
theorem gw_getD {gs : List G3} (h : ∀ g ∈ gs, GW g) (j : Nat) : GW (gs.getD j gz) := by
  simp only [List.getD]
  by_cases hj : j < gs.length
  · rw [List.getElem?_eq_getElem hj]; exact h _ (List.getElem_mem hj)
  · rw [List.getElem?_eq_none (by omega)]; exact ⟨by decide, by decide, by decide⟩
def tcN (n : Int) (gs : List G3) (os : List Int) : Int := if circB n gs os then n else 0
def tcG (n : Int) (gs : List G3) (os : List Int) : List G3 := if circB n gs os then (trT (ndL gs os) gs gs.length).2 else []
def tcO (n : Int) (gs : List G3) (os : List Int) : List Int := if circB n gs os then os.map (plc (trT (ndL gs os) gs gs.length).1) else []
theorem tc_len (n : Int) (gs : List G3) (os : List Int) : (tcG n gs os).length + (tcO n gs os).length ≤ 1048576 := by
  unfold tcG tcO
  by_cases hc : circB n gs os = true
  · rw [if_pos hc, if_pos hc]
    have := (trT_len (ndL gs os) gs gs.length).2
    have := head_of hc
    simp; omega
  · rw [if_neg hc, if_neg hc]; simp

theorem cell_far {w : World} {P k i o : Nat} (h : P ≠ k) (v : Value) : (w.setCell ⟨k, o, none⟩ v).cell? ⟨P, i, none⟩ = w.cell? ⟨P, i, none⟩ :=
  World.cell?_of_block (heap_setCell_other _ _ _ _ (fun e => h e))
set_option maxHeartbeats 4000000 in
set_option maxRecDepth 100000 in
theorem implRen_any (g : G3) (B P m : Nat) (pl : List Int) (hm : pl.length = m) (hJ : joinB g = true → (0 ≤ g.2.1 ∧ g.2.1 < (m : Int)) ∧ 0 ≤ g.2.2 ∧ g.2.2 < (m : Int)) (w : World) (hp : w.ownsRow B 65 1 (.slice (some ⟨P, 0, none⟩) m m) m (i16s pl)) :
    Calls Tryd.prog 105 #[gv g, .slice (some ⟨P, 0, none⟩) m m] w fun e w' => e = .returned (gv (ren pl g)) ∧ Below w.heap.size w w' := by
  obtain ⟨k, a, b⟩ := g
  have HO := Lib.hid hp; have HJ := Lib.hid hJ; have HM := Lib.hid hm
  have HPL := Lib.hid (own_block hp P rfl).2
  clear hp hJ hm
  obtain ⟨a1, a2, hb1, s1⟩ := nw2 w (.cells #[.int .i8 k, .int .i16 a, .int .i16 b] 67) (.cells #[.int .i8 0, .int .i16 0, .int .i16 0] 67)
  go_enter Tryd.func105, Tryd.ntmps105
  go_upto_region 1 with fail
  generalize World.alloc (World.alloc w _) _ = w1 at a1 a2 hb1 s1 ⊢
  obtain ⟨xb, hxb⟩ : ∃ xb, xb = w.heap.size := ⟨_, rfl⟩
  rw [← hxb] at a1 a2 ⊢
  have m1 : BX w1 xb (.int .i8 k) (.int .i16 a) (.int .i16 b) := ⟨_, a1⟩
  have m2 : BX w1 (xb + 1) (.int .i8 0) (.int .i16 0) (.int .i16 0) := ⟨_, a2⟩
  have c0 := m1.c0; have c1 := m1.c1; have c2 := m1.c2
  have M1 := Lib.hid m1; have M2 := Lib.hid m2; have HB1 := Lib.hid hb1
  have HXB : Hid (w.heap.size ≤ xb) := Lib.hid (Nat.le_of_eq hxb.symm)
  have HPX : Hid (P ≠ xb) := Lib.hid (by have := HPL.out; omega)
  clear a1 a2 hb1 s1 m1 m2 hxb
  go_wp2_with fail
  refine (isJoin_any (k, a, b) w1).mono ?_
  rintro e w2 ⟨rfl, hb2⟩
  have m3 := M1.out.below hb2
  have r3 := M2.out.below hb2
  have B3 := Lib.hid (HB1.out.trans (hb2.mono HB1.out.size))
  have M3 := Lib.hid m3; have R3 := Lib.hid r3
  clear hb2 c0 c1 c2 HB1 M1 M2
  cases hj : joinB (k, a, b) with
  | false =>
    have HREN := Lib.hid (show ren pl (k, a, b) = (k, a, b) from by unfold ren; rw [hj]; rfl)
    have g0 := m3.c0; have g1 := m3.c1; have g2 := m3.c2
    have r2 := r3.there
    clear hj m3 r3
    go_wp2_with (guard_target =~ wpList _ _ _ (⟨_, Op.store 67 _ _, _, _, _, _⟩ :: _) _ _; refine wpList_store_mid rfl 67 _ _ rfl (xb + 1) 0 #[.int .i8 k, .int .i16 a, .int .i16 b] rfl rfl r2 (by kernel_rfl) (three_one rfl rfl rfl) ?_)
    obtain ⟨t8, h8⟩ := R3.out.puts (.int .i8 k) (.int .i16 a) (.int .i16 b)
    refine bodyPost_ret (v := .agg #[.int .i8 k, .int .i16 a, .int .i16 b]) ?_ rfl ⟨by rw [HREN.out], bsets (by have := HXB.out; omega) _ 0 w2 B3.out⟩
    exact results_cell_row rfl _ _ (xb + 1) _ _ (0, 0) _ rfl h8 Tryd.underlying67 rfl (by kernel_rfl)
  | true =>
    obtain ⟨⟨ha0, ha1⟩, hb0, hb1⟩ := HJ.out hj
    obtain ⟨an, rfl⟩ : ∃ an : Nat, a = (an : Int) := ⟨a.toNat, by omega⟩
    obtain ⟨bn, rfl⟩ : ∃ bn : Nat, b = (bn : Int) := ⟨b.toNat, by omega⟩
    obtain ⟨x, hx⟩ : ∃ x, x = plc pl (an : Int) := ⟨_, rfl⟩
    obtain ⟨y, hy⟩ : ∃ y, y = plc pl (bn : Int) := ⟨_, rfl⟩
    have HREN := Lib.hid (show ren pl (k, (an : Int), (bn : Int)) = (k, x, y) from by unfold ren; rw [hj, hx, hy]; rfl)
    have HOB := Lib.hid (owb HO.out B3.out)
    have d1 : w2.cell? ⟨P, an, none⟩ = some (.int .i16 x) := by
      rw [HOB.out.cellAt an (by omega), List.getElem?_map, hx]; unfold plc; rw [show ((an : Int)).toNat = an from rfl, List.getD, List.getElem?_eq_getElem (by rw [HM.out]; omega)]; rfl
    have d2 : w2.cell? ⟨P, bn, none⟩ = some (.int .i16 y) := by
      rw [HOB.out.cellAt bn (by omega), List.getElem?_map, hy]; unfold plc; rw [show ((bn : Int)).toNat = bn from rfl, List.getD, List.getElem?_eq_getElem (by rw [HM.out]; omega)]; rfl
    have hS0 : w2.drew.cell? ⟨P, an, none⟩ = some (.int .i16 x) ∧ w2.drew.cell? ⟨P, bn, none⟩ = some (.int .i16 y) := ⟨d1, d2⟩
    clear hj hx hy m3 r3 HO HJ HM HOB d1 d2
    go_upto_region 2 with fail
    refine wp_region_held_drew (S := fun u => u.cell? ⟨P, an, none⟩ = some (.int .i16 x) ∧ u.cell? ⟨P, bn, none⟩ = some (.int .i16 y)) (by kernel_rfl) ?hS0 (fun hS => ?_)
    case hS0 => exact hS0
    clear hS0
    have B3' : Hid (Below w.heap.size w w2.drew) := Lib.hid (bdr B3.out 1)
    have M3' : Hid (BX w2.drew xb (.int .i8 k) (.int .i16 (an : Int)) (.int .i16 (bn : Int))) := Lib.hid M3.out
    have R3' : Hid (BX w2.drew (xb + 1) (.int .i8 0) (.int .i16 0) (.int .i16 0)) := Lib.hid R3.out
    clear B3 M3 R3
    rename Hid (Below w.heap.size w w2.drew) => B3
    rename Hid (BX w2.drew xb _ _ _) => M3
    rename Hid (BX w2.drew (xb + 1) _ _ _) => R3
    generalize w2.drew = wd at hS M3 R3 B3 ⊢
    have f0 := M3.out.c0; have f1 := M3.out.c1; have f2 := M3.out.c2; have fz1 := M3.out.free 1
    refine takeHd (i := 0) (v := ?v0) rfl rfl (by kernel_rfl) (by kernel_rfl) (by kernel_rfl) (fun _ _ _ h => h) rfl ?hy0 hS ?rs0
    case hy0 => (intro wq hq; obtain ⟨hq1, hq2⟩ := hq; go_simp; try (with_reducible rfl))
    simp only [Act.put, List.setIfInBounds_toArray, List.set_cons_zero, List.set_cons_succ]
    refine takeHd (i := 1) (v := ?v1) rfl rfl (by kernel_rfl) (by kernel_rfl) (by kernel_rfl) (fun _ _ _ h => h) rfl ?hy1 hS ?rs1
    case hy1 => (intro wq hq; obtain ⟨hq1, hq2⟩ := hq; go_simp; try (with_reducible rfl))
    simp only [Act.put, List.setIfInBounds_toArray, List.set_cons_zero, List.set_cons_succ]
    refine takeHd (i := 5) (v := ?v5) rfl rfl (by kernel_rfl) (by kernel_rfl) (by kernel_rfl) (fun _ _ _ h => h) rfl ?hy5 hS ?rs5
    case hy5 => (intro wq hq; obtain ⟨hq1, hq2⟩ := hq; go_simp; try (with_reducible rfl))
    simp only [Act.put, List.setIfInBounds_toArray, List.set_cons_zero, List.set_cons_succ]
    refine takeHd (i := 6) (v := ?v6) rfl rfl (by kernel_rfl) (by kernel_rfl) (by kernel_rfl) (fun _ _ _ h => h) rfl ?hy6 hS ?rs6
    case hy6 => (intro wq hq; obtain ⟨hq1, hq2⟩ := hq; go_simp; try (with_reducible rfl))
    simp only [Act.put, List.setIfInBounds_toArray, List.set_cons_zero, List.set_cons_succ]
    refine wpAnyH_ready (rs := [2, 7]) (by kernel_rfl) (by simp) ?_
    refine AllReadyH.cons rfl (fun K hK => ?_) (AllReadyH.cons rfl (fun K hK => ?_) AllReadyH.nil)
    · go_simp
      refine hK.out _ wd hS (fun hS => ?_)
      clear hK
      try simp only [Act.put, List.setIfInBounds_toArray, List.set_cons_zero, List.set_cons_succ]
      refine takeHd (i := 3) (v := ?v3c) rfl rfl (by kernel_rfl) (by kernel_rfl) (by kernel_rfl) (fun _ _ _ h => h) rfl ?hy3c hS ?rs3c
      case hy3c => (intro wq hq; obtain ⟨hq1, hq2⟩ := hq; go_simp; try (with_reducible rfl))
      simp only [Act.put, List.setIfInBounds_toArray, List.set_cons_zero, List.set_cons_succ]
      refine takeHd (i := 4) (v := ?v4c) rfl rfl (by kernel_rfl) (by kernel_rfl) (by kernel_rfl) (fun _ _ _ h => h) rfl ?hy4c hS ?rs4c
      case hy4c => (intro wq hq; obtain ⟨hq1, hq2⟩ := hq; go_simp; try (with_reducible rfl))
      simp only [Act.put, List.setIfInBounds_toArray, List.set_cons_zero, List.set_cons_succ]
      refine wpAnyH_ready (rs := [7]) (by kernel_rfl) (by simp) ?_
      refine AllReadyH.cons rfl (fun K hK => ?_) AllReadyH.nil
      go_simp
      refine hK.out _ wd hS (fun hS => ?_)
      clear hK
      try simp only [Act.put, List.setIfInBounds_toArray, List.set_cons_zero, List.set_cons_succ]
      refine takeHd (i := 8) (v := ?v8c) rfl rfl (by kernel_rfl) (by kernel_rfl) (by kernel_rfl) (fun _ _ _ h => h) rfl ?hy8c hS ?rs8c
      case hy8c => (intro wq hq; obtain ⟨hq1, hq2⟩ := hq; go_simp; try (with_reducible rfl))
      simp only [Act.put, List.setIfInBounds_toArray, List.set_cons_zero, List.set_cons_succ]
      refine takeHd (i := 9) (v := ?v9c) rfl rfl (by kernel_rfl) (by kernel_rfl) (by kernel_rfl) (fun _ _ _ h => h) rfl ?hy9c hS ?rs9c
      case hy9c => (intro wq hq; obtain ⟨hq1, hq2⟩ := hq; go_simp; try (with_reducible rfl))
      simp only [Act.put, List.setIfInBounds_toArray, List.set_cons_zero, List.set_cons_succ]
      refine takeHd (i := 10) (v := ?v10c) rfl rfl (by kernel_rfl) (by kernel_rfl) (by kernel_rfl) (fun _ _ _ h => h) rfl ?hy10c hS ?rs10c
      case hy10c => (intro wq hq; obtain ⟨hq1, hq2⟩ := hq; go_simp; try (with_reducible rfl))
      simp only [Act.put, List.setIfInBounds_toArray, List.set_cons_zero, List.set_cons_succ]
      refine wpAnyH_ready (rs := [11]) (by kernel_rfl) (by simp) ?_
      refine AllReadyH.cons rfl (fun K hK => ?_) AllReadyH.nil
      go_simp
      have M4 := Lib.hid (M3.out.put1 (.int .i16 x))
      have R4 := Lib.hid (R3.out.other (k := xb) (o := 1) (by omega) (.int .i16 x))
      have B4 := Lib.hid (B3.out.setCell (p := ⟨xb, 1, none⟩) HXB.out (.int .i16 x))
      refine hK.out _ (wd.setCell ⟨xb, 1, none⟩ (.int .i16 x)) ⟨(cell_far HPX.out _).trans hS.1, (cell_far HPX.out _).trans hS.2⟩ (fun hS => ?_)
      clear hK f0 f1 f2 fz1
      have g2 := M4.out.c2; have fz2 := M4.out.free 2
      generalize wd.setCell ⟨xb, 1, none⟩ (.int .i16 x) = we at hS M4 R4 B4 g2 fz2 ⊢
      try simp only [Act.put, List.setIfInBounds_toArray, List.set_cons_zero, List.set_cons_succ]
      refine takeHd (i := 12) (v := ?v12c) rfl rfl (by kernel_rfl) (by kernel_rfl) (by kernel_rfl) (fun _ _ _ h => h) rfl ?hy12c hS ?rs12c
      case hy12c => (intro wq hq; obtain ⟨hq1, hq2⟩ := hq; go_simp; try (with_reducible rfl))
      simp only [Act.put, List.setIfInBounds_toArray, List.set_cons_zero, List.set_cons_succ]
      refine wpAnyH_ready (rs := [13]) (by kernel_rfl) (by simp) ?_
      refine AllReadyH.cons rfl (fun K hK => ?_) AllReadyH.nil
      go_simp
      have M5 := Lib.hid (M4.out.put2 (.int .i16 y))
      have R5 := Lib.hid (R4.out.other (k := xb) (o := 2) (by omega) (.int .i16 y))
      have B5 := Lib.hid (B4.out.setCell (p := ⟨xb, 2, none⟩) HXB.out (.int .i16 y))
      refine hK.out _ (we.setCell ⟨xb, 2, none⟩ (.int .i16 y)) ⟨(cell_far HPX.out _).trans hS.1, (cell_far HPX.out _).trans hS.2⟩ (fun hS => ?_)
      clear hK g2 fz2 hS
      generalize we.setCell ⟨xb, 2, none⟩ (.int .i16 y) = wf at M5 R5 B5 ⊢
      try simp only [Act.put, List.setIfInBounds_toArray, List.set_cons_zero, List.set_cons_succ]
      refine wpAnyH_done (by kernel_rfl) ?_ _
      have g0 := M5.out.c0; have g1 := M5.out.c1; have g2 := M5.out.c2
      have r2 := R5.out.there
      go_wp2_with (guard_target =~ wpList _ _ _ (⟨_, Op.store 67 _ _, _, _, _, _⟩ :: _) _ _; refine wpList_store_mid rfl 67 _ _ rfl (xb + 1) 0 #[.int .i8 k, .int .i16 x, .int .i16 y] rfl rfl r2 (by kernel_rfl) (three_one rfl rfl rfl) ?_)
      obtain ⟨t8, h8⟩ := R5.out.puts (.int .i8 k) (.int .i16 x) (.int .i16 y)
      refine bodyPost_ret (v := .agg #[.int .i8 k, .int .i16 x, .int .i16 y]) ?_ rfl ⟨by rw [HREN.out], bsets (by have := HXB.out; omega) _ 0 wf B5.out⟩
      exact results_cell_row rfl _ _ (xb + 1) _ _ (0, 0) _ rfl h8 Tryd.underlying67 rfl (by kernel_rfl)
    · go_simp
      refine hK.out _ wd hS (fun hS => ?_)
      clear hK
      try simp only [Act.put, List.setIfInBounds_toArray, List.set_cons_zero, List.set_cons_succ]
      refine takeHd (i := 8) (v := ?v8d) rfl rfl (by kernel_rfl) (by kernel_rfl) (by kernel_rfl) (fun _ _ _ h => h) rfl ?hy8d hS ?rs8d
      case hy8d => (intro wq hq; obtain ⟨hq1, hq2⟩ := hq; go_simp; try (with_reducible rfl))
      simp only [Act.put, List.setIfInBounds_toArray, List.set_cons_zero, List.set_cons_succ]
      refine takeHd (i := 9) (v := ?v9d) rfl rfl (by kernel_rfl) (by kernel_rfl) (by kernel_rfl) (fun _ _ _ h => h) rfl ?hy9d hS ?rs9d
      case hy9d => (intro wq hq; obtain ⟨hq1, hq2⟩ := hq; go_simp; try (with_reducible rfl))
      simp only [Act.put, List.setIfInBounds_toArray, List.set_cons_zero, List.set_cons_succ]
      refine wpAnyH_ready (rs := [2]) (by kernel_rfl) (by simp) ?_
      refine AllReadyH.cons rfl (fun K hK => ?_) AllReadyH.nil
      go_simp
      refine hK.out _ wd hS (fun hS => ?_)
      clear hK
      try simp only [Act.put, List.setIfInBounds_toArray, List.set_cons_zero, List.set_cons_succ]
      refine takeHd (i := 3) (v := ?v3d) rfl rfl (by kernel_rfl) (by kernel_rfl) (by kernel_rfl) (fun _ _ _ h => h) rfl ?hy3d hS ?rs3d
      case hy3d => (intro wq hq; obtain ⟨hq1, hq2⟩ := hq; go_simp; try (with_reducible rfl))
      simp only [Act.put, List.setIfInBounds_toArray, List.set_cons_zero, List.set_cons_succ]
      refine takeHd (i := 4) (v := ?v4d) rfl rfl (by kernel_rfl) (by kernel_rfl) (by kernel_rfl) (fun _ _ _ h => h) rfl ?hy4d hS ?rs4d
      case hy4d => (intro wq hq; obtain ⟨hq1, hq2⟩ := hq; go_simp; try (with_reducible rfl))
      simp only [Act.put, List.setIfInBounds_toArray, List.set_cons_zero, List.set_cons_succ]
      refine takeHd (i := 10) (v := ?v10d) rfl rfl (by kernel_rfl) (by kernel_rfl) (by kernel_rfl) (fun _ _ _ h => h) rfl ?hy10d hS ?rs10d
      case hy10d => (intro wq hq; obtain ⟨hq1, hq2⟩ := hq; go_simp; try (with_reducible rfl))
      simp only [Act.put, List.setIfInBounds_toArray, List.set_cons_zero, List.set_cons_succ]
      refine wpAnyH_ready (rs := [11]) (by kernel_rfl) (by simp) ?_
      refine AllReadyH.cons rfl (fun K hK => ?_) AllReadyH.nil
      go_simp
      have M4 := Lib.hid (M3.out.put1 (.int .i16 x))
      have R4 := Lib.hid (R3.out.other (k := xb) (o := 1) (by omega) (.int .i16 x))
      have B4 := Lib.hid (B3.out.setCell (p := ⟨xb, 1, none⟩) HXB.out (.int .i16 x))
      refine hK.out _ (wd.setCell ⟨xb, 1, none⟩ (.int .i16 x)) ⟨(cell_far HPX.out _).trans hS.1, (cell_far HPX.out _).trans hS.2⟩ (fun hS => ?_)
      clear hK f0 f1 f2 fz1
      have g2 := M4.out.c2; have fz2 := M4.out.free 2
      generalize wd.setCell ⟨xb, 1, none⟩ (.int .i16 x) = we at hS M4 R4 B4 g2 fz2 ⊢
      try simp only [Act.put, List.setIfInBounds_toArray, List.set_cons_zero, List.set_cons_succ]
      refine takeHd (i := 12) (v := ?v12d) rfl rfl (by kernel_rfl) (by kernel_rfl) (by kernel_rfl) (fun _ _ _ h => h) rfl ?hy12d hS ?rs12d
      case hy12d => (intro wq hq; obtain ⟨hq1, hq2⟩ := hq; go_simp; try (with_reducible rfl))
      simp only [Act.put, List.setIfInBounds_toArray, List.set_cons_zero, List.set_cons_succ]
      refine wpAnyH_ready (rs := [13]) (by kernel_rfl) (by simp) ?_
      refine AllReadyH.cons rfl (fun K hK => ?_) AllReadyH.nil
      go_simp
      have M5 := Lib.hid (M4.out.put2 (.int .i16 y))
      have R5 := Lib.hid (R4.out.other (k := xb) (o := 2) (by omega) (.int .i16 y))
      have B5 := Lib.hid (B4.out.setCell (p := ⟨xb, 2, none⟩) HXB.out (.int .i16 y))
      refine hK.out _ (we.setCell ⟨xb, 2, none⟩ (.int .i16 y)) ⟨(cell_far HPX.out _).trans hS.1, (cell_far HPX.out _).trans hS.2⟩ (fun hS => ?_)
      clear hK g2 fz2 hS
      generalize we.setCell ⟨xb, 2, none⟩ (.int .i16 y) = wf at M5 R5 B5 ⊢
      try simp only [Act.put, List.setIfInBounds_toArray, List.set_cons_zero, List.set_cons_succ]
      refine wpAnyH_done (by kernel_rfl) ?_ _
      have g0 := M5.out.c0; have g1 := M5.out.c1; have g2 := M5.out.c2
      have r2 := R5.out.there
      go_wp2_with (guard_target =~ wpList _ _ _ (⟨_, Op.store 67 _ _, _, _, _, _⟩ :: _) _ _; refine wpList_store_mid rfl 67 _ _ rfl (xb + 1) 0 #[.int .i8 k, .int .i16 x, .int .i16 y] rfl rfl r2 (by kernel_rfl) (three_one rfl rfl rfl) ?_)
      obtain ⟨t8, h8⟩ := R5.out.puts (.int .i8 k) (.int .i16 x) (.int .i16 y)
      refine bodyPost_ret (v := .agg #[.int .i8 k, .int .i16 x, .int .i16 y]) ?_ rfl ⟨by rw [HREN.out], bsets (by have := HXB.out; omega) _ 0 wf B5.out⟩
      exact results_cell_row rfl _ _ (xb + 1) _ _ (0, 0) _ rfl h8 Tryd.underlying67 rfl (by kernel_rfl)

set_option maxHeartbeats 1000000 in
theorem renIdx_any (pb P m : Nat) (z : Int) (x : Int) (hz : 0 ≤ z ∧ z < (m : Int)) (w : World) (h0 : w.cell? ⟨pb, 0, none⟩ = some (.slice (some ⟨P, 0, none⟩) m m)) (h1 : w.cell? ⟨P, z.toNat, none⟩ = some (.int .i16 x)) :
    Calls Tryd.prog 141 #[.int .i16 z, .pointer (some ⟨pb, 0, none⟩)] w fun e w' => e = .returned (.int .i16 x) ∧ w' = w := by
  obtain ⟨zn, rfl⟩ : ∃ zn : Nat, z = (zn : Int) := ⟨z.toNat, by omega⟩
  obtain ⟨_, i1⟩ := hz
  rw [show ((zn : Int)).toNat = zn from rfl] at h1
  go_enter Tryd.func141, Tryd.ntmps141
  go_wp2_with fail
  go_ret
  exact ⟨rfl, rfl⟩
theorem hf_put (pl os : List Int) (k : Nat) (hk : k < os.length) : (hf 0 (os.map (plc pl)) k).set k (plc pl (os.getD k 0)) = hf 0 (os.map (plc pl)) (k + 1) := by
  unfold hf
  rw [List.length_map, List.set_append_right k _ (by rw [List.length_take, List.length_map]; omega), List.length_take, List.length_map, Nat.min_eq_left (by omega), Nat.sub_self, show os.length - k = (os.length - (k + 1)) + 1 from by omega, List.replicate_succ, List.set_cons_zero, List.take_add_one, List.append_assoc]
  congr 1
  rw [List.getElem?_map, List.getElem?_eq_getElem hk, List.getD, List.getElem?_eq_getElem hk]
  rfl
set_option maxHeartbeats 4000000 in
set_option maxRecDepth 100000 in
theorem eachRen_any (O : Value) (os pl : List Int) (B pb P m : Nat) (hm : pl.length = m) (hb : ∀ j, j < os.length → 0 ≤ os.getD j 0 ∧ os.getD j 0 < (m : Int)) (hl : os.length ≤ 100) (w : World) (ho : IL w O os) (h0 : w.cell? ⟨pb, 0, none⟩ = some (.slice (some ⟨P, 0, none⟩) m m)) (hp : w.ownsRow B 65 1 (.slice (some ⟨P, 0, none⟩) m m) m (i16s pl)) :
    Calls Tryd.prog 140 #[O, .func (.func 141) #[] #[.pointer (some ⟨pb, 0, none⟩)]] w fun e w' => ∃ r, e = .returned r ∧ Below w.heap.size w w' ∧ w'.ownsRow w.heap.size 65 1 r os.length (i16s (os.map (plc pl))) := by
  have H := Lib.hid ho
  obtain ⟨A, c, rfl⟩ := ho.form
  have HP := Lib.hid hp; have HB := Lib.hid hb; have HM := Lib.hid hm; have H0 := Lib.hid h0
  have HPB := Lib.hid (World.block_lt_of_cell? (a := ⟨pb, 0, none⟩) w h0)
  clear ho hp hb hm h0
  obtain ⟨i0, hi, hz0, hz1, hz2⟩ := info_parts infoI16
  go_enter Tryd.func140, Tryd.ntmps140
  go_wp2_with (at_make; refine wpList_make_full _ rfl _ _ 24 rfl w.heap.size 65 i0 (.int .i16 0) 1 Tryd.underlying24 hi hz0 hz1 _ _ _ _ os.length rfl rfl rfl rfl (by rw [hz2]; omega) (by unfold maxLen; omega) (Nat.le_refl _) ?_)
  intro w1 hown hgrow
  have hb1 : Below w.heap.size w w1 := (Below.refl _ w).grown hgrow (Nat.le_refl _) (fun k hk => by cases hk)
  obtain ⟨g, hgs⟩ : ∃ g, g = w.heap.size := ⟨_, rfl⟩
  rw [← hgs] at hown hb1 ⊢
  have hown1 : w1.ownsRow g 65 1 (.slice (some ⟨g, 0, none⟩) os.length os.length) os.length (i16s (hf 0 (os.map (plc pl)) 0)) := by
    have e : (madeCells #[Value.int .i16 0] os.length).toList = i16s (hf 0 (os.map (plc pl)) 0) := by
      rw [toList_madeCells_one]; simp [hf]
    rw [← e]; simpa using hown
  clear hown hgrow
  have HGS := Lib.hid hgs; clear hgs
  have HB1 := Lib.hid hb1; have HO1 := Lib.hid hown1
  clear hb1 hown1
  go_wp2_with fail
  go_loopw [13] (fun y wr => ∃ k : Nat, y = .int .i64 (k : Int) ∧ k ≤ os.length ∧ Hid (Below g w wr) ∧ Hid (wr.ownsRow g 65 1 (.slice (some ⟨g, 0, none⟩) os.length os.length) os.length (i16s (hf 0 (os.map (plc pl)) k)))) (fun y _ => os.length - (intOf y).toNat)
  case atStart => exact ⟨0, rfl, Nat.zero_le _, HB1, HO1⟩
  case round =>
    obtain ⟨k, rfl, hk, HBW, HO⟩ := hrel
    clear HB1 HO1
    by_cases hlt : k < os.length
    · have hbw : Below w.heap.size w wr := by rw [← HGS.out]; exact HBW.out
      obtain ⟨b, off, c', e, hlb, hgw, d0⟩ := (H.out.below hbw).at k hlt
      cases e
      have hbz := HB.out k hlt
      obtain ⟨z, hz⟩ : ∃ z, z = os.getD k 0 := ⟨_, rfl⟩
      rw [← hz] at d0 hgw hbz
      obtain ⟨x, hx⟩ : ∃ x, x = plc pl z := ⟨_, rfl⟩
      have T1 : decide ((k : Int) < (os.length : Int)) = true := by simp; omega
      have i1 : (k : Int) < (os.length : Int) := by omega
      have q0 : wr.cell? ⟨pb, 0, none⟩ = some (.slice (some ⟨P, 0, none⟩) m m) := (hbw.cell (p := ⟨pb, 0, none⟩) HPB.out).trans H0.out
      have qp := owb HP.out hbw
      have q1 : wr.cell? ⟨P, z.toNat, none⟩ = some (.int .i16 x) := by
        rw [qp.cellAt z.toNat (by omega), List.getElem?_map, hx]; unfold plc; rw [List.getD, List.getElem?_eq_getElem (by rw [HM.out]; omega)]; rfl
      have hcall := renIdx_any pb P m z x hbz wr q0 q1
      have HC := Lib.hid hcall
      obtain ⟨y0, hy0⟩ : ∃ y, (i16s (hf 0 (os.map (plc pl)) k))[k]? = some y := ⟨_, List.getElem?_eq_getElem (by rw [List.length_map]; simp [hf]; omega)⟩
      have p2 : wr.cell? ⟨g, k, none⟩ = some y0 := (HO.out.cellAt k (by omega)).trans hy0
      have p3 : wr.frozen? ⟨g, k, none⟩ = false := HO.out.frozenAt k
      have h4 := (HO.out.stored k (.int .i16 x)).1
      rw [← List.map_set, show (hf 0 (os.map (plc pl)) k).set k x = hf 0 (os.map (plc pl)) (k + 1) from by rw [hx, hz]; exact hf_put pl os k hlt] at h4
      have H4 := Lib.hid h4
      have H5 := Lib.hid (HBW.out.setCell (p := ⟨g, k, none⟩) (Nat.le_refl _) (.int .i16 x))
      clear hcall hbw hbz q0 qp q1 h4 hy0 hx hz
      go_wp2_with fail
      refine HC.out.mono ?_
      rintro e w2 ⟨rfl, hww⟩
      subst hww
      clear HC
      go_wp2_with fail
      exact ⟨⟨k + 1, by go_num, by omega, H5, H4⟩, by simp [intOf]; omega⟩
    · obtain rfl : k = os.length := by omega
      have T1 : decide ((os.length : Int) < (os.length : Int)) = false := by simp
      have HF := Lib.hid (show wr.ownsRow w.heap.size 65 1 (.slice (some ⟨g, 0, none⟩) os.length os.length) os.length (i16s (os.map (plc pl))) from by
        have h := HO.out
        rw [show hf 0 (os.map (plc pl)) os.length = os.map (plc pl) from by simp only [hf, List.length_map, Nat.sub_self, List.replicate_zero, List.append_nil]; exact List.take_of_length_le (by simp)] at h
        exact own_low h (Nat.le_of_eq HGS.out.symm))
      go_wp2_with fail
      go_ret
      exact ⟨_, rfl, by rw [← HGS.out]; exact HBW.out, HF.out⟩
set_option maxHeartbeats 1000000 in
theorem implRenL_any (O : Value) (os pl : List Int) (B P m : Nat) (hm : pl.length = m) (hb : ∀ j, j < os.length → 0 ≤ os.getD j 0 ∧ os.getD j 0 < (m : Int)) (hl : os.length ≤ 100) (w : World) (ho : IL w O os) (hp : w.ownsRow B 65 1 (.slice (some ⟨P, 0, none⟩) m m) m (i16s pl)) :
    Calls Tryd.prog 108 #[O, .slice (some ⟨P, 0, none⟩) m m] w fun e w' => ∃ r, e = .returned r ∧ Below w.heap.size w w' ∧ w'.ownsRow w.heap.size 65 1 r os.length (i16s (os.map (plc pl))) := by
  have H := Lib.hid ho
  obtain ⟨A, c, rfl⟩ := ho.form
  obtain ⟨z1, z2, z3⟩ := nw1 w (.cells #[.slice (some ⟨P, 0, none⟩) m m] 72)
  have HZ := Lib.hid z2
  have h0 : (w.alloc (.cells #[.slice (some ⟨P, 0, none⟩) m m] 72)).cell? ⟨w.heap.size, 0, none⟩ = some (.slice (some ⟨P, 0, none⟩) m m) := by simp only [World.cell?, heap_alloc_new]; rfl
  have HC := Lib.hid (eachRen_any _ os pl B w.heap.size P m hm hb hl _ (ho.below z2) h0 (owb hp z2))
  clear hm hb ho hp z1 z2 z3 h0
  go_enter Tryd.func108, Tryd.ntmps108
  go_wp2_with fail
  refine HC.out.mono ?_
  rintro e w2 ⟨r, rfl, hb, ho⟩
  have HR := Lib.hid (And.intro (HZ.out.trans (hb.mono HZ.out.size)) (own_low ho HZ.out.size))
  clear hb ho HC
  go_wp2_with fail
  go_ret
  exact ⟨r, rfl, HR.out⟩

end Go.Proofs.YtedcfmdgcafnmaaDoor
