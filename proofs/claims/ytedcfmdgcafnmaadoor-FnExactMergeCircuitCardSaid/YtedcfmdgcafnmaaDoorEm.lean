/-
  Merged circuits: pure; a gate with its indices in order.
-/
import Derived.Test.YtedcfmdgcafnmaaDoorDl
import Derived.DeepKeys4
import Derived.Maps.OwnSet
namespace Go.Proofs.YtedcfmdgcafnmaaDoor
set_option linter.unusedVariables false
set_option linter.unusedSimpArgs false
open Go.ChangeShapes Go.WideShapes Go.ChangeAt Go.RowKit Go.Deep
/-- a gate with its indices in order; the gate that is kept, and the places, behind the first k gates -/
def srt (g : G3) : G3 := if joinB g then (g.1, min g.2.1 g.2.2, max g.2.1 g.2.2) else g
def mgT (gs : List G3) : Nat → List Int × List G3
  | 0 => (List.replicate gs.length 0, [])
  | k + 1 =>
    let s := mgT gs k
    let g := srt (ren s.1 (gs.getD k gz))
    (s.1.set k ((s.2.idxOf g : Nat) : Int), if g ∈ s.2 then s.2 else s.2 ++ [g])
theorem mgT_len (gs : List G3) : ∀ k, (mgT gs k).1.length = gs.length ∧ (mgT gs k).2.length ≤ k
  | 0 => by simp [mgT]
  | k + 1 => by
    have := mgT_len gs k
    simp only [mgT, List.length_set]
    split
    · omega
    · rw [List.length_append]; simp; omega
theorem mgT_nodup (gs : List G3) : ∀ k, (mgT gs k).2.Nodup
  | 0 => by simp [mgT]
  | k + 1 => by
    have := mgT_nodup gs k
    simp only [mgT]
    split
    · exact this
    · rename_i h
      rw [List.nodup_append]
      refine ⟨this, by simp, fun a ha b hb => ?_⟩
      rcases List.mem_singleton.1 hb with rfl
      exact fun e => h (e ▸ ha)
theorem idxOf_new {gs : List G3} {g : G3} (h : g ∉ gs) : gs.idxOf g = gs.length := List.idxOf_eq_length h
theorem srt_w {g : G3} (h : GW g) : GW (srt g) := by
  unfold srt
  split
  · exact ⟨h.1, by have := h.2.1; have := h.2.2; show _ ≤ min _ _ ∧ min _ _ < _; omega, by have := h.2.1; have := h.2.2; show _ ≤ max _ _ ∧ max _ _ < _; omega⟩
  · exact h

set_option maxHeartbeats 2000000 in
theorem implSorted_any (g : G3) (w : World) : Calls Tryd.prog 106 #[gv g] w fun e w' => e = .returned (gv (srt g)) ∧ Below w.heap.size w w' := by
  obtain ⟨k, a, b⟩ := g
  obtain ⟨a1, a2, hb1, s1⟩ := nw2 w (.cells #[.int .i8 k, .int .i16 a, .int .i16 b] 67) (.cells #[.int .i8 0, .int .i16 0, .int .i16 0] 67)
  obtain ⟨mn, hmn⟩ : ∃ mn, mn = min a b := ⟨_, rfl⟩
  obtain ⟨mx, hmx⟩ : ∃ mx, mx = max a b := ⟨_, rfl⟩
  have HMN := Lib.hid hmn; have HMX := Lib.hid hmx
  clear hmn hmx
  go_enter Tryd.func106, Tryd.ntmps106
  go_upto_region 1 with fail
  generalize World.alloc (World.alloc w _) _ = w1 at a1 a2 hb1 s1 ⊢
  have m1 : BX w1 w.heap.size (.int .i8 k) (.int .i16 a) (.int .i16 b) := ⟨_, a1⟩
  have m2 : BX w1 (w.heap.size + 1) (.int .i8 0) (.int .i16 0) (.int .i16 0) := ⟨_, a2⟩
  have c0 := m1.c0; have c1 := m1.c1; have c2 := m1.c2
  have M1 := Lib.hid m1; have M2 := Lib.hid m2; have HB1 := Lib.hid hb1
  clear a1 a2 hb1 s1 m1 m2
  go_wp2_with fail
  refine (isJoin_any (k, a, b) w1).mono ?_
  rintro e w2 ⟨rfl, hb2⟩
  have m3 := M1.out.below hb2
  have r3 := M2.out.below hb2
  have B3 := Lib.hid (HB1.out.trans (hb2.mono HB1.out.size))
  have M3 := Lib.hid m3; have R3 := Lib.hid r3
  clear hb2 c0 c1 c2 HB1 M1 M2
  cases hj : joinB (k, a, b) with
  | false =>
    have HS := Lib.hid (show srt (k, a, b) = (k, a, b) from by unfold srt; rw [hj]; rfl)
    have g0 := m3.c0; have g1 := m3.c1; have g2 := m3.c2
    have r2 := r3.there
    clear hj m3 r3
    go_wp2_with (guard_target =~ wpList _ _ _ (⟨_, Op.store 67 _ _, _, _, _, _⟩ :: _) _ _; refine wpList_store_mid rfl 67 _ _ rfl (w.heap.size + 1) 0 #[.int .i8 k, .int .i16 a, .int .i16 b] rfl rfl r2 (by kernel_rfl) (three_one rfl rfl rfl) ?_)
    obtain ⟨t8, h8⟩ := R3.out.puts (.int .i8 k) (.int .i16 a) (.int .i16 b)
    refine bodyPost_ret (v := .agg #[.int .i8 k, .int .i16 a, .int .i16 b]) ?_ rfl ⟨by rw [HS.out], bsets (by omega) _ 0 w2 B3.out⟩
    exact results_cell_row rfl _ _ (w.heap.size + 1) _ _ (0, 0) _ rfl h8 Tryd.underlying67 rfl (by kernel_rfl)
  | true =>
    have HS := Lib.hid (show srt (k, a, b) = (k, mn, mx) from by unfold srt; rw [hj, HMN.out, HMX.out]; rfl)
    have g0 := m3.c0; have g1 := m3.c1; have g2 := m3.c2; have f1 := m3.free 1; have f2 := m3.free 2
    clear hj m3 r3
    go_upto_region 3 with fail
    have e1 : (if b < a then b else a) = mn := by rw [HMN.out]; split <;> omega
    have e2 : (if a < b then b else a) = mx := by rw [HMX.out]; split <;> omega
    rw [e1, e2]
    have M5 := Lib.hid ((M3.out.put1 (.int .i16 mn)).put2 (.int .i16 mx))
    have R5 := Lib.hid ((R3.out.other (k := w.heap.size) (o := 1) (by omega) (.int .i16 mn)).other (k := w.heap.size) (o := 2) (by omega) (.int .i16 mx))
    have B5 := Lib.hid ((B3.out.setCell (p := ⟨w.heap.size, 1, none⟩) (Nat.le_refl _) (.int .i16 mn)).setCell (p := ⟨w.heap.size, 2, none⟩) (Nat.le_refl _) (.int .i16 mx))
    clear g0 g1 g2 f1 f2 e1 e2
    generalize (w2.setCell ⟨w.heap.size, 1, none⟩ (.int .i16 mn)).setCell ⟨w.heap.size, 2, none⟩ (.int .i16 mx) = w5 at M5 R5 B5 ⊢
    have g0 := M5.out.c0; have g1 := M5.out.c1; have g2 := M5.out.c2
    have r2 := R5.out.there
    go_wp2_with (guard_target =~ wpList _ _ _ (⟨_, Op.store 67 _ _, _, _, _, _⟩ :: _) _ _; refine wpList_store_mid rfl 67 _ _ rfl (w.heap.size + 1) 0 #[.int .i8 k, .int .i16 mn, .int .i16 mx] rfl rfl r2 (by kernel_rfl) (three_one rfl rfl rfl) ?_)
    obtain ⟨t8, h8⟩ := R5.out.puts (.int .i8 k) (.int .i16 mn) (.int .i16 mx)
    refine bodyPost_ret (v := .agg #[.int .i8 k, .int .i16 mn, .int .i16 mx]) ?_ rfl ⟨by rw [HS.out], bsets (by omega) _ 0 w5 B5.out⟩
    exact results_cell_row rfl _ _ (w.heap.size + 1) _ _ (0, 0) _ rfl h8 Tryd.underlying67 rfl (by kernel_rfl)

theorem gateKeyed : Go.Maps.Keyed Tryd.prog 67 := Go.Maps.Keyed.of_law (Go.deep_law (m := 2) (by omega) (by kernel_rfl) (by kernel_rfl) (by kernel_rfl))
theorem gateKey (g : G3) (h : GW g) : ∃ l, keyOf Tryd.prog 67 (gv g) = some l := by
  obtain ⟨k, a, b⟩ := g
  have w1 : (Lit.int .i8 k).wf = true := by
    have := h.1
    simp [Lit.wf]
    show (-128 : Int) ≤ k ∧ k ≤ 127
    simp only at this
    omega
  have w2 : (Lit.int .i16 a).wf = true := by
    have := h.2.1
    simp [Lit.wf]
    show (-32768 : Int) ≤ a ∧ a ≤ 32767
    simp only at this
    omega
  have w3 : (Lit.int .i16 b).wf = true := by
    have := h.2.2
    simp [Lit.wf]
    show (-32768 : Int) ≤ b ∧ b ≤ 32767
    simp only at this
    omega
  have hs : ∃ m, Tryd.prog.types.size + 1 = m + 1 + 1 := ⟨Tryd.prog.types.size - 1, by kernel_rfl⟩
  unfold keyOf
  simp only [Tryd.underlying67]
  rw [if_pos (by
    have e1 : Tryd.prog.keyType 67 = true := by kernel_rfl
    have e2 : (gv (k, a, b)).formed Tryd.prog 67 = true := by kernel_rfl
    rw [e1, e2]; rfl)]
  obtain ⟨m, hm⟩ := hs
  rw [hm]
  unfold Program.keyLits
  simp only [Tryd.underlying67, Value.cells]
  rw [if_pos (And.intro (by kernel_rfl) (by kernel_rfl))]
  simp [Program.keyLits, Tryd.underlying22, Tryd.underlying65, w1, w2, w3, show Tryd.prog.cellsOf 22 = 1 from by kernel_rfl, show Tryd.prog.cellsOf 65 = 1 from by kernel_rfl]

end Go.Proofs.YtedcfmdgcafnmaaDoor
