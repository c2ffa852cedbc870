/-
  CountGates of the program and of the model.
-/
import Derived.Test.YtngaelifkhelbaaDoorCk
namespace Go.Proofs.YtngaelifkhelbaaDoor
set_option linter.unusedVariables false
set_option linter.unusedSimpArgs false
open Go.ChangeShapes Go.WideShapes Go.ChangeAt Go.RowKit Go.Deep

/-- four numbers, one more at place k -/
def inc4 (c : Int × Int × Int × Int) (k : Int) : Int × Int × Int × Int :=
  if k = 0 then (c.1 + 1, c.2.1, c.2.2.1, c.2.2.2) else if k = 1 then (c.1, c.2.1 + 1, c.2.2.1, c.2.2.2) else if k = 2 then (c.1, c.2.1, c.2.2.1 + 1, c.2.2.2) else (c.1, c.2.1, c.2.2.1, c.2.2.2 + 1)
/-- how many of the first k gates are of each kind -/
def cntTo (gs : List G3) : Nat → Int × Int × Int × Int
  | 0 => (0, 0, 0, 0)
  | k + 1 => inc4 (cntTo gs k) (gs.getD k gz).1
abbrev c4 (c : Int × Int × Int × Int) : Array Value := #[.int .i64 c.1, .int .i64 c.2.1, .int .i64 c.2.2.1, .int .i64 c.2.2.2]
abbrev v4 (c : Int × Int × Int × Int) : Value := .agg (c4 c)
theorem cnt_small (gs : List G3) : ∀ k, (0 ≤ (cntTo gs k).1 ∧ (cntTo gs k).1 ≤ k) ∧ (0 ≤ (cntTo gs k).2.1 ∧ (cntTo gs k).2.1 ≤ k) ∧ (0 ≤ (cntTo gs k).2.2.1 ∧ (cntTo gs k).2.2.1 ≤ k) ∧ (0 ≤ (cntTo gs k).2.2.2 ∧ (cntTo gs k).2.2.2 ≤ k)
  | 0 => by simp [cntTo]
  | k + 1 => by
    have ih := cnt_small gs k
    simp only [cntTo, inc4]
    split
    · simp only; omega
    · split
      · simp only; omega
      · split <;> (simp only; omega)
def cntV (n : Int) (gs : List G3) (os : List Int) : Int × Int × Int × Int := if circB n gs os then cntTo gs gs.length else (0, 0, 0, 0)
/-- four numbers lie in a block of their own -/
def B4 (w : World) (g : Nat) (c : Int × Int × Int × Int) : Prop := ∃ t, w.heap[g]? = some (.cells (c4 c) t (0, 0))
section
variable {w w' : World} {g B : Nat} {c : Int × Int × Int × Int}
theorem B4.c0 (h : B4 w g c) : w.cell? ⟨g, 0, none⟩ = some (.int .i64 c.1) := by
  obtain ⟨t, h⟩ := h
  exact (cell_of_row _ _ _ _ _ _ h).trans rfl
theorem B4.c1 (h : B4 w g c) : w.cell? ⟨g, 1, none⟩ = some (.int .i64 c.2.1) := by
  obtain ⟨t, h⟩ := h
  exact (cell_of_row _ _ _ _ _ _ h).trans rfl
theorem B4.c2 (h : B4 w g c) : w.cell? ⟨g, 2, none⟩ = some (.int .i64 c.2.2.1) := by
  obtain ⟨t, h⟩ := h
  exact (cell_of_row _ _ _ _ _ _ h).trans rfl
theorem B4.c3 (h : B4 w g c) : w.cell? ⟨g, 3, none⟩ = some (.int .i64 c.2.2.2) := by
  obtain ⟨t, h⟩ := h
  exact (cell_of_row _ _ _ _ _ _ h).trans rfl
theorem B4.free (h : B4 w g c) (o : Nat) : w.frozen? ⟨g, o, none⟩ = false := by
  obtain ⟨t, h⟩ := h
  unfold World.frozen?; rw [h]; simp
theorem B4.lt (h : B4 w g c) : g < w.heap.size := by
  obtain ⟨t, h⟩ := h
  exact (Array.getElem?_eq_some_iff.1 h).1
theorem B4.belowB (h : B4 w g c) (hb : Below B w w') (hg : g < B) : B4 w' g c := by
  obtain ⟨t, h⟩ := h
  exact ⟨t, (hb.block g hg).trans h⟩
theorem B4.below (h : B4 w g c) (hb : Below w.heap.size w w') : B4 w' g c := h.belowB hb h.lt
theorem B4.other (h : B4 w g c) {k o : Nat} (hk : k ≠ g) (v : Value) : B4 (w.setCell ⟨k, o, none⟩ v) g c := by
  obtain ⟨t, h⟩ := h
  exact ⟨t, by rw [heap_setCell_other _ _ _ _ (by simpa using hk.symm)]; exact h⟩
theorem B4.inc (h : B4 w g c) (kn : Nat) (hk : kn < 4) (v : Int) (hv : v = (if kn = 0 then c.1 else if kn = 1 then c.2.1 else if kn = 2 then c.2.2.1 else c.2.2.2) + 1) : B4 (w.setCell ⟨g, kn, none⟩ (.int .i64 v)) g (inc4 c kn) := by
  obtain ⟨t, h⟩ := h
  refine ⟨t, ?_⟩
  rw [heap_setCell_same w g kn _ _ _ h]
  have : kn = 0 ∨ kn = 1 ∨ kn = 2 ∨ kn = 3 := by omega
  rcases this with rfl | rfl | rfl | rfl <;> subst hv <;> rfl
theorem B4.there (h : B4 w g c) : w.there g 0 4 := fun j hj => by
  refine ⟨?_, h.free _⟩
  rw [Nat.zero_add]
  have : j = 0 ∨ j = 1 ∨ j = 2 ∨ j = 3 := by omega
  rcases this with rfl | rfl | rfl | rfl
  · rw [h.c0]; rfl
  · rw [h.c1]; rfl
  · rw [h.c2]; rfl
  · rw [h.c3]; rfl
theorem B4.puts (h : B4 w g c) (d : Int × Int × Int × Int) : B4 (w.setCells g 0 (c4 d).toList) g d := by
  obtain ⟨t, h⟩ := h
  refine ⟨t, ?_⟩
  show ((((w.setCell ⟨g, 0, none⟩ _).setCell ⟨g, 1, none⟩ _).setCell ⟨g, 2, none⟩ _).setCell ⟨g, 3, none⟩ _).heap[g]? = _
  rw [heap_setCell_same _ g 3 _ _ _ (heap_setCell_same _ g 2 _ _ _ (heap_setCell_same _ g 1 _ _ _ (heap_setCell_same w g 0 _ _ _ h)))]
  rfl
end
def get4 (c : Int × Int × Int × Int) (kn : Nat) : Int := if kn = 0 then c.1 else if kn = 1 then c.2.1 else if kn = 2 then c.2.2.1 else c.2.2.2
theorem B4.at {w : World} {g : Nat} {c : Int × Int × Int × Int} (h : B4 w g c) (kn : Nat) (hk : kn < 4) : w.cell? ⟨g, kn, none⟩ = some (.int .i64 (get4 c kn)) := by
  have : kn = 0 ∨ kn = 1 ∨ kn = 2 ∨ kn = 3 := by omega
  rcases this with rfl | rfl | rfl | rfl
  · exact h.c0
  · exact h.c1
  · exact h.c2
  · exact h.c3
theorem get4_small (gs : List G3) (k kn : Nat) : 0 ≤ get4 (cntTo gs k) kn ∧ get4 (cntTo gs k) kn ≤ k := by
  have h := cnt_small gs k
  unfold get4
  split
  · exact h.1
  · split
    · exact h.2.1
    · split
      · exact h.2.2.1
      · exact h.2.2.2
theorem four_one (c : Int × Int × Int × Int) : (c4 c).all (·.oneCell') = true := all_oneCell_toArray (cs := [.int .i64 c.1, .int .i64 c.2.1, .int .i64 c.2.2.1, .int .i64 c.2.2.2]) (fun v hv => by
  simp at hv
  rcases hv with rfl | rfl | rfl | rfl <;> rfl)
/-- the kind of a gate of a valid circuit, as a place -/
theorem kind_place {n i : Int} {g : G3} (h : gateB n i g = true) : ∃ kn : Nat, g.1 = (kn : Int) ∧ kn < 4 := by
  rcases kinds_of h with ⟨h0, _⟩ | ⟨h0, _⟩ | ⟨h0 | h0, _⟩
  · exact ⟨0, h0, by omega⟩
  · exact ⟨1, h0, by omega⟩
  · exact ⟨2, h0, by omega⟩
  · exact ⟨3, h0, by omega⟩

set_option maxRecDepth 100000 in
set_option maxHeartbeats 4000000 in
theorem implCounts_any (n : Int) (G : Value) (gs : List G3) (hl : gs.length ≤ 600) (hv : ∀ k : Nat, k < gs.length → gateB n k (gs.getD k gz) = true) (w : World) (hg : GL w G gs) :
    Calls Tryd.prog 66 #[G] w fun e w' => e = .returned (v4 (cntTo gs gs.length)) ∧ Below w.heap.size w w' := by
  have H := Lib.hid hg
  obtain ⟨A, c, rfl⟩ := hg.form
  have HV := Lib.hid hv
  clear hg hv
  go_enter Tryd.func66, Tryd.ntmps66
  go_wp2_with fail
  obtain ⟨a1, a2, hb1, s1⟩ := nw2 w (.cells #[.int .i64 0, .int .i64 0, .int .i64 0, .int .i64 0] 43) (.cells #[.int .i64 0, .int .i64 0, .int .i64 0, .int .i64 0] 43)
  generalize World.alloc (World.alloc w _) _ = w1 at a1 a2 hb1 s1 ⊢
  have HR0 : Hid (B4 w1 w.heap.size (0, 0, 0, 0)) := Lib.hid ⟨_, a1⟩
  have HC0 : Hid (B4 w1 (w.heap.size + 1) (cntTo gs 0)) := Lib.hid ⟨_, a2⟩
  have HB0 := Lib.hid hb1
  clear a1 a2 hb1 s1
  go_loopw [8] (fun y wr => ∃ k : Nat, y = .int .i64 (k : Int) ∧ k ≤ gs.length ∧ Hid (Below w.heap.size w wr) ∧ Hid (B4 wr w.heap.size (0, 0, 0, 0)) ∧ Hid (B4 wr (w.heap.size + 1) (cntTo gs k))) (fun y _ => gs.length - (intOf y).toNat)
  case atStart => exact ⟨0, rfl, Nat.zero_le _, HB0, HR0, HC0⟩
  case round =>
    obtain ⟨k, rfl, hk, HB, HR, HC⟩ := hrel
    clear HB0 HR0 HC0
    by_cases hlt : k < gs.length
    · obtain ⟨b, off, c', e, hlb, hgw, d0, d1, d2⟩ := (H.out.below HB.out).at k hlt
      cases e
      have hgt := HV.out k hlt
      obtain ⟨x, hx⟩ : ∃ x, x = gs.getD k gz := ⟨_, rfl⟩
      rw [← hx] at d0 d1 d2 hgw hgt
      obtain ⟨kd, a, bb⟩ := x
      simp only at d0 d1 d2
      obtain ⟨kn, hkn, hk4⟩ := kind_place hgt
      simp only at hkn
      subst hkn
      have T1 : decide ((k : Int) < (gs.length : Int)) = true := by simp; omega
      have i1 : (k : Int) < (gs.length : Int) := by omega
      have i2 : (kn : Int) < 4 := by omega
      go_upto_region 5 with fail
      obtain ⟨e0, hba, sba⟩ := nw1 wr (.cells #[.int .i8 (kn : Int), .int .i16 a, .int .i16 bb] 88)
      generalize wr.alloc (.cells #[.int .i8 (kn : Int), .int .i16 a, .int .i16 bb] 88) = wa at e0 hba sba ⊢
      have mg : BX wa wr.heap.size (.int .i8 (kn : Int)) (.int .i16 a) (.int .i16 bb) := ⟨_, e0⟩
      have g0 := mg.c0
      have hc := HC.out.below hba
      have hr := HR.out.below hba
      have q2 := hc.at kn hk4
      have q3 := hc.free kn
      have sm := get4_small gs k kn
      obtain ⟨v, hv⟩ : ∃ v, v = get4 (cntTo gs k) kn := ⟨_, rfl⟩
      rw [← hv] at q2 sm
      have H4 := Lib.hid (show B4 (wa.setCell ⟨w.heap.size + 1, kn, none⟩ (.int .i64 (v + 1))) (w.heap.size + 1) (cntTo gs (k + 1)) from by
        have := hc.inc kn hk4 (v + 1) (by rw [hv]; rfl)
        rw [cntTo, ← hx]; exact this)
      have H5 := Lib.hid (hr.other (k := w.heap.size + 1) (o := kn) (by omega) (.int .i64 (v + 1)))
      have H6 := Lib.hid ((bch2 HB.out hba HB.out.size).setCell (p := ⟨w.heap.size + 1, kn, none⟩) (by show w.heap.size ≤ w.heap.size + 1; omega) (.int .i64 (v + 1)))
      clear e0 hba sba mg hc hr hv hx d0 d1 d2 HB HR HC
      go_wp2_with fail
      exact ⟨⟨k + 1, by go_num, by omega, H6, H5, H4⟩, by simp [intOf]; omega⟩
    · obtain rfl : k = gs.length := by omega
      have T1 : decide ((gs.length : Int) < (gs.length : Int)) = false := by simp
      have hc := HC.out
      have hr := HR.out
      have c0 := hc.c0; have c1 := hc.c1; have c2 := hc.c2; have c3 := hc.c3
      have r2 := hr.there
      have P2 := Lib.hid (hr.puts (cntTo gs gs.length))
      have B8 := Lib.hid (bsets (g := w.heap.size) (Nat.le_refl _) (c4 (cntTo gs gs.length)).toList 0 _ HB.out)
      clear hc hr
      go_wp2_with (guard_target =~ wpList _ _ _ (⟨_, Op.store 43 _ _, _, _, _, _⟩ :: _) _ _; refine wpList_store_mid rfl 43 _ _ rfl w.heap.size 0 (c4 (cntTo gs gs.length)) rfl rfl r2 (by kernel_rfl) (four_one _) ?_)
      obtain ⟨t8, h8⟩ := P2.out
      refine bodyPost_ret (v := v4 (cntTo gs gs.length)) ?_ rfl ⟨rfl, B8.out⟩
      exact results_cell_row rfl _ _ w.heap.size _ _ (0, 0) _ rfl h8 Tryd.underlying43 rfl (by kernel_rfl)

set_option maxRecDepth 100000 in
set_option maxHeartbeats 4000000 in
theorem eqA4_refl (c : Int × Int × Int × Int) (w : World) :
    Calls Tryd.prog 28 #[v4 c, v4 c] w fun e w' => e = .returned (.bool true) ∧ Below w.heap.size w w' := by
  go_enter Tryd.func28, Tryd.ntmps28
  go_wp2_with fail
  obtain ⟨a1, a2, hb1, s1⟩ := nw2 w (.cells (c4 c) 43) (.cells (c4 c) 43)
  generalize World.alloc (World.alloc w _) _ = w1 at a1 a2 hb1 s1 ⊢
  have H1 : Hid (B4 w1 w.heap.size c) := Lib.hid ⟨_, a1⟩
  have H2 : Hid (B4 w1 (w.heap.size + 1) c) := Lib.hid ⟨_, a2⟩
  have HB := Lib.hid hb1
  clear a1 a2 hb1 s1
  go_loopw [5] (fun y wr => ∃ k m : Nat, y = .int .i64 (k : Int) ∧ k ≤ 4 ∧ wr = w1.drewN m) (fun y _ => 4 - (intOf y).toNat)
  case atStart => exact ⟨0, 0, rfl, by omega, rfl⟩
  case round =>
    obtain ⟨k, m, rfl, hk, rfl⟩ := hrel
    by_cases hlt : k < 4
    · have q1 := H1.out.at k hlt
      have q2 := H2.out.at k hlt
      obtain ⟨v, hv⟩ : ∃ v, v = get4 c k := ⟨_, rfl⟩
      rw [← hv] at q1 q2
      have T1 : decide ((k : Int) < 4) = true := by simp; omega
      have T2 : (v != v) = false := by simp
      have i1 : (k : Int) < 4 := by omega
      clear hv
      go_wp2_with fail
      go_quiet (fail)
      go_wp2_with fail
      exact ⟨⟨k + 1, m + nq, by go_num, by omega, rfl⟩, by simp [intOf]; omega⟩
    · obtain rfl : k = 4 := by omega
      have T1 : decide (((4 : Nat) : Int) < 4) = false := by simp
      go_wp2_with fail
      go_ret
      exact ⟨rfl, bdr HB.out m⟩
set_option maxRecDepth 100000 in
set_option maxHeartbeats 4000000 in
theorem impl_CountGates (v : Value) (n : Int) (gs : List G3) (os : List Int) (w : World) (h : CI w v n gs os) (hE : ET w) :
    Calls Tryd.prog 27 #[v] w fun e w' => e = .returned (.tuple #[v4 (cntV n gs os), .int .i64 (okC n gs os)]) ∧ Below w.heap.size w w' := by
  have H := Lib.hid h
  have HE := Lib.hid hE
  obtain ⟨G, O, rfl, hn, hg, ho⟩ := h
  have HG := Lib.hid hg; have HO := Lib.hid ho
  obtain ⟨A, c, rfl⟩ := hg.form
  obtain ⟨A2, c2, rfl⟩ := ho.form
  clear hg ho hE
  go_enter Tryd.func27, Tryd.ntmps27
  go_wp2_with fail
  obtain ⟨a1, a2, hb1, s1⟩ := nw2 w (.cells #[.int .i8 n, .slice A gs.length c, .slice A2 os.length c2] 33) (.cells #[.int .i64 0, .int .i64 0, .int .i64 0, .int .i64 0] 43)
  generalize World.alloc (World.alloc w _) _ = w1 at a1 a2 hb1 s1 ⊢
  refine (openCircuit_any n _ _ gs os w1 (H.out.below hb1)).mono ?_
  rintro e w2 ⟨rfl, hb⟩
  have HR : Hid (B4 w2 (w.heap.size + 1) (0, 0, 0, 0)) := Lib.hid (B4.belowB ⟨_, a2⟩ hb (by omega))
  have HB := Lib.hid (bch2 hb1 hb hb1.size)
  clear hb hb1 a1 a2 s1
  cases hc : circB n gs os with
  | false =>
    have HC := Lib.hid hc
    clear hc
    simp only [opW, Bool.false_eq_true, if_false]
    have hb4 := (nw1 w2 (.cells #[.slice none 0 0, .int .i8 0, .slice none 0 0] 74)).2.1
    have HR4 := Lib.hid (HR.out.below hb4)
    have HB4 := Lib.hid (HB.out.trans (hb4.mono HB.out.size))
    clear hb4
    go_wp2_with fail
    refine (reasonOf_bad 1 _ (HE.out.below HB4.out)).mono ?_
    rintro e w3 ⟨rfl, hb3⟩
    have HB3 := Lib.hid (HB4.out.trans (hb3.mono HB4.out.size))
    have r2 := (HR4.out.below hb3).there
    have P2 := Lib.hid ((HR4.out.below hb3).puts (0, 0, 0, 0))
    have B8 := Lib.hid (bsets (g := w.heap.size + 1) (by omega) (c4 (0, 0, 0, 0)).toList 0 _ HB3.out)
    clear hb3
    go_wp2_with (guard_target =~ wpList _ _ _ (⟨_, Op.store 43 _ _, _, _, _, _⟩ :: _) _ _; refine wpList_store_mid rfl 43 _ _ rfl (w.heap.size + 1) 0 (c4 (0, 0, 0, 0)) rfl rfl r2 (by kernel_rfl) (four_one _) ?_)
    obtain ⟨t8, h8⟩ := P2.out
    refine bodyPost_ret (v := .tuple #[v4 (0, 0, 0, 0), .int .i64 1]) ?_ rfl ⟨by unfold cntV okC; rw [HC.out]; rfl, B8.out⟩
    exact results_cell_tmp rfl _ _ (w.heap.size + 1) _ _ (0, 0) _ _ rfl rfl h8 Tryd.underlying43 rfl (by kernel_rfl)
  | true =>
    have HC := Lib.hid hc
    have hh := head_of hc
    have HV := Lib.hid (gate_of hc)
    simp only [opW, if_true]
    have hb4 := (nw1 w2 (.cells #[.slice A gs.length c, .int .i8 n, .slice A2 os.length c2] 74)).2.1
    have HR4 := Lib.hid (HR.out.below hb4)
    have HB4 := Lib.hid (HB.out.trans (hb4.mono HB.out.size))
    clear hb4 hc
    go_wp2_with fail
    refine (implCounts_any n _ gs hh.2.2.1 HV.out _ (HG.out.below HB4.out)).mono ?_
    rintro e w3 ⟨rfl, hb3⟩
    obtain ⟨cc, hcc⟩ : ∃ cc, cc = cntTo gs gs.length := ⟨_, rfl⟩
    rw [← hcc]
    have HB3 := Lib.hid (HB4.out.trans (hb3.mono HB4.out.size))
    have r2 := (HR4.out.below hb3).there
    have P2 := Lib.hid ((HR4.out.below hb3).puts cc)
    have B8 := Lib.hid (bsets (g := w.heap.size + 1) (by omega) (c4 cc).toList 0 _ HB3.out)
    have HCC := Lib.hid hcc
    clear hb3 hcc
    go_wp2_with (guard_target =~ wpList _ _ _ (⟨_, Op.store 43 _ _, _, _, _, _⟩ :: _) _ _; refine wpList_store_mid rfl 43 _ _ rfl (w.heap.size + 1) 0 (c4 cc) rfl rfl r2 (by kernel_rfl) (four_one _) ?_)
    obtain ⟨t8, h8⟩ := P2.out
    refine bodyPost_ret (v := .tuple #[v4 cc, .int .i64 0]) ?_ rfl ⟨by unfold cntV okC; rw [HC.out, if_pos rfl, if_pos rfl, ← HCC.out], B8.out⟩
    exact results_cell_tmp rfl _ _ (w.heap.size + 1) _ _ (0, 0) _ _ rfl rfl h8 Tryd.underlying43 rfl (by kernel_rfl)
set_option maxRecDepth 100000 in
set_option maxHeartbeats 4000000 in
theorem spec_CountGates (v : Value) (n : Int) (gs : List G3) (os : List Int) (w : World) (h : CI w v n gs os) :
    Calls Tryd.prog 26 #[v] w fun e w' => e = .returned (.tuple #[v4 (cntV n gs os), .int .i64 (okC n gs os)]) ∧ Below w.heap.size w w' := by
  obtain ⟨G, O, rfl, hn, hg, ho⟩ := h
  have HG := Lib.hid hg; have HO := Lib.hid ho
  obtain ⟨A, c, rfl⟩ := hg.form
  obtain ⟨A2, c2, rfl⟩ := ho.form
  clear hg ho
  go_enter Tryd.func26, Tryd.ntmps26
  go_wp2_with fail
  obtain ⟨a1, a2, a3, hb1, s1⟩ := nw3 w (.cells #[.int .i8 n, .slice A gs.length c, .slice A2 os.length c2] 33) (.cells #[.int .i64 0, .int .i64 0, .int .i64 0, .int .i64 0] 43) (.cells #[.int .i64 0, .int .i64 0, .int .i64 0, .int .i64 0] 43)
  generalize World.alloc (World.alloc (World.alloc w _) _) _ = w1 at a1 a2 a3 hb1 s1 ⊢
  refine (l07Ok_any w.heap.size n _ _ gs os w1 ⟨_, a1⟩ hn (HG.out.below hb1) (HO.out.below hb1)).mono ?_
  rintro e w2 ⟨rfl, hb⟩
  have HX : Hid (BX w2 w.heap.size (.int .i8 n) (.slice A gs.length c) (.slice A2 os.length c2)) := Lib.hid (BX.belowB ⟨_, a1⟩ hb (by omega))
  have HR0 : Hid (B4 w2 (w.heap.size + 1) (0, 0, 0, 0)) := Lib.hid (B4.belowB ⟨_, a2⟩ hb (by omega))
  have HC0 : Hid (B4 w2 (w.heap.size + 1 + 1) (cntTo gs 0)) := Lib.hid (B4.belowB ⟨_, a3⟩ hb (by omega))
  have HB0 := Lib.hid (bch2 hb1 hb hb1.size)
  clear hb hb1 a1 a2 a3 s1
  cases hc : circB n gs os with
  | false =>
    have HC := Lib.hid hc
    clear hc
    have hq := HC0.out
    have c0 := hq.c0; have c1 := hq.c1; have c2' := hq.c2; have c3 := hq.c3
    have r2 := HR0.out.there
    have P2 := Lib.hid (HR0.out.puts (0, 0, 0, 0))
    have B8 := Lib.hid (bsets (g := w.heap.size + 1) (by omega) (c4 (0, 0, 0, 0)).toList 0 _ HB0.out)
    clear hq
    go_wp2_with (guard_target =~ wpList _ _ _ (⟨_, Op.store 43 _ _, _, _, _, _⟩ :: _) _ _; refine wpList_store_mid rfl 43 _ _ rfl (w.heap.size + 1) 0 (c4 (0, 0, 0, 0)) rfl rfl r2 (by kernel_rfl) (four_one _) ?_)
    obtain ⟨t8, h8⟩ := P2.out
    refine bodyPost_ret (v := .tuple #[v4 (0, 0, 0, 0), .int .i64 1]) ?_ rfl ⟨by unfold cntV okC; rw [HC.out]; rfl, B8.out⟩
    exact results_cell_tmp rfl _ _ (w.heap.size + 1) _ _ (0, 0) _ _ rfl rfl h8 Tryd.underlying43 rfl (by kernel_rfl)
  | true =>
  have HCC := Lib.hid hc
  have hh := head_of hc
  have hl := hh.2.2.1
  have HV := Lib.hid (gate_of hc)
  clear hc
  go_wp2_with fail
  go_loopw [5] (fun y wr => ∃ k : Nat, y = .int .i64 (k : Int) ∧ k ≤ gs.length ∧ Hid (Below w.heap.size w wr) ∧ Hid (BX wr w.heap.size (.int .i8 n) (.slice A gs.length c) (.slice A2 os.length c2)) ∧ Hid (B4 wr (w.heap.size + 1) (0, 0, 0, 0)) ∧ Hid (B4 wr (w.heap.size + 1 + 1) (cntTo gs k))) (fun y _ => gs.length - (intOf y).toNat)
  case atStart => exact ⟨0, rfl, Nat.zero_le _, HB0, HX, HR0, HC0⟩
  case round =>
    obtain ⟨k, rfl, hk, HB, HY, HR, HC⟩ := hrel
    clear HB0 HR0 HC0 HX
    have x1 := HY.out.c1
    by_cases hlt : k < gs.length
    · obtain ⟨b, off, c', e, hlb, hgw, d0, d1, d2⟩ := (HG.out.below HB.out).at k hlt
      cases e
      have hgt := HV.out k hlt
      obtain ⟨x, hx⟩ : ∃ x, x = gs.getD k gz := ⟨_, rfl⟩
      rw [← hx] at d0 d1 d2 hgw hgt
      obtain ⟨kd, a, bb⟩ := x
      simp only at d0 d1 d2
      obtain ⟨kn, hkn, hk4⟩ := kind_place hgt
      simp only at hkn
      subst hkn
      have T1 : decide ((k : Int) < (gs.length : Int)) = true := by simp; omega
      have i1 : (k : Int) < (gs.length : Int) := by omega
      have i2 : (kn : Int) < 4 := by omega
      have hc := HC.out
      have hr := HR.out
      have q2 := hc.at kn hk4
      have q3 := hc.free kn
      have sm := get4_small gs k kn
      obtain ⟨v, hv⟩ : ∃ v, v = get4 (cntTo gs k) kn := ⟨_, rfl⟩
      rw [← hv] at q2 sm
      have H4 := Lib.hid (show B4 (wr.setCell ⟨w.heap.size + 1 + 1, kn, none⟩ (.int .i64 (v + 1))) (w.heap.size + 1 + 1) (cntTo gs (k + 1)) from by
        have := hc.inc kn hk4 (v + 1) (by rw [hv]; rfl)
        rw [cntTo, ← hx]; exact this)
      have H5 := Lib.hid (hr.other (k := w.heap.size + 1 + 1) (o := kn) (by omega) (.int .i64 (v + 1)))
      have H7 := Lib.hid (HY.out.other (k := w.heap.size + 1 + 1) (o := kn) (by omega) (.int .i64 (v + 1)))
      have H6 := Lib.hid (HB.out.setCell (p := ⟨w.heap.size + 1 + 1, kn, none⟩) (by show w.heap.size ≤ w.heap.size + 1 + 1; omega) (.int .i64 (v + 1)))
      clear hc hr hv hx HB HR HC HY
      go_wp2_with fail
      exact ⟨⟨k + 1, by go_num, by omega, H6, H7, H5, H4⟩, by simp [intOf]; omega⟩
    · obtain rfl : k = gs.length := by omega
      have T1 : decide ((gs.length : Int) < (gs.length : Int)) = false := by simp
      have hc := HC.out
      have hr := HR.out
      obtain ⟨cc, hcc⟩ : ∃ cc, cc = cntTo gs gs.length := ⟨_, rfl⟩
      rw [← hcc] at hc
      have c0 := hc.c0; have c1 := hc.c1; have c2' := hc.c2; have c3 := hc.c3
      have r2 := hr.there
      have P2 := Lib.hid (hr.puts cc)
      have B8 := Lib.hid (bsets (g := w.heap.size + 1) (by omega) (c4 cc).toList 0 _ HB.out)
      have HK := Lib.hid hcc
      clear hc hr hcc
      go_wp2_with (guard_target =~ wpList _ _ _ (⟨_, Op.store 43 _ _, _, _, _, _⟩ :: _) _ _; refine wpList_store_mid rfl 43 _ _ rfl (w.heap.size + 1) 0 (c4 cc) rfl rfl r2 (by kernel_rfl) (four_one _) ?_)
      obtain ⟨t8, h8⟩ := P2.out
      refine bodyPost_ret (v := .tuple #[v4 cc, .int .i64 0]) ?_ rfl ⟨by unfold cntV okC; rw [HCC.out, if_pos rfl, if_pos rfl, ← HK.out], B8.out⟩
      exact results_cell_tmp rfl _ _ (w.heap.size + 1) _ _ (0, 0) _ _ rfl rfl h8 Tryd.underlying43 rfl (by kernel_rfl)

end Go.Proofs.YtngaelifkhelbaaDoor
