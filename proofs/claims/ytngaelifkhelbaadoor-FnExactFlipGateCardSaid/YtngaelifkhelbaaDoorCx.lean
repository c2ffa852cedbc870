/-
  Which gates are needed.
-/
import Derived.Test.YtngaelifkhelbaaDoorCv
import Derived.Test.YtngaelifkhelbaaDoorCk
import Derived.ScopeJumps
import Derived.WalkMore
namespace Go.Proofs.YtngaelifkhelbaaDoor
set_option linter.unusedVariables false
set_option linter.unusedSimpArgs false
open Go.ChangeShapes Go.WideShapes Go.ChangeAt Go.RowKit Go.Deep
/-- the outputs are needed -/
def ndO (m : Nat) (os : List Int) : Nat → List Bool
  | 0 => List.replicate m false
  | k + 1 => (ndO m os k).set (os.getD k 0).toNat true
def ndS (l : List Bool) (g : G3) (j : Nat) : List Bool := if l.getD j false && joinB g then (l.set g.2.1.toNat true).set g.2.2.toNat true else l
/-- behind the last t gates -/
def ndT (gs : List G3) (os : List Int) : Nat → List Bool
  | 0 => ndO gs.length os os.length
  | t + 1 => ndS (ndT gs os t) (gs.getD (gs.length - 1 - t) gz) (gs.length - 1 - t)
def ndL (gs : List G3) (os : List Int) : List Bool := ndT gs os gs.length
theorem ndO_len (m : Nat) (os : List Int) : ∀ k, (ndO m os k).length = m
  | 0 => by simp [ndO]
  | k + 1 => by rw [ndO, List.length_set, ndO_len m os k]
theorem ndS_len (l : List Bool) (g : G3) (j : Nat) : (ndS l g j).length = l.length := by unfold ndS; split <;> simp
theorem ndT_len (gs : List G3) (os : List Int) : ∀ t, (ndT gs os t).length = gs.length
  | 0 => ndO_len _ _ _
  | t + 1 => by rw [ndT, ndS_len, ndT_len gs os t]
theorem ndL_len (gs : List G3) (os : List Int) : (ndL gs os).length = gs.length := ndT_len gs os _

theorem takeH {P : Program} {ops : Array Oper} {Q : Exit → Act → World → Prop} {a : Act} {w : World} {md : Region.Mode} {S : World → Prop} {i : Nat} {oi : Oper} {d : Tmp} {v : Value} {fuel : Nat} {listed : Array Bool} (hi : ops[i]? = some oi) (hd : oi.dst = some d)
    (hs : Region.noSelect ops = true) (hf : Region.free md ops listed i = true) (hr : (Region.ready md ops listed).contains i = true)
    (hQ : ∀ c a w, Q (.panic c) (a.put (some d) v) w → Q (.panic c) a w) (hw : Region.wanted oi (yielded ops a.tmps) = true) (hy : ∀ w, S w → (execOp a.eval oi).run P w = .ok (.value v) w) (hS : S w)
    (h : wpAnyH P md ops Q S fuel (listed.setIfInBounds i true) (a.put (some d) v) w) : wpAnyH P md ops Q S (fuel + 1) listed a w :=
  wpAnyH_take hi hs hf hr (by rw [hd]; exact hQ) (.inl ⟨hw, hy⟩) hS (by rw [hd]; exact h)
theorem wp_scope_label {P : Program} {c X : Code} (l : Nat) (J : Act → World → Prop) (μ : Act → World → Nat) {Q : Exit → Act → World → Prop} {a : Act} {w : World} (hf : findLabel c l = some (Code.skip.seq X))
    (hX : ∀ a w, J a w → X.wp P (Exit.jump l (fun a' w' => J a' w' ∧ μ a' w' < μ a w) Q) a w)
    (first : (∀ a w, J a w → X.wp P (Exit.jump l J Q) a w) → c.wp P (Exit.jump l J Q) a w) : (Code.scope c).wp P Q a w :=
  wp_scope_jumps l J μ hf (first (fun a w hJ => wp_mono (hX a w hJ) (fun e a w q => by
    cases e <;> first | exact q | exact ⟨q.1, q.2.1⟩))) (fun a w hJ => wp_seq (wp_skip (hX a w hJ)))
theorem ndS_keep {l : List Bool} {g : G3} {j : Nat} (h : (l.getD j false && joinB g) = false) : ndS l g j = l := by unfold ndS; rw [if_neg (by rw [h]; simp)]
theorem ndS_put {l : List Bool} {g : G3} {j : Nat} (h : (l.getD j false && joinB g) = true) : ndS l g j = (l.set g.2.1.toNat true).set g.2.2.toNat true := by unfold ndS; rw [if_pos h]
theorem joined_of {n : Int} {k : Nat} {g : G3} (h : gateB n k g = true) (hj : joinB g = true) : 0 ≤ g.2.1 ∧ g.2.1 < k ∧ 0 ≤ g.2.2 ∧ g.2.2 < k := by
  rcases kinds_of h with ⟨h0, _⟩ | ⟨h0, _⟩ | h3
  · simp [joinB, h0] at hj
  · simp [joinB, h0] at hj
  · exact h3.2

set_option maxRecDepth 100000 in
set_option maxHeartbeats 8000000 in
theorem implNeeded_any (n : Int) (G O : Value) (gs : List G3) (os : List Int) (hc : circB n gs os = true) (w : World) (hg : GL w G gs) (ho : IL w O os) :
    Calls Tryd.prog 71 #[.agg #[G, .int .i8 n, O]] w fun e w' => ∃ u, e = .returned u ∧ Below w.heap.size w w' ∧ w'.ownsRow w.heap.size 4 1 u gs.length (bols (ndL gs os)) := by
  have H := Lib.hid hg; have HO' := Lib.hid ho
  obtain ⟨A, c, rfl⟩ := hg.form
  obtain ⟨A2, c2, rfl⟩ := ho.form
  have hh := head_of hc
  have hl : gs.length ≤ 600 := hh.2.2.1
  have hlo : os.length ≤ 16 := hh.2.2.2
  have HV := Lib.hid (gate_of hc)
  have HU := Lib.hid (out_of hc)
  clear hc hh hg ho
  obtain ⟨i0, hi, hz0, hz1, hz2⟩ := info_parts infoBool
  obtain ⟨w1, hw1⟩ : ∃ w1, w1 = w.alloc (.cells #[.slice A gs.length c, .int .i8 n, .slice A2 os.length c2] 74) := ⟨_, rfl⟩
  obtain ⟨z1, z2, z3⟩ := nw1 w (.cells #[.slice A gs.length c, .int .i8 n, .slice A2 os.length c2] 74)
  rw [← hw1] at z1 z2 z3
  have HX1 : Hid (BX w1 w.heap.size (.slice A gs.length c) (.int .i8 n) (.slice A2 os.length c2)) := Lib.hid ⟨_, z1⟩
  have HW := Lib.hid z2
  obtain ⟨g, hgs⟩ : ∃ g, g = w1.heap.size := ⟨_, rfl⟩
  have HG := Lib.hid hgs
  have HWG := Lib.hid (show w1.heap.size ≤ g from Nat.le_of_eq hgs.symm)
  have HGW := Lib.hid (show w.heap.size < g from by omega)
  have HW1 := Lib.hid hw1
  clear hw1 z1 z2 z3 hgs
  go_enter Tryd.func71, Tryd.ntmps71
  go_wp2_with fail
  refine wp_scope_label 0 (fun a' w' => ∃ (t q : Nat) (u0 u2 u4 u5 u7 u8 u9 u10 u11 u12 u13 u14 u15 u16 u17 u18 u19 u20 u21 u22 u23 u24 u25 u26 u27 u28 u29 u30 u31 u32 u33 u34 u35 u36 u37 u38 u39 u40 u41 u42 u43 u44 u45 u46 u47 u48 u49 u50 : Value), a' = { tmps := #[u0, .pointer (some ⟨w.heap.size, 0, none⟩), u2, .slice (some ⟨g, 0, none⟩) gs.length gs.length, u4, u5, .int .i64 ((q : Nat) : Int), u7, u8, u9, u10, u11, u12, u13, u14, u15, u16, u17, u18, u19, u20, u21, u22, u23, u24, u25, u26, u27, u28, u29, u30, u31, u32, u33, u34, u35, u36, u37, u38, u39, u40, u41, u42, u43, u44, u45, u46, u47, u48, u49, u50], defers := [] } ∧ q + t = gs.length ∧ Hid (Below g w1 w') ∧ Hid (w'.ownsRow g 4 1 (.slice (some ⟨g, 0, none⟩) gs.length gs.length) gs.length (bols (ndT gs os t)))) (fun a' _ => (intOf (a'.tmps.getD 6 undef)).toNat) rfl ?_ ?_
  · rintro a0 wr ⟨t, q, u0, u2, u4, u5, u7, u8, u9, u10, u11, u12, u13, u14, u15, u16, u17, u18, u19, u20, u21, u22, u23, u24, u25, u26, u27, u28, u29, u30, u31, u32, u33, u34, u35, u36, u37, u38, u39, u40, u41, u42, u43, u44, u45, u46, u47, u48, u49, u50, rfl, hq, HB, HO⟩
    have mX := HX1.out.belowB HB.out HGW.out
    have x0 := mX.c0
    have hll := ndT_len gs os t
    by_cases h0 : q = 0
    · subst h0
      have T1 : decide (0 < ((0 : Nat) : Int)) = false := rfl
      have HE := Lib.hid (show ndT gs os t = ndL gs os from by unfold ndL; rw [show t = gs.length from by omega])
      clear hq mX hll
      go_wp2_with fail
      simp only [Exit.jump]
      go_ret
      refine ⟨_, rfl, HW.out.trans (HB.out.mono (Nat.le_of_lt HGW.out)), ?_⟩
      rw [← HE.out]
      exact own_low HO.out (Nat.le_of_lt HGW.out)
    · obtain ⟨j, hj⟩ : ∃ j, q = j + 1 := ⟨q - 1, by omega⟩
      have T1 : decide (0 < ((q : Nat) : Int)) = true := by simp; omega
      have e1 : ((q : Nat) : Int) - 1 = (j : Int) := by omega
      have hjl : j < gs.length := by omega
      obtain ⟨lr, hlr⟩ : ∃ lr, lr = ndT gs os t := ⟨_, rfl⟩
      rw [← hlr] at HO hll
      have HJ := Lib.hid hj
      obtain ⟨b, off, c', e, hlb, hgw, d0, d1, d2⟩ := (H.out.below (HW.out.trans (HB.out.mono (Nat.le_of_lt HGW.out)))).at j hjl
      cases e
      have hgt := HV.out j hjl
      obtain ⟨x, hx⟩ : ∃ x, x = gs.getD j gz := ⟨_, rfl⟩
      rw [← hx] at d0 d1 d2 hgw hgt
      have HS : Hid (ndT gs os (t + 1) = ndS lr x j) := Lib.hid (by rw [ndT, hlr, hx, show gs.length - 1 - t = j from by omega])
      have i1 : (j : Int) < (gs.length : Int) := by omega
      have va : wr.cell? ⟨g, j, none⟩ = some (.bool (lr.getD j false)) := by
        rw [HO.out.cellAt j (by omega), List.getElem?_map, List.getD, List.getElem?_eq_getElem (by rw [hll]; exact hjl)]; rfl
      obtain ⟨p1, hp1⟩ : ∃ p1, p1 = lr.getD j false := ⟨_, rfl⟩
      rw [← hp1] at va
      have HP1 := Lib.hid hp1
      have HGT := Lib.hid hgt
      obtain ⟨kd, a, bb⟩ := x
      simp only at d0 d1 d2
      have HLL := Lib.hid hll; have HLR := Lib.hid hlr
      have HQ := Lib.hid hq
      clear hx hp1 hgt hgw hll hlr hq
      have hq9 : q ≤ 600 := by have := HQ.out; omega
      have HSZ := Lib.hid (ownblk HO.out)
      clear h0 hj mX
      go_upto_region 11 with fail
      obtain ⟨e0, hba, sba⟩ := nw1 wr (.cells #[.int .i8 kd, .int .i16 a, .int .i16 bb] 88)
      generalize wr.alloc (.cells #[.int .i8 kd, .int .i16 a, .int .i16 bb] 88) = wa at e0 hba sba ⊢
      have mg : BX wa wr.heap.size (.int .i8 kd) (.int .i16 a) (.int .i16 bb) := ⟨_, e0⟩
      have g0 := mg.c0; have g1 := mg.c1; have g2 := mg.c2
      have MG := Lib.hid mg
      have HBA := Lib.hid (HB.out.trans (hba.mono (Nat.le_of_lt HSZ.out)))
      have HOA := Lib.hid (owb HO.out hba)
      have va' : wa.cell? ⟨g, j, none⟩ = some (.bool p1) := (hba.cell (p := ⟨g, j, none⟩) HSZ.out).trans va
      clear e0 mg hba sba d0 d1 d2 va HB HO x0
      cases p1 with
      | false =>
        have HE := Lib.hid (show ndT gs os (t + 1) = lr from HS.out.trans (ndS_keep (by rw [← HP1.out]; rfl)))
        go_wp2_with fail
        go_step3
        exact ⟨rfl, ⟨t + 1, j, _, _, _, _, _, _, _, _, _, _, _, _, _, _, _, _, _, _, _, _, _, _, _, _, _, _, _, _, _, _, _, _, _, _, _, _, _, _, _, _, _, _, _, _, _, _, _, _, rfl, by have := HQ.out; have := HJ.out; omega, HBA, by rw [HE.out]; exact HOA⟩, by simp [intOf]; have := HJ.out; omega⟩
      | true =>
        go_wp2_with fail
        refine (isJoin_any (kd, a, bb) wa).mono ?_
        rintro e wb ⟨rfl, hbb⟩
        have mg := MG.out.below hbb
        have HMB := Lib.hid mg
        have hsa := ownblk HOA.out
        have HBB := Lib.hid (HBA.out.trans (hbb.mono (Nat.le_of_lt hsa)))
        have HOB := Lib.hid (owb HOA.out hbb)
        clear hbb g0 g1 g2 va' HBA HOA MG hsa
        cases hjn : joinB (kd, a, bb) with
        | false =>
          have HE := Lib.hid (show ndT gs os (t + 1) = lr from HS.out.trans (ndS_keep (by rw [hjn, Bool.and_false])))
          clear mg hjn
          go_wp2_with fail
          go_step3
          exact ⟨rfl, ⟨t + 1, j, _, _, _, _, _, _, _, _, _, _, _, _, _, _, _, _, _, _, _, _, _, _, _, _, _, _, _, _, _, _, _, _, _, _, _, _, _, _, _, _, _, _, _, _, _, _, _, _, rfl, by have := HQ.out; have := HJ.out; omega, HBB, by rw [HE.out]; exact HOB⟩, by simp [intOf]; have := HJ.out; omega⟩
        | true =>
          obtain ⟨ha0, ha1, hb0, hb1⟩ := joined_of HGT.out hjn
          simp only at ha0 ha1 hb0 hb1
          obtain ⟨an, rfl⟩ : ∃ an : Nat, a = (an : Int) := ⟨a.toNat, by omega⟩
          obtain ⟨bn, rfl⟩ : ∃ bn : Nat, bb = (bn : Int) := ⟨bb.toNat, by omega⟩
          have HE := Lib.hid (show ndT gs os (t + 1) = (lr.set an true).set bn true from HS.out.trans (ndS_put (by rw [hjn, ← HP1.out]; rfl)))
          have ai : (an : Int) < (gs.length : Int) := by omega
          have bi : (bn : Int) < (gs.length : Int) := by omega
          have hLL := HLL.out
          have m2 := mg
          have c1' : wb.drew.cell? ⟨wr.heap.size, 1, none⟩ = some (.int .i16 (an : Int)) := mg.c1
          have c2' : wb.drew.cell? ⟨wr.heap.size, 2, none⟩ = some (.int .i16 (bn : Int)) := mg.c2
          have HOD := HOB
          obtain ⟨y0, hy0⟩ : ∃ y, (bols lr)[an]? = some y := ⟨_, List.getElem?_eq_getElem (by rw [List.length_map, hLL]; omega)⟩
          have q2 : wb.cell? ⟨g, an, none⟩ = some y0 := (HOD.out.cellAt an (by omega)).trans hy0
          have q3 : wb.frozen? ⟨g, an, none⟩ = false := HOD.out.frozenAt an
          have o1 := (HOD.out.stored an (.bool true)).1
          have HO1 := Lib.hid o1
          obtain ⟨y1, hy1⟩ : ∃ y, ((bols lr).set an (.bool true))[bn]? = some y := ⟨_, List.getElem?_eq_getElem (by rw [List.length_set, List.length_map, hLL]; omega)⟩
          have q4 : (wb.setCell ⟨g, an, none⟩ (.bool true)).cell? ⟨g, bn, none⟩ = some y1 := (o1.cellAt bn (by omega)).trans hy1
          have q5 : (wb.setCell ⟨g, an, none⟩ (.bool true)).frozen? ⟨g, bn, none⟩ = false := o1.frozenAt bn
          have o2 := (o1.stored bn (.bool true)).1
          rw [← List.map_set, ← List.map_set, ← HE.out] at o2
          have HO2 := Lib.hid (odw o2)
          have hne : g ≠ wr.heap.size := by have := HSZ.out; omega
          have mgd : BX wb wr.heap.size (.int .i8 kd) (.int .i16 (an : Int)) (.int .i16 (bn : Int)) := mg
          have s1 := mgd.other (k := g) (o := an) hne (.bool true)
          have s2 := s1.other (k := g) (o := bn) hne (.bool true)
          have K1 : Hid ((wb.setCell ⟨g, an, none⟩ (.bool true)).drew.cell? ⟨wr.heap.size, 1, none⟩ = some (.int .i16 (an : Int)) ∧ (wb.setCell ⟨g, an, none⟩ (.bool true)).drew.cell? ⟨wr.heap.size, 2, none⟩ = some (.int .i16 (bn : Int))) := Lib.hid (And.intro s1.c1 s1.c2)
          have K2 : Hid (((wb.setCell ⟨g, an, none⟩ (.bool true)).setCell ⟨g, bn, none⟩ (.bool true)).drew.cell? ⟨wr.heap.size, 1, none⟩ = some (.int .i16 (an : Int)) ∧ ((wb.setCell ⟨g, an, none⟩ (.bool true)).setCell ⟨g, bn, none⟩ (.bool true)).drew.cell? ⟨wr.heap.size, 2, none⟩ = some (.int .i16 (bn : Int))) := Lib.hid (And.intro s2.c1 s2.c2)
          have HB2 := Lib.hid (bdw ((HBB.out.setCell (p := ⟨g, an, none⟩) (Nat.le_refl _) (.bool true)).setCell (p := ⟨g, bn, none⟩) (Nat.le_refl _) (.bool true)))
          clear mg m2 o1 o2 hy0 hy1 s1 s2 mgd HOD HBB hLL hjn ha0 ha1 hb0 hb1 hne HMB
          go_upto_region 12 with fail
          refine wp_region_held_drew (S := fun W => W.cell? ⟨wr.heap.size, 1, none⟩ = some (.int .i16 (an : Int)) ∧ W.cell? ⟨wr.heap.size, 2, none⟩ = some (.int .i16 (bn : Int))) (by kernel_rfl) ?hS0 (fun hS => ?_)
          case hS0 => exact ⟨c1', c2'⟩
          refine takeH (i := 0) (v := ?v0) rfl rfl (by kernel_rfl) (by kernel_rfl) (by kernel_rfl) (fun _ _ _ h => h) rfl ?hy0 hS ?rs0
          case hy0 => (intro wq hq; go_simp; try (with_reducible rfl))
          simp only [Act.put, List.setIfInBounds_toArray, List.set_cons_zero, List.set_cons_succ]
          refine takeH (i := 1) (v := ?v1) rfl rfl (by kernel_rfl) (by kernel_rfl) (by kernel_rfl) (fun _ _ _ h => h) rfl ?hy1 hS ?rs1
          case hy1 => (intro wq hq; go_simp; try (with_reducible rfl))
          simp only [Act.put, List.setIfInBounds_toArray, List.set_cons_zero, List.set_cons_succ]
          refine takeH (i := 2) (v := ?v2) rfl rfl (by kernel_rfl) (by kernel_rfl) (by kernel_rfl) (fun _ _ _ h => h) rfl ?hy2 hS ?rs2
          case hy2 => (intro wq hq; go_simp; try (with_reducible rfl))
          simp only [Act.put, List.setIfInBounds_toArray, List.set_cons_zero, List.set_cons_succ]
          refine takeH (i := 3) (v := ?v3) rfl rfl (by kernel_rfl) (by kernel_rfl) (by kernel_rfl) (fun _ _ _ h => h) rfl ?hy3 hS ?rs3
          case hy3 => (intro wq hq; go_simp; try (with_reducible rfl))
          simp only [Act.put, List.setIfInBounds_toArray, List.set_cons_zero, List.set_cons_succ]
          refine takeH (i := 4) (v := ?v4) rfl rfl (by kernel_rfl) (by kernel_rfl) (by kernel_rfl) (fun _ _ _ h => h) rfl ?hy4 hS ?rs4
          case hy4 => (intro wq hq; go_simp; try (with_reducible rfl))
          simp only [Act.put, List.setIfInBounds_toArray, List.set_cons_zero, List.set_cons_succ]
          refine takeH (i := 5) (v := ?v5) rfl rfl (by kernel_rfl) (by kernel_rfl) (by kernel_rfl) (fun _ _ _ h => h) rfl ?hy5 hS ?rs5
          case hy5 => (intro wq hq; go_simp; try (with_reducible rfl))
          simp only [Act.put, List.setIfInBounds_toArray, List.set_cons_zero, List.set_cons_succ]
          refine takeH (i := 6) (v := ?v6) rfl rfl (by kernel_rfl) (by kernel_rfl) (by kernel_rfl) (fun _ _ _ h => h) rfl ?hy6 hS ?rs6
          case hy6 => (intro wq hq; go_simp; try (with_reducible rfl))
          simp only [Act.put, List.setIfInBounds_toArray, List.set_cons_zero, List.set_cons_succ]
          refine wpAnyH_ready (rs := [7]) (by kernel_rfl) (by simp) ?_
          refine AllReadyH.cons rfl (fun K hK => ?_) AllReadyH.nil
          go_simp
          refine hK.out _ _ K1.out (fun hS => ?_)
          clear hK
          refine takeH (i := 8) (v := ?v8) rfl rfl (by kernel_rfl) (by kernel_rfl) (by kernel_rfl) (fun _ _ _ h => h) rfl ?hy8 hS ?rs8
          case hy8 => (intro wq hq; go_simp; try (with_reducible rfl))
          simp only [Act.put, List.setIfInBounds_toArray, List.set_cons_zero, List.set_cons_succ]
          refine wpAnyH_ready (rs := [9]) (by kernel_rfl) (by simp) ?_
          refine AllReadyH.cons rfl (fun K hK => ?_) AllReadyH.nil
          go_simp
          refine hK.out _ _ K2.out (fun hS => ?_)
          clear hK
          refine wpAnyH_done (by kernel_rfl) ?_ _
          clear q2 q3 q4 q5 c1' c2'
          go_wp2_with fail
          go_step3
          exact ⟨rfl, ⟨t + 1, j, _, _, _, _, _, _, _, _, _, _, _, _, _, _, _, _, _, _, _, _, _, _, _, _, _, _, _, _, _, _, _, _, _, _, _, _, _, _, _, _, _, _, _, _, _, _, _, _, rfl, by have := HQ.out; have := HJ.out; omega, HB2, HO2⟩, by simp [intOf]; have := HJ.out; omega⟩
  · intro hfirst
    have HF := Lib.hid hfirst
    clear hfirst
    go_wp2_with (at_make; rw [← HW1.out]; refine wpList_make_full _ rfl _ _ 37 rfl w1.heap.size 4 i0 (.bool false) 1 Tryd.underlying37 hi hz0 hz1 _ _ _ _ gs.length rfl rfl rfl rfl (by rw [hz2]; omega) (by unfold maxLen; omega) (Nat.le_refl _) ?_)
    intro w2 hown hgrow
    have hb2 : Below g w1 w2 := (Below.refl _ w1).grown hgrow (Nat.le_of_eq HG.out) (fun k hk => by cases hk)
    rw [← HG.out] at hown ⊢
    have hown1 : w2.ownsRow g 4 1 (.slice (some ⟨g, 0, none⟩) gs.length gs.length) gs.length (bols (ndO gs.length os 0)) := by
      have e : (madeCells #[Value.bool false] gs.length).toList = bols (ndO gs.length os 0) := by
        rw [toList_madeCells_one]; simp [ndO]
      rw [← e]; simpa using hown
    have HB2 := Lib.hid hb2; have HO2 := Lib.hid hown1
    have y2 := (HX1.out.belowB hb2 HGW.out).c2
    clear hown hgrow hb2 hown1
    go_wp2_with fail
    clear y2
    go_loopw [15] (fun y wr => ∃ k : Nat, y = .int .i64 (k : Int) ∧ k ≤ os.length ∧ Hid (Below g w1 wr) ∧ Hid (wr.ownsRow g 4 1 (.slice (some ⟨g, 0, none⟩) gs.length gs.length) gs.length (bols (ndO gs.length os k)))) (fun y _ => os.length - (intOf y).toNat)
    case atStart => exact ⟨0, rfl, Nat.zero_le _, HB2, HO2⟩
    case round =>
      obtain ⟨k, rfl, hk, HB, HO⟩ := hrel
      clear HB2 HO2
      by_cases hlt : k < os.length
      · obtain ⟨b, off, c', e, hlb, hiw, d0⟩ := (HO'.out.below (HW.out.trans (HB.out.mono (Nat.le_of_lt HGW.out)))).at k hlt
        cases e
        obtain ⟨x, hx⟩ : ∃ x, x = os.getD k 0 := ⟨_, rfl⟩
        have hu := HU.out k hlt
        rw [← hx] at d0 hu
        obtain ⟨xn, rfl⟩ : ∃ xn : Nat, x = (xn : Int) := ⟨x.toNat, by omega⟩
        have T1 : decide ((k : Int) < (os.length : Int)) = true := by simp; omega
        have i1 : (k : Int) < (os.length : Int) := by omega
        have i2 : (xn : Int) < (gs.length : Int) := by omega
        have hxl : xn < gs.length := by omega
        obtain ⟨y0, hy0⟩ : ∃ y, (bols (ndO gs.length os k))[xn]? = some y := ⟨_, List.getElem?_eq_getElem (by rw [List.length_map, ndO_len]; exact hxl)⟩
        have q2 : wr.cell? ⟨g, xn, none⟩ = some y0 := (HO.out.cellAt xn (by omega)).trans hy0
        have q3 : wr.frozen? ⟨g, xn, none⟩ = false := HO.out.frozenAt xn
        have h4 := (HO.out.stored xn (.bool true)).1
        rw [← List.map_set, show (ndO gs.length os k).set xn true = ndO gs.length os (k + 1) from by rw [ndO, ← hx]; rfl] at h4
        have H4 := Lib.hid h4
        have H5 := Lib.hid (HB.out.setCell (p := ⟨g, xn, none⟩) (Nat.le_refl _) (.bool true))
        clear h4 hy0 hx hu hxl
        go_wp2_with fail
        exact ⟨⟨k + 1, by go_num, by omega, H5, H4⟩, by simp [intOf]; omega⟩
      · obtain rfl : k = os.length := by omega
        have T1 : decide ((os.length : Int) < (os.length : Int)) = false := by simp
        go_wp2_with fail
        go_step3
        rename_i hKx
        exact hKx _ _ (HF.out _ _ ⟨0, gs.length, _, _, _, _, _, _, _, _, _, _, _, _, _, _, _, _, _, _, _, _, _, _, _, _, _, _, _, _, _, _, _, _, _, _, _, _, _, _, _, _, _, _, _, _, _, _, _, _, rfl, by omega, HB, HO⟩)

set_option maxRecDepth 100000 in
set_option maxHeartbeats 8000000 in
theorem specNeeded_any (n : Int) (gb : Nat) (nv0 G O : Value) (gs : List G3) (os : List Int) (hc : circB n gs os = true) (w1 : World) (hX : BX w1 gb nv0 G O) (hg : GL w1 G gs) (ho : IL w1 O os) :
    Calls Tryd.prog 70 #[.pointer (some ⟨gb, 0, none⟩)] w1 fun e w' => ∃ u, e = .returned u ∧ Below w1.heap.size w1 w' ∧ w'.ownsRow w1.heap.size 4 1 u gs.length (bols (ndL gs os)) := by
  have H := Lib.hid hg; have HO' := Lib.hid ho
  have HX1 := Lib.hid hX
  obtain ⟨A, c, rfl⟩ := hg.form
  obtain ⟨A2, c2, rfl⟩ := ho.form
  have hh := head_of hc
  have hl : gs.length ≤ 600 := hh.2.2.1
  have hlo : os.length ≤ 16 := hh.2.2.2
  have HV := Lib.hid (gate_of hc)
  have HU := Lib.hid (out_of hc)
  obtain ⟨i0, hi, hz0, hz1, hz2⟩ := info_parts infoBool
  have y1 := hX.c1; have y2 := hX.c2
  obtain ⟨g, hgs⟩ : ∃ g, g = w1.heap.size := ⟨_, rfl⟩
  have HG := Lib.hid hgs
  have HGW := Lib.hid (show gb < g from by have := hX.lt; omega)
  clear hc hh hg ho hX hgs
  go_enter Tryd.func70, Tryd.ntmps70
  go_wp2_with (at_make; refine wpList_make_full _ rfl _ _ 37 rfl w1.heap.size 4 i0 (.bool false) 1 Tryd.underlying37 hi hz0 hz1 _ _ _ _ gs.length rfl rfl rfl rfl (by rw [hz2]; omega) (by unfold maxLen; omega) (Nat.le_refl _) ?_)
  intro w2 hown hgrow
  have hb2 : Below g w1 w2 := (Below.refl _ w1).grown hgrow (Nat.le_of_eq HG.out) (fun k hk => by cases hk)
  rw [← HG.out] at hown ⊢
  have hown1 : w2.ownsRow g 4 1 (.slice (some ⟨g, 0, none⟩) gs.length gs.length) gs.length (bols (ndO gs.length os 0)) := by
    have e : (madeCells #[Value.bool false] gs.length).toList = bols (ndO gs.length os 0) := by
      rw [toList_madeCells_one]; simp [ndO]
    rw [← e]; simpa using hown
  have HB2 := Lib.hid hb2; have HO2 := Lib.hid hown1
  clear hown hgrow hb2 hown1 y1 y2
  go_wp2_with fail
  go_loopw [4] (fun y wr => ∃ k : Nat, y = .int .i64 (k : Int) ∧ k ≤ os.length ∧ Hid (Below g w1 wr) ∧ Hid (wr.ownsRow g 4 1 (.slice (some ⟨g, 0, none⟩) gs.length gs.length) gs.length (bols (ndO gs.length os k)))) (fun y _ => os.length - (intOf y).toNat)
  case atStart => exact ⟨0, rfl, Nat.zero_le _, HB2, HO2⟩
  case round =>
    obtain ⟨k, rfl, hk, HB, HO⟩ := hrel
    clear HB2 HO2
    have mX := HX1.out.belowB HB.out HGW.out
    have y2 := mX.c2
    by_cases hlt : k < os.length
    · obtain ⟨b, off, c', e, hlb, hiw, d0⟩ := (HO'.out.below (HB.out.mono (Nat.le_of_eq HG.out.symm))).at k hlt
      cases e
      obtain ⟨x, hx⟩ : ∃ x, x = os.getD k 0 := ⟨_, rfl⟩
      have hu := HU.out k hlt
      rw [← hx] at d0 hu
      obtain ⟨xn, rfl⟩ : ∃ xn : Nat, x = (xn : Int) := ⟨x.toNat, by omega⟩
      have T1 : decide ((k : Int) < (os.length : Int)) = true := by simp; omega
      have i1 : (k : Int) < (os.length : Int) := by omega
      have i2 : (xn : Int) < (gs.length : Int) := by omega
      have hxl : xn < gs.length := by omega
      obtain ⟨y0, hy0⟩ : ∃ y, (bols (ndO gs.length os k))[xn]? = some y := ⟨_, List.getElem?_eq_getElem (by rw [List.length_map, ndO_len]; exact hxl)⟩
      have q2 : wr.cell? ⟨g, xn, none⟩ = some y0 := (HO.out.cellAt xn (by omega)).trans hy0
      have q3 : wr.frozen? ⟨g, xn, none⟩ = false := HO.out.frozenAt xn
      have h4 := (HO.out.stored xn (.bool true)).1
      rw [← List.map_set, show (ndO gs.length os k).set xn true = ndO gs.length os (k + 1) from by rw [ndO, ← hx]; rfl] at h4
      have H4 := Lib.hid h4
      have H5 := Lib.hid (HB.out.setCell (p := ⟨g, xn, none⟩) (Nat.le_refl _) (.bool true))
      clear h4 hy0 hx hu hxl mX
      go_wp2_with fail
      exact ⟨⟨k + 1, by go_num, by omega, H5, H4⟩, by simp [intOf]; omega⟩
    · obtain rfl : k = os.length := by omega
      have T1 : decide ((os.length : Int) < (os.length : Int)) = false := by simp
      have y1 := mX.c1
      clear mX
      go_wp2_with fail
      clear y1 y2 T1
      go_loopw [5] (fun y wr => ∃ t q : Nat, y = .int .i64 (((q : Nat) : Int) - 1) ∧ q + t = gs.length ∧ Hid (Below g w1 wr) ∧ Hid (wr.ownsRow g 4 1 (.slice (some ⟨g, 0, none⟩) gs.length gs.length) gs.length (bols (ndT gs os t)))) (fun y _ => ((intOf y) + 1).toNat)
      case atStart => exact ⟨0, gs.length, rfl, by omega, HB, HO⟩
      case round =>
        obtain ⟨t, q, rfl, hq, HB, HO⟩ := hrel
        have mX := HX1.out.belowB HB.out HGW.out
        have x0 := mX.c1
        have hll := ndT_len gs os t
        by_cases h0 : q = 0
        · subst h0
          have HE := Lib.hid (show ndT gs os t = ndL gs os from by unfold ndL; rw [show t = gs.length from by omega])
          clear hq mX hll
          go_wp2_with fail
          go_ret
          refine ⟨_, rfl, HB.out.mono (Nat.le_of_eq HG.out.symm), ?_⟩
          rw [← HE.out]
          exact own_low HO.out (Nat.le_of_eq HG.out.symm)
        · obtain ⟨j, hj⟩ : ∃ j, q = j + 1 := ⟨q - 1, by omega⟩
          have e1 : ((q : Nat) : Int) - 1 = (j : Int) := by omega
          have T1 : decide (0 ≤ (j : Int)) = true := by simp
          have hjl : j < gs.length := by omega
          obtain ⟨lr, hlr⟩ : ∃ lr, lr = ndT gs os t := ⟨_, rfl⟩
          rw [← hlr] at HO hll
          have HJ := Lib.hid hj
          obtain ⟨b, off, c', e, hlb, hgw, d0, d1, d2⟩ := (H.out.below (HB.out.mono (Nat.le_of_eq HG.out.symm))).at j hjl
          cases e
          have hgt := HV.out j hjl
          obtain ⟨x, hx⟩ : ∃ x, x = gs.getD j gz := ⟨_, rfl⟩
          rw [← hx] at d0 d1 d2 hgw hgt
          have HS : Hid (ndT gs os (t + 1) = ndS lr x j) := Lib.hid (by rw [ndT, hlr, hx, show gs.length - 1 - t = j from by omega])
          have i1 : (j : Int) < (gs.length : Int) := by omega
          have va : wr.cell? ⟨g, j, none⟩ = some (.bool (lr.getD j false)) := by
            rw [HO.out.cellAt j (by omega), List.getElem?_map, List.getD, List.getElem?_eq_getElem (by rw [hll]; exact hjl)]; rfl
          obtain ⟨p1, hp1⟩ : ∃ p1, p1 = lr.getD j false := ⟨_, rfl⟩
          rw [← hp1] at va
          have HP1 := Lib.hid hp1
          have HGT := Lib.hid hgt
          obtain ⟨kd, a, bb⟩ := x
          simp only at d0 d1 d2
          have HLL := Lib.hid hll; have HLR := Lib.hid hlr
          have HQ := Lib.hid hq
          clear hx hp1 hgt hgw hll hlr hq
          have hq9 : q ≤ 600 := by have := HQ.out; omega
          have HSZ := Lib.hid (ownblk HO.out)
          clear h0 hj mX
          rw [e1]
          go_upto_region 10 with fail
          obtain ⟨e0, hba, sba⟩ := nw1 wr (.cells #[.int .i8 kd, .int .i16 a, .int .i16 bb] 88)
          generalize wr.alloc (.cells #[.int .i8 kd, .int .i16 a, .int .i16 bb] 88) = wa at e0 hba sba ⊢
          have mg : BX wa wr.heap.size (.int .i8 kd) (.int .i16 a) (.int .i16 bb) := ⟨_, e0⟩
          have g0 := mg.c0; have g1 := mg.c1; have g2 := mg.c2
          have MG := Lib.hid mg
          have HBA := Lib.hid (HB.out.trans (hba.mono (Nat.le_of_lt HSZ.out)))
          have HOA := Lib.hid (owb HO.out hba)
          have va' : wa.cell? ⟨g, j, none⟩ = some (.bool p1) := (hba.cell (p := ⟨g, j, none⟩) HSZ.out).trans va
          clear e0 mg hba sba d0 d1 d2 va HB HO x0
          cases p1 with
          | false =>
            have HE := Lib.hid (show ndT gs os (t + 1) = lr from HS.out.trans (ndS_keep (by rw [← HP1.out]; rfl)))
            go_wp2_with fail
            exact ⟨⟨t + 1, j, rfl, by have := HQ.out; have := HJ.out; omega, HBA, by rw [HE.out]; exact HOA⟩, by simp [intOf]⟩
          | true =>
            go_wp2_with fail
            refine (l07Joins_any (kd, a, bb) wa).mono ?_
            rintro e wb ⟨rfl, hbb⟩
            have mg := MG.out.below hbb
            have HMB := Lib.hid mg
            have hsa := ownblk HOA.out
            have HBB := Lib.hid (HBA.out.trans (hbb.mono (Nat.le_of_lt hsa)))
            have HOB := Lib.hid (owb HOA.out hbb)
            clear hbb g0 g1 g2 va' HBA HOA MG hsa
            cases hjn : joinB (kd, a, bb) with
            | false =>
              have HE := Lib.hid (show ndT gs os (t + 1) = lr from HS.out.trans (ndS_keep (by rw [hjn, Bool.and_false])))
              clear mg hjn
              go_wp2_with fail
              exact ⟨⟨t + 1, j, rfl, by have := HQ.out; have := HJ.out; omega, HBB, by rw [HE.out]; exact HOB⟩, by simp [intOf]⟩
            | true =>
              obtain ⟨ha0, ha1, hb0, hb1⟩ := joined_of HGT.out hjn
              simp only at ha0 ha1 hb0 hb1
              obtain ⟨an, rfl⟩ : ∃ an : Nat, a = (an : Int) := ⟨a.toNat, by omega⟩
              obtain ⟨bn, rfl⟩ : ∃ bn : Nat, bb = (bn : Int) := ⟨bb.toNat, by omega⟩
              have HE := Lib.hid (show ndT gs os (t + 1) = (lr.set an true).set bn true from HS.out.trans (ndS_put (by rw [hjn, ← HP1.out]; rfl)))
              have ai : (an : Int) < (gs.length : Int) := by omega
              have bi : (bn : Int) < (gs.length : Int) := by omega
              have hLL := HLL.out
              have c1' := mg.c1
              obtain ⟨y0, hy0⟩ : ∃ y, (bols lr)[an]? = some y := ⟨_, List.getElem?_eq_getElem (by rw [List.length_map, hLL]; omega)⟩
              have q2 : wb.cell? ⟨g, an, none⟩ = some y0 := (HOB.out.cellAt an (by omega)).trans hy0
              have q3 : wb.frozen? ⟨g, an, none⟩ = false := HOB.out.frozenAt an
              have o1 := (HOB.out.stored an (.bool true)).1
              obtain ⟨y1, hy1⟩ : ∃ y, ((bols lr).set an (.bool true))[bn]? = some y := ⟨_, List.getElem?_eq_getElem (by rw [List.length_set, List.length_map, hLL]; omega)⟩
              have q4 : (wb.setCell ⟨g, an, none⟩ (.bool true)).cell? ⟨g, bn, none⟩ = some y1 := (o1.cellAt bn (by omega)).trans hy1
              have q5 : (wb.setCell ⟨g, an, none⟩ (.bool true)).frozen? ⟨g, bn, none⟩ = false := o1.frozenAt bn
              have o2 := (o1.stored bn (.bool true)).1
              rw [← List.map_set, ← List.map_set, ← HE.out] at o2
              have HO2 := Lib.hid o2
              have hne : g ≠ wr.heap.size := by have := HSZ.out; omega
              have mgd : BX wb wr.heap.size (.int .i8 kd) (.int .i16 (an : Int)) (.int .i16 (bn : Int)) := mg
              have s1 := (mgd.other (k := g) (o := an) hne (.bool true)).c2
              have HB2 := Lib.hid ((HBB.out.setCell (p := ⟨g, an, none⟩) (Nat.le_refl _) (.bool true)).setCell (p := ⟨g, bn, none⟩) (Nat.le_refl _) (.bool true))
              clear mg o1 o2 hy0 hy1 mgd HOB HBB hLL hjn ha0 ha1 hb0 hb1 hne HMB
              go_wp2_with fail
              exact ⟨⟨t + 1, j, rfl, by have := HQ.out; have := HJ.out; omega, HB2, HO2⟩, by simp [intOf]⟩

end Go.Proofs.YtngaelifkhelbaaDoor
