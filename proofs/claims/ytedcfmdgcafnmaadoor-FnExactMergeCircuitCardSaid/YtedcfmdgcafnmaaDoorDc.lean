/-
  Adding gates, of the model.
-/
import Derived.Test.YtedcfmdgcafnmaaDoorDb
namespace Go.Proofs.YtedcfmdgcafnmaaDoor
set_option linter.unusedVariables false
set_option linter.unusedSimpArgs false
open Go.ChangeShapes Go.WideShapes Go.ChangeAt Go.RowKit Go.Deep
set_option maxHeartbeats 2000000 in
theorem specAdd_any (B gp : Nat) (PT : TypeId) (hP : PT ≠ 67) (kd a b : Int) (gs : List G3) (hl : gs.length < 30000) (w : World) (h : ST B gp PT w gs) :
    Calls Tryd.prog 131 #[.pointer (some ⟨gp, 0, none⟩), .int .i8 kd, .int .i16 a, .int .i16 b] w fun e w' => e = .returned (.int .i16 ((gs.length : Nat) : Int)) ∧ ST B gp PT w' (gs ++ [(kd, a, b)]) ∧ AD B gp PT w w' := by
  have H := Lib.hid h
  obtain ⟨h1, ⟨cur, hc, hp⟩, v, hv, ho⟩ := h
  have HP := Lib.hid hP
  have HV := Lib.hid hv; have HO := Lib.hid ho
  obtain ⟨A, c, rfl, hlen, hA⟩ := own_formu ho
  obtain ⟨i0, hi, hz0, hz1, hz2⟩ := info_parts infoGate
  have HC := Lib.hid hc
  have HNE : Hid (some gp ≠ (Value.slice A gs.length c).ownBlock) := Lib.hid (fun e => by
    obtain ⟨cur', h'⟩ := own_type ho gp e.symm
    rw [hc] at h'
    exact hP (by cases h'; rfl))
  have k1 : (w.alloc (.cells (gc (kd, a, b)).toArray 67)).cell? ⟨gp, 0, none⟩ = some (.slice A gs.length c) := ((nw1 w _).2.1.cell (block_of_cellc hv)).trans hv
  have K1 := Lib.hid k1
  clear hc hp hP h1 hA hlen ho k1
  go_enter Tryd.func131, Tryd.ntmps131
  go_wp2_with (at_builtin; refine wpList_append_own _ rfl _ _ 28 rfl B 67 i0 (.agg #[.int .i8 0, .int .i16 0, .int .i16 0]) 3 6 Tryd.underlying28 hi hz0 hz1 hz2 rfl (by decide) _ gs.length _ rfl (owb HO.out (nw1 w (.cells (gc (kd, a, b)).toArray 67)).2.1) ⟨w.heap.size, 0, none⟩ 1 1 (gc (kd, a, b)) rfl rfl ?c1 ?c2 ?c3 ?c4 ?c5 ?_)
  case c1 => exact (fun j u hu => gate_cells w (kd, a, b) 67 j u hu)
  case c2 => simp [gc, Value.oneCell']
  case c3 => unfold maxLen; omega
  case c4 => omega
  case c5 => rw [World.size_alloc]; have := H.out.lt; have := H.out.1; omega
  intro s' wy hown hgrow _
  have HPUT := Lib.hid (ad_put HP.out H.out HV.out HO.out (nw1 w (.cells (gc (kd, a, b)).toArray 67)).2.1 hgrow hown)
  have hgc : wy.cell? ⟨gp, 0, none⟩ = some (.slice A gs.length c) := hgrow.cell K1.out HNE.out
  have q5 : wy.frozen? ⟨gp, 0, none⟩ = false := by
    have h : wy.heap[gp]? = some (.cells cur PT (0, 0)) := (hgrow.block gp (Nat.lt_of_lt_of_le H.out.lt (nw1 w _).2.1.size) HNE.out).trans (((nw1 w _).2.1.block gp H.out.lt).trans HC.out)
    exact frozen_of_row _ _ _ _ _ h
  obtain ⟨A', c', rfl, _, _⟩ := own_formu hown
  have k2 := HPUT.out.2.2.1
  have hw := i16_small gs.length (by omega)
  have HPT := Lib.hid (And.intro HPUT.out.1 HPUT.out.2.1)
  clear HPUT hown hgrow hv
  go_wp2_with fail
  go_ret
  exact ⟨rfl, HPT.out⟩
theorem AD.drew {B gp : Nat} {PT : TypeId} {a b : World} (h : AD B gp PT a b) : AD B gp PT a b.drew := ⟨h.os, h.tape, h.output, h.size, h.low, h.row, h.off, h.mp⟩
theorem ST.drew {B gp : Nat} {PT : TypeId} {b : World} {gs : List G3} (h : ST B gp PT b gs) : ST B gp PT b.drew gs := h

theorem one_cellD (w : World) (v : Value) (t : TypeId) (j : Nat) (u : Value) (h : [v][j]? = some u) : (w.alloc (.cells #[v] t)).cell? ((⟨w.heap.size, 0, none⟩ : Addr).add j) = some u := one_cellC w v t j u h
set_option maxHeartbeats 4000000 in
set_option maxRecDepth 100000 in
theorem specXor_any (B gp : Nat) (PT : TypeId) (hP : PT ≠ 67) (hP2 : 65 ≠ PT) (v u : Value) (xs ys : List Int) (gs : List G3) (hl : gs.length + xs.length < 20000) (hxy : xs.length = ys.length) (w : World) (h : ST B gp PT w gs) (h1 : TL w v xs) (h2 : TL w u ys) :
    Calls Tryd.prog 83 #[.pointer (some ⟨gp, 0, none⟩), v, u] w fun e w' => ∃ r, e = .returned r ∧ ST B gp PT w' (gs ++ pairG 2 xs ys xs.length) ∧ w'.ownsRow w.heap.size 65 1 r xs.length (i16s (outsL gs.length xs.length)) ∧ AD B gp PT w w' := by
  have H := Lib.hid h; have H1 := Lib.hid h1; have H2 := Lib.hid h2
  have HP := Lib.hid hP; have HP2 := Lib.hid hP2
  obtain ⟨b, off, c, rfl, hcx, hcm⟩ := h1.form
  obtain ⟨b', off', c', rfl, hcx', hcm'⟩ := h2.form
  have HXY := Lib.hid hxy
  obtain ⟨B2, hB2⟩ : ∃ B2, B2 = w.heap.size := ⟨_, rfl⟩
  have HB2 := Lib.hid hB2
  clear h h1 h2 hP hP2 hxy hcx hcx' hcm hcm' hB2
  obtain ⟨i0, hi, hz0, hz1, hz2⟩ := info_parts infoI16
  go_enter Tryd.func83, Tryd.ntmps83
  go_wp2_with fail
  have m1 : (w.alloc (.cells #[] 65)).ownsRow B2 65 1 (.slice (some ⟨w.heap.size, 0, none⟩) 0 0) 0 (i16s (outsL gs.length 0)) := World.ownsRow_made _ #[] 0 (by have := HB2.out; omega) (Nat.zero_le _) rfl
  have m2 : Below w.heap.size w (w.alloc (.cells #[] 65)) := (nw1 w _).2.1
  have HA0 := Lib.hid (AD.of_below (B := B) (gp := gp) (PT := PT) m2 H.out.1 H.out.lt); have HO0 := Lib.hid m1
  have HS0 : Hid (ST B gp PT (w.alloc (.cells #[] 65)) (gs ++ pairG 2 xs ys 0)) := Lib.hid (by simpa [pairG] using H.out.below m2)
  clear m1 m2
  generalize w.alloc (.cells #[] 65) = w1 at HA0 HO0 HS0 ⊢
  go_loopw [8, 7] (fun y ov wr => ∃ k : Nat, y = .int .i64 (k : Int) ∧ k ≤ xs.length ∧ Hid (AD B gp PT w wr) ∧ Hid (ST B gp PT wr (gs ++ pairG 2 xs ys k)) ∧ Hid (wr.ownsRow B2 65 1 ov k (i16s (outsL gs.length k)))) (fun y _ _ => xs.length - (intOf y).toNat)
  case atStart => exact ⟨0, rfl, Nat.zero_le _, HA0, HS0, HO0⟩
  case round =>
    obtain ⟨k, rfl, hk, HA, HS, HO⟩ := hrel
    clear HA0 HS0 HO0
    obtain ⟨AO, cO, rfl, _, _⟩ := own_formu HO.out
    by_cases hlt : k < xs.length
    · obtain ⟨x, hx⟩ : ∃ x, x = xs.getD k 0 := ⟨_, rfl⟩
      obtain ⟨y, hy⟩ : ∃ y, y = ys.getD k 0 := ⟨_, rfl⟩
      have HCX : Hid (∀ W, AD B gp PT w W → W.cell? ⟨b, off + k, none⟩ = some (.int .i16 x) ∧ W.cell? ⟨b', off' + k, none⟩ = some (.int .i16 y)) := Lib.hid (fun W hW => by
        obtain ⟨_, _, _, e, hw1, d1⟩ := (H1.out.ad HP2.out hW).at k hlt
        cases e
        obtain ⟨_, _, _, e, hw2, d2⟩ := (H2.out.ad HP2.out hW).at k (by have := HXY.out; omega)
        cases e
        rw [← hx] at d1; rw [← hy] at d2
        exact ⟨d1, d2⟩)
      obtain ⟨d1, d2⟩ := HCX.out _ HA.out
      have T1 : decide ((k : Int) < (xs.length : Int)) = true := by simp; omega
      have i1 : (k : Int) < (xs.length : Int) := by omega
      have i2 : (k : Int) < (ys.length : Int) := by have := HXY.out; omega
      have HE := Lib.hid (show (gs ++ pairG 2 xs ys k) ++ [(2, x, y)] = gs ++ pairG 2 xs ys (k + 1) from by rw [pairG_succ, hx, hy, List.append_assoc])
      have HLN := Lib.hid (show (gs ++ pairG 2 xs ys k).length = gs.length + k from by rw [List.length_append, pairG_len])
      clear hx hy
      go_upto_region 5 with fail
      refine wp_region_held_drew (S := fun u => u.cell? ⟨b, off + k, none⟩ = some (.int .i16 x) ∧ u.cell? ⟨b', off' + k, none⟩ = some (.int .i16 y)) (by kernel_rfl) ?hS0 (fun hS => ?_)
      case hS0 => exact HCX.out _ HA.out.drew
      have HAD := Lib.hid HA.out.drew
      have HSD : Hid (ST B gp PT wr.drew (gs ++ pairG 2 xs ys k)) := Lib.hid HS.out
      have HOD : Hid (wr.drew.ownsRow B2 65 1 (.slice AO k cO) k (i16s (outsL gs.length k))) := Lib.hid HO.out
      clear HA HS HO d1 d2
      generalize wr.drew = wd at hS HAD HSD HOD ⊢
      refine takeHd (i := 0) (v := ?v0) rfl rfl (by kernel_rfl) (by kernel_rfl) (by kernel_rfl) (fun _ _ _ h => h) rfl ?hy0 hS ?rs0
      case hy0 => (intro wq hq; obtain ⟨hq1, hq2⟩ := hq; go_simp; try (with_reducible rfl))
      simp only [Act.put, List.setIfInBounds_toArray, List.set_cons_zero, List.set_cons_succ]
      refine takeHd (i := 1) (v := ?v1) rfl rfl (by kernel_rfl) (by kernel_rfl) (by kernel_rfl) (fun _ _ _ h => h) rfl ?hy1 hS ?rs1
      case hy1 => (intro wq hq; obtain ⟨hq1, hq2⟩ := hq; go_simp; try (with_reducible rfl))
      simp only [Act.put, List.setIfInBounds_toArray, List.set_cons_zero, List.set_cons_succ]
      refine takeHd (i := 2) (v := ?v2) rfl rfl (by kernel_rfl) (by kernel_rfl) (by kernel_rfl) (fun _ _ _ h => h) rfl ?hy2 hS ?rs2
      case hy2 => (intro wq hq; obtain ⟨hq1, hq2⟩ := hq; go_simp; try (with_reducible rfl))
      simp only [Act.put, List.setIfInBounds_toArray, List.set_cons_zero, List.set_cons_succ]
      refine takeHd (i := 3) (v := ?v3) rfl rfl (by kernel_rfl) (by kernel_rfl) (by kernel_rfl) (fun _ _ _ h => h) rfl ?hy3 hS ?rs3
      case hy3 => (intro wq hq; obtain ⟨hq1, hq2⟩ := hq; go_simp; try (with_reducible rfl))
      simp only [Act.put, List.setIfInBounds_toArray, List.set_cons_zero, List.set_cons_succ]
      refine takeHd (i := 4) (v := ?v4) rfl rfl (by kernel_rfl) (by kernel_rfl) (by kernel_rfl) (fun _ _ _ h => h) rfl ?hy4 hS ?rs4
      case hy4 => (intro wq hq; obtain ⟨hq1, hq2⟩ := hq; go_simp; try (with_reducible rfl))
      simp only [Act.put, List.setIfInBounds_toArray, List.set_cons_zero, List.set_cons_succ]
      refine takeHd (i := 5) (v := ?v5) rfl rfl (by kernel_rfl) (by kernel_rfl) (by kernel_rfl) (fun _ _ _ h => h) rfl ?hy5 hS ?rs5
      case hy5 => (intro wq hq; obtain ⟨hq1, hq2⟩ := hq; go_simp; try (with_reducible rfl))
      simp only [Act.put, List.setIfInBounds_toArray, List.set_cons_zero, List.set_cons_succ]
      refine takeHd (i := 6) (v := ?v6) rfl rfl (by kernel_rfl) (by kernel_rfl) (by kernel_rfl) (fun _ _ _ h => h) rfl ?hy6 hS ?rs6
      case hy6 => (intro wq hq; obtain ⟨hq1, hq2⟩ := hq; go_simp; try (with_reducible rfl))
      simp only [Act.put, List.setIfInBounds_toArray, List.set_cons_zero, List.set_cons_succ]
      refine takeHd (i := 7) (v := ?v7) rfl rfl (by kernel_rfl) (by kernel_rfl) (by kernel_rfl) (fun _ _ _ h => h) rfl ?hy7 hS ?rs7
      case hy7 => (intro wq hq; obtain ⟨hq1, hq2⟩ := hq; go_simp; try (with_reducible rfl))
      simp only [Act.put, List.setIfInBounds_toArray, List.set_cons_zero, List.set_cons_succ]
      refine takeHd (i := 8) (v := ?v8) rfl rfl (by kernel_rfl) (by kernel_rfl) (by kernel_rfl) (fun _ _ _ h => h) rfl ?hy8 hS ?rs8
      case hy8 => (intro wq hq; obtain ⟨hq1, hq2⟩ := hq; go_simp; try (with_reducible rfl))
      simp only [Act.put, List.setIfInBounds_toArray, List.set_cons_zero, List.set_cons_succ]
      refine takeHd (i := 9) (v := ?v9) rfl rfl (by kernel_rfl) (by kernel_rfl) (by kernel_rfl) (fun _ _ _ h => h) rfl ?hy9 hS ?rs9
      case hy9 => (intro wq hq; obtain ⟨hq1, hq2⟩ := hq; go_simp; try (with_reducible rfl))
      simp only [Act.put, List.setIfInBounds_toArray, List.set_cons_zero, List.set_cons_succ]
      refine wpAnyH_ready (rs := [10]) (by kernel_rfl) (by simp) ?_
      refine AllReadyH.cons rfl (fun K hK => ?_) AllReadyH.nil
      go_simp
      refine (specAdd_any B gp PT HP.out 2 x y _ (by rw [HLN.out]; omega) wd HSD.out).mono ?_
      rintro e w2 ⟨rfl, hs2, ha2⟩
      rw [HLN.out] at *
      rw [HE.out] at hs2
      have HO2 := Lib.hid (own_ad gt_i16 HP2.out HOD.out ha2)
      have HA2 := Lib.hid (HAD.out.trans ha2)
      have HS2 := Lib.hid hs2
      clear hs2 ha2 HAD HSD HOD
      refine hK.out _ w2 (HCX.out _ HA2.out) (fun hS => ?_)
      clear hK
      try simp only [Act.put, List.setIfInBounds_toArray, List.set_cons_zero, List.set_cons_succ]
      refine wpAnyH_ready (rs := [11]) (by kernel_rfl) (by simp) ?_
      refine AllReadyH.cons rfl (fun K hK => ?_) AllReadyH.nil
      go_simp
      have HCE := Lib.hid (one_cellD w2 (.int .i16 ((gs.length + k : Nat) : Int)) 65)
      have HOA := Lib.hid (owb HO2.out (nw1 w2 (.cells #[.int .i16 ((gs.length + k : Nat) : Int)] 65)).2.1)
      have HAA := Lib.hid (HA2.out.trans (AD.of_below (nw1 w2 (.cells #[.int .i16 ((gs.length + k : Nat) : Int)] 65)).2.1 H.out.1 HS2.out.lt))
      have HSA := Lib.hid (HS2.out.below (nw1 w2 (.cells #[.int .i16 ((gs.length + k : Nat) : Int)] 65)).2.1)
      refine hK.out _ (w2.alloc (.cells #[.int .i16 ((gs.length + k : Nat) : Int)] 65)) (HCX.out _ HAA.out) (fun hS => ?_)
      clear hK
      obtain ⟨nk, hnk⟩ : ∃ nk, nk = gs.length + k := ⟨_, rfl⟩
      obtain ⟨bd, hbd⟩ : ∃ bd, bd = w2.heap.size := ⟨_, rfl⟩
      rw [← hnk] at HCE HOA HAA HSA hS ⊢
      rw [← hbd] at HCE ⊢
      have HNK := Lib.hid hnk
      clear hnk hbd HO2 HA2 HS2
      generalize w2.alloc (.cells #[.int .i16 ((nk : Nat) : Int)] 65) = wa at hS HCE HOA HAA HSA ⊢
      try simp only [Act.put, List.setIfInBounds_toArray, List.set_cons_zero, List.set_cons_succ]
      refine wpAnyH_ready (rs := [12]) (by kernel_rfl) (by simp) ?_
      refine AllReadyH.cons rfl (fun K hK => ?_) AllReadyH.nil
      simp only [List.getElem_toArray, List.getElem_cons_zero, List.getElem_cons_succ]
      refine wp_append_own _ _ _ 24 rfl B2 65 i0 (.int .i16 0) 1 2 Tryd.underlying24 hi hz0 hz1 hz2 rfl (by decide) _ k _ rfl HOA.out ⟨bd, 0, none⟩ 1 1 [.int .i16 (nk : Int)] rfl rfl ?c1 ?c2 ?c3 ?c4 ?c5 ?_
      case c1 => exact HCE.out
      case c2 => simp [Value.oneCell']
      case c3 => unfold maxLen; omega
      case c4 => omega
      case c5 => have := HAA.out.size; have := HB2.out; omega
      intro s' wy hown hgrow _
      rw [show i16s (outsL gs.length k) ++ [Value.int .i16 (nk : Int)] = i16s (outsL gs.length (k + 1)) from by rw [outsL_succ, HNK.out]; simp] at hown
      have HA3 := Lib.hid (HAA.out.after hgrow (fun z hz => by have := (own_block HOA.out z hz).1; have := HB2.out; omega) H.out.1 H.out.lt)
      have HS3 := Lib.hid (HSA.out.grown HP2.out hgrow (fun z hz => by obtain ⟨cr, h⟩ := own_type HOA.out z hz; exact ⟨cr, _, h⟩))
      have HO3 := Lib.hid hown
      refine hK.out _ wy (HCX.out _ HA3.out) (fun hS => ?_)
      clear hK hown hgrow
      try simp only [Act.put, List.setIfInBounds_toArray, List.set_cons_zero, List.set_cons_succ]
      refine takeHd (i := 13) (v := ?v13) rfl rfl (by kernel_rfl) (by kernel_rfl) (by kernel_rfl) (fun _ _ _ h => h) rfl ?hy13 hS ?rs13
      case hy13 => (intro wq hq; obtain ⟨hq1, hq2⟩ := hq; go_simp; try (with_reducible rfl))
      simp only [Act.put, List.setIfInBounds_toArray, List.set_cons_zero, List.set_cons_succ]
      refine wpAnyH_done (by kernel_rfl) ?_ _
      go_wp2_with fail
      exact ⟨⟨k + 1, by go_num, by omega, HA3, HS3, HO3⟩, by simp [intOf]; omega⟩
    · obtain rfl : k = xs.length := by omega
      have T1 : decide ((xs.length : Int) < (xs.length : Int)) = false := by simp
      go_wp2_with fail
      go_ret
      exact ⟨_, rfl, HS.out, own_low HO.out (Nat.le_of_eq HB2.out.symm), HA.out⟩

end Go.Proofs.YtedcfmdgcafnmaaDoor
