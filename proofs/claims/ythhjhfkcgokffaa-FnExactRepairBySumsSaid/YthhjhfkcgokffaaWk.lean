/-
  RepairBySums: of the model and of the program.
-/
import Derived.Test.YthhjhfkcgokffaaWj
namespace Go.Proofs.Ythhjhfkcgokffaa
set_option linter.unusedVariables false
set_option linter.unusedSimpArgs false
open Go.ChangeShapes Go.WideShapes Go.ChangeAt Go.RowKit

def bz (zs : List Int) : Bool := (saI zs == 0) && (sbI zs zs.length == 0)
def rpA (zs : List Int) : List Int := if bz zs then zs else if 0 ≤ rpK zs then zs.set (rpK zs).toNat (xorI (zs.getD (rpK zs).toNat 0) (saI zs)) else []
def rpI (zs : List Int) : Int := if bz zs then -1 else if 0 ≤ rpK zs then rpK zs else 0
def rpD (zs : List Int) : Int := if bz zs then 0 else if 0 ≤ rpK zs then 0 else 8
def rA (n : Int) (zs : List Int) : List Int := if ckC n zs = 0 then rpA zs else []
def rI (n : Int) (zs : List Int) : Int := if ckC n zs = 0 then rpI zs else 0
def rC (n : Int) (zs : List Int) : Int := if ckC n zs = 0 then rpD zs else ckC n zs
theorem rpA_len (zs : List Int) : (rpA zs).length ≤ zs.length := by
  unfold rpA
  split
  · exact Nat.le_refl _
  · split
    · simp
    · simp
theorem rA_len (n : Int) (zs : List Int) : (rA n zs).length ≤ zs.length := by
  unfold rA
  split
  · exact rpA_len zs
  · simp
theorem r_no {n : Int} {zs : List Int} (h : ¬ ckC n zs = 0) : rA n zs = [] ∧ rI n zs = 0 ∧ rC n zs = ckC n zs := by unfold rA rI rC; rw [if_neg h, if_neg h, if_neg h]; exact ⟨rfl, rfl, rfl⟩
theorem r_zero {n : Int} {zs : List Int} (h : ckC n zs = 0) (h2 : bz zs = true) : rA n zs = zs ∧ rI n zs = -1 ∧ rC n zs = 0 := by unfold rA rI rC rpA rpI rpD; rw [if_pos h, if_pos h, if_pos h, if_pos h2, if_pos h2, if_pos h2]; exact ⟨rfl, rfl, rfl⟩
theorem r_none {n : Int} {zs : List Int} (h : ckC n zs = 0) (h2 : bz zs = false) (h3 : rpK zs = -1) : rA n zs = [] ∧ rI n zs = 0 ∧ rC n zs = 8 := by
  have h4 : ¬ bz zs = true := by rw [h2]; decide
  unfold rA rI rC rpA rpI rpD; rw [if_pos h, if_pos h, if_pos h, if_neg h4, if_neg h4, if_neg h4, h3]; exact ⟨rfl, rfl, rfl⟩
theorem r_some {n : Int} {zs : List Int} (h : ckC n zs = 0) (h2 : bz zs = false) {k : Nat} (h3 : rpK zs = (k : Int)) : rA n zs = zs.set k (xorI (zs.getD k 0) (saI zs)) ∧ rI n zs = (k : Int) ∧ rC n zs = 0 := by
  have h4 : ¬ bz zs = true := by rw [h2]; decide
  have h5 : (0 : Int) ≤ (k : Int) := by omega
  unfold rA rI rC rpA rpI rpD; rw [if_pos h, if_pos h, if_pos h, if_neg h4, if_neg h4, if_neg h4, h3, if_pos h5, if_pos h5, if_pos h5]; exact ⟨rfl, rfl, rfl⟩
theorem rpK_first (zs : List Int) : IsFirst (badW zs) zs.length (rpK zs) := fsI_first _ _
theorem set_in {zs : List Int} (hz : inU zs) (k : Nat) {x : Int} (hx : 0 ≤ x ∧ x < 65536) : inU (zs.set k x) := by
  intro y hy
  rcases List.mem_or_eq_of_mem_set hy with h | h
  · exact hz y h
  · rw [h]; exact hx
theorem u16s_set (zs : List Int) (k : Nat) (x : Int) : (u16s zs).set k (.int .u16 x) = u16s (zs.set k x) := by simp [u16s, List.map_set]
set_option maxHeartbeats 4000000 in
set_option maxRecDepth 100000 in
theorem impl_RepairBySums (v : Value) (zs : List Int) (n : Int) (hn : zs.length ≤ 1048576) (b : -9223372036854775808 ≤ n ∧ n ≤ 9223372036854775807) (w : World) (h : NS w v zs) :
    Calls Try.prog 72 #[.int .i64 n, v] w fun e w' => ∃ r, e = .returned (.tuple #[r, .int .i64 (rI n zs), .int .i64 (rC n zs)]) ∧ PO w' w.heap.size r (rA n zs) ∧ Below w.heap.size w w' := by
  have hG : Try.prog.eqGuardType Try.prog.depth 116 = false := by kernel_rfl
  have hEq := sums_eq
  have HN := Lib.hid h
  have hz := inU_of h
  have HU := Lib.hid hz
  have hO := openChecked_any n v zs hn w h
  obtain ⟨A, c, rfl⟩ := h.form
  obtain ⟨b0, b1⟩ := b
  clear h
  by_cases h0 : ckC n zs = 0
  · have hl7 := (wdB_len (ckC_zero h0).2).2
    have hl1 := (wdB_len (ckC_zero h0).2).1
    rw [h0] at hO
    have HO := Lib.hid hO
    have hl := fun w1 h1 => checkSums_any (.slice A zs.length c) zs (by omega) w1 h1
    have hwi := fun w1 h1 => wrongIndex_any (.slice A zs.length c) zs (by omega) w1 h1
    have hcl := fun w1 h1 => cloneW_any A c zs (by omega) w1 h1
    have hau := saI_u hz
    have hbz : bz zs = ((saI zs == 0) && (sbI zs zs.length == 0)) := rfl
    have hsome := fun k e2 e3 => r_some (n := n) (zs := zs) h0 e2 (k := k) e3
    have hnone := fun e2 e3 => r_none (n := n) (zs := zs) h0 e2 e3
    have hzero := fun e2 => r_zero (n := n) (zs := zs) h0 e2
    have hfirst := rpK_first zs
    obtain ⟨sa, hsa⟩ : ∃ sa, sa = saI zs := ⟨_, rfl⟩
    obtain ⟨sb, hsb⟩ : ∃ sb, sb = sbI zs zs.length := ⟨_, rfl⟩
    obtain ⟨rk, hrk⟩ : ∃ rk, rk = rpK zs := ⟨_, rfl⟩
    rw [← hsa] at hau
    rw [← hsa, ← hsb] at hl hbz
    rw [← hsa] at hsome
    rw [← hrk] at hwi hsome hnone hfirst
    obtain ⟨a0, a1⟩ := hau
    have HL := Lib.hid hl
    have HWI := Lib.hid hwi
    have HCL := Lib.hid hcl
    have HSOME := Lib.hid hsome
    have HNONE := Lib.hid hnone
    have HZERO := Lib.hid hzero
    have HFIRST := Lib.hid hfirst
    obtain ⟨bv, hbv⟩ : ∃ bv, bv = bz zs := ⟨_, rfl⟩
    rw [← hbv] at hbz HSOME HNONE HZERO
    clear hO hl hwi hcl hsome hnone hzero hfirst hsa hsb hrk h0 hbv hz
    cases bv with
    | true =>
      obtain ⟨e1, e2, e3⟩ := HZERO.out rfl
      rw [e1, e2, e3]
      have T1 : ((sa == 0) && (sb == 0)) = true := hbz.symm
      clear e1 e2 e3 HSOME HNONE HZERO HFIRST hbz
      go_enter Try.func72, Try.ntmps72
      go_wp2_with fail
      refine HO.out.mono ?_
      rintro e w1 ⟨bb, rfl, hb⟩
      have HB1 := Lib.hid hb
      clear hb
      go_wp2_with fail
      refine (HL.out _ (HN.out.below HB1.out)).mono ?_
      rintro e w2 ⟨rfl, hb⟩
      have HB2 := Lib.hid (bchain HB1.out hb)
      clear hb
      go_wp2_with fail
      have HB3 := Lib.hid (HB2.out.alloc HB2.out.size (.cells #[.int .u16 sa, .int .u16 sb] 116))
      generalize w2.alloc _ = w3 at HB3 ⊢
      refine (HCL.out _ (HN.out.below HB3.out)).mono ?_
      rintro e w4 ⟨r, rfl, ho, hb⟩
      have HP := Lib.hid ((PO.of_own ho rfl HU.out).lower HB3.out.size)
      have HB4 := Lib.hid (bchain HB3.out hb)
      clear ho hb
      obtain ⟨A1, c1, rfl, _⟩ := HP.out.form
      go_wp2_with fail
      refine bodyPost_ret (v := .tuple #[.slice A1 zs.length c1, .int .i64 (-1), .int .i64 0]) (by simp [results, Try.results72, go_sem]) rfl ⟨_, rfl, HP.out, HB4.out⟩
    | false =>
      have T1 : ((sa == 0) && (sb == 0)) = false := hbz.symm
      clear HZERO hbz
      rcases HFIRST.out with ⟨e3, _⟩ | ⟨k, e3, hk, _, _⟩
      · obtain ⟨f1, f2, f3⟩ := HNONE.out rfl e3
        rw [f1, f2, f3]
        subst e3
        clear f1 f2 f3 HSOME HNONE HFIRST
        go_enter Try.func72, Try.ntmps72
        go_wp2_with fail
        refine HO.out.mono ?_
        rintro e w1 ⟨bb, rfl, hb⟩
        have HB1 := Lib.hid hb
        clear hb
        go_wp2_with fail
        refine (HL.out _ (HN.out.below HB1.out)).mono ?_
        rintro e w2 ⟨rfl, hb⟩
        have HB2 := Lib.hid (bchain HB1.out hb)
        clear hb
        go_wp2_with fail
        have HB3 := Lib.hid (HB2.out.alloc HB2.out.size (.cells #[.int .u16 sa, .int .u16 sb] 116))
        generalize w2.alloc _ = w3 at HB3 ⊢
        refine (HWI.out _ (HN.out.below HB3.out)).mono ?_
        rintro e w4 ⟨rfl, hb⟩
        have HB4 := Lib.hid (bchain HB3.out hb)
        clear hb
        go_wp2_with fail
        refine bodyPost_ret (v := .tuple #[.slice none 0 0, .int .i64 0, .int .i64 8]) (by simp [results, Try.results72, go_sem]) rfl ⟨_, rfl, PO.nil0 _ _, HB4.out⟩
      · obtain ⟨f1, f2, f3⟩ := HSOME.out k rfl e3
        rw [f1, f2, f3]
        subst e3
        have hux := HU.out.at k
        obtain ⟨x, hx⟩ : ∃ x, x = zs.getD k 0 := ⟨_, rfl⟩
        rw [← hx] at hux ⊢
        obtain ⟨x0, x1⟩ := hux
        have hpl := fun u => plus_v x sa x0 x1 a0 a1 u
        have hyu := xorI_u x sa x1 a1
        obtain ⟨y, hy⟩ : ∃ y, y = xorI x sa := ⟨_, rfl⟩
        rw [← hy] at hpl hyu ⊢
        have HPL := Lib.hid hpl
        have HX := Lib.hid hx
        have HYU := Lib.hid hyu
        have hkn : ¬ ((k : Int) < 0) := by omega
        have T2 : decide ((k : Int) < 0) = false := by simp
        clear f1 f2 f3 HSOME HNONE HFIRST hpl hx hy hyu hkn
        go_enter Try.func72, Try.ntmps72
        go_wp2_with fail
        refine HO.out.mono ?_
        rintro e w1 ⟨bb, rfl, hb⟩
        have HB1 := Lib.hid hb
        clear hb
        go_wp2_with fail
        refine (HL.out _ (HN.out.below HB1.out)).mono ?_
        rintro e w2 ⟨rfl, hb⟩
        have HB2 := Lib.hid (bchain HB1.out hb)
        clear hb
        go_wp2_with fail
        have HB3 := Lib.hid (HB2.out.alloc HB2.out.size (.cells #[.int .u16 sa, .int .u16 sb] 116))
        have hs3 : (w2.alloc (.cells #[.int .u16 sa, .int .u16 sb] 116)).cell? ⟨w2.heap.size, 0, none⟩ = some (.int .u16 sa) := cell_of_row _ _ _ _ _ _ (heap_alloc_new w2 _)
        have hl3 : w2.heap.size < (w2.alloc (.cells #[.int .u16 sa, .int .u16 sb] 116)).heap.size := by simp
        obtain ⟨gs, hgs⟩ : ∃ gs, gs = w2.heap.size := ⟨_, rfl⟩
        rw [← hgs] at hs3 hl3 ⊢
        clear hgs
        generalize w2.alloc _ = w3 at HB3 hs3 hl3 ⊢
        refine (HWI.out _ (HN.out.below HB3.out)).mono ?_
        rintro e w4 ⟨rfl, hb⟩
        have HB4 := Lib.hid (bchain HB3.out hb)
        have hs4 := (hb.cell (p := ⟨gs, 0, none⟩) hl3).trans hs3
        have hl4 := Nat.lt_of_lt_of_le hl3 hb.size
        clear hb hs3 hl3
        go_wp2_with fail
        refine (HCL.out _ (HN.out.below HB4.out)).mono ?_
        rintro e w5 ⟨r, rfl, ho, hb⟩
        have HB5 := Lib.hid (bchain HB4.out hb)
        have hs5 := (hb.cell (p := ⟨gs, 0, none⟩) hl4).trans hs4
        have hsz4 := HB4.out.size
        obtain ⟨A1, c1, rfl, _, hA1⟩ := own_form ho
        obtain ⟨g, rfl, hg1, hg2⟩ := hA1 (by omega)
        have q1 : w5.cell? ⟨g, k, none⟩ = some (.int .u16 x) := by
          rw [ho.cellAt k (by omega), HX.out]
          simp [u16s, List.getD, hk]
        have q2 : w5.frozen? ⟨g, k, none⟩ = false := ho.frozenAt k
        have hne : g ≠ gs := by omega
        have i1 : (k : Int) < (zs.length : Int) := by omega
        have HO5 := Lib.hid ho
        have HS4 := Lib.hid hsz4
        have HG1 := Lib.hid hg1
        clear hb hs4 hl4 ho hsz4 hg1
        go_wp2_with fail
        refine wp_region_held_drew (S := fun u => u.cell? ⟨gs, 0, none⟩ = some (.int .u16 sa)) (by kernel_rfl) ?hS0 (fun hS => ?_)
        case hS0 => exact hs5
        have q1' : w5.drew.cell? ⟨g, k, none⟩ = some (.int .u16 x) := q1
        have q2' : w5.drew.frozen? ⟨g, k, none⟩ = false := q2
        have HO6 : Hid (w5.drew.ownsRow w4.heap.size 39 1 (.slice (some ⟨g, 0, none⟩) zs.length c1) zs.length (u16s zs)) := Lib.hid (show w5.drew.ownsRow w4.heap.size 39 1 (.slice (some ⟨g, 0, none⟩) zs.length c1) zs.length (u16s zs) from HO5.out)
        have HB6 := Lib.hid (drew_b HB5.out)
        clear q1 q2 HO5 HB5 hs5
        generalize w5.drew = wd at hS q1' q2' HO6 HB6 ⊢
        refine takeH (i := 0) (v := ?v0) rfl rfl (by kernel_rfl) (by kernel_rfl) (by kernel_rfl) (fun _ _ _ h => h) rfl ?hy0 hS ?rs0
        case hy0 => (intro wq hq; go_simp; try (with_reducible rfl))
        simp only [Act.put, List.setIfInBounds_toArray, List.set_cons_zero, List.set_cons_succ]
        refine takeH (i := 1) (v := ?v1) rfl rfl (by kernel_rfl) (by kernel_rfl) (by kernel_rfl) (fun _ _ _ h => h) rfl ?hy1 hS ?rs1
        case hy1 => (intro wq hq; go_simp; try (with_reducible rfl))
        simp only [Act.put, List.setIfInBounds_toArray, List.set_cons_zero, List.set_cons_succ]
        refine takeH (i := 2) (v := ?v2) rfl rfl (by kernel_rfl) (by kernel_rfl) (by kernel_rfl) (fun _ _ _ h => h) rfl ?hy2 hS ?rs2
        case hy2 => (intro wq hq; go_simp; try (with_reducible rfl))
        simp only [Act.put, List.setIfInBounds_toArray, List.set_cons_zero, List.set_cons_succ]
        refine takeH (i := 3) (v := ?v3) rfl rfl (by kernel_rfl) (by kernel_rfl) (by kernel_rfl) (fun _ _ _ h => h) rfl ?hy3 hS ?rs3
        case hy3 => (intro wq hq; go_simp; try (with_reducible rfl))
        simp only [Act.put, List.setIfInBounds_toArray, List.set_cons_zero, List.set_cons_succ]
        refine takeH (i := 4) (v := ?v4) rfl rfl (by kernel_rfl) (by kernel_rfl) (by kernel_rfl) (fun _ _ _ h => h) rfl ?hy4 hS ?rs4
        case hy4 => (intro wq hq; go_simp; try (with_reducible rfl))
        simp only [Act.put, List.setIfInBounds_toArray, List.set_cons_zero, List.set_cons_succ]
        refine takeH (i := 6) (v := ?v6) rfl rfl (by kernel_rfl) (by kernel_rfl) (by kernel_rfl) (fun _ _ _ h => h) rfl ?hy6 hS ?rs6
        case hy6 => (intro wq hq; go_simp; try (with_reducible rfl))
        simp only [Act.put, List.setIfInBounds_toArray, List.set_cons_zero, List.set_cons_succ]
        refine takeH (i := 7) (v := ?v7) rfl rfl (by kernel_rfl) (by kernel_rfl) (by kernel_rfl) (fun _ _ _ h => h) rfl ?hy7 hS ?rs7
        case hy7 => (intro wq hq; go_simp; try (with_reducible rfl))
        simp only [Act.put, List.setIfInBounds_toArray, List.set_cons_zero, List.set_cons_succ]
        refine wpAnyH_ready (rs := [5]) (by kernel_rfl) (by simp) ?_
        refine AllReadyH.cons rfl (fun K hK => ?_) AllReadyH.nil
        go_simp
        refine hK.out _ _ hS (fun hS => ?_)
        clear hK
        try simp only [Act.put, List.setIfInBounds_toArray, List.set_cons_zero, List.set_cons_succ]
        refine wpAnyH_ready (rs := [8]) (by kernel_rfl) (by simp) ?_
        refine AllReadyH.cons rfl (fun K hK => ?_) AllReadyH.nil
        go_simp
        refine (HPL.out _).mono ?_
        rintro e wn ⟨rfl, hw⟩
        obtain rfl := hw.symm
        refine hK.out _ _ hS (fun hS => ?_)
        clear hK
        try simp only [Act.put, List.setIfInBounds_toArray, List.set_cons_zero, List.set_cons_succ]
        refine takeH (i := 9) (v := ?v9) rfl rfl (by kernel_rfl) (by kernel_rfl) (by kernel_rfl) (fun _ _ _ h => h) rfl ?hy9 hS ?rs9
        case hy9 => (intro wq hq; go_simp; try (with_reducible rfl))
        simp only [Act.put, List.setIfInBounds_toArray, List.set_cons_zero, List.set_cons_succ]
        refine wpAnyH_ready (rs := [10]) (by kernel_rfl) (by simp) ?_
        refine AllReadyH.cons rfl (fun K hK => ?_) AllReadyH.nil
        go_simp
        refine hK.out _ _ ((World.cell?_setCell_far _ _ _ _ (by simp; intro e; exact absurd e hne)).trans hS) (fun hS => ?_)
        clear hK
        refine wpAnyH_done (by kernel_rfl) ?_ _
        go_wp2_with fail
        have hst := (HO6.out.stored k (.int .u16 y)).1
        rw [u16s_set] at hst
        have HP := Lib.hid ((PO.of_own hst (by simp) (set_in HU.out k HYU.out)).lower (Nat.le_trans HB4.out.size (Nat.le_refl _)))
        have HBE := Lib.hid (HB6.out.setCell (p := ⟨g, k, none⟩) (by have := HS4.out; have := HG1.out; show w.heap.size ≤ g; omega) (.int .u16 y))
        refine bodyPost_ret (v := .tuple #[.slice (some ⟨g, 0, none⟩) zs.length c1, .int .i64 (k : Int), .int .i64 0]) (by simp [results, Try.results72, go_sem]) rfl ⟨_, rfl, HP.out, HBE.out⟩
  · obtain ⟨e1, e2, e3⟩ := r_no h0
    rw [e1, e2, e3]
    obtain ⟨cd, hcd⟩ : ∃ cd, cd = ckC n zs := ⟨_, rfl⟩
    rw [← hcd] at hO h0 ⊢
    have T1 : (cd != 0) = true := by rw [bne_iff_ne]; exact h0
    have HO := Lib.hid hO
    clear hO h0 e1 e2 e3 hcd hz
    go_enter Try.func72, Try.ntmps72
    go_wp2_with fail
    refine HO.out.mono ?_
    rintro e w1 ⟨bb, rfl, hb⟩
    have HB1 := Lib.hid hb
    clear hb
    go_wp2_with fail
    refine bodyPost_ret (v := .tuple #[.slice none 0 0, .int .i64 0, .int .i64 cd]) (by simp [results, Try.results72, go_sem]) rfl ⟨_, rfl, PO.nil0 _ _, HB1.out⟩
theorem badW_zero {zs : List Int} (h : saI zs = 0) (i : Nat) : badW zs i = false := by unfold badW; rw [h]; rfl
theorem badW_val {zs : List Int} (h : ¬ saI zs = 0) (i : Nat) : badW zs i = (mulI ((i : Int) + 1) (saI zs) == sbI zs zs.length) := by
  unfold badW
  have : (saI zs != 0) = true := by rw [bne_iff_ne]; exact h
  rw [this]; rfl
set_option maxHeartbeats 4000000 in
set_option maxRecDepth 100000 in
theorem spec_RepairBySums (v : Value) (zs : List Int) (n : Int) (hn : zs.length ≤ 1048576) (b : -9223372036854775808 ≤ n ∧ n ≤ 9223372036854775807) (w : World) (h : NS w v zs) :
    Calls Try.prog 71 #[.int .i64 n, v] w fun e w' => ∃ r, e = .returned (.tuple #[r, .int .i64 (rI n zs), .int .i64 (rC n zs)]) ∧ PO w' w.heap.size r (rA n zs) ∧ Below w.heap.size w w' := by
  obtain ⟨i0, hi, hz0, hz1, hz2⟩ := info_parts info25
  have E0 := Lib.hid (World.ownsRow_made w (e := 39) (size := 1) (base := w.heap.size) #[] 0 (Nat.le_refl _) (Nat.zero_le _) rfl)
  have HS := Lib.hid (h.below ((Below.refl _ w).alloc (Nat.le_refl _) (.cells #[] 39)))
  have HN := Lib.hid h
  have hz := inU_of h
  have HU := Lib.hid hz
  obtain ⟨b0, b1⟩ := b
  have hO := l06Checked_any n b0 b1 v zs hn w h
  obtain ⟨A, c, rfl⟩ := h.form
  clear h
  by_cases h0 : ckC n zs = 0
  · have hl7 := (wdB_len (ckC_zero h0).2).2
    have hl1 := (wdB_len (ckC_zero h0).2).1
    rw [h0] at hO
    have HO := Lib.hid hO
    have hl := l06Sums_any (.slice A zs.length c) zs (by omega) w HN.out
    have hau := saI_u hz
    have hbz : bz zs = ((saI zs == 0) && (sbI zs zs.length == 0)) := rfl
    have hsome := fun k e2 e3 => r_some (n := n) (zs := zs) h0 e2 (k := k) e3
    have hnone := fun e2 e3 => r_none (n := n) (zs := zs) h0 e2 e3
    have hzero := fun e2 => r_zero (n := n) (zs := zs) h0 e2
    have hfirst := rpK_first zs
    have hbad0 := fun (h : saI zs = 0) i => badW_zero h i
    have hbad1 := fun (h : ¬ saI zs = 0) i => badW_val h i
    obtain ⟨sa, hsa⟩ : ∃ sa, sa = saI zs := ⟨_, rfl⟩
    obtain ⟨sb, hsb⟩ : ∃ sb, sb = sbI zs zs.length := ⟨_, rfl⟩
    obtain ⟨rk, hrk⟩ : ∃ rk, rk = rpK zs := ⟨_, rfl⟩
    rw [← hsa] at hau
    rw [← hsa, ← hsb] at hl hbz hbad1
    rw [← hsa] at hsome hbad0
    rw [← hrk] at hsome hnone hfirst
    obtain ⟨a0, a1⟩ := hau
    have HL := Lib.hid hl
    have HSOME := Lib.hid hsome
    have HNONE := Lib.hid hnone
    have HZERO := Lib.hid hzero
    have HFIRST := Lib.hid hfirst
    have HBAD0 := Lib.hid hbad0
    have HBAD1 := Lib.hid hbad1
    obtain ⟨bv, hbv⟩ : ∃ bv, bv = bz zs := ⟨_, rfl⟩
    rw [← hbv] at hbz HSOME HNONE HZERO
    clear hO hl hsome hnone hzero hfirst hsa hsb hrk h0 hbv hz hbad0 hbad1
    cases bv with
    | true =>
      obtain ⟨e1, e2, e3⟩ := HZERO.out rfl
      rw [e1, e2, e3]
      have hh := hbz.symm
      rw [Bool.and_eq_true, beq_iff_eq, beq_iff_eq] at hh
      obtain ⟨hh1, hh2⟩ := hh
      subst hh1
      subst hh2
      clear e1 e2 e3 HSOME HNONE HZERO HFIRST hbz HBAD0 HBAD1
      go_enter Try.func71, Try.ntmps71
      go_wp2_with fail
      refine HO.out.mono ?_
      rintro e w' ⟨rfl, rfl⟩
      go_wp2_with fail
      refine HL.out.mono ?_
      rintro e w' ⟨rfl, rfl⟩
      go_wp2_with (at_builtin; refine wpList_append_ns rfl _ _ 25 25 rfl w.heap.size 39 i0 (.int .u16 0) Try.underlying25 Try.underlying25 hi hz0 hz1 hz2 rfl _ 0 _ rfl E0.out _ zs rfl HS.out (by omega) (by simp) ?_)
      intro s' wy hown hgrow _
      have HP := Lib.hid (PO.of_own (by simpa using hown) rfl HU.out : PO wy w.heap.size s' zs)
      have HBE : Hid (Below w.heap.size w wy) := Lib.hid (((Below.refl _ w).alloc (Nat.le_refl _) _).grown hgrow (by simp) (by intro k hk; simp [Value.ownBlock] at hk; omega))
      obtain ⟨A1, c1, rfl, _⟩ := HP.out.form
      clear hown hgrow
      go_wp2_with fail
      refine bodyPost_ret (v := .tuple #[.slice A1 zs.length c1, .int .i64 (-1), .int .i64 0]) (by simp [results, Try.results71, go_sem]) rfl ⟨_, rfl, HP.out, HBE.out⟩
    | false =>
      have T0 : ((sa == 0) && (sb == 0)) = false := hbz.symm
      have HT0 : Hid ((sa == 0) = true → (sb == 0) = false) := Lib.hid (fun e => by rw [e] at T0; simpa using T0)
      clear HZERO hbz T0
      by_cases hsa0 : sa = 0
      · have T1 : (sb == 0) = false := HT0.out (by rw [hsa0]; rfl)
        have e3 : rk = -1 := HFIRST.out.unique (.inl ⟨rfl, fun i _ => HBAD0.out hsa0 i⟩)
        obtain ⟨f1, f2, f3⟩ := HNONE.out rfl e3
        rw [f1, f2, f3]
        subst hsa0
        subst e3
        clear f1 f2 f3 HSOME HNONE HFIRST HBAD0 HBAD1 HT0
        go_enter Try.func71, Try.ntmps71
        go_wp2_with fail
        refine HO.out.mono ?_
        rintro e w' ⟨rfl, rfl⟩
        go_wp2_with fail
        refine HL.out.mono ?_
        rintro e w' ⟨rfl, rfl⟩
        go_wp2_with (at_builtin; refine wpList_append_ns rfl _ _ 25 25 rfl w.heap.size 39 i0 (.int .u16 0) Try.underlying25 Try.underlying25 hi hz0 hz1 hz2 rfl _ 0 _ rfl E0.out _ zs rfl HS.out (by omega) (by simp) ?_)
        intro s' wy hown hgrow _
        have HBE : Hid (Below w.heap.size w wy) := Lib.hid (((Below.refl _ w).alloc (Nat.le_refl _) _).grown hgrow (by simp) (by intro k hk; simp [Value.ownBlock] at hk; omega))
        clear hown hgrow
        go_wp2_with fail
        go_loopw [11] (fun y wr => y = .int .i64 0 ∧ wy = wr) (fun y _ => 0)
        case atStart => exact ⟨rfl, rfl⟩
        case round =>
          obtain ⟨rfl, rfl⟩ := hrel
          have T3 : decide ((0 : Int) < (zs.length : Int)) = true := by simp; omega
          go_wp2_with fail
          refine bodyPost_ret (v := .tuple #[.slice (some ⟨wy.heap.size, 0, none⟩) 0 0, .int .i64 0, .int .i64 8]) (by simp [results, Try.results71, go_sem]) rfl ⟨_, rfl, PO.nil _ _ _ _ (Nat.zero_le _) (fun e => by cases e), HBE.out.alloc HBE.out.size _⟩
      · have T1 : (sa == 0) = false := beq_eq_false_iff_ne.2 hsa0
        have T2 : (sa != 0) = true := by rw [bne_iff_ne]; exact hsa0
        have HBV := Lib.hid (HBAD1.out hsa0)
        clear HBAD0 HBAD1 HT0 hsa0
        obtain ⟨vA, hvA⟩ : ∃ vA, vA = rA n zs := ⟨_, rfl⟩
        obtain ⟨vI, hvI⟩ : ∃ vI, vI = rI n zs := ⟨_, rfl⟩
        obtain ⟨vC, hvC⟩ : ∃ vC, vC = rC n zs := ⟨_, rfl⟩
        rw [← hvA, ← hvI, ← hvC]
        rw [← hvA, ← hvI, ← hvC] at HSOME HNONE
        clear hvA hvI hvC
        go_enter Try.func71, Try.ntmps71
        go_wp2_with fail
        refine HO.out.mono ?_
        rintro e w' ⟨rfl, rfl⟩
        go_wp2_with fail
        refine HL.out.mono ?_
        rintro e w' ⟨rfl, rfl⟩
        go_wp2_with (at_builtin; refine wpList_append_ns rfl _ _ 25 25 rfl w.heap.size 39 i0 (.int .u16 0) Try.underlying25 Try.underlying25 hi hz0 hz1 hz2 rfl _ 0 _ rfl E0.out _ zs rfl HS.out (by omega) (by simp) ?_)
        intro s' wy hown hgrow _
        have ho : wy.ownsRow w.heap.size 39 1 s' zs.length (u16s zs) := by simpa using hown
        have HBE : Hid (Below w.heap.size w wy) := Lib.hid (((Below.refl _ w).alloc (Nat.le_refl _) _).grown hgrow (by simp) (by intro k hk; simp [Value.ownBlock] at hk; omega))
        obtain ⟨A1, c1, rfl, _, hA1⟩ := own_form ho
        obtain ⟨g, rfl, hg1, hg2⟩ := hA1 (by omega)
        have HO5 := Lib.hid ho
        have HG1 := Lib.hid hg1
        clear hown hgrow ho hg1
        go_wp2_with fail
        go_loopw [11] (fun y wr => ∃ k : Nat, y = .int .i64 (k : Int) ∧ k ≤ zs.length ∧ Hid (∀ i, i < k → badW zs i = false) ∧ wy = wr) (fun y _ => zs.length - (intOf y).toNat)
        case atStart => exact ⟨0, rfl, Nat.zero_le _, Lib.hid (fun i hi => absurd hi (by omega)), rfl⟩
        case round =>
          obtain ⟨k, rfl, hk, HK, rfl⟩ := hrel
          by_cases hlt : k < zs.length
          · have i1 : (k : Int) < (zs.length : Int) := by omega
            have hlt2 := fun u => ltimes_v ((k : Int) + 1) sa (by omega) (by omega) a0 a1 u
            have hbv := HBV.out k
            obtain ⟨p, hp⟩ : ∃ p, p = mulI ((k : Int) + 1) sa := ⟨_, rfl⟩
            rw [← hp] at hlt2 hbv
            have HLT := Lib.hid hlt2
            clear hlt2 hp
            by_cases hps : p = sb
            · have hb1 : badW zs k = true := by rw [hbv, hps]; simp
              have e3 : rk = (k : Int) := HFIRST.out.unique (.inr ⟨k, rfl, hlt, hb1, HK.out⟩)
              obtain ⟨f1, f2, f3⟩ := HSOME.out k (by first | rfl | trivial) e3
              subst hps
              have T3 : (p == p) = true := by simp
              have hux := HU.out.at k
              obtain ⟨x, hx⟩ : ∃ x, x = zs.getD k 0 := ⟨_, rfl⟩
              rw [← hx] at hux f1
              obtain ⟨x0, x1⟩ := hux
              have hbx := bits_xor x sa x0 x1 a0 a1
              have hyu := xorI_u x sa x1 a1
              obtain ⟨y, hy⟩ : ∃ y, y = xorI x sa := ⟨_, rfl⟩
              rw [← hy] at hbx hyu f1
              have F1 := Lib.hid f1
              have F2 := Lib.hid f2
              have F3 := Lib.hid f3
              have HYU := Lib.hid hyu
              have q1 : wy.cell? ⟨g, k, none⟩ = some (.int .u16 x) := by
                rw [HO5.out.cellAt k (by omega), hx]
                simp [u16s, List.getD, hlt]
              have q2 : wy.frozen? ⟨g, k, none⟩ = false := HO5.out.frozenAt k
              clear f1 f2 f3 HSOME HNONE HFIRST hx hy hyu hb1 hbv e3
              go_wp2_with fail
              refine (HLT.out _).mono ?_
              rintro e w' ⟨rfl, hw⟩
              obtain rfl := hw.symm
              go_wp2_with fail
              have hst := (HO5.out.stored k (.int .u16 y)).1
              rw [u16s_set] at hst
              have HP := Lib.hid (PO.of_own hst (by simp) (set_in HU.out k HYU.out))
              have HBF := Lib.hid (HBE.out.setCell (p := ⟨g, k, none⟩) (by have := HG1.out; show w.heap.size ≤ g; omega) (.int .u16 y))
              refine bodyPost_ret (v := .tuple #[.slice (some ⟨g, 0, none⟩) zs.length c1, .int .i64 (k : Int), .int .i64 0]) (by simp [results, Try.results71, go_sem]) rfl ⟨_, by rw [F2.out, F3.out], by rw [F1.out]; exact HP.out, HBF.out⟩
            · have T3 : (p == sb) = false := beq_eq_false_iff_ne.2 hps
              have HB1 : Hid (badW zs k = false) := Lib.hid (by rw [hbv]; exact T3)
              clear hbv hps
              go_wp2_with fail
              refine (HLT.out _).mono ?_
              rintro e w' ⟨rfl, hw⟩
              obtain rfl := hw.symm
              go_wp2_with fail
              exact ⟨⟨k + 1, by go_num, by omega, Lib.hid (fun i hi => by
                by_cases e : i = k
                · rw [e]; exact HB1.out
                · exact HK.out i (by omega)), (by first | exact rfl | trivial)⟩, by simp [intOf]; omega⟩
          · obtain rfl : k = zs.length := by omega
            have T3 : decide ((zs.length : Int) < (zs.length : Int)) = false := by simp
            have e3 : rk = -1 := HFIRST.out.unique (.inl ⟨rfl, HK.out⟩)
            obtain ⟨f1, f2, f3⟩ := HNONE.out (by first | rfl | trivial) e3
            have F1 := Lib.hid f1
            have F2 := Lib.hid f2
            have F3 := Lib.hid f3
            clear f1 f2 f3 HSOME HNONE HFIRST e3
            go_wp2_with fail
            refine bodyPost_ret (v := .tuple #[.slice (some ⟨wy.heap.size, 0, none⟩) 0 0, .int .i64 0, .int .i64 8]) (by simp [results, Try.results71, go_sem]) rfl ⟨_, by rw [F2.out, F3.out], by rw [F1.out]; exact PO.nil _ _ _ _ (Nat.zero_le _) (fun e => by cases e), HBE.out.alloc HBE.out.size _⟩
  · obtain ⟨e1, e2, e3⟩ := r_no h0
    rw [e1, e2, e3]
    obtain ⟨cd, hcd⟩ : ∃ cd, cd = ckC n zs := ⟨_, rfl⟩
    rw [← hcd] at hO h0 ⊢
    have T1 : (cd != 0) = true := by rw [bne_iff_ne]; exact h0
    have HO := Lib.hid hO
    clear hO h0 e1 e2 e3 hcd hz
    go_enter Try.func71, Try.ntmps71
    go_wp2_with fail
    refine HO.out.mono ?_
    rintro e w' ⟨rfl, rfl⟩
    go_wp2_with fail
    refine bodyPost_ret (v := .tuple #[.slice (some ⟨w.heap.size, 0, none⟩) 0 0, .int .i64 0, .int .i64 cd]) (by simp [results, Try.results71, go_sem]) rfl ⟨_, rfl, PO.nil _ _ _ _ (Nat.zero_le _) (fun e => by cases e), (Below.refl _ _).alloc (Nat.le_refl _) _⟩
end Go.Proofs.Ythhjhfkcgokffaa
