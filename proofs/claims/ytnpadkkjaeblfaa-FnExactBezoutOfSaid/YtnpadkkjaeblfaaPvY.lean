/-
  Division, of the model.
-/
import Derived.Test.YtnpadkkjaeblfaaPvX
namespace Go.Proofs.Ytnpadkkjaeblfaa
set_option linter.unusedVariables false
set_option linter.unusedSimpArgs false
open Go.ChangeShapes Go.WideShapes Go.ChangeAt Go.RowKit

theorem own_put {w : World} {B g n c : Nat} {zs : List Int} (h : w.ownsRow B 41 1 (.slice (some ⟨g, 0, none⟩) n c) n (u16s zs)) (i : Nat) (x : Int) :
    (w.setCell ⟨g, i, none⟩ (.int .u16 x)).ownsRow B 41 1 (.slice (some ⟨g, 0, none⟩) n c) n (u16s (zs.set i x)) := by
  have := (h.stored i (.int .u16 x)).1
  rw [show u16s (zs.set i x) = (u16s zs).set i (.int .u16 x) from by simp [u16s, List.map_set]]
  exact this
theorem own_cell {w : World} {B g n c : Nat} {zs : List Int} (h : w.ownsRow B 41 1 (.slice (some ⟨g, 0, none⟩) n c) n (u16s zs)) (hl : zs.length = n) (i : Nat) (hi : i < n) : w.cell? ⟨g, i, none⟩ = some (.int .u16 (zs.getD i 0)) := by
  rw [h.cellAt i (by omega)]
  simp [u16s, List.getD, show i < zs.length from by omega]
set_option maxHeartbeats 8000000 in
set_option maxRecDepth 100000 in
theorem l05Divide_any (v u : Value) (xs ys : List Int) (hn : xs.length ≤ 1000) (hn2 : ys.length ≤ 1000) (w : World) (h : NC w v xs) (h' : NC w u ys)
    (hta : topP xs) (hn1 : 1 ≤ ys.length) (ht : ys.getD (ys.length - 1) 0 ≠ 0) :
    Calls Try.prog 101 #[v, u] w fun e w' => ∃ q r, e = .returned (.tuple #[q, r]) ∧ PO w' w.heap.size q (pQuo xs ys) ∧ PO w' w.heap.size r (pRem xs ys) ∧ Below w.heap.size w w' := by
  obtain ⟨i0, hi, hz0, hz1, hz2⟩ := info_parts info25
  have HU := Lib.hid h.inU
  have HU' := Lib.hid h'.inU
  have HN := Lib.hid h.ns
  have HN' := Lib.hid h'.ns
  obtain ⟨A, c, rfl, hca⟩ := h.form
  obtain ⟨A', c', rfl, hca'⟩ := h'.form
  clear h h'
  have HTA := Lib.hid hta
  have HT := Lib.hid ht
  have hqt := pQuo_top HU.out HU'.out hta hn1 ht
  have HQT := Lib.hid hqt
  clear hta ht hqt
  have E0 := Lib.hid (World.ownsRow_made w (e := 41) (size := 1) (base := w.heap.size) #[] 0 (Nat.le_refl _) (Nat.zero_le _) rfl)
  have HNa := Lib.hid (HN.out.below ((Below.refl w.heap.size w).alloc (Nat.le_refl _) (.cells #[] 41)))
  by_cases hlt : xs.length < ys.length
  · have T1 : decide ((xs.length : Int) < (ys.length : Int)) = true := by simp; omega
    have T1' : decide (xs.length < ys.length) = true := by simpa using hlt
    have HE1 := Lib.hid (pQuo_short hlt)
    have HE2 := Lib.hid (pRem_short hlt)
    clear hlt
    go_enter Try.func101, Try.ntmps101
    go_wp2_with (at_builtin; refine wpList_append_ns rfl _ _ 25 25 rfl w.heap.size 41 i0 (.int .u16 0) Try.underlying25 Try.underlying25 hi hz0 hz1 hz2 rfl _ 0 _ rfl E0.out _ xs rfl HNa.out (by omega) (by simp) ?_)
    intro s' w1 hown hgrow _
    have HB1 := Lib.hid (((Below.refl w.heap.size w).alloc (Nat.le_refl _) (.cells #[] 41)).grown hgrow (by simp) (by intro k hk; simp [Value.ownBlock] at hk; omega))
    have HO1 : Hid (w1.ownsRow w.heap.size 41 1 s' xs.length (u16s xs)) := Lib.hid (by simpa using hown)
    clear hown hgrow
    go_wp2_with fail
    go_ret2
    exact ⟨_, _, rfl, by rw [HE1.out]; exact PO.nil _ _ _ _ (by first | exact Nat.zero_le _ | simp) (fun e => by first | rfl | cases e), by rw [HE2.out]; exact (PO.of_own HO1.out rfl HU.out).below ((Below.refl _ _).alloc (by simp) _), HB1.out.alloc HB1.out.size _⟩
  · have T1 : decide ((xs.length : Int) < (ys.length : Int)) = false := by simp; omega
    have T1' : decide (xs.length < ys.length) = false := by simpa using hlt
    have HE1 := Lib.hid (pQuo_long hlt)
    have HE2 := Lib.hid (pRem_long hlt)
    obtain ⟨m, hm⟩ : ∃ m, m = quoM xs ys := ⟨_, rfl⟩
    have hmq : xs.length + 1 = m + ys.length := by rw [hm]; unfold quoM; omega
    rw [← hm] at HE1 HE2
    obtain ⟨n, hnn⟩ : ∃ n, n = ys.length := ⟨_, rfl⟩
    have hmi : (xs.length : Int) - (ys.length : Int) + 1 = (m : Int) := by omega
    have hm1 : 1 ≤ m := by omega
    have hm2 : m ≤ 1001 := by omega
    obtain ⟨p, hp⟩ : ∃ p, p = ys.length - 1 := ⟨_, rfl⟩
    have hpi : (ys.length : Int) - 1 = (p : Int) := by omega
    have i1 : (p : Int) < (ys.length : Int) := by omega
    obtain ⟨b2, off2, rfl, hlb2, hcell2⟩ := HN'.out.spot.2 (by omega)
    have q1 := hcell2 p (by omega)
    have rp := HU'.out.at p
    obtain ⟨bl, hbl⟩ : ∃ bl, bl = ys.getD p 0 := ⟨_, rfl⟩
    rw [← hbl] at q1 rp
    have riv := invP_u bl rp.2
    obtain ⟨iv, hiv⟩ : ∃ iv, iv = invP bl := ⟨_, rfl⟩
    rw [← hiv] at riv
    have HIV : Hid (iv = invP (ys.getD (ys.length - 1) 0)) := Lib.hid (by rw [hiv, hbl, hp])
    have HIV2 := Lib.hid hiv
    have HCL2 := Lib.hid hcell2
    have HMQ := Lib.hid hmq
    have rp0 := rp.1
    have rp1 := rp.2
    clear hm hnn hp hbl hcell2 hmq hiv rp hlt
    go_enter Try.func101, Try.ntmps101
    go_wp2_with (at_builtin; refine wpList_append_ns rfl _ _ 25 25 rfl w.heap.size 41 i0 (.int .u16 0) Try.underlying25 Try.underlying25 hi hz0 hz1 hz2 rfl _ 0 _ rfl E0.out _ xs rfl HNa.out (by omega) (by simp) ?_)
    intro s' w1 hown hgrow _
    have HB1 := Lib.hid (((Below.refl w.heap.size w).alloc (Nat.le_refl _) (.cells #[] 41)).grown hgrow (by simp) (by intro k hk; simp [Value.ownBlock] at hk; omega))
    have hO1 : w1.ownsRow w.heap.size 41 1 s' xs.length (u16s xs) := by simpa using hown
    obtain ⟨A1, c1, rfl, hml, hA1⟩ := own_form hO1
    obtain ⟨g1, rfl, hg1, hg1b⟩ := hA1 (by omega)
    have HO1 := Lib.hid hO1
    clear hown hgrow hO1
    go_wp2_with (at_make; refine wpList_make_full _ rfl _ _ 25 rfl w1.heap.size 41 i0 (.int .u16 0) 1 Try.underlying25 hi hz0 hz1 _ _ _ _ m rfl rfl rfl rfl (by rw [hz2]; omega) (by unfold maxLen; omega) (Nat.le_refl _) ?_)
    intro w2 hown hgrow
    have hb2 : Below w1.heap.size w1 w2 := (Below.refl _ w1).grown hgrow (Nat.le_refl _) (fun k hk => by cases hk)
    rw [made_tab] at hown
    have hrq : RW w2 w1.heap.size (tab m (divT xs ys m 0)) := by rw [divT_zero]; exact RW.of_own hown
    have hor : w2.ownsRow w.heap.size 41 1 (.slice (some ⟨g1, 0, none⟩) xs.length c1) xs.length (u16s (tab xs.length (divR xs ys m 0))) := by
      have e : tab xs.length (divR xs ys m 0) = xs := (list_tab xs).symm
      rw [e]
      exact own_below HO1.out hb2
    obtain ⟨g2, hg2⟩ : ∃ g2, g2 = w1.heap.size := ⟨_, rfl⟩
    have HB2 := Lib.hid (bchain HB1.out hb2)
    have hsz2 : g2 < w2.heap.size := by rw [hg2]; exact hrq.lt
    have hg12 : g1 < g2 := by omega
    have hgB : w.heap.size ≤ g2 := by omega
    have hq2 : w2.cell? ⟨b2, off2 + p, none⟩ = some (.int .u16 bl) := (HB2.out.cell (p := ⟨b2, off2 + p, none⟩) hlb2).trans q1
    rw [← hg2] at hrq ⊢
    have HRQ := Lib.hid hrq
    have HOR := Lib.hid hor
    have HSZ0 : Hid (g2 < w2.heap.size) := Lib.hid hsz2
    clear hown hgrow hrq hor hb2 hg2 q1 HO1 HB1 hsz2
    go_wp2_with fail
    refine (linv_v bl rp0 rp1 _).mono ?_
    rintro e w' ⟨rfl, hw⟩
    obtain rfl := hw.symm
    rw [← HIV2.out]
    go_wp2_with fail
    go_loopw [10] (fun y wr => ∃ j : Nat, y = .int .i64 ((m : Int) - 1 - (j : Int)) ∧ j ≤ m ∧ Hid (RW wr g2 (tab m (divT xs ys m j))) ∧ Hid (wr.ownsRow w.heap.size 41 1 (.slice (some ⟨g1, 0, none⟩) xs.length c1) xs.length (u16s (tab xs.length (divR xs ys m j)))) ∧ Hid (Below w.heap.size w wr) ∧ g2 < wr.heap.size) (fun y _ => (intOf y + 1).toNat)
    case atStart => exact ⟨0, by first | rfl | simp, Nat.zero_le _, HRQ, HOR, HB2, HSZ0.out⟩
    case round =>
      clear HRQ HOR HB2 HSZ0 hq2
      obtain ⟨j, rfl, hj, HRQ, HOR, HB, HSZ⟩ := hrel
      by_cases hjm : j < m
      · obtain ⟨k, hk⟩ : ∃ k, k = m - 1 - j := ⟨_, rfl⟩
        have hki : (m : Int) - 1 - (j : Int) = (k : Int) := by omega
        have T2 : decide (0 ≤ (k : Int)) = true := by simp
        obtain ⟨t, htt⟩ : ∃ t, t = k + ys.length - 1 := ⟨_, rfl⟩
        have hti : (k : Int) + (ys.length : Int) - 1 = (t : Int) := by omega
        have htl : t < xs.length := by have := HMQ.out; omega
        have j1 : (t : Int) < (xs.length : Int) := by omega
        have j2 : (k : Int) < (m : Int) := by omega
        have hkm : k + ys.length ≤ xs.length := by have := HMQ.out; omega
        have q1 := own_cell HOR.out (tab_len _ _) t htl
        have rq := divR_u HU.out HU'.out m j t
        have qk := divQ_u HU'.out (divR_u HU.out HU'.out m j) k
        have hqk : divQ ys (divR xs ys m j) k = mulI (divR xs ys m j t) iv := by unfold divQ; rw [htt, HIV.out]
        rw [tab_at _ _ _ htl] at q1
        obtain ⟨x, hx⟩ : ∃ x, x = divR xs ys m j t := ⟨_, rfl⟩
        rw [← hx] at q1 rq hqk
        obtain ⟨qv, hqv⟩ : ∃ qv, qv = mulI x iv := ⟨_, rfl⟩
        rw [← hqv] at hqk
        rw [hqk] at qk
        have hset := HRQ.out.set k qv
        rw [← hqk, hk, divT_next xs ys hjm, ← hk, hqk] at hset
        have hcq := HRQ.out.tabcell k (by omega)
        have hfq := HRQ.out.free k
        have HQV := Lib.hid hqv
        have HQK := Lib.hid hqk
        have HK := Lib.hid hk
        have HNX : Hid ((k : Int) - 1 = (m : Int) - 1 - ((j + 1 : Nat) : Int)) := Lib.hid (by omega)
        have HSETQ := Lib.hid hset
        have HOR3 : Hid ((wr.setCell ⟨g2, k, none⟩ (.int .u16 qv)).ownsRow w.heap.size 41 1 (.slice (some ⟨g1, 0, none⟩) xs.length c1) xs.length (u16s (tab xs.length (divIn ys k qv (divR xs ys m j) 0)))) := Lib.hid (by
          rw [divIn_zero]
          refine HOR.out.kept (Go.Proofs.Ytnpadkkjaeblfaa.grown_put wr g2 k _) (.inr ?_)
          simp [Value.ownBlock]
          omega)
        have HB3 := Lib.hid (HB.out.setCell (p := ⟨g2, k, none⟩) hgB (.int .u16 qv))
        obtain ⟨wq, hwq⟩ : ∃ wq, wq = wr.setCell ⟨g2, k, none⟩ (.int .u16 qv) := ⟨_, rfl⟩
        have hsq : g2 < wq.heap.size := by rw [hwq]; simpa [World.setCell] using HSZ
        rw [← hwq] at HSETQ HOR3 HB3
        rw [hki]
        clear hx hqv hqk hset hki htt HRQ HOR HB hk
        go_wp2_with fail
        refine (ltimes_v x iv rq.1 rq.2 riv.1 riv.2 _).mono ?_
        rintro e w' ⟨rfl, hw⟩
        obtain rfl := hw.symm
        rw [← HQV.out]
        go_wp2_with fail
        rw [← hwq]
        clear hwq q1 hcq hfq
        go_loopw [12] (fun y wr => ∃ i : Nat, y = .int .i64 (i : Int) ∧ i ≤ ys.length ∧ Hid (wr.ownsRow w.heap.size 41 1 (.slice (some ⟨g1, 0, none⟩) xs.length c1) xs.length (u16s (tab xs.length (divIn ys k qv (divR xs ys m j) i)))) ∧ Hid (RW wr g2 (tab m (divT xs ys m (j + 1)))) ∧ Hid (Below w.heap.size w wr) ∧ g2 < wr.heap.size) (fun y _ => ys.length - (intOf y).toNat)
        case atStart => exact ⟨0, rfl, Nat.zero_le _, HOR3, HSETQ, HB3, hsq⟩
        case round =>
          clear HOR3 HSETQ HB3 hsq
          obtain ⟨i, rfl, hil, HOR, HRQ, HB, HSZ⟩ := hrel
          by_cases hin : i < ys.length
          · have i2 : (i : Int) < (ys.length : Int) := by omega
            obtain ⟨nn, hnn⟩ : ∃ nn, nn = k + i := ⟨_, rfl⟩
            have hnl : nn < xs.length := by omega
            have i4 : (nn : Int) < (xs.length : Int) := by omega
            have hwn : IntKind.wrap .i64 ((k : Int) + (i : Int)) = (nn : Int) := by rw [hnn]; exact wrap64 k i (by omega)
            obtain ⟨y, hy⟩ : ∃ y, y = ys.getD i 0 := ⟨_, rfl⟩
            have r2 := HU'.out.at i
            have q2 : wr.drew.cell? ⟨b2, off2 + i, none⟩ = some (.int .u16 (ys.getD i 0)) := (HB.out.cell (p := ⟨b2, off2 + i, none⟩) hlb2).trans (HCL2.out i hin)
            have r3 := divIn_u (k := k) HU'.out qk (divR_u HU.out HU'.out m j) i nn
            have q3 : wr.drew.cell? ⟨g1, nn, none⟩ = some (.int .u16 ((tab xs.length (divIn ys k qv (divR xs ys m j) i)).getD nn 0)) := own_cell HOR.out (tab_len _ _) nn hnl
            have q4 : wr.drew.frozen? ⟨g1, nn, none⟩ = false := HOR.out.frozenAt nn
            have hset := own_put (show wr.drew.ownsRow w.heap.size 41 1 _ _ _ from HOR.out) nn (xorI ((tab xs.length (divIn ys k qv (divR xs ys m j) i)).getD nn 0) (mulI qv (ys.getD i 0)))
            rw [hnn, divIn_next _ _ _ _ _ _ (by omega), ← hnn] at hset
            obtain ⟨s, hs⟩ : ∃ s, s = (tab xs.length (divIn ys k qv (divR xs ys m j) i)).getD nn 0 := ⟨_, rfl⟩
            have r3' : 0 ≤ s ∧ s < 65536 := by rw [hs, tab_at _ _ _ hnl]; exact r3
            rw [← hs] at q3
            rw [← hy] at q2 r2
            rw [← hs, ← hy] at hset
            obtain ⟨r20, r21⟩ := r2
            obtain ⟨r30, r31⟩ := r3'
            have r4 := mulI_u qv y qk.2 r21
            obtain ⟨r40, r41⟩ := r4
            obtain ⟨pr, hpr⟩ : ∃ pr, pr = mulI qv y := ⟨_, rfl⟩
            have hc1 : ∀ u : World, Calls Try.prog 121 #[.int .u16 qv, .int .u16 y] u fun e u' => e = .returned (.int .u16 pr) ∧ u' = u := by rw [hpr]; exact fun u => ltimes_v qv y qk.1 qk.2 r20 r21 u
            have HC1 := Lib.hid hc1
            rw [← hpr] at hset r40 r41
            have hbx := bits_xor s pr r30 r31 r40 r41
            obtain ⟨z, hz⟩ : ∃ z, z = xorI s pr := ⟨_, rfl⟩
            rw [← hz] at hset hbx
            have HSET := Lib.hid hset
            have HB3 := Lib.hid ((drew_b HB.out : Below w.heap.size w wr.drew).setCell (p := ⟨g1, nn, none⟩) hg1 (.int .u16 z))
            have HQR2 : Hid (RW (wr.drew.setCell ⟨g1, nn, none⟩ (.int .u16 z)) g2 (tab m (divT xs ys m (j + 1)))) := Lib.hid ((show RW wr.drew g2 _ from HRQ.out).other (by omega) _)
            have HSZ2 : g2 < wr.drew.heap.size := HSZ
            have hfar2 : ∀ (u : World) (v : Value), (u.setCell ⟨g1, nn, none⟩ v).cell? ⟨b2, off2 + i, none⟩ = u.cell? ⟨b2, off2 + i, none⟩ := fun u v => ((Below.refl g1 u).setCell (p := ⟨g1, nn, none⟩) (Nat.le_refl _) v).cell (p := ⟨b2, off2 + i, none⟩) (by show b2 < g1; omega)
            clear hset hs hy HOR HRQ hz hpr hc1 hnn r3 HSZ HB
            go_wp2_with fail
            refine wp_region_held_drew (S := fun u => u.cell? ⟨b2, off2 + i, none⟩ = some (.int .u16 y)) (by kernel_rfl) ?hS0 (fun hS => ?_)
            case hS0 => exact q2
            generalize wr.drew = wd at q2 q3 q4 HSET HB3 HQR2 HSZ2 hS ⊢
            refine takeH (i := 0) (v := ?v0) rfl rfl (by kernel_rfl) (by kernel_rfl) (by kernel_rfl) (fun _ _ _ h => h) rfl ?hy0 hS ?rs0
            case hy0 => (intro wq hq1; go_simp; try (with_reducible rfl))
            simp only [Act.put, List.setIfInBounds_toArray, List.set_cons_zero, List.set_cons_succ]
            refine takeH (i := 1) (v := ?v1) rfl rfl (by kernel_rfl) (by kernel_rfl) (by kernel_rfl) (fun _ _ _ h => h) rfl ?hy1 hS ?rs1
            case hy1 => (intro wq hq1; go_simp; try (with_reducible rfl))
            simp only [Act.put, List.setIfInBounds_toArray, List.set_cons_zero, List.set_cons_succ]
            refine takeH (i := 2) (v := ?v2) rfl rfl (by kernel_rfl) (by kernel_rfl) (by kernel_rfl) (fun _ _ _ h => h) rfl ?hy2 hS ?rs2
            case hy2 => (intro wq hq1; go_simp; try (with_reducible rfl))
            simp only [Act.put, List.setIfInBounds_toArray, List.set_cons_zero, List.set_cons_succ]
            refine takeH (i := 3) (v := ?v3) rfl rfl (by kernel_rfl) (by kernel_rfl) (by kernel_rfl) (fun _ _ _ h => h) rfl ?hy3 hS ?rs3
            case hy3 => (intro wq hq1; go_simp; try (with_reducible rfl))
            simp only [Act.put, List.setIfInBounds_toArray, List.set_cons_zero, List.set_cons_succ]
            refine takeH (i := 4) (v := ?v4) rfl rfl (by kernel_rfl) (by kernel_rfl) (by kernel_rfl) (fun _ _ _ h => h) rfl ?hy4 hS ?rs4
            case hy4 => (intro wq hq1; go_simp; try (with_reducible rfl))
            simp only [Act.put, List.setIfInBounds_toArray, List.set_cons_zero, List.set_cons_succ]
            refine takeH (i := 5) (v := ?v5) rfl rfl (by kernel_rfl) (by kernel_rfl) (by kernel_rfl) (fun _ _ _ h => h) rfl ?hy5 hS ?rs5
            case hy5 => (intro wq hq1; go_simp; try (with_reducible rfl))
            simp only [Act.put, List.setIfInBounds_toArray, List.set_cons_zero, List.set_cons_succ]
            refine takeH (i := 6) (v := ?v6) rfl rfl (by kernel_rfl) (by kernel_rfl) (by kernel_rfl) (fun _ _ _ h => h) rfl ?hy6 hS ?rs6
            case hy6 => (intro wq hq1; go_simp; try (with_reducible rfl))
            simp only [Act.put, List.setIfInBounds_toArray, List.set_cons_zero, List.set_cons_succ]
            refine takeH (i := 7) (v := ?v7) rfl rfl (by kernel_rfl) (by kernel_rfl) (by kernel_rfl) (fun _ _ _ h => h) rfl ?hy7 hS ?rs7
            case hy7 => (intro wq hq1; go_simp; try (with_reducible rfl))
            simp only [Act.put, List.setIfInBounds_toArray, List.set_cons_zero, List.set_cons_succ]
            refine takeH (i := 8) (v := ?v8) rfl rfl (by kernel_rfl) (by kernel_rfl) (by kernel_rfl) (fun _ _ _ h => h) rfl ?hy8 hS ?rs8
            case hy8 => (intro wq hq1; go_simp; try (with_reducible rfl))
            simp only [Act.put, List.setIfInBounds_toArray, List.set_cons_zero, List.set_cons_succ]
            refine takeH (i := 10) (v := ?v10) rfl rfl (by kernel_rfl) (by kernel_rfl) (by kernel_rfl) (fun _ _ _ h => h) rfl ?hy10 hS ?rs10
            case hy10 => (intro wq hq1; go_simp; try (with_reducible rfl))
            simp only [Act.put, List.setIfInBounds_toArray, List.set_cons_zero, List.set_cons_succ]
            refine takeH (i := 11) (v := ?v11) rfl rfl (by kernel_rfl) (by kernel_rfl) (by kernel_rfl) (fun _ _ _ h => h) rfl ?hy11 hS ?rs11
            case hy11 => (intro wq hq1; go_simp; try (with_reducible rfl))
            simp only [Act.put, List.setIfInBounds_toArray, List.set_cons_zero, List.set_cons_succ]
            refine takeH (i := 12) (v := ?v12) rfl rfl (by kernel_rfl) (by kernel_rfl) (by kernel_rfl) (fun _ _ _ h => h) rfl ?hy12 hS ?rs12
            case hy12 => (intro wq hq1; go_simp; try (with_reducible rfl))
            simp only [Act.put, List.setIfInBounds_toArray, List.set_cons_zero, List.set_cons_succ]
            refine takeH (i := 13) (v := ?v13) rfl rfl (by kernel_rfl) (by kernel_rfl) (by kernel_rfl) (fun _ _ _ h => h) rfl ?hy13 hS ?rs13
            case hy13 => (intro wq hq1; go_simp; try (with_reducible rfl))
            simp only [Act.put, List.setIfInBounds_toArray, List.set_cons_zero, List.set_cons_succ]
            refine takeH (i := 14) (v := ?v14) rfl rfl (by kernel_rfl) (by kernel_rfl) (by kernel_rfl) (fun _ _ _ h => h) rfl ?hy14 hS ?rs14
            case hy14 => (intro wq hq1; go_simp; try (with_reducible rfl))
            simp only [Act.put, List.setIfInBounds_toArray, List.set_cons_zero, List.set_cons_succ]
            refine wpAnyH_ready (rs := [9, 15]) (by kernel_rfl) (by simp) ?_
            refine AllReadyH.cons rfl (fun K hK => ?_) (AllReadyH.cons rfl (fun K hK => ?_) AllReadyH.nil)
            · skip
              go_simp
              refine hK.out _ _ hS (fun hS => ?_)
              clear hK
              try simp only [Act.put, List.setIfInBounds_toArray, List.set_cons_zero, List.set_cons_succ]
              refine wpAnyH_ready (rs := [15]) (by kernel_rfl) (by simp) ?_
              refine AllReadyH.cons rfl (fun K hK => ?_) AllReadyH.nil
              go_simp
              refine (HC1.out _).mono ?_
              rintro e wn ⟨rfl, hw⟩
              obtain rfl := hw.symm
              refine hK.out _ _ hS (fun hS => ?_)
              clear hK
              try simp only [Act.put, List.setIfInBounds_toArray, List.set_cons_zero, List.set_cons_succ]
              refine takeH (i := 16) (v := ?vA16) rfl rfl (by kernel_rfl) (by kernel_rfl) (by kernel_rfl) (fun _ _ _ h => h) rfl ?hyA16 hS ?rsA16
              case hyA16 => (intro wq hq1; go_simp; try (with_reducible rfl))
              simp only [Act.put, List.setIfInBounds_toArray, List.set_cons_zero, List.set_cons_succ]
              refine takeH (i := 17) (v := ?vA17) rfl rfl (by kernel_rfl) (by kernel_rfl) (by kernel_rfl) (fun _ _ _ h => h) rfl ?hyA17 hS ?rsA17
              case hyA17 => (intro wq hq1; go_simp; try (with_reducible rfl))
              simp only [Act.put, List.setIfInBounds_toArray, List.set_cons_zero, List.set_cons_succ]
              refine wpAnyH_ready (rs := [18]) (by kernel_rfl) (by simp) ?_
              refine AllReadyH.cons rfl (fun K hK => ?_) AllReadyH.nil
              go_simp
              refine hK.out _ _ ((hfar2 _ _).trans hS) (fun hS => ?_)
              clear hK
              refine wpAnyH_done (by kernel_rfl) ?_ _
              go_wp2_with fail
              go_roundw
              case rel => exact ⟨i + 1, by go_num, by omega, HSET, HQR2, HB3, by simpa [World.setCell] using HSZ2⟩
              case measure => simp [intOf]; omega
            · skip
              go_simp
              refine (HC1.out _).mono ?_
              rintro e wn ⟨rfl, hw⟩
              obtain rfl := hw.symm
              refine hK.out _ _ hS (fun hS => ?_)
              clear hK
              try simp only [Act.put, List.setIfInBounds_toArray, List.set_cons_zero, List.set_cons_succ]
              refine wpAnyH_ready (rs := [9]) (by kernel_rfl) (by simp) ?_
              refine AllReadyH.cons rfl (fun K hK => ?_) AllReadyH.nil
              go_simp
              refine hK.out _ _ hS (fun hS => ?_)
              clear hK
              try simp only [Act.put, List.setIfInBounds_toArray, List.set_cons_zero, List.set_cons_succ]
              refine takeH (i := 16) (v := ?vB16) rfl rfl (by kernel_rfl) (by kernel_rfl) (by kernel_rfl) (fun _ _ _ h => h) rfl ?hyB16 hS ?rsB16
              case hyB16 => (intro wq hq1; go_simp; try (with_reducible rfl))
              simp only [Act.put, List.setIfInBounds_toArray, List.set_cons_zero, List.set_cons_succ]
              refine takeH (i := 17) (v := ?vB17) rfl rfl (by kernel_rfl) (by kernel_rfl) (by kernel_rfl) (fun _ _ _ h => h) rfl ?hyB17 hS ?rsB17
              case hyB17 => (intro wq hq1; go_simp; try (with_reducible rfl))
              simp only [Act.put, List.setIfInBounds_toArray, List.set_cons_zero, List.set_cons_succ]
              refine wpAnyH_ready (rs := [18]) (by kernel_rfl) (by simp) ?_
              refine AllReadyH.cons rfl (fun K hK => ?_) AllReadyH.nil
              go_simp
              refine hK.out _ _ ((hfar2 _ _).trans hS) (fun hS => ?_)
              clear hK
              refine wpAnyH_done (by kernel_rfl) ?_ _
              go_wp2_with fail
              go_roundw
              case rel => exact ⟨i + 1, by go_num, by omega, HSET, HQR2, HB3, by simpa [World.setCell] using HSZ2⟩
              case measure => simp [intOf]; omega
          · obtain rfl : i = ys.length := by omega
            have HOR2 : Hid (wr.ownsRow w.heap.size 41 1 (.slice (some ⟨g1, 0, none⟩) xs.length c1) xs.length (u16s (tab xs.length (divR xs ys m (j + 1))))) := Lib.hid (by
              have := HOR.out
              rw [show divR xs ys m (j + 1) = divIn ys k qv (divR xs ys m j) ys.length from by rw [← HQK.out, HK.out]; rfl]
              exact this)
            clear HOR
            go_wp2_with fail
            go_roundw
            case rel => exact ⟨j + 1, by rw [← HNX.out], by omega, HRQ, HOR2, HB, HSZ⟩
            case measure => first | (simp [intOf]; done) | (simp [intOf]; omega)
      · obtain rfl : m = j := by omega
        have T2 : decide (0 ≤ (m : Int) - 1 - (m : Int)) = false := by simp; omega
        have hqn := HRQ.out.ns (tab_in fun s _ => divT_u HU.out HU'.out _ _ s) m
        have hid := HQT.out
        rw [HE1.out] at hid
        have hid2 := pTrim_id hid
        have hl1 := pTrim_len (tab m (divT xs ys m m))
        rw [hid2, tab_len] at hl1
        have ht1 := l05Trim_any (some ⟨g2, 0, none⟩) m (tab m (divT xs ys m m)) (by rw [tab_len]; omega) (by rw [tab_len]; exact Nat.le_refl _) wr (by have := hqn; rw [tab_len] at this ⊢; exact this)
        rw [tab_len, hid2, ← hl1] at ht1
        have hpo := PO.of_own HOR.out (tab_len _ _) (tab_in fun s _ => divR_u HU.out HU'.out _ _ s)
        have hc1 : xs.length ≤ c1 := by
          obtain ⟨A9, c9, e9, h9, _⟩ := hpo.form
          rw [tab_len] at e9 h9
          cases e9
          exact h9
        have ht2 : ∀ u, Below wr.heap.size wr u → Calls Try.prog 91 #[.slice (some ⟨g1, 0, none⟩) xs.length c1] u fun e w' => ∃ r, e = .returned r ∧ w'.ownsRow u.heap.size 41 1 r (pRem xs ys).length (u16s (pRem xs ys)) ∧ Below u.heap.size u w' := by
          intro u hu
          have := l05Trim_any (some ⟨g1, 0, none⟩) c1 (tab xs.length (divR xs ys m m)) (by rw [tab_len]; omega) (by rw [tab_len]; exact hc1) u (by have := (hpo.below hu).ns; rw [tab_len]; exact this)
          rw [HE2.out, pTrim_len, tab_len]
          rw [tab_len] at this
          exact this
        have HT1 := Lib.hid ht1
        have HT2 := Lib.hid ht2
        have HPQ : Hid (pQuo xs ys = tab m (divT xs ys m m) ∧ m = (pQuo xs ys).length) := Lib.hid ⟨HE1.out, by rw [HE1.out, tab_len]⟩
        clear ht1 ht2 hqn hid hid2 hl1 hpo hc1 HRQ HOR
        go_wp2_with fail
        refine HT1.out.mono ?_
        rintro e w5 ⟨r5, rfl, ho5, hb5⟩
        have HP5 := Lib.hid ((PO.of_own ho5 (tab_len _ _) (tab_in fun s _ => divT_u HU.out HU'.out _ _ s)).lower (show w.heap.size ≤ wr.heap.size by omega))
        have HB5 := Lib.hid (HB.out.trans (hb5.mono (show w.heap.size ≤ wr.heap.size by omega)))
        have HB5' := Lib.hid hb5
        clear ho5 hb5
        go_wp2_with fail
        refine (HT2.out _ HB5'.out).mono ?_
        rintro e w6 ⟨r6, rfl, ho6, hb6⟩
        have HP6 := Lib.hid ((PO.of_own ho6 rfl (pRem_in HU.out HU'.out)).lower (show w.heap.size ≤ w5.heap.size from HB5.out.size))
        have HP5b := Lib.hid (HP5.out.below hb6)
        have HB6 := Lib.hid (HB5.out.trans (hb6.mono HB5.out.size))
        clear ho6 hb6 HP5
        go_wp2_with fail
        go_ret2
        exact ⟨_, _, rfl, by rw [HPQ.out.1]; exact HP5b.out, HP6.out, HB6.out⟩
end Go.Proofs.Ytnpadkkjaeblfaa
