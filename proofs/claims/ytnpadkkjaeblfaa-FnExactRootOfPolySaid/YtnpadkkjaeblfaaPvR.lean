/-
  RootOfPoly: of the model and of the program.
-/
import Derived.Test.YtnpadkkjaeblfaaPvL
namespace Go.Proofs.Ytnpadkkjaeblfaa
set_option linter.unusedVariables false
set_option linter.unusedSimpArgs false
open Go.ChangeShapes Go.WideShapes Go.ChangeAt Go.RowKit

def rootF (zs : List Int) : Nat → Int := fun j => rootP (zs.getD (2 * j) 0)
theorem rootF_u {zs : List Int} (h : inU zs) (j : Nat) : 0 ≤ rootF zs j ∧ rootF zs j < 65536 := rootP_u _ (h.at _).2
def oddB (zs : List Int) : Bool := (List.range zs.length).all fun i => decide (i % 2 = 0) || decide (zs.getD i 0 = 0)
theorem oddB_no {zs : List Int} {i : Nat} (h : i < zs.length) (ho : i % 2 = 1) (hx : ¬ zs.getD i 0 = 0) : oddB zs = false := by
  unfold oddB
  rw [List.all_eq_false]
  exact ⟨i, List.mem_range.2 h, by simp [ho]; simpa using hx⟩
theorem oddB_yes {zs : List Int} (h : ∀ i, i < zs.length → i % 2 = 1 → zs.getD i 0 = 0) : oddB zs = true := by
  unfold oddB
  rw [List.all_eq_true]
  intro i hi
  by_cases e : i % 2 = 0
  · simp [e]
  · have := h i (List.mem_range.1 hi) (by omega)
    rw [this]; simp
def rootC (zs : List Int) : Int := if okP zs then (if oddB zs then 0 else 6) else 1
def rootA (zs : List Int) : List Int := if okP zs && oddB zs then tab ((zs.length + 1) / 2) (rootF zs) else []
theorem rootC_no {zs : List Int} (h : okP zs = false) : rootC zs = 1 := by unfold rootC; rw [if_neg (by rw [h]; decide)]
theorem rootA_no {zs : List Int} (h : okP zs = false) : rootA zs = [] := by unfold rootA; rw [if_neg (by rw [h]; simp)]
theorem root_yes {zs : List Int} (h : okP zs = true) (ho : oddB zs = true) : rootC zs = 0 ∧ rootA zs = tab ((zs.length + 1) / 2) (rootF zs) := by
  unfold rootC rootA; rw [if_pos h, if_pos ho, if_pos (by rw [h, ho]; rfl)]; exact ⟨rfl, rfl⟩
theorem root_none {zs : List Int} (h : okP zs = true) (ho : oddB zs = false) : rootC zs = 6 ∧ rootA zs = [] := by
  unfold rootC rootA; rw [if_pos h, if_neg (by rw [ho]; decide), if_neg (by rw [h, ho]; decide)]; exact ⟨rfl, rfl⟩
theorem rootA_len (zs : List Int) : (rootA zs).length ≤ 21 := by
  unfold rootA
  split
  · rename_i h
    rw [Bool.and_eq_true] at h
    have := okP_len h.1
    rw [tab_len]; omega
  · simp
def rootK (zs : List Int) (k : Nat) : Nat → Int := fun j => if 2 * j < k then rootF zs j else 0
theorem rootK_zero (zs : List Int) : rootK zs 0 = fun _ => 0 := by funext j; simp [rootK]
theorem rootK_even {zs : List Int} {N k m : Nat} (hm : k = 2 * m) : (tab N (rootK zs k)).set m (rootP (zs.getD k 0)) = tab N (rootK zs (k + 1)) := by
  rw [tab_set]
  congr 1
  funext j
  unfold put rootK
  by_cases h : j = m
  · subst h; rw [if_pos rfl, if_pos (by omega)]; unfold rootF; rw [hm]
  · rw [if_neg h]
    by_cases h1 : 2 * j < k
    · rw [if_pos h1, if_pos (by omega)]
    · rw [if_neg h1, if_neg (by omega)]
theorem rootK_odd {zs : List Int} {k : Nat} (ho : k % 2 = 1) : rootK zs k = rootK zs (k + 1) := by
  funext j
  unfold rootK
  by_cases h1 : 2 * j < k
  · rw [if_pos h1, if_pos (by omega)]
  · rw [if_neg h1, if_neg (by omega)]
theorem rootK_end {zs : List Int} : tab ((zs.length + 1) / 2) (rootK zs zs.length) = tab ((zs.length + 1) / 2) (rootF zs) := by
  apply tab_ext
  intro j hj
  unfold rootK
  rw [if_pos (by omega)]
set_option maxHeartbeats 4000000 in
set_option maxRecDepth 100000 in
theorem spec_RootOfPoly (v : Value) (zs : List Int) (hn : zs.length ≤ 1048576) (w : World) (h : NC w v zs) :
    Calls Try.prog 77 #[v] w fun e w' => ∃ r, e = .returned (.tuple #[r, .int .i64 (rootC zs)]) ∧ PO w' w.heap.size r (rootA zs) ∧ Below w.heap.size w w' := by
  have HN := Lib.hid h.ns
  have HC := Lib.hid (check1 v zs hn w h.ns)
  obtain ⟨A, c, rfl, hca⟩ := h.form
  have HB1 := Lib.hid ((Below.refl w.heap.size w).alloc (Nat.le_refl _) (.cells #[.slice A zs.length c] 25))
  have HU := Lib.hid h.inU
  have HNC := Lib.hid h
  clear h
  by_cases ho : okP zs = true
  · have HY := Lib.hid ho
    have hl1 : zs.length ≤ 21 := okP_len ho
    go_enter Try.func77, Try.ntmps77
    go_wp2_with fail
    refine (l05Ok_any _ zs hn _ HN.out).mono ?_
    rintro e w' ⟨rfl, hw⟩
    obtain rfl := hw.symm
    rw [ho]
    clear ho
    have E0 := World.ownsRow_made w (e := 41) (size := 1) (base := w.heap.size) #[] 0 (Nat.le_refl _) (Nat.zero_le _) rfl
    obtain ⟨B, hB⟩ : ∃ B, B = w.heap.size := ⟨_, rfl⟩
    have HO0 : Hid ((w.alloc (.cells #[] 41)).ownsRow B 41 1 (.slice (some ⟨w.heap.size, 0, none⟩) 0 0) 0 (u16s (tab 0 (rootF zs)))) := Lib.hid (by rw [hB]; simpa [u16s, tab] using E0)
    have HB0 : Hid (Below B w (w.alloc (.cells #[] 41))) := Lib.hid (by rw [hB]; exact (Below.refl _ _).alloc (Nat.le_refl _) _)
    have HS0 : Hid (B ≤ (w.alloc (.cells #[] 41)).heap.size) := Lib.hid (by rw [hB, World.size_alloc]; omega)
    have HBB := Lib.hid hB
    obtain ⟨i0, hi, hz0, hz1, hz2⟩ := info_parts info25
    clear hB E0
    go_wp2_with fail
    go_loopw [5, 4] (fun y o wr => ∃ k n : Nat, y = .int .i64 (k : Int) ∧ Hid (n = (k + 1) / 2) ∧ k ≤ zs.length ∧ n ≤ zs.length ∧ Hid (∀ i, i < k → i % 2 = 1 → zs.getD i 0 = 0) ∧ Hid (wr.ownsRow B 41 1 o n (u16s (tab n (rootF zs)))) ∧ Hid (Below B w wr) ∧ Hid (B ≤ wr.heap.size)) (fun y _ _ => zs.length - (intOf y).toNat)
    case atStart => exact ⟨0, 0, rfl, Lib.hid rfl, Nat.zero_le _, Nat.zero_le _, Lib.hid (fun i hi => absurd hi (by omega)), HO0, HB0, HS0⟩
    case round =>
      clear HO0 HB0 HS0
      obtain ⟨k, n, rfl, HKN, hkl, hnl, HODD, HO, HBW, HS⟩ := hrel
      have hnl2 : n ≤ 1048576 := by omega
      by_cases hlt : k < zs.length
      · have i1 : (k : Int) < (zs.length : Int) := by omega
        obtain ⟨b, off, rfl, hlb, hcell⟩ := HN.out.spot.2 (by omega)
        have q1 : wr.cell? ⟨b, off + k, none⟩ = some (.int .u16 (zs.getD k 0)) := (HBW.out.cell (p := ⟨b, off + k, none⟩) (by rw [HBB.out]; exact hlb)).trans (hcell k hlt)
        have r := HU.out.at k
        obtain ⟨x, hx⟩ : ∃ x, x = zs.getD k 0 := ⟨_, rfl⟩
        rw [← hx] at q1 r
        obtain ⟨r0, r1⟩ := r
        have HX := Lib.hid hx
        have HCL := Lib.hid hcell
        clear hx hcell
        by_cases hk2 : k % 2 = 1
        · have T2 : (k : Int).tmod 2 = 1 := by rw [Int.tmod_eq_emod_of_nonneg (by omega)]; omega
          have HK2 := Lib.hid hk2
          clear hk2
          by_cases hx0 : x = 0
          · have HODD2 : Hid (∀ i, i < k + 1 → i % 2 = 1 → zs.getD i 0 = 0) := Lib.hid (fun i h1 h2 => by
              by_cases e : i = k
              · rw [e, ← HX.out]; exact hx0
              · exact HODD.out i (by omega) h2)
            subst hx0
            clear HX
            go_wp2_with fail
            exact ⟨⟨k + 1, n, by go_num, Lib.hid (by have := HKN.out; have := HK2.out; omega), by omega, by omega, HODD2, HO, HBW, HS⟩, by simp [intOf]; omega⟩
          · have T3 : (x != 0) = true := bne_iff_ne.2 hx0
            have E := Lib.hid (root_none HY.out (oddB_no hlt HK2.out (by rw [← HX.out]; exact hx0)))
            have HBW2 : Hid (Below w.heap.size w wr) := Lib.hid (by rw [← HBB.out]; exact HBW.out)
            clear hx0 HX
            go_wp2_with fail
            go_ret2
            exact ⟨_, by rw [E.out.1]; rfl, by rw [E.out.2]; exact PO.nil _ _ _ _ (by first | exact Nat.zero_le _ | simp) (fun e => by first | rfl | cases e), HBW2.out.alloc HBW2.out.size _⟩
        · have T2 : (k : Int).tmod 2 = 0 := by rw [Int.tmod_eq_emod_of_nonneg (by omega)]; omega
          have HK2 := Lib.hid hk2
          have hf : rootF zs n = rootP x := by unfold rootF; rw [HX.out]; congr 2; have := HKN.out; omega
          have HF := Lib.hid hf
          clear hk2 hf
          obtain ⟨A0, c0, rfl, _, _⟩ := own_form HO.out
          go_wp2_with fail
          refine (sroot_v x r0 r1 _).mono ?_
          rintro e w' ⟨rfl, hw⟩
          obtain rfl := hw.symm
          obtain ⟨y, hy⟩ : ∃ y, y = rootP x := ⟨_, rfl⟩
          rw [← hy] at HF ⊢
          clear hy
          go_wp2_with (at_builtin; refine wpList_append_own _ rfl _ _ 25 rfl B 41 i0 (.int .u16 0) 1 2 Try.underlying25 hi hz0 hz1 hz2 rfl (by decide) _ n _ rfl (HO.out.alloc _) ⟨wr.heap.size, 0, none⟩ 1 1 [.int .u16 y] rfl rfl ?c1 ?c2 ?c3 ?c4 ?c5 ?_)
          case c1 => exact one_cellC _ _ _
          case c2 => simp [Value.oneCell']
          case c3 => unfold maxLen; omega
          case c4 => omega
          case c5 => rw [World.size_alloc]; have := HS.out; omega
          intro s' wy hown hgrow _
          have hown2 : wy.ownsRow B 41 1 s' (n + 1) (u16s (tab (n + 1) (rootF zs))) := by
            rw [← tab_snoc, HF.out]; exact hown
          have HB2 := Lib.hid ((HBW.out.alloc HS.out _).grown hgrow (by rw [World.size_alloc]; have := HS.out; omega) (fun x hx => (HO.out.lt x hx).1))
          have HS2 := Lib.hid (Nat.le_trans (show B ≤ (wr.alloc (.cells #[.int .u16 y] 41)).heap.size by rw [World.size_alloc]; have := HS.out; omega) hgrow.size)
          have HQ2 := Lib.hid hown2
          have HODD2 : Hid (∀ i, i < k + 1 → i % 2 = 1 → zs.getD i 0 = 0) := Lib.hid (fun i h1 h2 => HODD.out i (by have := HK2.out; omega) h2)
          clear hown hown2 hgrow HO HBW HS HODD
          go_wp2_with fail
          exact ⟨⟨k + 1, n + 1, by go_num, Lib.hid (by have := HKN.out; have := HK2.out; omega), by omega, by have := HKN.out; omega, HODD2, HQ2, HB2, HS2⟩, by simp [intOf]; omega⟩
      · obtain rfl : k = zs.length := by omega
        have E := Lib.hid (root_yes HY.out (oddB_yes HODD.out))
        have hp := PO.of_own HO.out (tab_len _ _) (tab_in fun j _ => rootF_u HU.out j)
        rw [HKN.out] at hp
        have HP : Hid (PO wr w.heap.size _ _) := Lib.hid (by rw [← HBB.out]; exact hp)
        have HBW2 : Hid (Below w.heap.size w wr) := Lib.hid (by rw [← HBB.out]; exact HBW.out)
        clear hp
        go_wp2_with fail
        go_ret2
        exact ⟨_, by rw [E.out.1]; rfl, by rw [E.out.2]; exact HP.out, HBW2.out⟩
  · have ho' : okP zs = false := by simpa using ho
    have HO := Lib.hid ho'
    go_enter Try.func77, Try.ntmps77
    go_wp2_with fail
    refine (l05Ok_any _ zs hn _ HN.out).mono ?_
    rintro e w' ⟨rfl, hw⟩
    obtain rfl := hw.symm
    rw [ho']
    clear ho ho'
    go_wp2_with fail
    go_ret2
    exact ⟨_, by rw [rootC_no HO.out]; rfl, by rw [rootA_no HO.out]; exact PO.nil _ _ _ _ (by first | exact Nat.zero_le _ | simp) (fun e => by first | rfl | cases e), (Below.refl _ _).alloc (Nat.le_refl _) _⟩
set_option maxHeartbeats 4000000 in
set_option maxRecDepth 100000 in
theorem impl_RootOfPoly (v : Value) (zs : List Int) (hn : zs.length ≤ 1048576) (w : World) (h : NC w v zs) :
    Calls Try.prog 78 #[v] w fun e w' => ∃ r, e = .returned (.tuple #[r, .int .i64 (rootC zs)]) ∧ PO w' w.heap.size r (rootA zs) ∧ Below w.heap.size w w' := by
  have HN := Lib.hid h.ns
  have HC := Lib.hid (check1 v zs hn w h.ns)
  obtain ⟨A, c, rfl, hca⟩ := h.form
  have HB1 := Lib.hid ((Below.refl w.heap.size w).alloc (Nat.le_refl _) (.cells #[.slice A zs.length c] 25))
  have HU := Lib.hid h.inU
  have HNC := Lib.hid h
  clear h
  by_cases ho : okP zs = true
  · have HY := Lib.hid ho
    have hl1 : zs.length ≤ 21 := okP_len ho
    go_enter Try.func78, Try.ntmps78
    go_wp2_with fail
    refine HC.out.mono ?_
    rintro e w' ⟨rfl, rfl⟩
    rw [okC_yes ho]
    clear ho
    obtain ⟨i0, hi, hz0, hz1, hz2⟩ := info_parts info25
    obtain ⟨M, hM⟩ : ∃ M, M = (zs.length + 1) / 2 := ⟨_, rfl⟩
    have hMi : ((zs.length : Int) + 1).tdiv 2 = (M : Int) := by rw [Int.tdiv_eq_ediv_of_nonneg (by omega)]; omega
    have hM2 : M ≤ 1048576 := by omega
    have HM := Lib.hid hM
    obtain ⟨wa, hwa⟩ : ∃ wa, wa = w.alloc (.cells #[.slice A zs.length c] 25) := ⟨_, rfl⟩
    have HNa : Hid (NS wa (.slice A zs.length c) zs) := Lib.hid (by rw [hwa]; exact HN.out.below HB1.out)
    have HBa : Hid (Below w.heap.size w wa) := Lib.hid (by rw [hwa]; exact HB1.out)
    rw [← hwa]
    clear hM hwa
    go_wp2_with (at_make; refine wpList_make_full _ rfl _ _ 25 rfl wa.heap.size 41 i0 (.int .u16 0) 1 Try.underlying25 hi hz0 hz1 _ _ _ _ M rfl rfl rfl rfl (by rw [hz2]; omega) (by unfold maxLen; omega) (Nat.le_refl _) ?_)
    intro w1 hown hgrow
    have hb1 : Below wa.heap.size wa w1 := (Below.refl _ wa).grown hgrow (Nat.le_refl _) (fun k hk => by cases hk)
    obtain ⟨g, hg⟩ : ∃ g, g = wa.heap.size := ⟨_, rfl⟩
    rw [← hg] at hown hb1 ⊢
    rw [made_tab] at hown
    have HG := Lib.hid hg
    have HR0 : Hid (RW w1 g (tab M (rootK zs 0))) := Lib.hid (by rw [rootK_zero]; exact RW.of_own hown)
    have HB0 := Lib.hid hb1
    clear hg hown hb1 hgrow
    go_wp2_with fail
    go_loopw [21] (fun y wr => ∃ k : Nat, y = .int .i64 (k : Int) ∧ k ≤ zs.length ∧ Hid (∀ i, i < k → i % 2 = 1 → zs.getD i 0 = 0) ∧ Hid (RW wr g (tab M (rootK zs k))) ∧ Hid (Below g wa wr)) (fun y _ => zs.length - (intOf y).toNat)
    case atStart => exact ⟨0, rfl, Nat.zero_le _, Lib.hid (fun i hi => absurd hi (by omega)), HR0, HB0⟩
    case round =>
      clear HR0 HB0
      obtain ⟨k, rfl, hk, HODD, HR, HB⟩ := hrel
      by_cases hlt : k < zs.length
      · have i1 : (k : Int) < (zs.length : Int) := by omega
        obtain ⟨b, off, rfl, hlb, hcell⟩ := HNa.out.spot.2 (by omega)
        have q1 : wr.cell? ⟨b, off + k, none⟩ = some (.int .u16 (zs.getD k 0)) := (HB.out.cell (p := ⟨b, off + k, none⟩) (by rw [HG.out]; exact hlb)).trans (hcell k hlt)
        have r := HU.out.at k
        obtain ⟨x, hx⟩ : ∃ x, x = zs.getD k 0 := ⟨_, rfl⟩
        rw [← hx] at q1 r
        obtain ⟨r0, r1⟩ := r
        have HX := Lib.hid hx
        have HCL := Lib.hid hcell
        clear hx hcell
        by_cases hk2 : k % 2 = 1
        · have T2 : (k : Int).tmod 2 = 1 := by rw [Int.tmod_eq_emod_of_nonneg (by omega)]; omega
          have HK2 := Lib.hid hk2
          clear hk2
          by_cases hx0 : x = 0
          · have HODD2 : Hid (∀ i, i < k + 1 → i % 2 = 1 → zs.getD i 0 = 0) := Lib.hid (fun i h1 h2 => by
              by_cases e : i = k
              · rw [e, ← HX.out]; exact hx0
              · exact HODD.out i (by omega) h2)
            have HR2 : Hid (RW wr g (tab M (rootK zs (k + 1)))) := Lib.hid (by rw [← rootK_odd HK2.out]; exact HR.out)
            subst hx0
            clear HX HODD HR
            go_wp2_with fail
            go_roundw
            case rel => exact ⟨k + 1, by go_num, by omega, HODD2, HR2, HB⟩
            case measure => simp [intOf]; omega
          · have T3 : (x != 0) = true := bne_iff_ne.2 hx0
            have E := Lib.hid (root_none HY.out (oddB_no hlt HK2.out (by rw [← HX.out]; exact hx0)))
            have HBW2 : Hid (Below w.heap.size w wr) := Lib.hid (HBa.out.trans (HB.out.mono (by rw [HG.out]; exact HBa.out.size)))
            clear hx0 HX
            go_wp2_with fail
            go_ret2
            exact ⟨_, by rw [E.out.1]; rfl, by rw [E.out.2]; exact PO.nil0 _ _, HBW2.out⟩
        · have T2 : (k : Int).tmod 2 = 0 := by rw [Int.tmod_eq_emod_of_nonneg (by omega)]; omega
          obtain ⟨m, hm⟩ : ∃ m, m = k / 2 := ⟨_, rfl⟩
          have hkm : k = 2 * m := by omega
          have hd : (k : Int).tdiv 2 = (m : Int) := by rw [Int.tdiv_eq_ediv_of_nonneg (by omega)]; omega
          have hmM : m < M := by have := HM.out; omega
          have i2 : (m : Int) < (M : Int) := by omega
          have q2 := HR.out.tabcell m hmM
          have q3 := HR.out.free m
          have hset := HR.out.set m (rootP (zs.getD k 0))
          rw [rootK_even hkm] at hset
          rw [← HX.out] at hset
          have HODD2 : Hid (∀ i, i < k + 1 → i % 2 = 1 → zs.getD i 0 = 0) := Lib.hid (fun i h1 h2 => HODD.out i (by omega) h2)
          clear hk2 hm hkm hmM
          obtain ⟨y, hy⟩ : ∃ y, y = rootP x := ⟨_, rfl⟩
          rw [← hy] at hset
          have HSET := Lib.hid hset
          have HB3 := Lib.hid (HB.out.setCell (p := ⟨g, m, none⟩) (Nat.le_refl _) (.int .u16 y))
          have HYY := Lib.hid hy
          clear hset hy HR HX HODD
          go_wp2_with fail
          refine (root_v x r0 r1 _).mono ?_
          rintro e w' ⟨rfl, hw⟩
          obtain rfl := hw.symm
          rw [← HYY.out]
          go_wp2_with fail
          go_roundw
          case rel => exact ⟨k + 1, by go_num, by omega, HODD2, HSET, HB3⟩
          case measure => simp [intOf]; omega
      · obtain rfl : k = zs.length := by omega
        have E := Lib.hid (root_yes HY.out (oddB_yes HODD.out))
        have hr := HR.out
        rw [HM.out, rootK_end, ← HM.out] at hr
        have hp := hr.po (tab_in fun j _ => rootF_u HU.out j) (show w.heap.size ≤ g by rw [HG.out]; exact HBa.out.size) (by rw [tab_len]; unfold maxLen; omega)
        rw [tab_len] at hp
        rw [← HM.out] at E
        have HP := Lib.hid hp
        have HBW2 : Hid (Below w.heap.size w wr) := Lib.hid (HBa.out.trans (HB.out.mono (by rw [HG.out]; exact HBa.out.size)))
        clear hp hr HR HB HODD
        go_wp2_with fail
        go_ret2
        exact ⟨_, by rw [E.out.1]; rfl, by rw [E.out.2]; exact HP.out, HBW2.out⟩
  · have ho' : okP zs = false := by simpa using ho
    have HO := Lib.hid ho'
    go_enter Try.func78, Try.ntmps78
    go_wp2_with fail
    refine HC.out.mono ?_
    rintro e w' ⟨rfl, rfl⟩
    rw [okC_no ho']
    clear ho ho'
    go_wp2_with fail
    go_ret2
    exact ⟨_, by rw [rootC_no HO.out]; rfl, by rw [rootA_no HO.out]; exact PO.nil _ _ _ _ (by first | exact Nat.zero_le _ | simp) (fun e => by first | rfl | cases e), (Below.refl _ _).alloc (Nat.le_refl _) _⟩
end Go.Proofs.Ytnpadkkjaeblfaa
