/-
  MonicOf, SlopeOf, RootOfPoly: of the model and of the program.
-/
import Derived.Test.YtnpadkkjaeblfaaPvK
namespace Go.Proofs.Ytnpadkkjaeblfaa
set_option linter.unusedVariables false
set_option linter.unusedSimpArgs false
open Go.ChangeShapes Go.WideShapes Go.ChangeAt Go.RowKit

/-- the inverse of the last nimber, 1 for the polynomial 0 -/
def leadP (zs : List Int) : Int := if zs.length = 0 then 1 else invP (zs.getD (zs.length - 1) 0)
theorem leadP_u {zs : List Int} (h : inU zs) : 0 ≤ leadP zs ∧ leadP zs < 65536 := by
  unfold leadP
  split
  · omega
  · exact invP_u _ (h.at _).2
theorem leadP_zero {zs : List Int} (h : zs.length = 0) : leadP zs = 1 := by unfold leadP; rw [if_pos h]
theorem leadP_some {zs : List Int} {m : Nat} (h : ¬ zs.length = 0) (hm : m = zs.length - 1) : leadP zs = invP (zs.getD m 0) := by unfold leadP; rw [if_neg h, hm]
def pMonic (zs : List Int) : List Int := pScale zs (leadP zs)
theorem pMonic_nil : pMonic [] = [] := by unfold pMonic pScale; exact pTimes_zero (Or.inl rfl)
theorem pMonic_in {zs : List Int} (h : inU zs) : inU (pMonic zs) := pScale_in h (leadP_u h).1 (leadP_u h).2
theorem pMonic_len (zs : List Int) : (pMonic zs).length ≤ zs.length := pScale_len _ _
def cuzC (zs : List Int) : Int := if okP zs then (if zs.length = 0 then 4 else 0) else 1
theorem cuzC_no {zs : List Int} (h : okP zs = false) : cuzC zs = 1 := by unfold cuzC; rw [if_neg (by rw [h]; decide)]
theorem cuzC_zero {zs : List Int} (h : okP zs = true) (h0 : zs.length = 0) : cuzC zs = 4 := by unfold cuzC; rw [if_pos h, if_pos h0]
theorem cuzC_yes {zs : List Int} (h : okP zs = true) (h0 : ¬ zs.length = 0) : cuzC zs = 0 := by unfold cuzC; rw [if_pos h, if_neg h0]
def monicC (zs : List Int) : Int := cuzC zs
def monicA (zs : List Int) : List Int := if cuzC zs = 0 then pMonic zs else []
theorem monicA_len (zs : List Int) : (monicA zs).length ≤ 21 := by
  unfold monicA
  by_cases h : okP zs = true
  · have := okP_len h
    have := pMonic_len zs
    split
    · omega
    · simp
  · rw [cuzC_no (by simpa using h)]; simp
theorem monicC_no {zs : List Int} (h : okP zs = false) : monicC zs = 1 := cuzC_no h
theorem monicA_no {zs : List Int} (h : okP zs = false) : monicA zs = [] := by unfold monicA; rw [cuzC_no h]; rfl
theorem monicA_zero {zs : List Int} (h : okP zs = true) (h0 : zs.length = 0) : monicA zs = [] := by unfold monicA; rw [cuzC_zero h h0]; rfl
theorem monicA_yes {zs : List Int} (h : okP zs = true) (h0 : ¬ zs.length = 0) : monicA zs = pMonic zs := by unfold monicA; rw [cuzC_yes h h0]; rfl
set_option maxHeartbeats 1000000 in
theorem lead_any (v : Value) (zs : List Int) (hn : zs.length ≤ 1048576) (w : World) (h : NS w v zs) :
    Calls Try.prog 113 #[v] w fun e w' => e = .returned (.int .u16 (leadP zs)) ∧ w' = w := by
  have HU := Lib.hid (inU_of h)
  obtain ⟨A, c, rfl, hz, hc⟩ := h
  by_cases h0 : zs.length = 0
  · have T : decide (zs.length = 0) = true := by simpa using h0
    rw [leadP_zero h0]
    clear h0 hc hz
    go_enter Try.func113, Try.ntmps113
    go_wp2_with fail
    refine (isZero_any A zs.length c hn _).mono ?_
    rintro e w' ⟨rfl, hw⟩
    obtain rfl := hw.symm
    rw [T]
    go_wp2_with fail
    go_ret
    exact ⟨rfl, rfl⟩
  · have T : decide (zs.length = 0) = false := by simp; intro e; rw [e] at h0; simp at h0
    obtain ⟨m, hm⟩ : ∃ m, m = zs.length - 1 := ⟨_, rfl⟩
    have hx : (zs.length : Int) - 1 = (m : Int) := by clear hc hz; omega
    have i1 : (m : Int) < (zs.length : Int) := by clear hc hz; omega
    obtain ⟨b, off, rfl, hlb, hcell⟩ := hc (by omega)
    have q1 := hcell m (by omega)
    have r := HU.out.at m
    rw [leadP_some h0 hm]
    obtain ⟨x, hxx⟩ : ∃ x, x = zs.getD m 0 := ⟨_, rfl⟩
    rw [← hxx] at q1 r ⊢
    obtain ⟨r0, r1⟩ := r
    clear hm hxx hcell hc hz
    go_enter Try.func113, Try.ntmps113
    go_wp2_with fail
    refine (isZero_any _ zs.length c hn _).mono ?_
    rintro e w' ⟨rfl, hw⟩
    obtain rfl := hw.symm
    rw [T]
    go_wp2_with fail
    refine (degree_any _ zs.length c hn _).mono ?_
    rintro e w' ⟨rfl, hw⟩
    obtain rfl := hw.symm
    rw [hx]
    go_wp2_with fail
    refine (inv_v x r0 r1 _).mono ?_
    rintro e w' ⟨rfl, hw⟩
    obtain rfl := hw.symm
    go_wp2_with fail
    go_ret
    exact ⟨rfl, rfl⟩
set_option maxHeartbeats 1000000 in
theorem cuz_any (v : Value) (zs : List Int) (hn : zs.length ≤ 1048576) (w : World) (h : NS w v zs) :
    Calls Try.prog 112 #[v] w fun e w' => e = .returned (.int .i64 (cuzC zs)) ∧ w' = w.alloc (.cells #[v] 25) := by
  have HC1 := Lib.hid (check1 v zs hn w h)
  obtain ⟨A, c, rfl, hz, hc⟩ := h
  clear hz hc
  by_cases ho : okP zs = true
  · by_cases h0 : zs.length = 0
    · have T : decide (zs.length = 0) = true := by simpa using h0
      have HQ := Lib.hid (cuzC_zero ho h0)
      clear h0
      rw [HQ.out]
      go_enter Try.func112, Try.ntmps112
      go_wp2_with fail
      refine HC1.out.mono ?_
      rintro e w' ⟨rfl, rfl⟩
      rw [okC_yes ho]
      go_wp2_with fail
      refine (isZero_any A zs.length c hn _).mono ?_
      rintro e w' ⟨rfl, rfl⟩
      rw [T]
      go_wp2_with fail
      go_ret
      exact ⟨rfl, rfl⟩
    · have T : decide (zs.length = 0) = false := by simp; intro e; rw [e] at h0; simp at h0
      have HQ := Lib.hid (cuzC_yes ho h0)
      rw [HQ.out]
      go_enter Try.func112, Try.ntmps112
      go_wp2_with fail
      refine HC1.out.mono ?_
      rintro e w' ⟨rfl, rfl⟩
      rw [okC_yes ho]
      go_wp2_with fail
      refine (isZero_any A zs.length c hn _).mono ?_
      rintro e w' ⟨rfl, rfl⟩
      rw [T]
      go_wp2_with fail
      go_ret
      exact ⟨rfl, rfl⟩
  · have ho' : okP zs = false := by simpa using ho
    have HQ := Lib.hid (cuzC_no ho')
    rw [HQ.out]
    go_enter Try.func112, Try.ntmps112
    go_wp2_with fail
    refine HC1.out.mono ?_
    rintro e w' ⟨rfl, rfl⟩
    rw [okC_no ho']
    go_wp2_with fail
    go_ret
    exact ⟨rfl, rfl⟩
set_option maxHeartbeats 1000000 in
theorem l05Monic_any (v : Value) (zs : List Int) (hn : zs.length ≤ 1048576) (w : World) (h : NS w v zs) :
    Calls Try.prog 111 #[v] w fun e w' => ∃ r, e = .returned r ∧ w'.ownsRow w.heap.size 41 1 r (pMonic zs).length (u16s (pMonic zs)) ∧ Below w.heap.size w w' := by
  have HU := Lib.hid (inU_of h)
  have HN := Lib.hid h
  obtain ⟨A, c, rfl, hz, hc⟩ := h
  by_cases h0 : zs.length = 0
  · have T1 : ((zs.length : Int) == 0) = true := by rw [h0]; rfl
    have e0 : zs = [] := List.length_eq_zero_iff.1 h0
    have HP : Hid (pMonic zs = []) := Lib.hid (by rw [e0]; exact pMonic_nil)
    clear hz hc e0
    go_enter Try.func111, Try.ntmps111
    go_wp2_with fail
    go_ret
    exact ⟨_, rfl, by rw [HP.out]; simpa [u16s] using World.ownsRow_made w (e := 41) (size := 1) (base := w.heap.size) #[] 0 (Nat.le_refl _) (Nat.zero_le _) rfl, (Below.refl _ _).alloc (Nat.le_refl _) _⟩
  · have T1 : ((zs.length : Int) == 0) = false := by rw [beq_eq_false_iff_ne]; omega
    obtain ⟨m, hm⟩ : ∃ m, m = zs.length - 1 := ⟨_, rfl⟩
    have hx : (zs.length : Int) - 1 = (m : Int) := by clear hc hz; omega
    have i1 : (m : Int) < (zs.length : Int) := by clear hc hz; omega
    obtain ⟨b, off, rfl, hlb, hcell⟩ := hc (by omega)
    have q1 := hcell m (by omega)
    have r := HU.out.at m
    have hq := leadP_some h0 hm
    obtain ⟨x, hxx⟩ : ∃ x, x = zs.getD m 0 := ⟨_, rfl⟩
    rw [← hxx] at q1 r hq
    obtain ⟨r0, r1⟩ := r
    have r2 := invP_u x r1
    have HP : Hid (pMonic zs = pScale zs (invP x)) := Lib.hid (by unfold pMonic; rw [hq])
    clear hm hxx hcell hc hz hq
    go_enter Try.func111, Try.ntmps111
    go_wp2_with fail
    refine (linv_v x r0 r1 _).mono ?_
    rintro e w' ⟨rfl, hw⟩
    obtain rfl := hw.symm
    obtain ⟨y, hy⟩ : ∃ y, y = invP x := ⟨_, rfl⟩
    rw [← hy] at HP r2 ⊢
    clear hy
    go_wp2_with fail
    refine (l05Scale_any _ zs y hn r2.1 r2.2 _ HN.out).mono ?_
    rintro e wn ⟨r, rfl, ho, hb⟩
    have HO := Lib.hid ho
    have HB := Lib.hid hb
    clear ho hb
    go_wp2_with fail
    go_ret
    exact ⟨_, rfl, by rw [HP.out]; exact HO.out, HB.out⟩
set_option maxHeartbeats 1000000 in
theorem impl_MonicOf (v : Value) (zs : List Int) (hn : zs.length ≤ 1048576) (w : World) (h : NC w v zs) :
    Calls Try.prog 59 #[v] w fun e w' => ∃ r, e = .returned (.tuple #[r, .int .i64 (monicC zs)]) ∧ PO w' w.heap.size r (monicA zs) ∧ Below w.heap.size w w' := by
  have HN := Lib.hid h.ns
  have HU := Lib.hid h.inU
  have HC := Lib.hid (cuz_any v zs hn w h.ns)
  have HB1 := Lib.hid ((Below.refl w.heap.size w).alloc (Nat.le_refl _) (.cells #[v] 25))
  clear h
  obtain ⟨cd, hcd⟩ : ∃ cd, cd = cuzC zs := ⟨_, rfl⟩
  have HCD := Lib.hid hcd
  by_cases h0 : cd = 0
  · have hA : monicA zs = pMonic zs := by unfold monicA; rw [← hcd, if_pos h0]
    have HA := Lib.hid hA
    have H0 := Lib.hid h0
    have hl := leadP_u HU.out
    obtain ⟨x, hx⟩ : ∃ x, x = leadP zs := ⟨_, rfl⟩
    have HX := Lib.hid hx
    clear hcd hA
    go_enter Try.func59, Try.ntmps59
    go_wp2_with fail
    refine HC.out.mono ?_
    rintro e w' ⟨rfl, rfl⟩
    rw [← HCD.out, h0]
    clear h0 hx
    go_wp2_with fail
    refine (lead_any _ zs hn _ (HN.out.below HB1.out)).mono ?_
    rintro e w' ⟨rfl, hw⟩
    obtain rfl := hw.symm
    rw [← HX.out] at hl ⊢
    go_wp2_with fail
    refine (scaled_any _ zs x hn hl.1 hl.2 _ (HN.out.below HB1.out)).mono ?_
    rintro e wn ⟨r, rfl, ho, hb⟩
    have HP := Lib.hid ((PO.of_own ho rfl (pScale_in HU.out hl.1 hl.2)).lower (by rw [World.size_alloc]; omega) : PO wn w.heap.size r (pScale zs x))
    have HB := Lib.hid (bchain HB1.out hb)
    clear ho hb
    go_wp2_with fail
    go_ret2
    exact ⟨_, by unfold monicC; rw [← HCD.out, H0.out]; rfl, by rw [HA.out]; unfold pMonic; rw [← HX.out]; exact HP.out, HB.out⟩
  · have hA : monicA zs = [] := by unfold monicA; rw [← hcd, if_neg h0]
    have HA := Lib.hid hA
    have T1 : (cd != 0) = true := bne_iff_ne.2 h0
    clear hcd hA h0
    go_enter Try.func59, Try.ntmps59
    go_wp2_with fail
    refine HC.out.mono ?_
    rintro e w' ⟨rfl, rfl⟩
    rw [← HCD.out]
    go_wp2_with fail
    go_ret2
    exact ⟨_, by unfold monicC; rw [← HCD.out]; rfl, by rw [HA.out]; exact PO.nil0 _ _, HB1.out⟩
set_option maxHeartbeats 1000000 in
theorem spec_MonicOf (v : Value) (zs : List Int) (hn : zs.length ≤ 1048576) (w : World) (h : NC w v zs) :
    Calls Try.prog 58 #[v] w fun e w' => ∃ r, e = .returned (.tuple #[r, .int .i64 (monicC zs)]) ∧ PO w' w.heap.size r (monicA zs) ∧ Below w.heap.size w w' := by
  have HN := Lib.hid h.ns
  have HC := Lib.hid (check1 v zs hn w h.ns)
  obtain ⟨A, c, rfl, hca⟩ := h.form
  have HB1 := Lib.hid ((Below.refl w.heap.size w).alloc (Nat.le_refl _) (.cells #[.slice A zs.length c] 25))
  have HU := Lib.hid h.inU
  have HNC := Lib.hid h
  clear h
  by_cases ho : okP zs = true
  · have HY := Lib.hid ho
    have hl1 : zs.length ≤ 21 := okP_len ho
    go_enter Try.func58, Try.ntmps58
    go_wp2_with fail
    refine (l05Ok_any _ zs hn _ HN.out).mono ?_
    rintro e w' ⟨rfl, hw⟩
    obtain rfl := hw.symm
    rw [ho]
    clear ho
    by_cases h0 : zs.length = 0
    · have T1 : ((zs.length : Int) == 0) = true := by rw [h0]; rfl
      have E1 := Lib.hid (monicA_zero HY.out h0)
      have E2 : Hid (monicC zs = 4) := Lib.hid (cuzC_zero HY.out h0)
      clear h0
      go_wp2_with fail
      go_ret2
      exact ⟨_, by rw [E2.out]; rfl, by rw [E1.out]; exact PO.nil _ _ _ _ (by first | exact Nat.zero_le _ | simp) (fun e => by first | rfl | cases e), (Below.refl _ _).alloc (Nat.le_refl _) _⟩
    · have T1 : ((zs.length : Int) == 0) = false := by rw [beq_eq_false_iff_ne]; omega
      have E1 := Lib.hid (monicA_yes HY.out h0)
      have E2 : Hid (monicC zs = 0) := Lib.hid (cuzC_yes HY.out h0)
      clear h0
      go_wp2_with fail
      refine (l05Monic_any _ zs hn _ HN.out).mono ?_
      rintro e wn ⟨r, rfl, ho, hb⟩
      have HP := Lib.hid (PO.of_own ho rfl (pMonic_in HU.out))
      have HB := Lib.hid hb
      clear ho hb
      go_wp2_with fail
      go_ret2
      exact ⟨_, by rw [E2.out]; rfl, by rw [E1.out]; exact HP.out, HB.out⟩
  · have ho' : okP zs = false := by simpa using ho
    have HO := Lib.hid ho'
    go_enter Try.func58, Try.ntmps58
    go_wp2_with fail
    refine (l05Ok_any _ zs hn _ HN.out).mono ?_
    rintro e w' ⟨rfl, hw⟩
    obtain rfl := hw.symm
    rw [ho']
    clear ho ho'
    go_wp2_with fail
    go_ret2
    exact ⟨_, by rw [monicC_no HO.out]; rfl, by rw [monicA_no HO.out]; exact PO.nil _ _ _ _ (by first | exact Nat.zero_le _ | simp) (fun e => by first | rfl | cases e), (Below.refl _ _).alloc (Nat.le_refl _) _⟩
/-! slopes -/
theorem one_cellC (w : World) (v : Value) (t : TypeId) (j : Nat) (u : Value) (h : [v][j]? = some u) : (w.alloc (.cells #[v] t)).cell? ((⟨w.heap.size, 0, none⟩ : Addr).add j) = some u := by
  cases j with
  | zero =>
    simp only [List.getElem?_cons_zero, Option.some.injEq] at h
    subst h
    exact cell_of_row _ _ _ _ _ _ (heap_alloc_new w _)
  | succ j => simp at h
def slopeF (zs : List Int) : Nat → Int := fun i => if i % 2 = 0 then zs.getD (i + 1) 0 else 0
theorem slopeF_u {zs : List Int} (h : inU zs) (i : Nat) : 0 ≤ slopeF zs i ∧ slopeF zs i < 65536 := by
  unfold slopeF
  split
  · exact h.at _
  · omega
def pSlope (zs : List Int) : List Int := pTrim (tab zs.length (slopeF zs))
theorem pSlope_in {zs : List Int} (h : inU zs) : inU (pSlope zs) := pTrim_in (tab_in fun i _ => slopeF_u h i)
theorem pSlope_len (zs : List Int) : (pSlope zs).length ≤ zs.length := by unfold pSlope; rw [pTrim_len, tab_len]; exact trimN_le _ _
theorem pTrim_short (n : Nat) (f : Nat → Int) (h : f n = 0) : pTrim (tab (n + 1) f) = pTrim (tab n f) := by
  have e : trimN (tab (n + 1) f) (n + 1) = trimN (tab n f) n := by
    rw [trimN_step _ n (by rw [tab_at _ _ _ (by omega)]; exact h)]
    exact trimN_congr n (fun i hi => by rw [tab_at _ _ _ (by omega), tab_at _ _ _ hi])
  unfold pTrim
  rw [tab_len, tab_len, e]
  have hl := trimN_le (tab n f) n
  rw [take_tab _ _ _ (by omega), take_tab _ _ _ hl]
theorem pSlope_short {zs : List Int} {n : Nat} (h : zs.length = n + 1) : pSlope zs = pTrim (tab n (slopeF zs)) := by
  unfold pSlope
  rw [h]
  refine pTrim_short n _ ?_
  unfold slopeF
  split
  · exact getD_out _ _ (by omega)
  · rfl
def slopeA (zs : List Int) : List Int := if okP zs then pSlope zs else []
theorem slopeA_yes {a : List Int} (h : okP a = true) : slopeA a = pSlope a := by unfold slopeA; rw [if_pos h]
theorem slopeA_no {a : List Int} (h : okP a = false) : slopeA a = [] := by unfold slopeA; rw [if_neg (by rw [h]; decide)]
theorem slopeA_len (zs : List Int) : (slopeA zs).length ≤ 21 := by
  unfold slopeA
  split
  · rename_i h; have := okP_len h; have := pSlope_len zs; omega
  · simp
/-- while it is being reckoned: the parts below k - 1 -/
def slopeK (zs : List Int) (k : Nat) : Nat → Int := fun i => if i + 1 < k then slopeF zs i else 0
theorem slopeK_one (zs : List Int) : slopeK zs 1 = fun _ => 0 := by funext i; simp [slopeK]
theorem slopeK_next {zs : List Int} {N k m : Nat} (hm : k = m + 1) (ho : k % 2 = 1) : (tab N (slopeK zs k)).set m (zs.getD k 0) = tab N (slopeK zs (k + 2)) := by
  rw [tab_set]
  congr 1
  funext i
  unfold put slopeK
  by_cases h : i = m
  · subst h
    rw [if_pos rfl, if_pos (by omega)]
    unfold slopeF
    rw [if_pos (by omega), hm]
  · rw [if_neg h]
    by_cases h1 : i + 1 < k
    · rw [if_pos h1, if_pos (by omega)]
    · rw [if_neg h1]
      by_cases h2 : i + 1 < k + 2
      · rw [if_pos h2]
        unfold slopeF
        rw [if_neg (by omega)]
      · rw [if_neg h2]
theorem slopeK_end {zs : List Int} {k : Nat} (h : zs.length ≤ k) : tab zs.length (slopeK zs k) = tab zs.length (slopeF zs) := by
  apply tab_ext
  intro i hi
  unfold slopeK
  by_cases h1 : i + 1 < k
  · rw [if_pos h1]
  · rw [if_neg h1]
    unfold slopeF
    split
    · exact (getD_out _ _ (by omega)).symm
    · rfl
theorem tab_snoc (n : Nat) (f : Nat → Int) : u16s (tab n f) ++ [Value.int .u16 (f n)] = u16s (tab (n + 1) f) := by
  unfold tab
  rw [List.range_succ, List.map_append]
  simp [u16s]
set_option maxHeartbeats 2000000 in
set_option maxRecDepth 100000 in
theorem slope_any (v : Value) (zs : List Int) (hn : zs.length ≤ 1048576) (w : World) (h : NS w v zs) :
    Calls Try.prog 110 #[v] w fun e w' => ∃ r, e = .returned r ∧ PO w' w.heap.size r (pSlope zs) ∧ Below w.heap.size w w' := by
  obtain ⟨i0, hi, hz0, hz1, hz2⟩ := info_parts info25
  have HU := Lib.hid (inU_of h)
  have HN := Lib.hid h
  obtain ⟨A, c, rfl, hz, hc⟩ := h
  clear hz hc
  go_enter Try.func110, Try.ntmps110
  go_wp2_with (at_make; refine wpList_make_full _ rfl _ _ 25 rfl w.heap.size 41 i0 (.int .u16 0) 1 Try.underlying25 hi hz0 hz1 _ _ _ _ zs.length rfl rfl rfl rfl (by rw [hz2]; omega) (by unfold maxLen; omega) (Nat.le_refl _) ?_)
  intro w1 hown hgrow
  have hb1 : Below w.heap.size w w1 := (Below.refl _ w).grown hgrow (Nat.le_refl _) (fun k hk => by cases hk)
  obtain ⟨g, hg⟩ : ∃ g, g = w.heap.size := ⟨_, rfl⟩
  rw [← hg] at hown hb1 ⊢
  rw [made_tab] at hown
  have HG := Lib.hid hg
  have HR0 : Hid (RW w1 g (tab zs.length (slopeK zs 1))) := Lib.hid (by rw [slopeK_one]; exact RW.of_own hown)
  have HB0 := Lib.hid hb1
  clear hg hown hb1 hgrow
  go_wp2_with fail
  go_loopw [4] (fun y wr => ∃ k : Nat, y = .int .i64 (k : Int) ∧ k ≤ zs.length + 1 ∧ 1 ≤ k ∧ k % 2 = 1 ∧ Hid (RW wr g (tab zs.length (slopeK zs k))) ∧ Hid (Below g w wr)) (fun y _ => zs.length + 1 - (intOf y).toNat)
  case atStart => exact ⟨1, rfl, by omega, by omega, rfl, HR0, HB0⟩
  case round =>
    clear HR0 HB0
    obtain ⟨k, rfl, hk, hk1, hko, HR, HB⟩ := hrel
    by_cases hlt : k < zs.length
    · obtain ⟨b, off, rfl, hlb, hcell⟩ := HN.out.spot.2 (by omega)
      obtain ⟨m, hm⟩ : ∃ m, m = k - 1 := ⟨_, rfl⟩
      have hm1 : k = m + 1 := by omega
      have q1 : wr.cell? ⟨b, off + k, none⟩ = some (.int .u16 (zs.getD k 0)) := (HB.out.cell (p := ⟨b, off + k, none⟩) (by rw [HG.out]; exact hlb)).trans (hcell k hlt)
      have q2 := HR.out.tabcell m (by omega)
      have q3 := HR.out.free m
      have hset := HR.out.set m (zs.getD k 0)
      rw [slopeK_next hm1 hko] at hset
      obtain ⟨y, hy⟩ : ∃ y, y = zs.getD k 0 := ⟨_, rfl⟩
      rw [← hy] at hset q1
      have HSET := Lib.hid hset
      have HB3 := Lib.hid (HB.out.setCell (p := ⟨g, m, none⟩) (Nat.le_refl _) (.int .u16 y))
      have i1 : (k : Int) < (zs.length : Int) := by omega
      have i2 : (m : Int) < (zs.length : Int) := by omega
      have hx : (k : Int) - 1 = (m : Int) := by omega
      have HCL := Lib.hid hcell
      clear hset hy hcell HR hm hm1
      go_wp2_with fail
      go_roundw
      case rel => exact ⟨k + 2, by go_num, by omega, by omega, by omega, HSET, HB3⟩
      case measure => simp [intOf]; omega
    · have T1 : decide ((k : Int) < (zs.length : Int)) = false := by simp; omega
      have hr := HR.out
      rw [slopeK_end (by omega)] at hr
      have hp := hr.po (tab_in fun i _ => slopeF_u HU.out i) (Nat.le_of_eq HG.out.symm) (by rw [tab_len]; unfold maxLen; omega)
      rw [tab_len] at hp
      have hns := hr.ns (tab_in fun i _ => slopeF_u HU.out i) zs.length
      have ht := trimmed_any (some ⟨g, 0, none⟩) zs.length (tab zs.length (slopeF zs)) (by rw [tab_len]; exact hn) (by rw [tab_len]; exact Nat.le_refl _) wr hns
      have hcut := hp.cut (trimN (tab zs.length (slopeF zs)) zs.length) (by rw [tab_len]; exact trimN_le _ _)
      have hq : (tab zs.length (slopeF zs)).take (trimN (tab zs.length (slopeF zs)) zs.length) = pSlope zs := by unfold pSlope pTrim; rw [tab_len]
      rw [hq] at hcut
      rw [tab_len] at ht
      have HP := Lib.hid hcut
      have HT := Lib.hid ht
      have HBW : Hid (Below w.heap.size w wr) := Lib.hid (by rw [← HG.out]; exact HB.out)
      clear hp ht hr hns HR HB hcut hq
      go_wp2_with fail
      refine HT.out.mono ?_
      rintro e w' ⟨rfl, rfl⟩
      go_wp2_with fail
      go_ret
      exact ⟨_, rfl, HP.out, HBW.out⟩
set_option maxHeartbeats 2000000 in
set_option maxRecDepth 100000 in
theorem l05Slope_any (v : Value) (zs : List Int) (hn : zs.length ≤ 1048576) (w : World) (h : NS w v zs) :
    Calls Try.prog 109 #[v] w fun e w' => ∃ r, e = .returned r ∧ PO w' w.heap.size r (pSlope zs) ∧ Below w.heap.size w w' := by
  obtain ⟨i0, hi, hz0, hz1, hz2⟩ := info_parts info25
  have HU := Lib.hid (inU_of h)
  have HN := Lib.hid h
  obtain ⟨A, c, rfl, hz, hc⟩ := h
  clear hz hc
  obtain ⟨B, hB⟩ : ∃ B, B = w.heap.size := ⟨_, rfl⟩
  have E0 := World.ownsRow_made w (e := 41) (size := 1) (base := w.heap.size) #[] 0 (Nat.le_refl _) (Nat.zero_le _) rfl
  rw [← hB]
  have HO0 : Hid ((w.alloc (.cells #[] 41)).ownsRow B 41 1 (.slice (some ⟨w.heap.size, 0, none⟩) 0 0) 0 (u16s (tab 0 (slopeF zs)))) := Lib.hid (by rw [hB]; simpa [u16s, tab] using E0)
  have HB0 : Hid (Below B w (w.alloc (.cells #[] 41))) := Lib.hid (by rw [hB]; exact (Below.refl _ _).alloc (Nat.le_refl _) _)
  have HS0 : Hid (B ≤ (w.alloc (.cells #[] 41)).heap.size) := Lib.hid (by rw [hB, World.size_alloc]; omega)
  have HBB := Lib.hid hB
  clear hB E0
  go_enter Try.func109, Try.ntmps109
  go_wp2_with fail
  go_loopw [4, 3] (fun y o wr => ∃ k n : Nat, y = .int .i64 (k : Int) ∧ Hid (k = n + 1) ∧ n ≤ zs.length ∧ (n = 0 ∨ n + 1 ≤ zs.length) ∧ Hid (wr.ownsRow B 41 1 o n (u16s (tab n (slopeF zs)))) ∧ Hid (Below B w wr) ∧ Hid (B ≤ wr.heap.size)) (fun y _ _ => zs.length + 1 - (intOf y).toNat)
  case atStart => exact ⟨1, 0, rfl, Lib.hid rfl, Nat.zero_le _, Or.inl rfl, HO0, HB0, HS0⟩
  case round =>
    clear HO0 HB0 HS0
    obtain ⟨k, n, rfl, HKN, hnl, hno, HO, HBW, HS⟩ := hrel
    have hkn := HKN.out
    have hnl2 : n ≤ 1048576 := by omega
    obtain ⟨A0, c0, rfl, _, _⟩ := own_form HO.out
    by_cases hlt : k < zs.length
    · have i1 : (k : Int) < (zs.length : Int) := by omega
      obtain ⟨b, off, rfl, hlb, hcell⟩ := HN.out.spot.2 (by omega)
      have q1 : wr.cell? ⟨b, off + k, none⟩ = some (.int .u16 (zs.getD k 0)) := (HBW.out.cell (p := ⟨b, off + k, none⟩) (by rw [HBB.out]; exact hlb)).trans (hcell k hlt)
      by_cases hk2 : k % 2 = 1
      · have T2 : (k : Int).tmod 2 = 1 := by rw [Int.tmod_eq_emod_of_nonneg (by omega)]; omega
        have hf : slopeF zs n = zs.getD k 0 := by unfold slopeF; rw [if_pos (by omega), hkn]
        obtain ⟨x, hx⟩ : ∃ x, x = zs.getD k 0 := ⟨_, rfl⟩
        rw [← hx] at q1 hf
        have HF := Lib.hid hf
        have HCL := Lib.hid hcell
        clear hx hcell hf hkn hno hnl
        go_wp2_with (at_builtin; refine wpList_append_own _ rfl _ _ 25 rfl B 41 i0 (.int .u16 0) 1 2 Try.underlying25 hi hz0 hz1 hz2 rfl (by decide) _ n _ rfl (HO.out.alloc _) ⟨wr.heap.size, 0, none⟩ 1 1 [.int .u16 x] rfl rfl ?c1 ?c2 ?c3 ?c4 ?c5 ?_)
        case c1 => exact one_cellC _ _ _
        case c2 => simp [Value.oneCell']
        case c3 => unfold maxLen; omega
        case c4 => omega
        case c5 => rw [World.size_alloc]; have := HS.out; omega
        intro s' wy hown hgrow _
        have hown2 : wy.ownsRow B 41 1 s' (n + 1) (u16s (tab (n + 1) (slopeF zs))) := by
          rw [← tab_snoc, HF.out]; exact hown
        have HB2 := Lib.hid ((HBW.out.alloc HS.out _).grown hgrow (by rw [World.size_alloc]; have := HS.out; omega) (fun x hx => (HO.out.lt x hx).1))
        have HS2 := Lib.hid (Nat.le_trans (show B ≤ (wr.alloc (.cells #[.int .u16 x] 41)).heap.size by rw [World.size_alloc]; have := HS.out; omega) hgrow.size)
        have HQ2 := Lib.hid hown2
        clear hown hown2 hgrow HO HBW HS
        go_wp2_with fail
        exact ⟨⟨k + 1, n + 1, by go_num, Lib.hid (by have := HKN.out; omega), by have := HKN.out; omega, by have := HKN.out; omega, HQ2, HB2, HS2⟩, by simp [intOf]; have := HKN.out; omega⟩
      · have T2 : (k : Int).tmod 2 = 0 := by rw [Int.tmod_eq_emod_of_nonneg (by omega)]; omega
        have hf : slopeF zs n = 0 := by unfold slopeF; rw [if_neg (by omega)]
        have HF := Lib.hid hf
        have HCL := Lib.hid hcell
        clear hcell hf q1 hkn hno hnl
        go_wp2_with (at_builtin; refine wpList_append_own _ rfl _ _ 25 rfl B 41 i0 (.int .u16 0) 1 2 Try.underlying25 hi hz0 hz1 hz2 rfl (by decide) _ n _ rfl (HO.out.alloc _) ⟨wr.heap.size, 0, none⟩ 1 1 [.int .u16 0] rfl rfl ?c1 ?c2 ?c3 ?c4 ?c5 ?_)
        case c1 => exact one_cellC _ _ _
        case c2 => simp [Value.oneCell']
        case c3 => unfold maxLen; omega
        case c4 => omega
        case c5 => rw [World.size_alloc]; have := HS.out; omega
        intro s' wy hown hgrow _
        have hown2 : wy.ownsRow B 41 1 s' (n + 1) (u16s (tab (n + 1) (slopeF zs))) := by
          rw [← tab_snoc, HF.out]; exact hown
        have HB2 := Lib.hid ((HBW.out.alloc HS.out _).grown hgrow (by rw [World.size_alloc]; have := HS.out; omega) (fun x hx => (HO.out.lt x hx).1))
        have HS2 := Lib.hid (Nat.le_trans (show B ≤ (wr.alloc (.cells #[.int .u16 0] 41)).heap.size by rw [World.size_alloc]; have := HS.out; omega) hgrow.size)
        have HQ2 := Lib.hid hown2
        clear hown hown2 hgrow HO HBW HS
        go_wp2_with fail
        exact ⟨⟨k + 1, n + 1, by go_num, Lib.hid (by have := HKN.out; omega), by have := HKN.out; omega, by have := HKN.out; omega, HQ2, HB2, HS2⟩, by simp [intOf]; have := HKN.out; omega⟩
    · have T1 : decide ((k : Int) < (zs.length : Int)) = false := by simp; omega
      have hq : pTrim (tab n (slopeF zs)) = pSlope zs := by
        by_cases e : zs.length = 0
        · have e2 : n = 0 := by omega
          have e3 : zs = [] := List.length_eq_zero_iff.1 e
          rw [e2, e3]; rfl
        · exact (pSlope_short (by omega)).symm
      have hpo := PO.of_own HO.out (tab_len _ _) (tab_in fun i _ => slopeF_u HU.out i)
      have hc0 : n ≤ c0 := by
        obtain ⟨A9, c9, e9, h9, _⟩ := hpo.form
        rw [tab_len] at e9 h9
        cases e9
        exact h9
      have hns := hpo.ns
      have ht := l05Trim_any A0 c0 (tab n (slopeF zs)) (by rw [tab_len]; omega) (by rw [tab_len]; exact hc0) wr (by rw [tab_len]; exact hns)
      rw [tab_len, hq] at ht
      have hl : (pSlope zs).length = trimN (tab n (slopeF zs)) n := by rw [← hq, pTrim_len, tab_len]
      have HT := Lib.hid ht
      have HL := Lib.hid hl
      clear hq hpo hns ht hl hc0 hkn hno hnl
      go_wp2_with fail
      refine HT.out.mono ?_
      rintro e wn ⟨r, rfl, ho, hb⟩
      have HP := Lib.hid ((PO.of_own ho HL.out (pSlope_in HU.out)).lower HS.out)
      have HB := Lib.hid (HBW.out.trans (hb.mono HS.out))
      clear ho hb
      go_wp2_with fail
      go_ret
      exact ⟨_, rfl, HP.out, HB.out⟩
set_option maxHeartbeats 1000000 in
theorem spec_SlopeOf (v : Value) (zs : List Int) (hn : zs.length ≤ 1048576) (w : World) (h : NC w v zs) :
    Calls Try.prog 56 #[v] w fun e w' => ∃ r, e = .returned (.tuple #[r, .int .i64 (okC zs)]) ∧ PO w' w.heap.size r (slopeA zs) ∧ Below w.heap.size w w' := by
  have HN := Lib.hid h.ns
  have HC := Lib.hid (check1 v zs hn w h.ns)
  obtain ⟨A, c, rfl, hca⟩ := h.form
  have HB1 := Lib.hid ((Below.refl w.heap.size w).alloc (Nat.le_refl _) (.cells #[.slice A zs.length c] 25))
  have HU := Lib.hid h.inU
  have HNC := Lib.hid h
  clear h
  by_cases ho : okP zs = true
  · have HY := Lib.hid ho
    have hl1 : zs.length ≤ 21 := okP_len ho
    go_enter Try.func56, Try.ntmps56
    go_wp2_with fail
    refine (l05Ok_any _ zs hn _ HN.out).mono ?_
    rintro e w' ⟨rfl, hw⟩
    obtain rfl := hw.symm
    rw [ho]
    clear ho
    go_wp2_with fail
    refine (l05Slope_any _ zs hn _ HN.out).mono ?_
    rintro e wn ⟨r, rfl, hp, hb⟩
    have HP := Lib.hid (hp.lower (Nat.le_refl _) : PO wn w.heap.size r (pSlope zs))
    have HB := Lib.hid (hb)
    clear hp hb
    go_wp2_with fail
    go_ret2
    exact ⟨_, by rw [okC_yes HY.out]; rfl, by rw [slopeA_yes HY.out]; exact HP.out, HB.out⟩
  · have ho' : okP zs = false := by simpa using ho
    have HO := Lib.hid ho'
    go_enter Try.func56, Try.ntmps56
    go_wp2_with fail
    refine (l05Ok_any _ zs hn _ HN.out).mono ?_
    rintro e w' ⟨rfl, hw⟩
    obtain rfl := hw.symm
    rw [ho']
    clear ho ho'
    go_wp2_with fail
    go_ret2
    exact ⟨_, by rw [okC_no HO.out]; rfl, by rw [slopeA_no HO.out]; exact PO.nil _ _ _ _ (by first | exact Nat.zero_le _ | simp) (fun e => by first | rfl | cases e), (Below.refl _ _).alloc (Nat.le_refl _) _⟩
set_option maxHeartbeats 1000000 in
theorem impl_SlopeOf (v : Value) (zs : List Int) (hn : zs.length ≤ 1048576) (w : World) (h : NC w v zs) :
    Calls Try.prog 57 #[v] w fun e w' => ∃ r, e = .returned (.tuple #[r, .int .i64 (okC zs)]) ∧ PO w' w.heap.size r (slopeA zs) ∧ Below w.heap.size w w' := by
  have HN := Lib.hid h.ns
  have HC := Lib.hid (check1 v zs hn w h.ns)
  obtain ⟨A, c, rfl, hca⟩ := h.form
  have HB1 := Lib.hid ((Below.refl w.heap.size w).alloc (Nat.le_refl _) (.cells #[.slice A zs.length c] 25))
  have HU := Lib.hid h.inU
  have HNC := Lib.hid h
  clear h
  by_cases ho : okP zs = true
  · have HY := Lib.hid ho
    have hl1 : zs.length ≤ 21 := okP_len ho
    go_enter Try.func57, Try.ntmps57
    go_wp2_with fail
    refine HC.out.mono ?_
    rintro e w' ⟨rfl, rfl⟩
    rw [okC_yes ho]
    clear ho
    go_wp2_with fail
    refine (slope_any _ zs hn _ (HN.out.below HB1.out)).mono ?_
    rintro e wn ⟨r, rfl, hp, hb⟩
    have HP := Lib.hid (hp.lower (by rw [World.size_alloc]; omega) : PO wn w.heap.size r (pSlope zs))
    have HB := Lib.hid (bchain HB1.out hb)
    clear hp hb
    go_wp2_with fail
    go_ret2
    exact ⟨_, by rw [okC_yes HY.out]; rfl, by rw [slopeA_yes HY.out]; exact HP.out, HB.out⟩
  · have ho' : okP zs = false := by simpa using ho
    have HO := Lib.hid ho'
    go_enter Try.func57, Try.ntmps57
    go_wp2_with fail
    refine HC.out.mono ?_
    rintro e w' ⟨rfl, rfl⟩
    rw [okC_no ho']
    clear ho ho'
    go_wp2_with fail
    go_ret2
    exact ⟨_, by rw [okC_no HO.out]; rfl, by rw [slopeA_no HO.out]; exact PO.nil _ _ _ _ (by first | exact Nat.zero_le _ | simp) (fun e => by first | rfl | cases e), (Below.refl _ _).alloc (Nat.le_refl _) _⟩
end Go.Proofs.Ytnpadkkjaeblfaa
