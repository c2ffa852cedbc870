/-
  IsSimple: of the model and of the program.
-/
import Derived.Test.YtnpadkkjaeblfaaPvV
namespace Go.Proofs.Ytnpadkkjaeblfaa
set_option linter.unusedVariables false
set_option linter.unusedSimpArgs false
open Go.ChangeShapes Go.WideShapes Go.ChangeAt Go.RowKit

theorem pRemS_le (a b : List Int) : (pRem a b).length ≤ a.length := by
  unfold pRem
  split
  · exact Nat.le_refl _
  · rw [pTrim_len]
    refine Nat.le_trans (trimN_le _ _) ?_
    rw [tab_len]
    exact Nat.le_refl _
theorem gcdS_len : ∀ f (a b : List Int), a.length ≤ 21 → b.length ≤ 21 → (gcdF f a b).length ≤ 21
  | 0, a, b, h, _ => h
  | f + 1, a, b, h, h' => by
    unfold gcdF
    split
    · exact h
    · exact gcdS_len f b (pRem a b) h' (Nat.le_trans (pRemS_le a b) h)
/-- how many parts the common divisor of a polynomial and its slope has -/
def comL (zs : List Int) : Nat := (pMonic (pGcd zs (pSlope zs))).length
def simB (zs : List Int) : Bool := if cuzC zs = 0 then decide (comL zs = 1) else false
theorem simB_no {zs : List Int} (h : ¬ cuzC zs = 0) : simB zs = false := by unfold simB; rw [if_neg h]
theorem simB_yes {zs : List Int} (h : cuzC zs = 0) : simB zs = decide (comL zs = 1) := by unfold simB; rw [if_pos h]
theorem sim_one (n : Nat) : ((n : Int) == 1) = decide (n = 1) := by
  rw [Bool.eq_iff_iff, beq_iff_eq, decide_eq_true_iff]; omega
theorem sim_zero (n : Nat) : ((n : Int) - 1 == 0) = decide (n = 1) := by
  rw [Bool.eq_iff_iff, beq_iff_eq, decide_eq_true_iff]; omega
theorem cuz_ok {zs : List Int} (h : cuzC zs = 0) : okP zs = true := by
  by_cases h1 : okP zs = true
  · exact h1
  · have := cuzC_no (show okP zs = false by simpa using h1); omega
set_option maxRecDepth 100000 in
set_option maxHeartbeats 2000000 in
theorem impl_IsSimple (v : Value) (zs : List Int) (hn : zs.length ≤ 1048576) (w : World) (h : NC w v zs) :
    Calls Try.prog 76 #[v] w fun e w' => e = .returned (.tuple #[.bool (simB zs), .int .i64 (cuzC zs)]) ∧ Below w.heap.size w w' := by
  have HN := Lib.hid h
  have HC := Lib.hid (cuz_any v zs hn w h.ns)
  have HB1 := Lib.hid ((Below.refl w.heap.size w).alloc (Nat.le_refl _) (.cells #[v] 25))
  clear h
  obtain ⟨cd, hcd⟩ : ∃ cd, cd = cuzC zs := ⟨_, rfl⟩
  by_cases h0 : cd = 0
  · have h0' : cuzC zs = 0 := by rw [← hcd]; exact h0
    have hok := cuz_ok h0'
    have HOK := Lib.hid hok
    have hl1 : zs.length ≤ 21 := okP_len hok
    obtain ⟨bb, hbb⟩ : ∃ bb, bb = simB zs := ⟨_, rfl⟩
    rw [← hbb]
    rw [simB_yes h0'] at hbb
    have HSB := Lib.hid hbb
    have HCD := Lib.hid h0'
    rw [h0']
    clear hcd h0' h0 hok hbb
    go_enter Try.func76, Try.ntmps76
    go_wp2_with fail
    refine HC.out.mono ?_
    rintro e w' ⟨rfl, rfl⟩
    rw [HCD.out]
    go_wp2_with fail
    refine (slope_any _ zs hn _ ((HN.out.below HB1.out).ns)).mono ?_
    rintro e w2 ⟨r2, rfl, hp2, hb2⟩
    have HP2 := Lib.hid hp2
    have HB2 := Lib.hid (bchain HB1.out hb2)
    clear hp2 hb2
    go_wp2_with fail
    refine (commonOf_any _ _ zs (pSlope zs) hl1 (Nat.le_trans (pSlope_len zs) hl1) (okP_top HOK.out) (pTrim_top _) _ (HN.out.below HB2.out) HP2.out.nc).mono ?_
    intro e wn hcm
    unfold CMon at hcm
    obtain ⟨r0, a1, n1, e1, a2, n2, e2, rfl, hp, hb⟩ := hcm
    obtain ⟨D, k, rfl, _⟩ := hp.form
    have HB := Lib.hid (bchain HB2.out hb)
    have hcl : (pMonic (pGcd zs (pSlope zs))).length = comL zs := rfl
    rw [hcl]
    have hsz : comL zs ≤ 1048576 := by
      have h1 := pMonic_len (pGcd zs (pSlope zs))
      have h2 := gcdS_len (zs.length) zs (pSlope zs) hl1 (Nat.le_trans (pSlope_len zs) hl1)
      unfold comL
      unfold pGcd at h1 ⊢
      have h3 := gcdS_len ((pSlope zs).length + 1) zs (pSlope zs) hl1 (Nat.le_trans (pSlope_len zs) hl1)
      omega
    obtain ⟨n, hcn⟩ : ∃ n, n = comL zs := ⟨_, rfl⟩
    rw [← hcn] at hsz ⊢
    have hsim : ((n : Int) - 1 == 0) = bb := by rw [sim_zero, HSB.out, hcn]
    clear hp hb hcl hcn
    have hfd : ∀ (B0 B1 B2 : Option Addr) (m0 m1 m2 k0 k1 k2 : Nat) (u : World), (Instr.field 85 (.agg #[.slice B0 m0 k0, .slice B1 m1 k1, .slice B2 m2 k2]) 0).run Try.prog u = .ok (.slice B0 m0 k0) u := fun _ _ _ _ _ _ _ _ _ _ => by kernel_rfl
    go_wp2_with fail
    refine (degree_any _ _ _ hsz _).mono ?_
    rintro e w' ⟨rfl, hw⟩
    obtain rfl := hw.symm
    go_wp2_with fail
    go_ret2
    exact ⟨rfl, HB.out⟩
  · have h1 : simB zs = false := simB_no (by rw [← hcd]; exact h0)
    rw [h1, ← hcd]
    have HCD := Lib.hid hcd
    have T1 : (cd != 0) = true := bne_iff_ne.2 h0
    clear hcd h0 h1
    go_enter Try.func76, Try.ntmps76
    go_wp2_with fail
    refine HC.out.mono ?_
    rintro e w' ⟨rfl, rfl⟩
    rw [← HCD.out]
    go_wp2_with fail
    go_ret2
    exact ⟨rfl, HB1.out⟩
set_option maxRecDepth 100000 in
set_option maxHeartbeats 2000000 in
theorem spec_IsSimple (v : Value) (zs : List Int) (hn : zs.length ≤ 1048576) (w : World) (h : NC w v zs) :
    Calls Try.prog 75 #[v] w fun e w' => e = .returned (.tuple #[.bool (simB zs), .int .i64 (cuzC zs)]) ∧ Below w.heap.size w w' := by
  have HNC := Lib.hid h
  have HN := Lib.hid h.ns
  obtain ⟨A, c, rfl, hca⟩ := h.form
  clear h
  by_cases ho : okP zs = true
  · have HY := Lib.hid ho
    have hl1 : zs.length ≤ 21 := okP_len ho
    by_cases h0 : zs.length = 0
    · have T1 : ((zs.length : Int) == 0) = true := by rw [h0]; rfl
      have e1 := cuzC_zero ho h0
      rw [simB_no (by rw [e1]; decide), e1]
      clear h0 ho e1
      go_enter Try.func75, Try.ntmps75
      go_wp2_with fail
      refine (l05Ok_any _ zs hn _ HN.out).mono ?_
      rintro e w' ⟨rfl, hw⟩
      obtain rfl := hw.symm
      rw [HY.out]
      go_wp2_with fail
      go_ret2
      exact ⟨rfl, Below.refl _ _⟩
    · have T1 : ((zs.length : Int) == 0) = false := by rw [beq_eq_false_iff_ne]; omega
      have e1 := cuzC_yes ho h0
      obtain ⟨bb, hbb⟩ : ∃ bb, bb = simB zs := ⟨_, rfl⟩
      rw [← hbb]
      rw [simB_yes e1] at hbb
      have HSB := Lib.hid hbb
      rw [e1]
      clear h0 ho e1 hbb
      go_enter Try.func75, Try.ntmps75
      go_wp2_with fail
      refine (l05Ok_any _ zs hn _ HN.out).mono ?_
      rintro e w' ⟨rfl, hw⟩
      obtain rfl := hw.symm
      rw [HY.out]
      go_wp2_with fail
      refine (l05Slope_any _ zs hn _ HN.out).mono ?_
      rintro e w2 ⟨r2, rfl, hp2, hb2⟩
      have HP2 := Lib.hid hp2
      have HB2 := Lib.hid hb2
      clear hp2 hb2
      go_wp2_with fail
      refine (l05Common_any _ _ zs (pSlope zs) hl1 (Nat.le_trans (pSlope_len zs) hl1) (okP_top HY.out) (pTrim_top _) _ (HNC.out.below HB2.out) HP2.out.nc).mono ?_
      rintro e wn ⟨r, rfl, ho, hb⟩
      obtain ⟨D, k, rfl, _, _⟩ := own_form ho
      have HB := Lib.hid (bchain HB2.out hb)
      have hcl : (pMonic (pGcd zs (pSlope zs))).length = comL zs := rfl
      rw [hcl]
      obtain ⟨n, hcn⟩ : ∃ n, n = comL zs := ⟨_, rfl⟩
      rw [← hcn]
      have hsim : ((n : Int) == 1) = bb := by rw [sim_one, HSB.out, hcn]
      clear ho hb hcl hcn
      go_wp2_with fail
      go_ret2
      exact ⟨rfl, HB.out⟩
  · have ho' : okP zs = false := by simpa using ho
    have e1 := cuzC_no ho'
    rw [simB_no (by rw [e1]; decide), e1]
    have HO := Lib.hid ho'
    clear ho ho' e1
    go_enter Try.func75, Try.ntmps75
    go_wp2_with fail
    refine (l05Ok_any _ zs hn _ HN.out).mono ?_
    rintro e w' ⟨rfl, hw⟩
    obtain rfl := hw.symm
    rw [HO.out]
    go_wp2_with fail
    go_ret2
    exact ⟨rfl, Below.refl _ _⟩
end Go.Proofs.Ytnpadkkjaeblfaa
