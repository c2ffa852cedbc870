/-
  CommonPoly: of the model and of the program.
-/
import Derived.Test.YtnpadkkjaeblfaaPvV
namespace Go.Proofs.Ytnpadkkjaeblfaa
set_option linter.unusedVariables false
set_option linter.unusedSimpArgs false
open Go.ChangeShapes Go.WideShapes Go.ChangeAt Go.RowKit

theorem pRem_le (a b : List Int) : (pRem a b).length ≤ a.length := by
  unfold pRem
  split
  · exact Nat.le_refl _
  · rw [pTrim_len]
    refine Nat.le_trans (trimN_le _ _) ?_
    rw [tab_len]
    exact Nat.le_refl _
theorem gcdF_len : ∀ f (a b : List Int), a.length ≤ 21 → b.length ≤ 21 → (gcdF f a b).length ≤ 21
  | 0, a, b, h, _ => h
  | f + 1, a, b, h, h' => by
    unfold gcdF
    split
    · exact h
    · exact gcdF_len f b (pRem a b) h' (Nat.le_trans (pRem_le a b) h)
theorem gcdF_in : ∀ f (a b : List Int), inU a → inU b → inU (gcdF f a b)
  | 0, a, b, h, _ => h
  | f + 1, a, b, h, h' => by
    unfold gcdF
    split
    · exact h
    · exact gcdF_in f b (pRem a b) h' (pRem_in h h')
theorem pGcd_in {a b : List Int} (h : inU a) (h' : inU b) : inU (pGcd a b) := gcdF_in _ _ _ h h'
def commonA (a b : List Int) : List Int := if okP a && okP b then pMonic (pGcd a b) else []
theorem commonA_yes {a b : List Int} (h : (okP a && okP b) = true) : commonA a b = pMonic (pGcd a b) := by unfold commonA; rw [if_pos h]
theorem commonA_no {a b : List Int} (h : (okP a && okP b) = false) : commonA a b = [] := by unfold commonA; rw [if_neg (by rw [h]; decide)]
theorem commonA_len (a b : List Int) : (commonA a b).length ≤ 21 := by
  by_cases h : (okP a && okP b) = true
  · rw [commonA_yes h]
    rw [Bool.and_eq_true] at h
    exact Nat.le_trans (pMonic_len _) (gcdF_len _ _ _ (okP_len h.1) (okP_len h.2))
  · rw [commonA_no (by simpa using h)]; simp
theorem both_top {a b : List Int} (h : (okP a && okP b) = true) : topP a ∧ topP b := by
  rw [Bool.and_eq_true] at h
  exact ⟨okP_top h.1, okP_top h.2⟩
set_option maxRecDepth 100000 in
set_option maxHeartbeats 2000000 in
theorem spec_CommonPoly (v u : Value) (xs ys : List Int) (hn : xs.length ≤ 1048576) (hn2 : ys.length ≤ 1048576) (w : World) (h : NC w v xs) (h' : NC w u ys) :
    Calls Try.prog 48 #[v, u] w fun e w' => ∃ r, e = .returned (.tuple #[r, .int .i64 (okC2 xs ys)]) ∧ PO w' w.heap.size r (commonA xs ys) ∧ Below w.heap.size w w' := by
  have HN := Lib.hid h.ns
  have HN' := Lib.hid h'.ns
  have HC := Lib.hid (check2 v u xs ys hn hn2 w h.ns h'.ns)
  obtain ⟨A, c, rfl, hca⟩ := h.form
  obtain ⟨A', c', rfl, hca'⟩ := h'.form
  have HB1 := Lib.hid ((Below.refl w.heap.size w).alloc (Nat.le_refl _) (.cells #[.slice A xs.length c, .slice A' ys.length c'] 25))
  have HU := Lib.hid h.inU
  have HU' := Lib.hid h'.inU
  clear h h'
  by_cases ho : (okP xs && okP ys) = true
  · have HY := Lib.hid ho
    have hl1 : xs.length ≤ 21 := okP_len (by rw [Bool.and_eq_true] at ho; exact ho.1)
    have hl2 : ys.length ≤ 21 := okP_len (by rw [Bool.and_eq_true] at ho; exact ho.2)
    go_enter Try.func48, Try.ntmps48
    go_wp2_with fail
    refine (l05Both_any _ _ xs ys hn hn2 _ HN.out HN'.out).mono ?_
    rintro e w' ⟨rfl, rfl⟩
    rw [okC2_yes ho]
    clear ho
    have HTP := Lib.hid (both_top HY.out)
    go_wp2_with fail
    refine (l05Common_any _ _ xs ys hl1 hl2 HTP.out.1 HTP.out.2 _ ⟨A, c, rfl, hca, HN.out⟩ ⟨A', c', rfl, hca', HN'.out⟩).mono ?_
    rintro e wn ⟨r, rfl, ho, hb⟩
    obtain ⟨D, k, rfl, _, _⟩ := own_form ho
    have HO := Lib.hid ho
    have HB := Lib.hid hb
    clear ho hb
    go_wp2_with fail
    go_ret2
    exact ⟨_, by rw [okC2_yes HY.out]; rfl, by rw [commonA_yes HY.out]; exact PO.of_own HO.out rfl (pMonic_in (pGcd_in HU.out HU'.out)), HB.out⟩
  · have ho' : (okP xs && okP ys) = false := by simpa using ho
    have HO := Lib.hid ho'
    go_enter Try.func48, Try.ntmps48
    go_wp2_with fail
    refine (l05Both_any _ _ xs ys hn hn2 _ HN.out HN'.out).mono ?_
    rintro e w' ⟨rfl, rfl⟩
    rw [okC2_no ho']
    clear ho ho'
    go_wp2_with fail
    go_ret2
    exact ⟨_, by rw [okC2_no HO.out]; rfl, by rw [commonA_no HO.out]; exact PO.nil _ _ _ _ (by first | exact Nat.zero_le _ | simp) (fun e => by first | rfl | cases e), (Below.refl _ _).alloc (Nat.le_refl _) _⟩
set_option maxRecDepth 100000 in
set_option maxHeartbeats 2000000 in
theorem impl_CommonPoly (v u : Value) (xs ys : List Int) (hn : xs.length ≤ 1048576) (hn2 : ys.length ≤ 1048576) (w : World) (h : NC w v xs) (h' : NC w u ys) :
    Calls Try.prog 49 #[v, u] w fun e w' => ∃ r, e = .returned (.tuple #[r, .int .i64 (okC2 xs ys)]) ∧ PO w' w.heap.size r (commonA xs ys) ∧ Below w.heap.size w w' := by
  have HN := Lib.hid h.ns
  have HN' := Lib.hid h'.ns
  have HC := Lib.hid (check2 v u xs ys hn hn2 w h.ns h'.ns)
  obtain ⟨A, c, rfl, hca⟩ := h.form
  obtain ⟨A', c', rfl, hca'⟩ := h'.form
  have HB1 := Lib.hid ((Below.refl w.heap.size w).alloc (Nat.le_refl _) (.cells #[.slice A xs.length c, .slice A' ys.length c'] 25))
  have HU := Lib.hid h.inU
  have HU' := Lib.hid h'.inU
  clear h h'
  by_cases ho : (okP xs && okP ys) = true
  · have HY := Lib.hid ho
    have hl1 : xs.length ≤ 21 := okP_len (by rw [Bool.and_eq_true] at ho; exact ho.1)
    have hl2 : ys.length ≤ 21 := okP_len (by rw [Bool.and_eq_true] at ho; exact ho.2)
    go_enter Try.func49, Try.ntmps49
    go_wp2_with fail
    refine HC.out.mono ?_
    rintro e w' ⟨rfl, rfl⟩
    rw [okC2_yes ho]
    clear ho
    have HTP := Lib.hid (both_top HY.out)
    go_wp2_with fail
    refine (commonOf_any _ _ xs ys hl1 hl2 HTP.out.1 HTP.out.2 _ (NC.below ⟨A, c, rfl, hca, HN.out⟩ HB1.out) (NC.below ⟨A', c', rfl, hca', HN'.out⟩ HB1.out)).mono ?_
    intro e wn hcm
    unfold CMon at hcm
    obtain ⟨r0, a1, n1, e1, a2, n2, e2, rfl, hp, hb⟩ := hcm
    obtain ⟨D, k, rfl, _⟩ := hp.form
    have HP := Lib.hid (hp.lower (by rw [World.size_alloc]; omega) : PO wn w.heap.size _ (pMonic (pGcd xs ys)))
    have HB := Lib.hid (bchain HB1.out hb)
    clear hp hb
    have hfd : ∀ (B0 B1 B2 : Option Addr) (m0 m1 m2 k0 k1 k2 : Nat) (u : World), (Instr.field 85 (.agg #[.slice B0 m0 k0, .slice B1 m1 k1, .slice B2 m2 k2]) 0).run Try.prog u = .ok (.slice B0 m0 k0) u := fun _ _ _ _ _ _ _ _ _ _ => by kernel_rfl
    go_wp2_with fail
    go_ret2
    exact ⟨_, by rw [okC2_yes HY.out]; rfl, by rw [commonA_yes HY.out]; exact HP.out, HB.out⟩
  · have ho' : (okP xs && okP ys) = false := by simpa using ho
    have HO := Lib.hid ho'
    go_enter Try.func49, Try.ntmps49
    go_wp2_with fail
    refine HC.out.mono ?_
    rintro e w' ⟨rfl, rfl⟩
    rw [okC2_no ho']
    clear ho ho'
    go_wp2_with fail
    go_ret2
    exact ⟨_, by rw [okC2_no HO.out]; rfl, by rw [commonA_no HO.out]; exact PO.nil _ _ _ _ (by first | exact Nat.zero_le _ | simp) (fun e => by first | rfl | cases e), (Below.refl _ _).alloc (Nat.le_refl _) _⟩
end Go.Proofs.Ytnpadkkjaeblfaa
