/-
  BezoutOf: of the model and of the program.
-/
import Derived.BigQuiet
import Derived.Test.YtnpadkkjaeblfaaPvAf
namespace Go.Proofs.Ytnpadkkjaeblfaa
set_option linter.unusedVariables false
set_option linter.unusedSimpArgs false
open Go.ChangeShapes Go.WideShapes Go.ChangeAt Go.RowKit

theorem bzF_len : ∀ (f : Nat) (a b u v w z : List Int) (N : Nat), a.length ≤ 21 → b.length ≤ 21 → u.length ≤ N → v.length ≤ N → w.length ≤ N → z.length ≤ N → (bzF f a b u v w z).2.1.length ≤ N + 22 * f ∧ (bzF f a b u v w z).2.2.length ≤ N + 22 * f
  | 0, a, b, u, v, w, z, N, _, _, hu, hv, _, _ => ⟨by show u.length ≤ _; omega, by show v.length ≤ _; omega⟩
  | f + 1, a, b, u, v, w, z, N, ha, hb, hu, hv, hw, hz => by
    unfold bzF
    split
    · exact ⟨by show u.length ≤ _; omega, by show v.length ≤ _; omega⟩
    · have h1 := pRemS_le a b
      have L1 := pPlus_len u (pTimes w (pQuo a b))
      have L2 := pPlus_len v (pTimes z (pQuo a b))
      have L3 := pTimes_len w (pQuo a b)
      have L4 := pTimes_len z (pQuo a b)
      have hq := pQuo_len a b
      unfold mx at L1 L2
      have m1 : (pPlus u (pTimes w (pQuo a b))).length ≤ N + 22 := by split at L1 <;> omega
      have m2 : (pPlus v (pTimes z (pQuo a b))).length ≤ N + 22 := by split at L2 <;> omega
      have h := bzF_len f b (pRem a b) w z _ _ (N + 22) hb (by omega) (by omega) (by omega) m1 m2
      exact ⟨Nat.le_trans h.1 (by omega), Nat.le_trans h.2 (by omega)⟩
theorem be_len (a b : List Int) : (beU a b).length ≤ 1000 ∧ (beV a b).length ≤ 1000 := by
  by_cases h : (okP a && okP b) = true
  · rw [(be_yes h).1, (be_yes h).2]
    rw [Bool.and_eq_true] at h
    have h1 := okP_len h.1
    have h2 := okP_len h.2
    have hl := bzF_len (b.length + 1) a b [1] [] [] [1] 1 h1 h2 (by simp) (by simp) (by simp) (by simp)
    have e1 := pScale_len (bzT a b).2.1 (leadP (bzT a b).1)
    have e2 := pScale_len (bzT a b).2.2 (leadP (bzT a b).1)
    unfold bzU bzV
    unfold bzT at e1 e2 ⊢
    omega
  · rw [(be_no (by simpa using h)).1, (be_no (by simpa using h)).2]; simp
set_option maxHeartbeats 1000000 in
theorem spec_BezoutOf (v u : Value) (xs ys : List Int) (hn : xs.length ≤ 1048576) (hn2 : ys.length ≤ 1048576) (w : World) (h : NC w v xs) (h' : NC w u ys) :
    Calls Try.prog 50 #[v, u] w fun e w' => ∃ q r, e = .returned (.tuple #[q, r, .int .i64 (okC2 xs ys)]) ∧ PO w' w.heap.size q (beU xs ys) ∧ PO w' w.heap.size r (beV xs ys) ∧ Below w.heap.size w w' := by
  obtain ⟨A, c, rfl, hca⟩ := h.form
  obtain ⟨A', c', rfl, hca'⟩ := h'.form
  by_cases ho : (okP xs && okP ys) = true
  · rw [(be_yes ho).1, (be_yes ho).2, okC2_yes ho]
    exact l05Bezout_any A A' c c' xs ys ho w h h'
  · have ho' : (okP xs && okP ys) = false := by simpa using ho
    have HN := Lib.hid h.ns
    have HN' := Lib.hid h'.ns
    have HO2 := Lib.hid (be_no ho')
    have HO := Lib.hid ho'
    clear h h' ho
    go_enter Try.func50, Try.ntmps50
    go_wp2_with fail
    refine (l05Both_any _ _ xs ys hn hn2 _ HN.out HN'.out).mono ?_
    rintro e w' ⟨rfl, rfl⟩
    rw [okC2_no ho']
    clear ho'
    go_wp2_with fail
    go_ret3
    exact ⟨_, _, by rw [okC2_no HO.out]; rfl, by rw [HO2.out.1]; exact PO.nil _ _ _ _ (by first | exact Nat.zero_le _ | simp) (fun e => by first | rfl | cases e), by rw [HO2.out.2]; exact PO.nil _ _ _ _ (by first | exact Nat.zero_le _ | simp) (fun e => by first | rfl | cases e), ((Below.refl _ _).alloc (Nat.le_refl _) _).alloc (by simp) _⟩
set_option maxHeartbeats 1000000 in
theorem impl_BezoutOf (v u : Value) (xs ys : List Int) (hn : xs.length ≤ 1048576) (hn2 : ys.length ≤ 1048576) (w : World) (h : NC w v xs) (h' : NC w u ys) :
    Calls Try.prog 51 #[v, u] w fun e w' => ∃ q r, e = .returned (.tuple #[q, r, .int .i64 (okC2 xs ys)]) ∧ PO w' w.heap.size q (beU xs ys) ∧ PO w' w.heap.size r (beV xs ys) ∧ Below w.heap.size w w' ∧ SEP q (beU xs ys) r (beV xs ys) := by
  have HN := Lib.hid h.ns
  have HN' := Lib.hid h'.ns
  have HC := Lib.hid (check2 v u xs ys hn hn2 w h.ns h'.ns)
  obtain ⟨A, c, rfl, hca⟩ := h.form
  obtain ⟨A', c', rfl, hca'⟩ := h'.form
  have HB1 := Lib.hid ((Below.refl w.heap.size w).alloc (Nat.le_refl _) (.cells #[.slice A xs.length c, .slice A' ys.length c'] 25))
  have HU := Lib.hid h.inU
  have HU' := Lib.hid h'.inU
  clear h h'
  by_cases ho : (okP xs && okP ys) = true
  · have HY := Lib.hid ho
    have hl1 : xs.length ≤ 21 := okP_len (by rw [Bool.and_eq_true] at ho; exact ho.1)
    have hl2 : ys.length ≤ 21 := okP_len (by rw [Bool.and_eq_true] at ho; exact ho.2)
    go_enter Try.func51, Try.ntmps51
    go_wp2_with fail
    refine HC.out.mono ?_
    rintro e w' ⟨rfl, rfl⟩
    rw [okC2_yes ho]
    clear ho
    have E := Lib.hid (be_yes HY.out)
    have HTP : Hid (topP xs ∧ topP ys) := Lib.hid (by have := HY.out; rw [Bool.and_eq_true] at this; exact ⟨okP_top this.1, okP_top this.2⟩)
    go_wp2_with fail
    refine (commonOf_full _ _ xs ys hl1 hl2 HTP.out.1 HTP.out.2 _ (NC.below ⟨A, c, rfl, hca, HN.out⟩ HB1.out) (NC.below ⟨A', c', rfl, hca', HN'.out⟩ HB1.out)).mono ?_
    intro e wn hcm
    unfold CMF at hcm
    obtain ⟨a0, n0, e0, r1, r2, rfl, hp1, hp2, hb, hs⟩ := hcm
    obtain ⟨D1, k1, rfl, _⟩ := hp1.form
    obtain ⟨D2, k2, rfl, _⟩ := hp2.form
    have hbw : Below wn.heap.size wn (wn.alloc (.cells #[.slice a0 n0 e0, .slice D1 (bzU xs ys).length k1, .slice D2 (bzV xs ys).length k2] 85)) := (Below.refl _ _).alloc (Nat.le_refl _) _
    have hrow : (wn.alloc (.cells #[.slice a0 n0 e0, .slice D1 (bzU xs ys).length k1, .slice D2 (bzV xs ys).length k2] 85)).heap[wn.heap.size]? = _ := heap_alloc_new wn _
    obtain ⟨wz, hwz⟩ : ∃ wz, wz = (wn.alloc (.cells #[.slice a0 n0 e0, .slice D1 (bzU xs ys).length k1, .slice D2 (bzV xs ys).length k2] 85)) := ⟨_, rfl⟩
    rw [← hwz] at hbw hrow
    have c1 : wz.cell? ⟨wn.heap.size, 1, none⟩ = some (.slice D1 (bzU xs ys).length k1) := cell_of_heap hrow 1
    have c2 : wz.cell? ⟨wn.heap.size, 2, none⟩ = some (.slice D2 (bzV xs ys).length k2) := cell_of_heap hrow 2
    have HP1 := Lib.hid ((hp1.lower (by rw [World.size_alloc]; omega) : PO wn w.heap.size _ (bzU xs ys)).below hbw)
    have HP2 := Lib.hid ((hp2.lower (by rw [World.size_alloc]; omega) : PO wn w.heap.size _ (bzV xs ys)).below hbw)
    have HB := Lib.hid (bchain (bchain HB1.out hb) hbw)
    have HSS := Lib.hid hs
    have HWZ := Lib.hid hwz
    clear hp1 hp2 hb hs hbw hrow hwz
    go_wp2_with fail
    rw [← HWZ.out]
    clear HWZ
    go_quiet (fail)
    go_wp2_with fail
    go_ret3
    exact ⟨_, _, by rw [okC2_yes HY.out]; rfl, by rw [E.out.1]; exact HP1.out.below (bdrewN (Below.refl _ _) _), by rw [E.out.2]; exact HP2.out.below (bdrewN (Below.refl _ _) _), bdrewN HB.out _, by rw [E.out.1, E.out.2]; exact HSS.out⟩
  · have ho' : (okP xs && okP ys) = false := by simpa using ho
    have HO2 := Lib.hid (be_no ho')
    have HO := Lib.hid ho'
    go_enter Try.func51, Try.ntmps51
    go_wp2_with fail
    refine HC.out.mono ?_
    rintro e w' ⟨rfl, rfl⟩
    rw [okC2_no ho']
    clear ho ho'
    go_wp2_with fail
    go_ret3
    exact ⟨_, _, by rw [okC2_no HO.out]; rfl, by rw [HO2.out.1]; exact PO.nil _ _ _ _ (by first | exact Nat.zero_le _ | simp) (fun e => by first | rfl | cases e), by rw [HO2.out.2]; exact PO.nil _ _ _ _ (by first | exact Nat.zero_le _ | simp) (fun e => by first | rfl | cases e), HB1.out, by rw [HO2.out.1]; exact SEP.nil _ _ _⟩
end Go.Proofs.Ytnpadkkjaeblfaa
