/-
  The check of two polynomials; PlusPoly: of the model and of the program.
-/
import Derived.Test.YtnpadkkjaeblfaaPvP
namespace Go.Proofs.Ytnpadkkjaeblfaa
set_option linter.unusedVariables false
set_option linter.unusedSimpArgs false
open Go.ChangeShapes Go.WideShapes Go.ChangeAt Go.RowKit

theorem okC2_yes {a b : List Int} (h : (okP a && okP b) = true) : okC2 a b = 0 := by unfold okC2; rw [if_pos h]
theorem okC2_no {a b : List Int} (h : (okP a && okP b) = false) : okC2 a b = 1 := by unfold okC2; rw [if_neg (by rw [h]; decide)]
theorem plusA_yes {a b : List Int} (h : (okP a && okP b) = true) : plusA a b = pPlus a b := by unfold plusA; rw [if_pos h]
theorem plusA_no {a b : List Int} (h : (okP a && okP b) = false) : plusA a b = [] := by unfold plusA; rw [if_neg (by rw [h]; decide)]
theorem l05Both_any (v u : Value) (xs ys : List Int) (hn : xs.length ≤ 1048576) (hn2 : ys.length ≤ 1048576) (w : World) (h : NS w v xs) (h' : NS w u ys) :
    Calls Try.prog 94 #[v, u] w fun e w' => e = .returned (.int .i64 (okC2 xs ys)) ∧ w' = w := by
  by_cases h1 : okP xs = true
  · by_cases h2 : okP ys = true
    · have hc := Lib.hid (okC2_yes (a := xs) (b := ys) (by rw [h1, h2]; rfl))
      rw [hc.out]
      go_enter Try.func94, Try.ntmps94
      go_wp2_with fail
      refine (l05Ok_any v xs hn _ h).mono ?_
      rintro e w' ⟨rfl, rfl⟩
      rw [h1]
      go_wp2_with fail
      refine (l05Ok_any u ys hn2 _ h').mono ?_
      rintro e w' ⟨rfl, rfl⟩
      rw [h2]
      go_wp2_with fail
      go_ret
      exact ⟨rfl, rfl⟩
    · have h2' : okP ys = false := by simpa using h2
      have hc := Lib.hid (okC2_no (a := xs) (b := ys) (by rw [h1, h2']; rfl))
      rw [hc.out]
      go_enter Try.func94, Try.ntmps94
      go_wp2_with fail
      refine (l05Ok_any v xs hn _ h).mono ?_
      rintro e w' ⟨rfl, rfl⟩
      rw [h1]
      go_wp2_with fail
      refine (l05Ok_any u ys hn2 _ h').mono ?_
      rintro e w' ⟨rfl, rfl⟩
      rw [h2']
      go_wp2_with fail
      go_ret
      exact ⟨rfl, rfl⟩
  · have h1' : okP xs = false := by simpa using h1
    have hc := Lib.hid (okC2_no (a := xs) (b := ys) (by rw [h1']; rfl))
    rw [hc.out]
    go_enter Try.func94, Try.ntmps94
    go_wp2_with fail
    refine (l05Ok_any v xs hn _ h).mono ?_
    rintro e w' ⟨rfl, rfl⟩
    rw [h1']
    go_wp2_with fail
    go_ret
    exact ⟨rfl, rfl⟩
set_option maxHeartbeats 1000000 in
theorem spec_PlusPoly (v u : Value) (xs ys : List Int) (hn : xs.length ≤ 1048576) (hn2 : ys.length ≤ 1048576) (w : World) (h : NC w v xs) (h' : NC w u ys) :
    Calls Try.prog 40 #[v, u] w fun e w' => ∃ r, e = .returned (.tuple #[r, .int .i64 (okC2 xs ys)]) ∧ PO w' w.heap.size r (plusA xs ys) ∧ Below w.heap.size w w' := by
  have HN := Lib.hid h.ns
  have HN' := Lib.hid h'.ns
  have HC := Lib.hid (check2 v u xs ys hn hn2 w h.ns h'.ns)
  obtain ⟨A, c, rfl, hca⟩ := h.form
  obtain ⟨A', c', rfl, hca'⟩ := h'.form
  have HB1 := Lib.hid ((Below.refl w.heap.size w).alloc (Nat.le_refl _) (.cells #[.slice A xs.length c, .slice A' ys.length c'] 25))
  have HU := Lib.hid h.inU
  have HU' := Lib.hid h'.inU
  clear h h'
  by_cases ho : (okP xs && okP ys) = true
  · have HY := Lib.hid ho
    have hl1 : xs.length ≤ 21 := okP_len (by rw [Bool.and_eq_true] at ho; exact ho.1)
    have hl2 : ys.length ≤ 21 := okP_len (by rw [Bool.and_eq_true] at ho; exact ho.2)
    go_enter Try.func40, Try.ntmps40
    go_wp2_with fail
    refine (l05Both_any _ _ xs ys hn hn2 _ HN.out HN'.out).mono ?_
    rintro e w' ⟨rfl, rfl⟩
    rw [okC2_yes ho]
    clear ho
    go_wp2_with fail
    refine (l05Plus_any _ _ xs ys hn hn2 _ HN.out HN'.out).mono ?_
    rintro e wn ⟨r, rfl, hp, hb⟩
    have HP := Lib.hid hp
    have HB := Lib.hid hb
    clear hp hb
    go_wp2_with fail
    go_ret2
    exact ⟨_, by rw [okC2_yes HY.out]; rfl, by rw [plusA_yes HY.out]; exact HP.out, HB.out⟩
  · have ho' : (okP xs && okP ys) = false := by simpa using ho
    have HO := Lib.hid ho'
    go_enter Try.func40, Try.ntmps40
    go_wp2_with fail
    refine (l05Both_any _ _ xs ys hn hn2 _ HN.out HN'.out).mono ?_
    rintro e w' ⟨rfl, rfl⟩
    rw [okC2_no ho']
    clear ho ho'
    go_wp2_with fail
    go_ret2
    exact ⟨_, by rw [okC2_no HO.out]; rfl, by rw [plusA_no HO.out]; exact PO.nil _ _ _ _ (by first | exact Nat.zero_le _ | simp) (fun e => by first | rfl | cases e), (Below.refl _ _).alloc (Nat.le_refl _) _⟩
set_option maxHeartbeats 1000000 in
theorem impl_PlusPoly (v u : Value) (xs ys : List Int) (hn : xs.length ≤ 1048576) (hn2 : ys.length ≤ 1048576) (w : World) (h : NC w v xs) (h' : NC w u ys) :
    Calls Try.prog 41 #[v, u] w fun e w' => ∃ r, e = .returned (.tuple #[r, .int .i64 (okC2 xs ys)]) ∧ PO w' w.heap.size r (plusA xs ys) ∧ Below w.heap.size w w' := by
  have HN := Lib.hid h.ns
  have HN' := Lib.hid h'.ns
  have HC := Lib.hid (check2 v u xs ys hn hn2 w h.ns h'.ns)
  obtain ⟨A, c, rfl, hca⟩ := h.form
  obtain ⟨A', c', rfl, hca'⟩ := h'.form
  have HB1 := Lib.hid ((Below.refl w.heap.size w).alloc (Nat.le_refl _) (.cells #[.slice A xs.length c, .slice A' ys.length c'] 25))
  have HU := Lib.hid h.inU
  have HU' := Lib.hid h'.inU
  clear h h'
  by_cases ho : (okP xs && okP ys) = true
  · have HY := Lib.hid ho
    have hl1 : xs.length ≤ 21 := okP_len (by rw [Bool.and_eq_true] at ho; exact ho.1)
    have hl2 : ys.length ≤ 21 := okP_len (by rw [Bool.and_eq_true] at ho; exact ho.2)
    go_enter Try.func41, Try.ntmps41
    go_wp2_with fail
    refine HC.out.mono ?_
    rintro e w' ⟨rfl, rfl⟩
    rw [okC2_yes ho]
    clear ho
    go_wp2_with fail
    refine (ppoly_any _ _ xs ys hn hn2 _ (HN.out.below HB1.out) (HN'.out.below HB1.out)).mono ?_
    rintro e wn ⟨r, rfl, hp, hb⟩
    have HP := Lib.hid (hp.lower (by rw [World.size_alloc]; omega) : PO wn w.heap.size r (pPlus xs ys))
    have HB := Lib.hid (bchain HB1.out hb)
    clear hp hb
    go_wp2_with fail
    go_ret2
    exact ⟨_, by rw [okC2_yes HY.out]; rfl, by rw [plusA_yes HY.out]; exact HP.out, HB.out⟩
  · have ho' : (okP xs && okP ys) = false := by simpa using ho
    have HO := Lib.hid ho'
    go_enter Try.func41, Try.ntmps41
    go_wp2_with fail
    refine HC.out.mono ?_
    rintro e w' ⟨rfl, rfl⟩
    rw [okC2_no ho']
    clear ho ho'
    go_wp2_with fail
    go_ret2
    exact ⟨_, by rw [okC2_no HO.out]; rfl, by rw [plusA_no HO.out]; exact PO.nil _ _ _ _ (by first | exact Nat.zero_le _ | simp) (fun e => by first | rfl | cases e), (Below.refl _ _).alloc (Nat.le_refl _) _⟩
end Go.Proofs.Ytnpadkkjaeblfaa
