/-
  ValidPoly, SamePoly, DegreeOf: of the model and of the program.
-/
import Derived.Test.YtnpadkkjaeblfaaPvS
namespace Go.Proofs.Ytnpadkkjaeblfaa
set_option linter.unusedVariables false
set_option linter.unusedSimpArgs false
open Go.ChangeShapes Go.WideShapes Go.ChangeAt Go.RowKit

theorem spec_ValidPoly (v : Value) (zs : List Int) (hn : zs.length ≤ 1048576) (w : World) (h : NS w v zs) :
    Calls Try.prog 25 #[v] w fun e w' => e = .returned (.bool (okP zs)) ∧ Below w.heap.size w w' := by
  obtain ⟨bv, hb⟩ : ∃ bv, bv = okP zs := ⟨_, rfl⟩
  rw [← hb]
  have HB := Lib.hid hb; clear hb
  go_enter Try.func25, Try.ntmps25
  go_wp2_with fail
  refine (l05Ok_any v zs hn _ h).mono ?_
  rintro e w' ⟨rfl, rfl⟩
  rw [← HB.out]
  go_wp2_with fail
  go_ret
  exact ⟨rfl, Below.refl _ _⟩
theorem impl_ValidPoly (v : Value) (zs : List Int) (hn : zs.length ≤ 1048576) (w : World) (h : NS w v zs) :
    Calls Try.prog 27 #[v] w fun e w' => e = .returned (.bool (okP zs)) ∧ Below w.heap.size w w' := by
  refine (valid_any v zs hn w h).mono ?_
  rintro e w' ⟨rfl, rfl⟩
  exact ⟨rfl, Below.refl _ _⟩
set_option maxHeartbeats 1000000 in
theorem l05Same_any (v u : Value) (xs ys : List Int) (hn : xs.length ≤ 1048576) (hn2 : ys.length ≤ 1048576) (w : World) (h : NS w v xs) (h' : NS w u ys) :
    Calls Try.prog 88 #[v, u] w fun e w' => e = .returned (.bool (eqB xs ys)) ∧ ∃ m, w' = w.drewN m := by
  obtain ⟨A, c, rfl, _, hc⟩ := h
  obtain ⟨A', c', rfl, _, hc'⟩ := h'
  have HC := Lib.hid hc; clear hc
  have HC' := Lib.hid hc'; clear hc'
  by_cases hl : xs.length = ys.length
  · have hle : ys.length ≤ xs.length := by omega
    have hge : xs.length ≤ ys.length := by omega
    have HL := Lib.hid hl
    have ht : ((xs.length : Int) != (ys.length : Int)) = false := by rw [hl]; simp
    clear hl
    go_enter Try.func88, Try.ntmps88
    go_wp2_with fail
    go_loopw [5] (fun i wr => ∃ k m : Nat, i = .int .i64 k ∧ k ≤ xs.length ∧ wr = w.drewN m ∧ Hid (∀ j, j < k → xs.getD j 0 = ys.getD j 0)) (fun i _ => xs.length - (intOf i).toNat)
    case atStart => exact ⟨0, 0, rfl, Nat.zero_le _, rfl, Lib.hid (fun j hj => absurd hj (by omega))⟩
    case round =>
      obtain ⟨k, m, rfl, hk, rfl, hall⟩ := hrel
      by_cases hlt : k < xs.length
      · obtain ⟨b, off, rfl, hlb, hcell⟩ := HC.out (by omega)
        obtain ⟨b', off', rfl, hlb', hcell'⟩ := HC'.out (by omega)
        have h1 : w.cell? ⟨b, off + k, none⟩ = some (.int .u16 (xs.getD k 0)) := hcell k hlt
        have h2 : w.cell? ⟨b', off' + k, none⟩ = some (.int .u16 (ys.getD k 0)) := hcell' k (by omega)
        have HCL := Lib.hid hcell; have HCL' := Lib.hid hcell'
        clear hcell hcell'
        have hlt' : (k : Int) < (xs.length : Int) := by omega
        have hlt2 : (k : Int) < (ys.length : Int) := by omega
        obtain ⟨x, hx⟩ : ∃ x, x = xs.getD k 0 := ⟨_, rfl⟩
        obtain ⟨y, hy⟩ : ∃ y, y = ys.getD k 0 := ⟨_, rfl⟩
        rw [← hx] at h1; rw [← hy] at h2
        by_cases hxy : x = y
        · have hstep := Lib.hid (all_step hall.out (by rw [← hx, ← hy]; exact hxy))
          subst hxy
          have HX := Lib.hid hx; have HY := Lib.hid hy; clear hx hy
          go_wp2_with fail
          go_quiet (fail)
          go_wp2_with fail
          exact ⟨⟨k + 1, m + nq, by go_num, by omega, rfl, hstep⟩, by simp [intOf]; omega⟩
        · have hst := Lib.hid (eqB_ne (xs := xs) (ys := ys) k (by rw [← hx, ← hy]; exact hxy))
          have hne : (x != y) = true := bne_iff_ne.2 hxy
          have HX := Lib.hid hx; have HY := Lib.hid hy; clear hx hy hxy
          go_wp2_with fail
          go_quiet (fail)
          go_wp2_with fail
          go_ret
          exact ⟨by rw [hst.out]; rfl, m + nq, by simp⟩
      · have hst := Lib.hid (show eqB xs ys = true from eqB_all HL.out (fun j hj => hall.out j (by omega)))
        go_wp2_with fail
        go_ret
        exact ⟨by rw [hst.out]; rfl, m, rfl⟩
  · have hst := Lib.hid (eqB_len hl)
    have ht : ((xs.length : Int) != (ys.length : Int)) = true := by rw [bne_iff_ne]; omega
    clear hl
    go_enter Try.func88, Try.ntmps88
    go_wp2_with fail
    go_ret
    exact ⟨by rw [hst.out]; rfl, 0, rfl⟩
set_option maxHeartbeats 1000000 in
theorem equal_any (v u : Value) (xs ys : List Int) (hn : xs.length ≤ 1048576) (hn2 : ys.length ≤ 1048576) (w : World) (h : NS w v xs) (h' : NS w u ys) :
    Calls Try.prog 89 #[v, u] w fun e w' => e = .returned (.bool (eqB xs ys)) ∧ ∃ m, w' = w.drewN m := by
  obtain ⟨A, c, rfl, _, hc⟩ := h
  obtain ⟨A', c', rfl, _, hc'⟩ := h'
  have HC := Lib.hid hc; clear hc
  have HC' := Lib.hid hc'; clear hc'
  by_cases hl : xs.length = ys.length
  · have hle : ys.length ≤ xs.length := by omega
    have hge : xs.length ≤ ys.length := by omega
    have HL := Lib.hid hl
    have ht : ((xs.length : Int) != (ys.length : Int)) = false := by rw [hl]; simp
    clear hl
    go_enter Try.func89, Try.ntmps89
    go_wp2_with fail
    go_loopw [13] (fun i wr => ∃ k m : Nat, i = .int .i64 k ∧ k ≤ xs.length ∧ wr = w.drewN m ∧ Hid (∀ j, j < k → xs.getD j 0 = ys.getD j 0)) (fun i _ => xs.length - (intOf i).toNat)
    case atStart => exact ⟨0, 0, rfl, Nat.zero_le _, rfl, Lib.hid (fun j hj => absurd hj (by omega))⟩
    case round =>
      obtain ⟨k, m, rfl, hk, rfl, hall⟩ := hrel
      by_cases hlt : k < xs.length
      · obtain ⟨b, off, rfl, hlb, hcell⟩ := HC.out (by omega)
        obtain ⟨b', off', rfl, hlb', hcell'⟩ := HC'.out (by omega)
        have h1 : w.cell? ⟨b, off + k, none⟩ = some (.int .u16 (xs.getD k 0)) := hcell k hlt
        have h2 : w.cell? ⟨b', off' + k, none⟩ = some (.int .u16 (ys.getD k 0)) := hcell' k (by omega)
        have HCL := Lib.hid hcell; have HCL' := Lib.hid hcell'
        clear hcell hcell'
        have hlt' : (k : Int) < (xs.length : Int) := by omega
        have hlt2 : (k : Int) < (ys.length : Int) := by omega
        obtain ⟨x, hx⟩ : ∃ x, x = xs.getD k 0 := ⟨_, rfl⟩
        obtain ⟨y, hy⟩ : ∃ y, y = ys.getD k 0 := ⟨_, rfl⟩
        rw [← hx] at h1; rw [← hy] at h2
        by_cases hxy : x = y
        · have hstep := Lib.hid (all_step hall.out (by rw [← hx, ← hy]; exact hxy))
          subst hxy
          have HX := Lib.hid hx; have HY := Lib.hid hy; clear hx hy
          go_wp2_with fail
          go_quiet (fail)
          go_wp2_with fail
          exact ⟨⟨k + 1, m + nq, by go_num, by omega, rfl, hstep⟩, by simp [intOf]; omega⟩
        · have hst := Lib.hid (eqB_ne (xs := xs) (ys := ys) k (by rw [← hx, ← hy]; exact hxy))
          have hne : (x != y) = true := bne_iff_ne.2 hxy
          have HX := Lib.hid hx; have HY := Lib.hid hy; clear hx hy hxy
          go_wp2_with fail
          go_quiet (fail)
          go_wp2_with fail
          go_ret
          exact ⟨by rw [hst.out]; rfl, m + nq, by simp⟩
      · have hst := Lib.hid (show eqB xs ys = true from eqB_all HL.out (fun j hj => hall.out j (by omega)))
        go_wp2_with fail
        go_ret
        exact ⟨by rw [hst.out]; rfl, m, rfl⟩
  · have hst := Lib.hid (eqB_len hl)
    have ht : ((xs.length : Int) != (ys.length : Int)) = true := by rw [bne_iff_ne]; omega
    clear hl
    go_enter Try.func89, Try.ntmps89
    go_wp2_with fail
    go_ret
    exact ⟨by rw [hst.out]; rfl, 0, rfl⟩
theorem spec_SamePoly (v u : Value) (xs ys : List Int) (hn : xs.length ≤ 1048576) (hn2 : ys.length ≤ 1048576) (w : World) (h : NS w v xs) (h' : NS w u ys) :
    Calls Try.prog 29 #[v, u] w fun e w' => e = .returned (.bool (eqB xs ys)) ∧ Below w.heap.size w w' := by
  obtain ⟨bv, hb⟩ : ∃ bv, bv = eqB xs ys := ⟨_, rfl⟩
  rw [← hb]
  have HB := Lib.hid hb; clear hb
  go_enter Try.func29, Try.ntmps29
  go_wp2_with fail
  refine (l05Same_any v u xs ys hn hn2 _ h h').mono ?_
  rintro e w' ⟨rfl, m, rfl⟩
  rw [← HB.out]
  go_wp2_with fail
  go_ret
  exact ⟨rfl, bdrewN (Below.refl _ w) m⟩
theorem impl_SamePoly (v u : Value) (xs ys : List Int) (hn : xs.length ≤ 1048576) (hn2 : ys.length ≤ 1048576) (w : World) (h : NS w v xs) (h' : NS w u ys) :
    Calls Try.prog 30 #[v, u] w fun e w' => e = .returned (.bool (eqB xs ys)) ∧ Below w.heap.size w w' := by
  obtain ⟨bv, hb⟩ : ∃ bv, bv = eqB xs ys := ⟨_, rfl⟩
  rw [← hb]
  have HB := Lib.hid hb; clear hb
  go_enter Try.func30, Try.ntmps30
  go_wp2_with fail
  refine (equal_any v u xs ys hn hn2 _ h h').mono ?_
  rintro e w' ⟨rfl, m, rfl⟩
  rw [← HB.out]
  go_wp2_with fail
  go_ret
  exact ⟨rfl, bdrewN (Below.refl _ w) m⟩
theorem spec_DegreeOf (v : Value) (zs : List Int) (hn : zs.length ≤ 1048576) (w : World) (h : NS w v zs) :
    Calls Try.prog 31 #[v] w fun e w' => e = .returned (.tuple #[.int .i64 (degI zs), .int .i64 (okC zs)]) ∧ Below w.heap.size w w' := by
  by_cases ho : okP zs = true
  · rw [degI_yes ho, okC_yes ho]
    have HN := Lib.hid h
    obtain ⟨A, c, rfl, _⟩ := h
    go_enter Try.func31, Try.ntmps31
    go_wp2_with fail
    refine (l05Ok_any _ zs hn _ HN.out).mono ?_
    rintro e w' ⟨rfl, rfl⟩
    rw [ho]
    go_wp2_with fail
    go_ret2
    exact ⟨rfl, Below.refl _ _⟩
  · have ho' : okP zs = false := by simpa using ho
    rw [degI_no ho', okC_no ho']
    go_enter Try.func31, Try.ntmps31
    go_wp2_with fail
    refine (l05Ok_any _ zs hn _ h).mono ?_
    rintro e w' ⟨rfl, rfl⟩
    rw [ho']
    go_wp2_with fail
    go_ret2
    exact ⟨rfl, Below.refl _ _⟩
theorem impl_DegreeOf (v : Value) (zs : List Int) (hn : zs.length ≤ 1048576) (w : World) (h : NS w v zs) :
    Calls Try.prog 32 #[v] w fun e w' => e = .returned (.tuple #[.int .i64 (degI zs), .int .i64 (okC zs)]) ∧ Below w.heap.size w w' := by
  have HB := Lib.hid ((Below.refl w.heap.size w).alloc (Nat.le_refl _) (.cells #[v] 25))
  have HC1 := Lib.hid (check1 v zs hn w h)
  by_cases ho : okP zs = true
  · rw [degI_yes ho, okC_yes ho]
    obtain ⟨A, c, rfl, _⟩ := h
    go_enter Try.func32, Try.ntmps32
    go_wp2_with fail
    refine HC1.out.mono ?_
    rintro e w' ⟨rfl, rfl⟩
    rw [okC_yes ho]
    go_wp2_with fail
    refine (degree_any A zs.length c hn _).mono ?_
    rintro e w' ⟨rfl, rfl⟩
    go_wp2_with fail
    go_ret2
    exact ⟨rfl, HB.out⟩
  · have ho' : okP zs = false := by simpa using ho
    rw [degI_no ho', okC_no ho']
    obtain ⟨A, c, rfl, _⟩ := h
    go_enter Try.func32, Try.ntmps32
    go_wp2_with fail
    refine HC1.out.mono ?_
    rintro e w' ⟨rfl, rfl⟩
    rw [okC_no ho']
    go_wp2_with fail
    go_ret2
    exact ⟨rfl, HB.out⟩
end Go.Proofs.Ytnpadkkjaeblfaa
