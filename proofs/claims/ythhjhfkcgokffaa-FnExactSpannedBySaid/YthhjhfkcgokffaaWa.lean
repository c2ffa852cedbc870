/-
  Words compared and weighed: of the model and of the program; SameWord, WeightOf.
-/
import Derived.Test.YthhjhfkcgokffaaWn
import Derived.Test.YthhjhfkcgokffaaWo
import Derived.Deep.QuietTactic
namespace Go.Proofs.Ythhjhfkcgokffaa
set_option linter.unusedVariables false
set_option linter.unusedSimpArgs false
open Go.ChangeShapes Go.WideShapes Go.ChangeAt Go.RowKit

set_option maxHeartbeats 1000000 in
theorem sameNims_any (v u : Value) (xs ys : List Int) (hn : xs.length ≤ 1048576) (hn2 : ys.length ≤ 1048576) (w : World) (h : NS w v xs) (h' : NS w u ys) :
    Calls Try.prog 76 #[v, u] w fun e w' => e = .returned (.bool (eqB xs ys)) ∧ ∃ m, w' = w.drewN m := by
  obtain ⟨A, c, rfl, _, hc⟩ := h
  obtain ⟨A', c', rfl, _, hc'⟩ := h'
  have HC := Lib.hid hc; clear hc
  have HC' := Lib.hid hc'; clear hc'
  by_cases hl : xs.length = ys.length
  · have hle : ys.length ≤ xs.length := by omega
    have hge : xs.length ≤ ys.length := by omega
    have HL := Lib.hid hl
    have ht : ((xs.length : Int) != (ys.length : Int)) = false := by rw [hl]; simp
    clear hl
    go_enter Try.func76, Try.ntmps76
    go_wp2_with fail
    go_loopw [5] (fun i wr => ∃ k m : Nat, i = .int .i64 k ∧ k ≤ xs.length ∧ wr = w.drewN m ∧ Hid (∀ j, j < k → xs.getD j 0 = ys.getD j 0)) (fun i _ => xs.length - (intOf i).toNat)
    case atStart => exact ⟨0, 0, rfl, Nat.zero_le _, rfl, Lib.hid (fun j hj => absurd hj (by omega))⟩
    case round =>
      obtain ⟨k, m, rfl, hk, rfl, hall⟩ := hrel
      by_cases hlt : k < xs.length
      · obtain ⟨b, off, rfl, hlb, hcell⟩ := HC.out (by omega)
        obtain ⟨b', off', rfl, hlb', hcell'⟩ := HC'.out (by omega)
        have h1 : w.cell? ⟨b, off + k, none⟩ = some (.int .u16 (xs.getD k 0)) := hcell k hlt
        have h2 : w.cell? ⟨b', off' + k, none⟩ = some (.int .u16 (ys.getD k 0)) := hcell' k (by omega)
        have HCL := Lib.hid hcell; have HCL' := Lib.hid hcell'
        clear hcell hcell'
        have hlt' : (k : Int) < (xs.length : Int) := by omega
        have hlt2 : (k : Int) < (ys.length : Int) := by omega
        obtain ⟨x, hx⟩ : ∃ x, x = xs.getD k 0 := ⟨_, rfl⟩
        obtain ⟨y, hy⟩ : ∃ y, y = ys.getD k 0 := ⟨_, rfl⟩
        rw [← hx] at h1; rw [← hy] at h2
        by_cases hxy : x = y
        · have hstep := Lib.hid (all_step hall.out (by rw [← hx, ← hy]; exact hxy))
          subst hxy
          have HX := Lib.hid hx; have HY := Lib.hid hy; clear hx hy
          go_wp2_with fail
          go_quiet (fail)
          go_wp2_with fail
          exact ⟨⟨k + 1, m + nq, by go_num, by omega, rfl, hstep⟩, by simp [intOf]; omega⟩
        · have hst := Lib.hid (eqB_ne (xs := xs) (ys := ys) k (by rw [← hx, ← hy]; exact hxy))
          have hne : (x != y) = true := bne_iff_ne.2 hxy
          have HX := Lib.hid hx; have HY := Lib.hid hy; clear hx hy hxy
          go_wp2_with fail
          go_quiet (fail)
          go_wp2_with fail
          go_ret
          exact ⟨by rw [hst.out]; rfl, m + nq, by simp⟩
      · have hst := Lib.hid (show eqB xs ys = true from eqB_all HL.out (fun j hj => hall.out j (by omega)))
        go_wp2_with fail
        go_ret
        exact ⟨by rw [hst.out]; rfl, m, rfl⟩
  · have hst := Lib.hid (eqB_len hl)
    have ht : ((xs.length : Int) != (ys.length : Int)) = true := by rw [bne_iff_ne]; omega
    clear hl
    go_enter Try.func76, Try.ntmps76
    go_wp2_with fail
    go_ret
    exact ⟨by rw [hst.out]; rfl, 0, rfl⟩
set_option maxHeartbeats 1000000 in
theorem equalW_any (v u : Value) (xs ys : List Int) (hn : xs.length ≤ 1048576) (hn2 : ys.length ≤ 1048576) (w : World) (h : NS w v xs) (h' : NS w u ys) :
    Calls Try.prog 132 #[v, u] w fun e w' => e = .returned (.bool (eqB xs ys)) ∧ ∃ m, w' = w.drewN m := by
  obtain ⟨A, c, rfl, _, hc⟩ := h
  obtain ⟨A', c', rfl, _, hc'⟩ := h'
  have HC := Lib.hid hc; clear hc
  have HC' := Lib.hid hc'; clear hc'
  by_cases hl : xs.length = ys.length
  · have hle : ys.length ≤ xs.length := by omega
    have hge : xs.length ≤ ys.length := by omega
    have HL := Lib.hid hl
    have ht : ((xs.length : Int) != (ys.length : Int)) = false := by rw [hl]; simp
    clear hl
    go_enter Try.func132, Try.ntmps132
    go_wp2_with fail
    go_loopw [13] (fun i wr => ∃ k m : Nat, i = .int .i64 k ∧ k ≤ xs.length ∧ wr = w.drewN m ∧ Hid (∀ j, j < k → xs.getD j 0 = ys.getD j 0)) (fun i _ => xs.length - (intOf i).toNat)
    case atStart => exact ⟨0, 0, rfl, Nat.zero_le _, rfl, Lib.hid (fun j hj => absurd hj (by omega))⟩
    case round =>
      obtain ⟨k, m, rfl, hk, rfl, hall⟩ := hrel
      by_cases hlt : k < xs.length
      · obtain ⟨b, off, rfl, hlb, hcell⟩ := HC.out (by omega)
        obtain ⟨b', off', rfl, hlb', hcell'⟩ := HC'.out (by omega)
        have h1 : w.cell? ⟨b, off + k, none⟩ = some (.int .u16 (xs.getD k 0)) := hcell k hlt
        have h2 : w.cell? ⟨b', off' + k, none⟩ = some (.int .u16 (ys.getD k 0)) := hcell' k (by omega)
        have HCL := Lib.hid hcell; have HCL' := Lib.hid hcell'
        clear hcell hcell'
        have hlt' : (k : Int) < (xs.length : Int) := by omega
        have hlt2 : (k : Int) < (ys.length : Int) := by omega
        obtain ⟨x, hx⟩ : ∃ x, x = xs.getD k 0 := ⟨_, rfl⟩
        obtain ⟨y, hy⟩ : ∃ y, y = ys.getD k 0 := ⟨_, rfl⟩
        rw [← hx] at h1; rw [← hy] at h2
        by_cases hxy : x = y
        · have hstep := Lib.hid (all_step hall.out (by rw [← hx, ← hy]; exact hxy))
          subst hxy
          have HX := Lib.hid hx; have HY := Lib.hid hy; clear hx hy
          go_wp2_with fail
          go_quiet (fail)
          go_wp2_with fail
          exact ⟨⟨k + 1, m + nq, by go_num, by omega, rfl, hstep⟩, by simp [intOf]; omega⟩
        · have hst := Lib.hid (eqB_ne (xs := xs) (ys := ys) k (by rw [← hx, ← hy]; exact hxy))
          have hne : (x != y) = true := bne_iff_ne.2 hxy
          have HX := Lib.hid hx; have HY := Lib.hid hy; clear hx hy hxy
          go_wp2_with fail
          go_quiet (fail)
          go_wp2_with fail
          go_ret
          exact ⟨by rw [hst.out]; rfl, m + nq, by simp⟩
      · have hst := Lib.hid (show eqB xs ys = true from eqB_all HL.out (fun j hj => hall.out j (by omega)))
        go_wp2_with fail
        go_ret
        exact ⟨by rw [hst.out]; rfl, m, rfl⟩
  · have hst := Lib.hid (eqB_len hl)
    have ht : ((xs.length : Int) != (ys.length : Int)) = true := by rw [bne_iff_ne]; omega
    clear hl
    go_enter Try.func132, Try.ntmps132
    go_wp2_with fail
    go_ret
    exact ⟨by rw [hst.out]; rfl, 0, rfl⟩
theorem specSame_any (v u : Value) (xs ys : List Int) (hn : xs.length ≤ 1048576) (hn2 : ys.length ≤ 1048576) (w : World) (h : NS w v xs) (h' : NS w u ys) :
    Calls Try.prog 27 #[v, u] w fun e w' => e = .returned (.bool (eqB xs ys)) ∧ ∃ m, w' = w.drewN m := by
  obtain ⟨bv, hb⟩ : ∃ bv, bv = eqB xs ys := ⟨_, rfl⟩
  rw [← hb]
  have HB := Lib.hid hb; clear hb
  go_enter Try.func27, Try.ntmps27
  go_wp2_with fail
  refine (sameNims_any v u xs ys hn hn2 _ h h').mono ?_
  rintro e w' ⟨rfl, m, rfl⟩
  rw [← HB.out]
  go_wp2_with fail
  go_ret
  exact ⟨rfl, m, rfl⟩
theorem spec_SameWord (v u : Value) (xs ys : List Int) (hn : xs.length ≤ 1048576) (hn2 : ys.length ≤ 1048576) (w : World) (h : NS w v xs) (h' : NS w u ys) :
    Calls Try.prog 27 #[v, u] w fun e w' => e = .returned (.bool (eqB xs ys)) ∧ Below w.heap.size w w' := by
  refine (specSame_any v u xs ys hn hn2 w h h').mono ?_
  rintro e w' ⟨rfl, m, rfl⟩
  exact ⟨rfl, bdrewN (Below.refl _ w) m⟩
theorem equals_any (v u : Value) (xs ys : List Int) (hn : xs.length ≤ 1048576) (hn2 : ys.length ≤ 1048576) (w : World) (h : NS w v xs) (h' : NS w u ys) :
    Calls Try.prog 77 #[v, u] w fun e w' => e = .returned (.bool (eqB xs ys)) ∧ ∃ m, w' = w.drewN m := by
  obtain ⟨bv, hb⟩ : ∃ bv, bv = eqB xs ys := ⟨_, rfl⟩
  rw [← hb]
  have HB := Lib.hid hb; clear hb
  go_enter Try.func77, Try.ntmps77
  go_wp2_with fail
  refine (equalW_any v u xs ys hn hn2 _ h h').mono ?_
  rintro e w' ⟨rfl, m, rfl⟩
  rw [← HB.out]
  go_wp2_with fail
  go_ret
  exact ⟨rfl, m, rfl⟩
theorem implSame_any (v u : Value) (xs ys : List Int) (hn : xs.length ≤ 1048576) (hn2 : ys.length ≤ 1048576) (w : World) (h : NS w v xs) (h' : NS w u ys) :
    Calls Try.prog 28 #[v, u] w fun e w' => e = .returned (.bool (eqB xs ys)) ∧ ∃ m, w' = w.drewN m := by
  obtain ⟨bv, hb⟩ : ∃ bv, bv = eqB xs ys := ⟨_, rfl⟩
  rw [← hb]
  have HB := Lib.hid hb; clear hb
  go_enter Try.func28, Try.ntmps28
  go_wp2_with fail
  refine (equals_any v u xs ys hn hn2 _ h h').mono ?_
  rintro e w' ⟨rfl, m, rfl⟩
  rw [← HB.out]
  go_wp2_with fail
  go_ret
  exact ⟨rfl, m, rfl⟩
theorem impl_SameWord (v u : Value) (xs ys : List Int) (hn : xs.length ≤ 1048576) (hn2 : ys.length ≤ 1048576) (w : World) (h : NS w v xs) (h' : NS w u ys) :
    Calls Try.prog 28 #[v, u] w fun e w' => e = .returned (.bool (eqB xs ys)) ∧ Below w.heap.size w w' := by
  refine (implSame_any v u xs ys hn hn2 w h h').mono ?_
  rintro e w' ⟨rfl, m, rfl⟩
  exact ⟨rfl, bdrewN (Below.refl _ w) m⟩
set_option maxHeartbeats 1000000 in
theorem specWeight_any (v : Value) (zs : List Int) (hn : zs.length ≤ 1048576) (w : World) (h : NS w v zs) :
    Calls Try.prog 29 #[v] w fun e w' => e = .returned (.int .i64 (wtN zs : Int)) ∧ w = w' := by
  obtain ⟨A, c, rfl, _, hc⟩ := h
  have HC := Lib.hid hc; clear hc
  obtain ⟨t, ht⟩ : ∃ t, t = wtN zs := ⟨_, rfl⟩
  rw [← ht]
  have HT := Lib.hid ht; clear ht
  go_enter Try.func29, Try.ntmps29
  go_wp2_with fail
  go_loop [4, 3] (fun y o => ∃ k n : Nat, y = .int .i64 (k : Int) ∧ k ≤ zs.length ∧ o = .int .i64 (n : Int) ∧ n ≤ k ∧ Hid (n = cnt (nz zs) k)) (fun y _ => zs.length - (intOf y).toNat)
  case atStart => exact ⟨0, 0, rfl, Nat.zero_le _, rfl, Nat.le_refl _, Lib.hid rfl⟩
  case round =>
    obtain ⟨k, n, rfl, hk, rfl, hnk, HN⟩ := hrel
    by_cases hlt : k < zs.length
    · obtain ⟨b, off, rfl, hlb, hcell⟩ := HC.out (by omega)
      have i1 : (k : Int) < (zs.length : Int) := by omega
      have q1 := hcell k hlt
      obtain ⟨x, hx⟩ : ∃ x, x = zs.getD k 0 := ⟨_, rfl⟩
      rw [← hx] at q1
      have HCL := Lib.hid hcell
      clear hcell
      by_cases h0 : x = 0
      · have HS := Lib.hid (cnt_no (p := nz zs) (n := k) (by unfold nz; rw [← hx, h0]; rfl))
        subst h0
        clear hx
        go_wp2_with fail
        exact ⟨⟨k + 1, n, by go_num, by omega, rfl, by omega, Lib.hid (by rw [HS.out]; exact HN.out)⟩, by simp [intOf]; omega⟩
      · have HS := Lib.hid (cnt_yes (p := nz zs) (n := k) (by unfold nz; rw [← hx, bne_iff_ne]; exact h0))
        have T1 : (x != 0) = true := by rw [bne_iff_ne]; exact h0
        clear hx h0
        go_wp2_with fail
        exact ⟨⟨k + 1, n + 1, by go_num, by omega, by go_num, by omega, Lib.hid (by rw [HS.out, HN.out])⟩, by simp [intOf]; omega⟩
    · obtain rfl : k = zs.length := by omega
      have T1 : decide ((zs.length : Int) < (zs.length : Int)) = false := by simp
      go_wp2_with fail
      go_ret
      exact ⟨by rw [HT.out, HN.out]; rfl, rfl⟩
set_option maxHeartbeats 1000000 in
theorem weight_any (v : Value) (zs : List Int) (hn : zs.length ≤ 1048576) (w : World) (h : NS w v zs) :
    Calls Try.prog 78 #[v] w fun e w' => e = .returned (.int .i64 (wtN zs : Int)) ∧ w = w' := by
  obtain ⟨A, c, rfl, _, hc⟩ := h
  have HC := Lib.hid hc; clear hc
  obtain ⟨t, ht⟩ : ∃ t, t = wtN zs := ⟨_, rfl⟩
  rw [← ht]
  have HT := Lib.hid ht; clear ht
  go_enter Try.func78, Try.ntmps78
  go_wp2_with fail
  go_loop [8, 3] (fun y o => ∃ k n : Nat, y = .int .i64 (k : Int) ∧ k ≤ zs.length ∧ o = .int .i64 (n : Int) ∧ n ≤ k ∧ Hid (n = cnt (nz zs) k)) (fun y _ => zs.length - (intOf y).toNat)
  case atStart => exact ⟨0, 0, rfl, Nat.zero_le _, rfl, Nat.le_refl _, Lib.hid rfl⟩
  case round =>
    obtain ⟨k, n, rfl, hk, rfl, hnk, HN⟩ := hrel
    by_cases hlt : k < zs.length
    · obtain ⟨b, off, rfl, hlb, hcell⟩ := HC.out (by omega)
      have i1 : (k : Int) < (zs.length : Int) := by omega
      have q1 := hcell k hlt
      obtain ⟨x, hx⟩ : ∃ x, x = zs.getD k 0 := ⟨_, rfl⟩
      rw [← hx] at q1
      have HCL := Lib.hid hcell
      clear hcell
      by_cases h0 : x = 0
      · have HS := Lib.hid (cnt_no (p := nz zs) (n := k) (by unfold nz; rw [← hx, h0]; rfl))
        subst h0
        clear hx
        go_wp2_with fail
        exact ⟨⟨k + 1, n, by go_num, by omega, rfl, by omega, Lib.hid (by rw [HS.out]; exact HN.out)⟩, by simp [intOf]; omega⟩
      · have HS := Lib.hid (cnt_yes (p := nz zs) (n := k) (by unfold nz; rw [← hx, bne_iff_ne]; exact h0))
        have T1 : (x != 0) = true := by rw [bne_iff_ne]; exact h0
        clear hx h0
        go_wp2_with fail
        exact ⟨⟨k + 1, n + 1, by go_num, by omega, by go_num, by omega, Lib.hid (by rw [HS.out, HN.out])⟩, by simp [intOf]; omega⟩
    · obtain rfl : k = zs.length := by omega
      have T1 : decide ((zs.length : Int) < (zs.length : Int)) = false := by simp
      go_wp2_with fail
      go_ret
      exact ⟨by rw [HT.out, HN.out]; rfl, rfl⟩
theorem spec_WeightOf (v : Value) (zs : List Int) (hn : zs.length ≤ 1048576) (w : World) (h : NS w v zs) :
    Calls Try.prog 29 #[v] w fun e w' => e = .returned (.int .i64 (wtN zs : Int)) ∧ Below w.heap.size w w' := by
  refine (specWeight_any v zs hn w h).mono ?_
  rintro e w' ⟨rfl, rfl⟩
  exact ⟨rfl, Below.refl _ _⟩
theorem impl_WeightOf (v : Value) (zs : List Int) (hn : zs.length ≤ 1048576) (w : World) (h : NS w v zs) :
    Calls Try.prog 30 #[v] w fun e w' => e = .returned (.int .i64 (wtN zs : Int)) ∧ Below w.heap.size w w' := by
  obtain ⟨t, ht⟩ : ∃ t, t = wtN zs := ⟨_, rfl⟩
  rw [← ht]
  have HT := Lib.hid ht; clear ht
  go_enter Try.func30, Try.ntmps30
  go_wp2_with fail
  refine (weight_any v zs hn _ h).mono ?_
  rintro e w' ⟨rfl, rfl⟩
  rw [← HT.out]
  go_wp2_with fail
  go_ret
  exact ⟨rfl, Below.refl _ _⟩
set_option maxHeartbeats 1000000 in
theorem l06Apart_any (v u : Value) (xs ys : List Int) (hn : xs.length ≤ 1048576) (hl : xs.length = ys.length) (w : World) (h : NS w v xs) (h' : NS w u ys) :
    Calls Try.prog 80 #[v, u] w fun e w' => e = .returned (.int .i64 (apN xs ys : Int)) ∧ ∃ m, w' = w.drewN m := by
  obtain ⟨A, c, rfl, _, hc⟩ := h
  obtain ⟨A', c', rfl, _, hc'⟩ := h'
  have HC := Lib.hid hc; clear hc
  have HC' := Lib.hid hc'; clear hc'
  have HL := Lib.hid hl
  have hn2 : ys.length ≤ 1048576 := by omega
  clear hl
  obtain ⟨t, ht⟩ : ∃ t, t = apN xs ys := ⟨_, rfl⟩
  rw [← ht]
  have HT := Lib.hid ht; clear ht
  go_enter Try.func80, Try.ntmps80
  go_wp2_with fail
  go_loopw [6, 5] (fun y o wr => ∃ k n m : Nat, y = .int .i64 (k : Int) ∧ k ≤ xs.length ∧ o = .int .i64 (n : Int) ∧ n ≤ k ∧ Hid (n = cnt (df xs ys) k) ∧ wr = w.drewN m) (fun y _ _ => xs.length - (intOf y).toNat)
  case atStart => exact ⟨0, 0, 0, rfl, Nat.zero_le _, rfl, Nat.le_refl _, Lib.hid rfl, rfl⟩
  case round =>
    obtain ⟨k, n, m, rfl, hk, rfl, hnk, HN, rfl⟩ := hrel
    by_cases hlt : k < xs.length
    · have hlt2 : k < ys.length := by have := HL.out; omega
      obtain ⟨b, off, rfl, hlb, hcell⟩ := HC.out (by omega)
      obtain ⟨b', off', rfl, hlb', hcell'⟩ := HC'.out (by omega)
      have i1 : (k : Int) < (xs.length : Int) := by omega
      have i2 : (k : Int) < (ys.length : Int) := by omega
      have q1 : w.cell? ⟨b, off + k, none⟩ = some (.int .u16 (xs.getD k 0)) := hcell k hlt
      have q2 : w.cell? ⟨b', off' + k, none⟩ = some (.int .u16 (ys.getD k 0)) := hcell' k hlt2
      obtain ⟨x, hx⟩ : ∃ x, x = xs.getD k 0 := ⟨_, rfl⟩
      obtain ⟨y, hy⟩ : ∃ y, y = ys.getD k 0 := ⟨_, rfl⟩
      rw [← hx] at q1
      rw [← hy] at q2
      have HCL := Lib.hid hcell
      have HCL' := Lib.hid hcell'
      clear hcell hcell'
      by_cases h0 : x = y
      · have HS := Lib.hid (cnt_no (p := df xs ys) (n := k) (by unfold df; rw [← hx, ← hy, h0]; simp))
        subst h0
        clear hx hy; have T1 : (x != x) = false := by simp
        go_wp2_with fail
        go_quiet (fail)
        go_wp2_with fail
        exact ⟨⟨k + 1, n, m + nq, by go_num, by omega, rfl, by omega, Lib.hid (by rw [HS.out]; exact HN.out), rfl⟩, by simp [intOf]; omega⟩

      · have HS := Lib.hid (cnt_yes (p := df xs ys) (n := k) (by unfold df; rw [← hx, ← hy, bne_iff_ne]; exact h0))
        have T1 : (x != y) = true := by rw [bne_iff_ne]; exact h0
        clear hx hy h0
        go_wp2_with fail
        go_quiet (fail)
        go_wp2_with fail
        exact ⟨⟨k + 1, n + 1, m + nq, by go_num, by omega, by go_num, by omega, Lib.hid (by rw [HS.out, HN.out]), rfl⟩, by simp [intOf]; omega⟩

    · obtain rfl : k = xs.length := by omega
      have T1 : decide ((xs.length : Int) < (xs.length : Int)) = false := by simp
      go_wp2_with fail
      go_ret
      exact ⟨by rw [HT.out, HN.out]; rfl, m, rfl⟩
set_option maxHeartbeats 1000000 in
theorem apart_any (v u : Value) (xs ys : List Int) (hn : xs.length ≤ 1048576) (hl : xs.length = ys.length) (w : World) (h : NS w v xs) (h' : NS w u ys) :
    Calls Try.prog 82 #[v, u] w fun e w' => e = .returned (.int .i64 (apN xs ys : Int)) ∧ ∃ m, w' = w.drewN m := by
  obtain ⟨A, c, rfl, _, hc⟩ := h
  obtain ⟨A', c', rfl, _, hc'⟩ := h'
  have HC := Lib.hid hc; clear hc
  have HC' := Lib.hid hc'; clear hc'
  have HL := Lib.hid hl
  have hn2 : ys.length ≤ 1048576 := by omega
  clear hl
  obtain ⟨t, ht⟩ : ∃ t, t = apN xs ys := ⟨_, rfl⟩
  rw [← ht]
  have HT := Lib.hid ht; clear ht
  go_enter Try.func82, Try.ntmps82
  go_wp2_with fail
  go_loopw [10, 5] (fun y o wr => ∃ k n m : Nat, y = .int .i64 (k : Int) ∧ k ≤ xs.length ∧ o = .int .i64 (n : Int) ∧ n ≤ k ∧ Hid (n = cnt (df xs ys) k) ∧ wr = w.drewN m) (fun y _ _ => xs.length - (intOf y).toNat)
  case atStart => exact ⟨0, 0, 0, rfl, Nat.zero_le _, rfl, Nat.le_refl _, Lib.hid rfl, rfl⟩
  case round =>
    obtain ⟨k, n, m, rfl, hk, rfl, hnk, HN, rfl⟩ := hrel
    by_cases hlt : k < xs.length
    · have hlt2 : k < ys.length := by have := HL.out; omega
      obtain ⟨b, off, rfl, hlb, hcell⟩ := HC.out (by omega)
      obtain ⟨b', off', rfl, hlb', hcell'⟩ := HC'.out (by omega)
      have i1 : (k : Int) < (xs.length : Int) := by omega
      have i2 : (k : Int) < (ys.length : Int) := by omega
      have q1 : w.cell? ⟨b, off + k, none⟩ = some (.int .u16 (xs.getD k 0)) := hcell k hlt
      have q2 : w.cell? ⟨b', off' + k, none⟩ = some (.int .u16 (ys.getD k 0)) := hcell' k hlt2
      obtain ⟨x, hx⟩ : ∃ x, x = xs.getD k 0 := ⟨_, rfl⟩
      obtain ⟨y, hy⟩ : ∃ y, y = ys.getD k 0 := ⟨_, rfl⟩
      rw [← hx] at q1
      rw [← hy] at q2
      have HCL := Lib.hid hcell
      have HCL' := Lib.hid hcell'
      clear hcell hcell'
      by_cases h0 : x = y
      · have HS := Lib.hid (cnt_no (p := df xs ys) (n := k) (by unfold df; rw [← hx, ← hy, h0]; simp))
        subst h0
        clear hx hy; have T1 : (x != x) = false := by simp
        go_wp2_with fail


        exact ⟨⟨k + 1, n, m, by go_num, by omega, rfl, by omega, Lib.hid (by rw [HS.out]; exact HN.out), rfl⟩, by simp [intOf]; omega⟩

      · have HS := Lib.hid (cnt_yes (p := df xs ys) (n := k) (by unfold df; rw [← hx, ← hy, bne_iff_ne]; exact h0))
        have T1 : (x != y) = true := by rw [bne_iff_ne]; exact h0
        clear hx hy h0
        go_wp2_with fail


        exact ⟨⟨k + 1, n + 1, m, by go_num, by omega, by go_num, by omega, Lib.hid (by rw [HS.out, HN.out]), rfl⟩, by simp [intOf]; omega⟩

    · obtain rfl : k = xs.length := by omega
      have T1 : decide ((xs.length : Int) < (xs.length : Int)) = false := by simp
      go_wp2_with fail
      go_ret
      exact ⟨by rw [HT.out, HN.out]; rfl, m, rfl⟩
end Go.Proofs.Ythhjhfkcgokffaa
