/-
  Lists of vectors, of the laws.
-/
import Derived.Test.YtjbaeomjinnlhaaOk2
import Derived.Deep.RegionHeld
import Derived.Test.YtjbaeomjinnlhaaKer
namespace Go.Proofs.Ytjbaeomjinnlhaa
set_option linter.unusedVariables false
set_option linter.unusedSimpArgs false
open Go.ChangeShapes Go.WideShapes Go.ChangeAt Go.RowKit

theorem vecs_at : ∀ (l : List (Nat → Int)) (i k : Nat) (x : Nat → Int), l[i]? = some x → k < 6 → (vecs l)[i * 6 + k]? = some (.int .u16 (x k))
  | [], i, k, x, h, _ => by simp at h
  | y :: l, 0, k, x, h, hk => by
    have e : y = x := by simpa using h
    unfold vecs
    rw [List.flatMap_cons, List.getElem?_append_left (by rw [TL_len]; omega), e, Nat.zero_mul, Nat.zero_add]
    exact TL_at 6 x k hk
  | y :: l, i + 1, k, x, h, hk => by
    unfold vecs
    rw [List.flatMap_cons, List.getElem?_append_right (by rw [TL_len]; omega), TL_len, show (i + 1) * 6 + k - 6 = i * 6 + k from by omega]
    exact vecs_at l i k x (by simpa using h) hk
/-- a slice that holds the vectors l -/
def VS (w : World) (v : Value) (l : List (Nat → Int)) : Prop :=
  ∃ A c, v = .slice A l.length c ∧ (0 < l.length → ∃ g, A = some ⟨g, 0, none⟩ ∧ g < w.heap.size ∧ ∀ j, j < l.length * 6 → w.cell? ⟨g, j, none⟩ = (vecs l)[j]?)
theorem VS.of_own {w : World} {base : Nat} {v : Value} {l : List (Nat → Int)} (h : w.ownsRow base 45 6 v l.length (vecs l)) : VS w v l := by
  obtain ⟨A, c, rfl, hA⟩ := own_form h
  refine ⟨A, c, rfl, fun h0 => ?_⟩
  obtain ⟨g, rfl, h1, h2⟩ := hA h0
  exact ⟨g, rfl, h2, fun j hj => h.cellAt j hj⟩
theorem VS.below {w w' : World} {v : Value} {l : List (Nat → Int)} (h : VS w v l) (hb : Below w.heap.size w w') : VS w' v l := by
  obtain ⟨A, c, hv, hc⟩ := h
  refine ⟨A, c, hv, fun h0 => ?_⟩
  obtain ⟨g, hA, hlt, hcell⟩ := hc h0
  exact ⟨g, hA, Nat.lt_of_lt_of_le hlt hb.size, fun j hj => (hb.cell (p := ⟨g, j, none⟩) hlt).trans (hcell j hj)⟩
theorem cells_range {w : World} {g : Nat} {l : List (Nat → Int)} (h : ∀ j, j < l.length * 6 → w.cell? ⟨g, j, none⟩ = (vecs l)[j]?) (i : Nat) (x : Nat → Int) (hx : l[i]? = some x) : w.rangeAt g (i * 6) (TL 6 x) := fun j v hv => by
  have hj : j < 6 := by
    have := (List.getElem?_eq_some_iff.1 hv).1
    rw [TL_len] at this; exact this
  have hi : i < l.length := (List.getElem?_eq_some_iff.1 hx).1
  rw [h (i * 6 + j) (by omega), vecs_at l i j x hx hj, ← TL_at 6 x j hj]; exact hv
/-- the first c cells marked -/
def mrk (xs : List Value) (c : Nat) : List Value := (List.range c).map (fun t => Value.int .u16 ((t + 1 : Nat) : Int)) ++ xs.drop c
theorem mrk_zero (xs : List Value) : mrk xs 0 = xs := by unfold mrk; simp
theorem mrk_set (xs : List Value) (c : Nat) (hc : c < xs.length) : (mrk xs c).set c (.int .u16 ((c + 1 : Nat) : Int)) = mrk xs (c + 1) := by
  unfold mrk
  rw [List.set_append_right _ _ (by simp), List.length_map, List.length_range, Nat.sub_self, List.range_succ, List.map_append, List.append_assoc]
  congr 1
  rw [List.drop_eq_getElem_cons hc]; rfl
theorem mrk_at (xs : List Value) (c j : Nat) (h : j < c) : (mrk xs c)[j]? = some (.int .u16 ((j + 1 : Nat) : Int)) := by
  unfold mrk
  rw [List.getElem?_append_left (by simp; exact h), List.getElem?_map, List.getElem?_range h]; rfl
theorem mrk_next (xs : List Value) (c : Nat) (hc : c < xs.length) : ∃ v, (mrk xs c)[c]? = some v := by
  unfold mrk
  rw [List.getElem?_append_right (by simp), List.length_map, List.length_range, Nat.sub_self, List.getElem?_drop]
  exact ⟨_, List.getElem?_eq_getElem (by simpa using hc)⟩
theorem conv16 (k : Nat) (h : k < 65536) : IntKind.wrap .u16 (k : Int) = (k : Int) := by
  simp only [IntKind.wrap, show IntKind.u16.bits = 16 from rfl, show IntKind.u16.signed = false from rfl]
  simp; omega

set_option maxRecDepth 100000 in
set_option maxHeartbeats 1000000 in
theorem markVectorS_any (v : Value) (l : List (Nat → Int)) (hl : l.length ≤ 6) (B : Nat) (w : World) (h : w.ownsRow B 45 6 v l.length (vecs l)) :
    Calls Try.prog 65 #[v, .int .i64 1] w fun e w' => e = .returned (.int .i64 ((1 + l.length * 6 : Nat) : Int)) ∧ w'.ownsRow B 45 6 v l.length (mrk (vecs l) (l.length * 6)) ∧ Below B w w' := by
  obtain ⟨A, cv, rfl, hA⟩ := own_form h
  have HA := Lib.hid hA
  clear hA
  obtain ⟨n, hn⟩ : ∃ n, n = l.length := ⟨_, rfl⟩
  have hvl : (vecs l).length = n * 6 := by rw [vecs_len, hn]
  rw [← hn] at h HA hl ⊢
  have h0 := h
  rw [← mrk_zero (vecs l)] at h0
  have HN := Lib.hid hn
  clear hn h
  go_enter Try.func65, Try.ntmps65
  go_wp2_with fail
  go_loopw [5, 1] (fun y k wr => ∃ i : Nat, y = .int .i64 i ∧ i ≤ n ∧ k = .int .i64 ((1 + i * 6 : Nat) : Int) ∧ Hid (wr.ownsRow B 45 6 (.slice A n cv) n (mrk (vecs l) (i * 6))) ∧ Hid (Below B w wr)) (fun y _ _ => (6 - intOf y).toNat)
  case atStart => exact ⟨0, rfl, by omega, by first | rfl | simp, Lib.hid (by rw [Nat.zero_mul]; exact h0), Lib.hid (Below.refl _ _)⟩
  case round =>
    clear h0
    obtain ⟨i, rfl, hi, rfl, HO, HB⟩ := hrel
    by_cases hlt : i < n
    · have T1 : decide ((i : Int) < (n : Int)) = true := by simp; omega
      obtain ⟨g, rfl, hg1, hg2⟩ := HA.out (by omega)
      go_wp2_with fail
      go_loopw [6, 1] (fun y k wr => ∃ j : Nat, y = .int .i64 j ∧ j ≤ 6 ∧ k = .int .i64 ((1 + (i * 6 + j) : Nat) : Int) ∧ Hid (wr.ownsRow B 45 6 (.slice (some ⟨g, 0, none⟩) n cv) n (mrk (vecs l) (i * 6 + j))) ∧ Hid (Below B w wr)) (fun y _ _ => (6 - intOf y).toNat)
      case atStart => exact ⟨0, rfl, by omega, by first | rfl | simp, HO, HB⟩
      case round =>
        clear HO HB
        obtain ⟨j, rfl, hj, rfl, HO, HB⟩ := hrel
        by_cases hlj : j < 6
        · have T2 : decide ((j : Int) < 6) = true := by simp; omega
          have j1 : (j : Int) < 6 := by omega
          have i1 : (i : Int) < (n : Int) := by omega
          obtain ⟨x, hx⟩ := mrk_next (vecs l) (i * 6 + j) (by omega)
          have q1 : wr.cell? ⟨g, i * 6 + j, none⟩ = some x := (HO.out.cellAt (i * 6 + j) (by omega)).trans hx
          have q2 : wr.frozen? ⟨g, i * 6 + j, none⟩ = false := HO.out.frozenAt _
          have cv1 := conv16 (1 + (i * 6 + j)) (by omega)
          go_wp2_with fail
          have hs := (HO.out.stored (i * 6 + j) (.int .u16 ((i * 6 + j + 1 : Nat) : Int))).1
          rw [mrk_set (vecs l) (i * 6 + j) (by omega)] at hs
          exact ⟨⟨j + 1, rfl, by omega, by first | rfl | (simp; omega), Lib.hid (by
            have e : (((1 + (i * 6 + j) : Nat) : Int)) = ((i * 6 + j + 1 : Nat) : Int) := by omega
            first | exact hs | (rw [e]; exact hs) | (rw [show (1 + ((i : Int) * 6 + (j : Int))) = ((i * 6 + j + 1 : Nat) : Int) from by omega]; exact hs)), Lib.hid (HB.out.setCell (p := ⟨g, i * 6 + j, none⟩) (by show B ≤ g; omega) _)⟩, by simp [intOf]; omega⟩
        · obtain rfl : j = 6 := by omega
          have T2 : decide (((6 : Nat) : Int) < 6) = false := by simp
          go_wp2_with fail
          exact ⟨⟨i + 1, rfl, by omega, by first | rfl | (simp; omega), by rw [show (i + 1) * 6 = i * 6 + 6 from by omega]; exact HO, HB⟩, by simp [intOf]; omega⟩
    · obtain rfl : i = n := by omega
      have T1 : decide ((i : Int) < (i : Int)) = false := by simp
      go_wp2_with fail
      go_ret
      exact ⟨rfl, HO.out, HB.out⟩
set_option maxRecDepth 100000 in
set_option maxHeartbeats 1000000 in
theorem heldVectorS_any (v : Value) (n : Nat) (hl : n ≤ 6) (xs : List Value) (hx : n * 6 ≤ xs.length) (B : Nat) (w : World) (h : w.ownsRow B 45 6 v n (mrk xs (n * 6))) :
    Calls Try.prog 66 #[v, .int .i64 1] w fun e w' => e = .returned (.int .i64 ((1 + n * 6 : Nat) : Int)) ∧ ∃ m, w' = w.drewN m := by
  obtain ⟨A, cv, rfl, hA⟩ := own_form h
  have HA := Lib.hid hA
  have HO := Lib.hid h
  clear hA h
  go_enter Try.func66, Try.ntmps66
  go_wp2_with fail
  go_loopw [5, 1] (fun y k wr => ∃ i m : Nat, y = .int .i64 i ∧ i ≤ n ∧ k = .int .i64 ((1 + i * 6 : Nat) : Int) ∧ wr = w.drewN m) (fun y _ _ => (6 - intOf y).toNat)
  case atStart => exact ⟨0, 0, rfl, by omega, by first | rfl | simp, rfl⟩
  case round =>
    obtain ⟨i, m, rfl, hi, rfl, rfl⟩ := hrel
    by_cases hlt : i < n
    · have T1 : decide ((i : Int) < (n : Int)) = true := by simp; omega
      obtain ⟨g, rfl, hg1, hg2⟩ := HA.out (by omega)
      go_wp2_with fail
      go_loopw [6, 1] (fun y k wr => ∃ j m : Nat, y = .int .i64 j ∧ j ≤ 6 ∧ k = .int .i64 ((1 + (i * 6 + j) : Nat) : Int) ∧ wr = w.drewN m) (fun y _ _ => (6 - intOf y).toNat)
      case atStart => exact ⟨0, m, rfl, by omega, by first | rfl | simp, rfl⟩
      case round =>
        obtain ⟨j, m, rfl, hj, rfl, rfl⟩ := hrel
        by_cases hlj : j < 6
        · have T2 : decide ((j : Int) < 6) = true := by simp; omega
          have j1 : (j : Int) < 6 := by omega
          have i1 : (i : Int) < (n : Int) := by omega
          have q1 : w.cell? ⟨g, i * 6 + j, none⟩ = some (.int .u16 ((1 + (i * 6 + j) : Nat) : Int)) := ((HO.out.cellAt (i * 6 + j) (by omega)).trans (mrk_at xs (n * 6) (i * 6 + j) (by omega))).trans (by rw [Nat.add_comm 1])
          have cv1 := conv16 (1 + (i * 6 + j)) (by omega)
          have T3 : ((((1 + (i * 6 + j) : Nat) : Int)) != ((1 + (i * 6 + j) : Nat) : Int)) = false := by simp
          go_wp2_with fail
          exact ⟨⟨j + 1, m, rfl, by omega, by first | rfl | (simp; omega), rfl⟩, by simp [intOf]; omega⟩
        · obtain rfl : j = 6 := by omega
          have T2 : decide (((6 : Nat) : Int) < 6) = false := by simp
          go_wp2_with fail
          exact ⟨⟨i + 1, m, rfl, by omega, by first | rfl | (simp; omega), rfl⟩, by simp [intOf]; omega⟩
    · obtain rfl : i = n := by omega
      have T1 : decide ((i : Int) < (i : Int)) = false := by simp
      go_wp2_with fail
      go_ret
      exact ⟨rfl, m, rfl⟩

set_option maxRecDepth 100000 in
set_option maxHeartbeats 1000000 in
theorem eqVectorS_any (v u : Value) (l : List (Nat → Int)) (hl : l.length ≤ 6) (hb : ∀ x ∈ l, VW x) (w : World) (h : VS w v l) (h' : VS w u l) :
    Calls Try.prog 64 #[v, u] w fun e w' => e = .returned (.bool true) ∧ Below w.heap.size w w' := by
  obtain ⟨A, c, rfl, hc⟩ := h
  obtain ⟨A', c', rfl, hc'⟩ := h'
  have HC := Lib.hid hc
  have HC' := Lib.hid hc'
  have HBD := Lib.hid hb
  clear hc hc' hb
  have T0 : ((l.length : Int) != (l.length : Int)) = false := by simp
  go_enter Try.func64, Try.ntmps64
  go_wp2_with fail
  go_loopw [5] (fun y wr => ∃ i : Nat, y = .int .i64 i ∧ i ≤ l.length ∧ Hid (Below w.heap.size w wr)) (fun y _ => (6 - intOf y).toNat)
  case atStart => exact ⟨0, rfl, by omega, Lib.hid (Below.refl _ _)⟩
  case round =>
    obtain ⟨i, rfl, hi, HB⟩ := hrel
    by_cases hlt : i < l.length
    · have T1 : decide ((i : Int) < (l.length : Int)) = true := by simp; omega
      obtain ⟨g, rfl, hg, hcell⟩ := HC.out (by omega)
      obtain ⟨g', rfl, hg', hcell'⟩ := HC'.out (by omega)
      obtain ⟨x, hx⟩ : ∃ x, l[i]? = some x := ⟨_, List.getElem?_eq_getElem hlt⟩
      have hxb := HBD.out x (List.mem_of_getElem? hx)
      have rg := cells_range hcell i x hx
      have rg' := cells_range hcell' i x hx
      have i1 : (i : Int) < (l.length : Int) := by omega
      clear hcell hcell'
      go_upto_region 6 with fail
      refine wp_region_held_drew (S := (fun u => Below w.heap.size w u)) (by kernel_rfl) ?hS6 (fun hS => ?_)
      case hS6 => exact HB.out.drew
      change wpAnyH _ _ _ _ _ _ _ _ wr.drew at *
      generalize wr.drew = wv0 at hS ⊢
      refine takeH (i := 0) (v := ?v0) rfl rfl (by kernel_rfl) (by kernel_rfl) (by kernel_rfl) (fun _ _ _ h => h) rfl ?hy0 hS ?rs0
      case hy0 => (intro wq hq; go_simp; try (with_reducible rfl))
      simp only [Act.put, List.setIfInBounds_toArray, List.set_cons_zero, List.set_cons_succ]
      refine takeH (i := 1) (v := ?v1) rfl rfl (by kernel_rfl) (by kernel_rfl) (by kernel_rfl) (fun _ _ _ h => h) rfl ?hy1 hS ?rs1
      case hy1 => (intro wq hq; go_simp; try (with_reducible rfl))
      simp only [Act.put, List.setIfInBounds_toArray, List.set_cons_zero, List.set_cons_succ]
      refine takeH (i := 2) (v := ?v2) rfl rfl (by kernel_rfl) (by kernel_rfl) (by kernel_rfl) (fun _ _ _ h => h) rfl ?hy2 hS ?rs2
      case hy2 => (intro wq hq; go_simp; try (with_reducible rfl))
      simp only [Act.put, List.setIfInBounds_toArray, List.set_cons_zero, List.set_cons_succ]
      refine takeH (i := 3) (v := .agg (TL 6 x).toArray) rfl rfl (by kernel_rfl) (by kernel_rfl) (by kernel_rfl) (fun _ _ _ h => h) rfl ?hy3 hS ?rs3
      case hy3 => exact fun wq hq => exec_load_mid 45 _ rfl g (i * 6) rfl (TL 6 x) (.array 6 29) (fun t u hu => (hq.cell (p := ⟨g, i * 6 + t, none⟩) (by assumption)).trans (rg t u hu)) (by kernel_rfl) rfl (by kernel_rfl)
      simp only [Act.put, List.setIfInBounds_toArray, List.set_cons_zero, List.set_cons_succ]
      refine takeH (i := 4) (v := ?v4) rfl rfl (by kernel_rfl) (by kernel_rfl) (by kernel_rfl) (fun _ _ _ h => h) rfl ?hy4 hS ?rs4
      case hy4 => (intro wq hq; go_simp; try (with_reducible rfl))
      simp only [Act.put, List.setIfInBounds_toArray, List.set_cons_zero, List.set_cons_succ]
      refine takeH (i := 5) (v := ?v5) rfl rfl (by kernel_rfl) (by kernel_rfl) (by kernel_rfl) (fun _ _ _ h => h) rfl ?hy5 hS ?rs5
      case hy5 => (intro wq hq; go_simp; try (with_reducible rfl))
      simp only [Act.put, List.setIfInBounds_toArray, List.set_cons_zero, List.set_cons_succ]
      refine takeH (i := 6) (v := ?v6) rfl rfl (by kernel_rfl) (by kernel_rfl) (by kernel_rfl) (fun _ _ _ h => h) rfl ?hy6 hS ?rs6
      case hy6 => (intro wq hq; go_simp; try (with_reducible rfl))
      simp only [Act.put, List.setIfInBounds_toArray, List.set_cons_zero, List.set_cons_succ]
      refine takeH (i := 7) (v := .agg (TL 6 x).toArray) rfl rfl (by kernel_rfl) (by kernel_rfl) (by kernel_rfl) (fun _ _ _ h => h) rfl ?hy7 hS ?rs7
      case hy7 => exact fun wq hq => exec_load_mid 45 _ rfl g' (i * 6) rfl (TL 6 x) (.array 6 29) (fun t u hu => (hq.cell (p := ⟨g', i * 6 + t, none⟩) (by assumption)).trans (rg' t u hu)) (by kernel_rfl) rfl (by kernel_rfl)
      simp only [Act.put, List.setIfInBounds_toArray, List.set_cons_zero, List.set_cons_succ]
      refine wpAnyH_ready (rs := [8]) (by kernel_rfl) (by simp) ?_
      refine AllReadyH.cons rfl (fun K hK => ?_) AllReadyH.nil
      go_simp
      refine (eqVector_any x hxb _).mono ?_
      rintro e wv1 ⟨rfl, hn⟩
      refine hK.out _ _ (hS.trans (hn.mono hS.size)) (fun hS => ?_)
      clear hK hn
      refine takeH (i := 9) (v := ?v9) rfl rfl (by kernel_rfl) (by kernel_rfl) (by kernel_rfl) (fun _ _ _ h => h) rfl ?hy9 hS ?rs9
      case hy9 => (intro wq hq; go_simp; try (with_reducible rfl))
      simp only [Act.put, List.setIfInBounds_toArray, List.set_cons_zero, List.set_cons_succ]
      refine wpAnyH_done (by kernel_rfl) ?_ _
      have HB2 := Lib.hid hS
      clear rg rg'
      go_wp2_with fail
      exact ⟨⟨i + 1, rfl, by omega, HB2⟩, by simp [intOf]; omega⟩
    · obtain rfl : i = l.length := by omega
      have T1 : decide ((l.length : Int) < (l.length : Int)) = false := by simp
      go_wp2_with fail
      go_ret
      exact ⟨rfl, HB.out⟩
end Go.Proofs.Ytjbaeomjinnlhaa
