/-
  RepeatsFrom.
-/
import Derived.Test.YtkeliojgldfkkaaLawD
namespace Go.Proofs.Ytkeliojgldfkkaa
set_option linter.unusedVariables false
set_option linter.unusedSimpArgs false
open Go.ChangeShapes Go.WideShapes Go.ChangeAt Go.RowKit

def repB (zs : List Int) (s p : Nat) : Bool := decide (∀ i : Nat, i < zs.length → (s ≤ i → i + p < zs.length → zs.getD i 0 = zs.getD (i + p) 0))
theorem repB_yes {zs : List Int} {s p : Nat} (h : ∀ i, s ≤ i → i + p < zs.length → zs.getD i 0 = zs.getD (i + p) 0) : repB zs s p = true := by
  unfold repB; rw [decide_eq_true_eq]; exact fun i _ h1 h2 => h i h1 h2
theorem repB_no {zs : List Int} {s p : Nat} (i : Nat) (h1 : s ≤ i) (h2 : i + p < zs.length) (h : ¬ zs.getD i 0 = zs.getD (i + p) 0) : repB zs s p = false := by
  unfold repB; rw [decide_eq_false_iff_not]; exact fun x => h (x i (by omega) h1 h2)
def badR (n : Nat) (s p : Int) : Prop := s < 0 ∨ p < 1 ∨ (n : Int) < s ∨ (n : Int) - s < p
instance (n : Nat) (s p : Int) : Decidable (badR n s p) := by unfold badR; infer_instance
def repV (zs : List Int) (s p : Int) : Value := if badR zs.length s p then .tuple #[.bool false, .int .i64 2] else .tuple #[.bool (repB zs s.toNat p.toNat), .int .i64 0]
theorem repV_form (zs : List Int) (s p : Int) : ∃ b k, repV zs s p = .tuple #[.bool b, .int .i64 k] := by
  unfold repV
  split
  · exact ⟨_, _, rfl⟩
  · exact ⟨_, _, rfl⟩
set_option maxRecDepth 100000 in
set_option maxHeartbeats 2000000 in
theorem spec_RepeatsFrom (v : Value) (zs : List Int) (hn : zs.length ≤ 1048576) (s p : Int) (s0 : -9223372036854775808 ≤ s) (s1 : s ≤ 9223372036854775807) (p0 : -9223372036854775808 ≤ p) (p1 : p ≤ 9223372036854775807) (w : World) (h : NS w v zs) :
    Calls Try.prog 21 #[v, .int .i64 s, .int .i64 p] w fun e w' => e = .returned (repV zs s p) ∧ ∃ m, w' = w.drewN m := by
  obtain ⟨A, c, rfl, _, hc⟩ := h
  have HC := Lib.hid hc; clear hc
  by_cases hb : badR zs.length s p
  · have hV : repV zs s p = .tuple #[.bool false, .int .i64 2] := by unfold repV; rw [if_pos hb]
    rw [hV]
    clear hV
    unfold badR at hb
    by_cases b1 : s < 0
    · have T1 : decide (s < 0) = true := by simpa using b1
      go_enter Try.func21, Try.ntmps21
      go_wp2_with fail
      go_ret2
      exact ⟨rfl, 0, rfl⟩
    · have T1 : decide (s < 0) = false := by simp; omega
      by_cases b2 : p < 1
      · have T2 : decide (p < 1) = true := by simp; omega
        clear hb
        go_enter Try.func21, Try.ntmps21
        go_wp2_with fail
        go_ret2
        exact ⟨rfl, 0, rfl⟩
      · have T2 : decide (p < 1) = false := by simp; omega
        by_cases b3 : (zs.length : Int) < s
        · have T3 : decide ((zs.length : Int) < s) = true := by simp; omega
          clear hb
          go_enter Try.func21, Try.ntmps21
          go_wp2_with fail
          go_ret2
          exact ⟨rfl, 0, rfl⟩
        · have T3 : decide ((zs.length : Int) < s) = false := by simp; omega
          have T4 : decide ((zs.length : Int) - s < p) = true := by simp; omega
          clear hb
          go_enter Try.func21, Try.ntmps21
          go_wp2_with fail
          go_ret2
          exact ⟨rfl, 0, rfl⟩
  · have hV : repV zs s p = .tuple #[.bool (repB zs s.toNat p.toNat), .int .i64 0] := by unfold repV; rw [if_neg hb]
    rw [hV]
    clear hV
    unfold badR at hb
    obtain ⟨sn, rfl⟩ : ∃ sn : Nat, s = sn := ⟨s.toNat, by omega⟩
    obtain ⟨pn, rfl⟩ : ∃ pn : Nat, p = pn := ⟨p.toNat, by omega⟩
    rw [Int.toNat_natCast, Int.toNat_natCast]
    have q1 : 1 ≤ pn := by omega
    have q2 : sn + pn ≤ zs.length := by omega
    have T1 : decide ((sn : Int) < 0) = false := by simp
    have T2 : decide ((pn : Int) < 1) = false := by simp; omega
    have T3 : decide ((zs.length : Int) < (sn : Int)) = false := by simp; omega
    have T4 : decide ((zs.length : Int) - (sn : Int) < (pn : Int)) = false := by simp; omega
    clear hb
    go_enter Try.func21, Try.ntmps21
    go_wp2_with fail
    go_loopw [9] (fun y wr => ∃ (i m : Nat), y = .int .i64 i ∧ sn ≤ i ∧ i ≤ zs.length ∧ wr = w.drewN m ∧ Hid (∀ j, sn ≤ j → j < i → j + pn < zs.length → zs.getD j 0 = zs.getD (j + pn) 0)) (fun y _ => zs.length + 1 - (intOf y).toNat)
    case atStart => exact ⟨sn, 0, rfl, Nat.le_refl _, by omega, rfl, Lib.hid (fun j h1 h2 => by omega)⟩
    case round =>
      obtain ⟨i, m, rfl, hsi, hi, rfl, hall⟩ := hrel
      by_cases hlt : i + pn < zs.length
      · have T5 : decide ((i : Int) + (pn : Int) < (zs.length : Int)) = true := by simp; omega
        obtain ⟨b, off, rfl, hlb, hcell⟩ := HC.out (by omega)
        have h1 : w.cell? ⟨b, off + i, none⟩ = some (.int .u16 (zs.getD i 0)) := hcell i (by omega)
        have h2 : w.cell? ⟨b, off + (i + pn), none⟩ = some (.int .u16 (zs.getD (i + pn) 0)) := hcell (i + pn) hlt
        have HCL := Lib.hid hcell
        clear hcell
        have hlt' : (i : Int) < (zs.length : Int) := by omega
        have hlt2 : (i : Int) + (pn : Int) < (zs.length : Int) := by omega
        obtain ⟨x, hx⟩ : ∃ x, x = zs.getD i 0 := ⟨_, rfl⟩
        obtain ⟨y, hy⟩ : ∃ y, y = zs.getD (i + pn) 0 := ⟨_, rfl⟩
        rw [← hx] at h1; rw [← hy] at h2
        by_cases hxy : x = y
        · have hstep : Hid (∀ j, sn ≤ j → j < i + 1 → j + pn < zs.length → zs.getD j 0 = zs.getD (j + pn) 0) := Lib.hid (fun j a1 a2 a3 => by
            by_cases e : j = i
            · rw [e, ← hx, ← hy]; exact hxy
            · exact hall.out j a1 (by omega) a3)
          subst hxy
          have HX := Lib.hid hx; have HY := Lib.hid hy; clear hx hy
          go_wp2_with fail
          go_quiet (fail)
          go_wp2_with fail
          exact ⟨⟨i + 1, m + nq, by go_num, by omega, by omega, rfl, hstep⟩, by simp [intOf]; omega⟩
        · have hst := Lib.hid (repB_no i hsi hlt (by rw [← hx, ← hy]; exact hxy))
          have hne : (x != y) = true := bne_iff_ne.2 hxy
          have HX := Lib.hid hx; have HY := Lib.hid hy; clear hx hy hxy
          go_wp2_with fail
          go_quiet (fail)
          go_wp2_with fail
          go_ret2
          exact ⟨by rw [hst.out]; rfl, m + nq, by simp⟩
      · have T5 : decide ((i : Int) + (pn : Int) < (zs.length : Int)) = false := by simp; omega
        have hst := Lib.hid (repB_yes (zs := zs) (s := sn) (p := pn) (fun j a1 a2 => hall.out j a1 (by omega) a2))
        go_wp2_with fail
        go_ret2
        exact ⟨by rw [hst.out]; rfl, m, rfl⟩
set_option maxHeartbeats 1000000 in
theorem equalN_any (v u : Value) (xs ys : List Int) (hn : xs.length ≤ 1048576) (hn2 : ys.length ≤ 1048576) (w : World) (h : NS w v xs) (h' : NS w u ys) :
    Calls Try.prog 35 #[v, u] w fun e w' => e = .returned (.bool (eqB xs ys)) ∧ ∃ m, w' = w.drewN m := by
  obtain ⟨A, c, rfl, _, hc⟩ := h
  obtain ⟨A', c', rfl, _, hc'⟩ := h'
  have HC := Lib.hid hc; clear hc
  have HC' := Lib.hid hc'; clear hc'
  by_cases hl : xs.length = ys.length
  · have hle : ys.length ≤ xs.length := by omega
    have hge : xs.length ≤ ys.length := by omega
    have HL := Lib.hid hl
    have ht : ((xs.length : Int) != (ys.length : Int)) = false := by rw [hl]; simp
    clear hl
    go_enter Try.func35, Try.ntmps35
    go_wp2_with fail
    go_loopw [13] (fun i wr => ∃ k m : Nat, i = .int .i64 k ∧ k ≤ xs.length ∧ wr = w.drewN m ∧ Hid (∀ j, j < k → xs.getD j 0 = ys.getD j 0)) (fun i _ => xs.length - (intOf i).toNat)
    case atStart => exact ⟨0, 0, rfl, Nat.zero_le _, rfl, Lib.hid (fun j hj => absurd hj (by omega))⟩
    case round =>
      obtain ⟨k, m, rfl, hk, rfl, hall⟩ := hrel
      by_cases hlt : k < xs.length
      · obtain ⟨b, off, rfl, hlb, hcell⟩ := HC.out (by omega)
        obtain ⟨b', off', rfl, hlb', hcell'⟩ := HC'.out (by omega)
        have h1 : w.cell? ⟨b, off + k, none⟩ = some (.int .u16 (xs.getD k 0)) := hcell k hlt
        have h2 : w.cell? ⟨b', off' + k, none⟩ = some (.int .u16 (ys.getD k 0)) := hcell' k (by omega)
        have HCL := Lib.hid hcell; have HCL' := Lib.hid hcell'
        clear hcell hcell'
        have hlt' : (k : Int) < (xs.length : Int) := by omega
        have hlt2 : (k : Int) < (ys.length : Int) := by omega
        obtain ⟨x, hx⟩ : ∃ x, x = xs.getD k 0 := ⟨_, rfl⟩
        obtain ⟨y, hy⟩ : ∃ y, y = ys.getD k 0 := ⟨_, rfl⟩
        rw [← hx] at h1; rw [← hy] at h2
        by_cases hxy : x = y
        · have hstep := Lib.hid (all_step hall.out (by rw [← hx, ← hy]; exact hxy))
          subst hxy
          have HX := Lib.hid hx; have HY := Lib.hid hy; clear hx hy
          go_wp2_with fail
          go_quiet (fail)
          go_wp2_with fail
          exact ⟨⟨k + 1, m + nq, by go_num, by omega, rfl, hstep⟩, by simp [intOf]; omega⟩
        · have hst := Lib.hid (eqB_ne (xs := xs) (ys := ys) k (by rw [← hx, ← hy]; exact hxy))
          have hne : (x != y) = true := bne_iff_ne.2 hxy
          have HX := Lib.hid hx; have HY := Lib.hid hy; clear hx hy hxy
          go_wp2_with fail
          go_quiet (fail)
          go_wp2_with fail
          go_ret
          exact ⟨by rw [hst.out]; rfl, m + nq, by simp⟩
      · have hst := Lib.hid (show eqB xs ys = true from eqB_all HL.out (fun j hj => hall.out j (by omega)))
        go_wp2_with fail
        go_ret
        exact ⟨by rw [hst.out]; rfl, m, rfl⟩
  · have hst := Lib.hid (eqB_len hl)
    have ht : ((xs.length : Int) != (ys.length : Int)) = true := by rw [bne_iff_ne]; omega
    clear hl
    go_enter Try.func35, Try.ntmps35
    go_wp2_with fail
    go_ret
    exact ⟨by rw [hst.out]; rfl, 0, rfl⟩

theorem NS.cut {w : World} {zs : List Int} {b off : Nat} (hz : ∀ z ∈ zs, 0 ≤ z ∧ z < 65536) (hlb : b < w.heap.size) (hcell : ∀ i, i < zs.length → w.cell? ⟨b, off + i, none⟩ = some (.int .u16 (zs.getD i 0)))
    (o n c' : Nat) (h : o + n ≤ zs.length) : NS w (.slice (some ⟨b, off + o, none⟩) n c') ((zs.drop o).take n) := by
  have hl : ((zs.drop o).take n).length = n := by simp; omega
  refine ⟨some ⟨b, off + o, none⟩, c', by rw [hl], fun z hz' => hz z (List.mem_of_mem_drop (List.mem_of_mem_take hz')), fun hn => ⟨b, off + o, rfl, hlb, fun i hi => ?_⟩⟩
  rw [hl] at hi
  rw [Nat.add_assoc, hcell (o + i) (by omega)]
  simp [List.getD, List.getElem?_take, List.getElem?_drop, hi]
theorem NS.cut_if {w : World} {c : Nat} {zs : List Int} {b off : Nat} (hz : ∀ z ∈ zs, 0 ≤ z ∧ z < 65536) (hlb : b < w.heap.size) (hcell : ∀ i, i < zs.length → w.cell? ⟨b, off + i, none⟩ = some (.int .u16 (zs.getD i 0)))
    (o c' : Nat) (hc : zs.length ≤ c) (h : o ≤ zs.length) : NS w (.slice (if c = o then some ⟨b, off, none⟩ else some ⟨b, off + o, none⟩) (zs.length - o) c') ((zs.drop o).take (zs.length - o)) := by
  by_cases e : c = o
  · rw [if_pos e]
    have hl : zs.length - o = 0 := by omega
    rw [hl]
    exact ⟨some ⟨b, off, none⟩, c', by simp [e], by simp, by simp⟩
  · rw [if_neg e]
    exact NS.cut hz hlb hcell o (zs.length - o) c' (by omega)
theorem rep_eq (zs : List Int) (sn pn : Nat) (h : sn + pn ≤ zs.length) : eqB ((zs.drop sn).take (zs.length - pn - sn)) ((zs.drop (sn + pn)).take (zs.length - (sn + pn))) = repB zs sn pn := by
  have l1 : ((zs.drop sn).take (zs.length - pn - sn)).length = zs.length - pn - sn := by simp; omega
  have l2 : ((zs.drop (sn + pn)).take (zs.length - (sn + pn))).length = zs.length - (sn + pn) := by simp
  have g1 : ∀ j, j < zs.length - pn - sn → ((zs.drop sn).take (zs.length - pn - sn)).getD j 0 = zs.getD (sn + j) 0 := fun j hj => by simp only [List.getD_eq_getElem?_getD, List.getElem?_take, List.getElem?_drop, if_pos hj]
  have g2 : ∀ j, j < zs.length - (sn + pn) → ((zs.drop (sn + pn)).take (zs.length - (sn + pn))).getD j 0 = zs.getD (sn + pn + j) 0 := fun j hj => by simp only [List.getD_eq_getElem?_getD, List.getElem?_take, List.getElem?_drop, if_pos hj]
  cases hb : repB zs sn pn with
  | true =>
    refine eqB_all (by rw [l1, l2]; omega) (fun j hj => ?_)
    rw [l1] at hj
    rw [g1 j hj, g2 j (by omega)]
    unfold repB at hb
    rw [decide_eq_true_eq] at hb
    have := hb (sn + j) (by omega) (by omega) (by omega)
    rw [this, show sn + j + pn = sn + pn + j from by omega]
  | false =>
    unfold repB at hb
    rw [decide_eq_false_iff_not] at hb
    have : ∃ i, sn ≤ i ∧ i + pn < zs.length ∧ ¬ zs.getD i 0 = zs.getD (i + pn) 0 := Classical.byContradiction fun x => hb (fun i _ a1 a2 => Classical.byContradiction fun y => x ⟨i, a1, a2, y⟩)
    obtain ⟨i, a1, a2, a3⟩ := this
    refine eqB_ne (i - sn) ?_
    rw [g1 (i - sn) (by omega), g2 (i - sn) (by omega), show sn + (i - sn) = i from by omega, show sn + pn + (i - sn) = i + pn from by omega]
    exact a3
theorem own_cap {w : World} {base n : Nat} {e : TypeId} {v : Value} {xs : List Value} (h : w.ownsRow base e 1 v n xs) : ∀ A c, v = .slice A n c → n ≤ c := by
  intro A c hv
  rcases h.2 with ⟨_, h0⟩ | ⟨g, cap, cur, hv2, _, _, hc, _⟩
  · omega
  · rw [hv2] at hv
    simp only [Value.slice.injEq] at hv
    omega
theorem rep_call (zs : List Int) (hn : zs.length ≤ 1048576) (sn pn c : Nat) (w : World) (b off : Nat) (hz : ∀ z ∈ zs, 0 ≤ z ∧ z < 65536) (hlb : b < w.heap.size) (hcell : ∀ i, i < zs.length → w.cell? ⟨b, off + i, none⟩ = some (.int .u16 (zs.getD i 0)))
    (h : sn + pn ≤ zs.length) (hc : zs.length ≤ c) (x : Nat) : Calls Try.prog 35 #[.slice (some ⟨b, off + sn, none⟩) (zs.length - pn - sn) (c - sn), .slice (if c = sn + pn then some ⟨b, off, none⟩ else some ⟨b, off + (sn + pn), none⟩) (zs.length - (sn + pn)) (c - (sn + pn))] (w.drewN x) fun e w'' => e = .returned (.bool (repB zs sn pn)) ∧ ∃ m, w'' = w.drewN m := by
  have hb := bdrewN (Below.refl w.heap.size w) x
  have k := equalN_any _ _ _ _ (by simp; omega) (by simp; omega) _ ((NS.cut hz hlb hcell sn (zs.length - pn - sn) (c - sn) (by omega)).below hb) ((NS.cut_if hz hlb hcell (sn + pn) (c - (sn + pn)) hc h).below hb)
  rw [rep_eq zs sn pn h] at k
  exact Calls.quiet_of k
set_option maxRecDepth 100000 in
set_option maxHeartbeats 2000000 in
theorem impl_RepeatsFrom (v : Value) (zs : List Int) (hn : zs.length ≤ 1048576) (s p : Int) (s0 : -9223372036854775808 ≤ s) (s1 : s ≤ 9223372036854775807) (p0 : -9223372036854775808 ≤ p) (p1 : p ≤ 9223372036854775807) (w : World) (h : NS w v zs) (hcap : ∀ A c, v = .slice A zs.length c → zs.length ≤ c) :
    Calls Try.prog 23 #[v, .int .i64 s, .int .i64 p] w fun e w' => e = .returned (repV zs s p) ∧ ∃ m, w' = w.drewN m := by
  obtain ⟨A, c, rfl, hz, hc⟩ := h
  have HC := Lib.hid hc; clear hc
  have HZ := Lib.hid hz; clear hz
  by_cases hb : badR zs.length s p
  · have hV : repV zs s p = .tuple #[.bool false, .int .i64 2] := by unfold repV; rw [if_pos hb]
    rw [hV]
    clear hV
    unfold badR at hb
    by_cases b1 : s < 0
    · have T1 : decide (s < 0) = true := by simpa using b1
      go_enter Try.func23, Try.ntmps23
      go_wp2_with fail
      go_ret2
      exact ⟨rfl, 0, rfl⟩
    · have T1 : decide (s < 0) = false := by simp; omega
      by_cases b2 : p < 1
      · have T2 : decide (p < 1) = true := by simp; omega
        clear hb
        go_enter Try.func23, Try.ntmps23
        go_wp2_with fail
        go_ret2
        exact ⟨rfl, 0, rfl⟩
      · have T2 : decide (p < 1) = false := by simp; omega
        by_cases b3 : (zs.length : Int) < p
        · have T3 : decide ((zs.length : Int) < p) = true := by simp; omega
          clear hb
          go_enter Try.func23, Try.ntmps23
          go_wp2_with fail
          go_ret2
          exact ⟨rfl, 0, rfl⟩
        · have T3 : decide ((zs.length : Int) < p) = false := by simp; omega
          have T4 : decide ((zs.length : Int) - p < s) = true := by simp; omega
          clear hb
          go_enter Try.func23, Try.ntmps23
          go_wp2_with fail
          go_ret2
          exact ⟨rfl, 0, rfl⟩
  · have hV : repV zs s p = .tuple #[.bool (repB zs s.toNat p.toNat), .int .i64 0] := by unfold repV; rw [if_neg hb]
    rw [hV]
    clear hV
    unfold badR at hb
    obtain ⟨sn, rfl⟩ : ∃ sn : Nat, s = sn := ⟨s.toNat, by omega⟩
    obtain ⟨pn, rfl⟩ : ∃ pn : Nat, p = pn := ⟨p.toNat, by omega⟩
    rw [Int.toNat_natCast, Int.toNat_natCast]
    have q1 : 1 ≤ pn := by omega
    have q2 : sn + pn ≤ zs.length := by omega
    have T1 : decide ((sn : Int) < 0) = false := by simp
    have T2 : decide ((pn : Int) < 1) = false := by simp; omega
    have T3 : decide ((zs.length : Int) < (pn : Int)) = false := by simp; omega
    have T4 : decide ((zs.length : Int) - (pn : Int) < (sn : Int)) = false := by simp; omega
    clear hb
    obtain ⟨b, off, rfl, hlb, hcell⟩ := HC.out (by omega)
    have HCL := Lib.hid hcell
    clear hcell
    have hc0 := hcap _ _ rfl
    clear hcap HC
    have hc1 : (zs.length : Int) - (pn : Int) ≤ (c : Int) := by omega
    have hc2 : (zs.length : Int) ≤ (c : Int) := by omega
    have hc3 : ¬ c = sn := by omega
    have hc4 : (sn : Int) ≤ (zs.length : Int) - (pn : Int) := by omega
    have hc5 : (sn : Int) + (pn : Int) ≤ (zs.length : Int) := by omega
    have hc6 : sn + pn ≤ zs.length := q2
    have hc7 : sn ≤ zs.length - pn := by omega
    go_enter Try.func23, Try.ntmps23
    go_wp2_with fail
    have HE := Lib.hid (fun x => rep_call zs hn sn pn c w b off HZ.out hlb HCL.out hc6 hc0 x)
    go_quiet ((exact HE.out _))
    go_wp2_with fail
    all_goals (go_ret2; exact ⟨rfl, nq, rfl⟩)
end Go.Proofs.Ytkeliojgldfkkaa
