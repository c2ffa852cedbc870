/-
  Lists of small numbers in memory: the laws' own helpers toInt8S, eqInt8S.
-/
import Derived.Test.YtklddmmbbaaliaaDoorLawD
namespace Go.Proofs.YtklddmmbbaaliaaDoor
set_option linter.unusedVariables false
set_option linter.unusedSimpArgs false
open Go.ChangeShapes Go.WideShapes Go.ChangeAt Go.RowKit

abbrev i8s (zs : List Int) : List Value := zs.map (Value.int .i8)
/-- the value v is a slice that holds the small numbers zs, in a block from B on -/
def R8 (B : Nat) (w : World) (v : Value) (zs : List Int) : Prop :=
  ∃ A c, v = .slice A zs.length c ∧ (∀ z ∈ zs, -128 ≤ z ∧ z < 128) ∧
    (0 < zs.length → ∃ b off, A = some ⟨b, off, none⟩ ∧ B ≤ b ∧ b < w.heap.size ∧ ∀ i, i < zs.length → w.cell? ⟨b, off + i, none⟩ = some (.int .i8 (zs.getD i 0)))
theorem R8.below {B : Nat} {w w' : World} {v : Value} {zs : List Int} (h : R8 B w v zs) (hb : Below w.heap.size w w') : R8 B w' v zs := by
  obtain ⟨A, c, hv, hz, hc⟩ := h
  refine ⟨A, c, hv, hz, fun hn => ?_⟩
  obtain ⟨b, off, hA, hB, hlt, hcell⟩ := hc hn
  exact ⟨b, off, hA, hB, Nat.lt_of_lt_of_le hlt hb.size, fun i hi => (hb.cell (p := ⟨b, off + i, none⟩) hlt).trans (hcell i hi)⟩
theorem R8.low {B B' : Nat} {w : World} {v : Value} {zs : List Int} (h : R8 B w v zs) (hB : B' ≤ B) : R8 B' w v zs := by
  obtain ⟨A, c, hv, hz, hc⟩ := h
  refine ⟨A, c, hv, hz, fun hn => ?_⟩
  obtain ⟨b, off, hA, h1, hlt, hcell⟩ := hc hn
  exact ⟨b, off, hA, Nat.le_trans hB h1, hlt, hcell⟩
theorem R8.put {B : Nat} {w : World} {v : Value} {zs : List Int} (h : R8 B w v zs) (p : Addr) (hp : p.block < B) (x : Value) : R8 B (w.setCell p x) v zs := by
  obtain ⟨A, c, hv, hz, hc⟩ := h
  refine ⟨A, c, hv, hz, fun hn => ?_⟩
  obtain ⟨b, off, hA, hB, hlt, hcell⟩ := hc hn
  refine ⟨b, off, hA, hB, by simpa [World.setCell] using hlt, fun i hi => ?_⟩
  rw [← hcell i hi]
  refine World.cell?_setCell_other _ _ _ _ ?_
  intro e
  have e2 := congrArg Addr.block e
  have e3 : p.block = b := e2
  omega
theorem R8.drewN {B : Nat} {w : World} {v : Value} {zs : List Int} (h : R8 B w v zs) (m : Nat) : R8 B (w.drewN m) v zs := h.below (bdrewN (Below.refl _ w) m)
theorem R8.range {B : Nat} {w : World} {v : Value} {zs : List Int} (h : R8 B w v zs) (i : Nat) : -128 ≤ zs.getD i 0 ∧ zs.getD i 0 < 128 := by
  obtain ⟨A, c, hv, hz, hc⟩ := h
  by_cases hi : i < zs.length
  · have := hz zs[i] (List.getElem_mem hi)
    simp [List.getD, hi]; exact this
  · simp [List.getD, Nat.not_lt.1 hi]
theorem R8.of_own {w : World} {base : Nat} {e : TypeId} {v : Value} {zs : List Int} (h : w.ownsRow base e 1 v zs.length (i8s zs)) (hz : ∀ z ∈ zs, -128 ≤ z ∧ z < 128) : R8 base w v zs := by
  rcases h.2 with ⟨rfl, h0⟩ | ⟨g, cap, cur, rfl, hb, hg, _⟩
  · refine ⟨none, 0, by rw [h0], hz, fun hn => by omega⟩
  · refine ⟨some ⟨g, 0, none⟩, cap, rfl, hz, fun hn => ⟨g, 0, rfl, hb, (Array.getElem?_eq_some_iff.1 hg).1, fun i hi => ?_⟩⟩
    rw [Nat.zero_add, h.cellAt i (by omega)]
    simp [i8s, List.getD, hi]
theorem R8.all {B : Nat} {w : World} {v : Value} {zs : List Int} (h : R8 B w v zs) : ∀ z ∈ zs, -128 ≤ z ∧ z < 128 := by
  obtain ⟨A, c, _, hz, _⟩ := h
  exact hz
/-- what stands in the new row after k rounds -/
def tn8 (zs : List Int) (k : Nat) : List Value := i8s (zs.take k ++ List.replicate (zs.length - k) 0)
theorem tn8_len (zs : List Int) (k : Nat) (hk : k ≤ zs.length) : (tn8 zs k).length = zs.length := by
  unfold tn8; simp; omega
theorem tn8_end (zs : List Int) : tn8 zs zs.length = i8s zs := by unfold tn8; simp
theorem tn8_set (zs : List Int) (k : Nat) (hk : k < zs.length) : (tn8 zs k).set k (.int .i8 (zs.getD k 0)) = tn8 zs (k + 1) := by
  unfold tn8 i8s
  rw [← List.map_set]
  congr 1
  apply List.ext_getElem?
  intro i
  have hr : zs.length - k = (zs.length - (k + 1)) + 1 := by omega
  rw [List.getElem?_set]
  by_cases h1 : i < k
  · rw [if_neg (by omega), List.getElem?_append_left (by simp; omega), List.getElem?_append_left (by simp; omega), List.getElem?_take, List.getElem?_take, if_pos h1, if_pos (by omega)]
  · by_cases h2 : i = k
    · subst h2
      rw [if_pos rfl, if_pos (by simp; omega), List.getElem?_append_left (by simp; omega), List.getElem?_take, if_pos (by omega)]
      simp [List.getD, hk]
    · rw [if_neg (by omega), List.getElem?_append_right (by simp; omega), List.getElem?_append_right (by simp; omega)]
      simp only [List.length_take, Nat.min_eq_left (Nat.le_of_lt hk), Nat.min_eq_left (Nat.succ_le_of_lt hk), List.getElem?_replicate]
      by_cases h3 : i < zs.length
      · rw [if_pos (by omega), if_pos (by omega)]
      · rw [if_neg (by omega), if_neg (by omega)]
theorem info8 : (Tryd.prog.info? 57).map (fun i => (i.zero, i.size, i.bytes)) = some (some (.int .i8 0), 1, 1) := by kernel_rfl

set_option maxHeartbeats 1000000 in
theorem toInt8S_any (v : Value) (zs : List Int) (hn : zs.length ≤ 1048576) (w : World) (h : R8 0 w v zs) :
    Calls Tryd.prog 108 #[v] w fun e w' => ∃ u, e = .returned u ∧ Below w.heap.size w w' ∧ w'.ownsRow w.heap.size 57 1 u zs.length (i8s zs) := by
  have hr := h.range
  obtain ⟨A, c, rfl, hz, hc⟩ := h
  obtain ⟨i0, hi, hz0, hz1, hz2⟩ := info_parts info8
  have HR := Lib.hid hr; clear hr
  have HC := Lib.hid hc; clear hc
  have HZ := Lib.hid hz; clear hz
  go_enter Tryd.func108, Tryd.ntmps108
  go_wp2_with (at_make; refine wpList_make_full _ rfl _ _ 124 rfl w.heap.size 57 i0 (.int .i8 0) 1 Tryd.underlying124 hi hz0 hz1 _ _ _ _ zs.length rfl rfl rfl rfl (by rw [hz2]; omega) (by unfold maxLen; omega) (Nat.le_refl _) ?_)
  intro w1 hown hgrow
  have hb1 : Below w.heap.size w w1 := (Below.refl _ w).grown hgrow (Nat.le_refl _) (fun k hk => by cases hk)
  obtain ⟨g, hg⟩ : ∃ g, g = w.heap.size := ⟨_, rfl⟩
  rw [← hg] at hown hb1 ⊢
  have hown1 : w1.ownsRow g 57 1 (.slice (some ⟨g, 0, none⟩) zs.length zs.length) zs.length (tn8 zs 0) := by
    have e : (madeCells #[Value.int .i8 0] zs.length).toList = tn8 zs 0 := by
      rw [toList_madeCells_one]
      simp [tn8, i8s]
    rw [← e]; exact hown
  clear hown hgrow
  have HG := Lib.hid hg; clear hg
  go_wp2_with fail
  go_loopw [4] (fun i wr => ∃ k : Nat, i = .int .i64 k ∧ k ≤ zs.length ∧ Below g w wr ∧ wr.ownsRow g 57 1 (.slice (some ⟨g, 0, none⟩) zs.length zs.length) zs.length (tn8 zs k)) (fun i _ => zs.length - (intOf i).toNat)
  case atStart => exact ⟨0, rfl, Nat.zero_le _, hb1, hown1⟩
  case round =>
    obtain ⟨k, rfl, hk, hb, hown⟩ := hrel
    clear hb1 hown1
    by_cases hlt : k < zs.length
    · obtain ⟨b, off, rfl, _, hlb, hcell⟩ := HC.out (by omega)
      have h1 : wr.cell? ⟨b, off + k, none⟩ = some (.int .i8 (zs.getD k 0)) := (hb.cell (p := ⟨b, off + k, none⟩) (by rw [HG.out]; exact hlb)).trans (hcell k hlt)
      have h2 : wr.cell? ⟨g, k, none⟩ = (tn8 zs k)[k]? := hown.cellAt k (by omega)
      have h3 : wr.frozen? ⟨g, k, none⟩ = false := hown.frozenAt k
      have h4 := (hown.stored k (.int .i8 (zs.getD k 0))).1
      rw [tn8_set zs k hlt] at h4
      have h5 : Below g w (wr.setCell ⟨g, k, none⟩ (.int .i8 (zs.getD k 0))) := hb.setCell (p := ⟨g, k, none⟩) (Nat.le_refl _) _
      obtain ⟨x, hx⟩ : ∃ x, (tn8 zs k)[k]? = some x := ⟨_, List.getElem?_eq_getElem (by rw [tn8_len zs k hk]; exact hlt)⟩
      rw [hx] at h2
      obtain ⟨z, hz⟩ : ∃ z, z = zs.getD k 0 := ⟨_, rfl⟩
      rw [← hz] at h1 h4 h5
      have H4 := Lib.hid h4; have H5 := Lib.hid h5; have HX := Lib.hid hx; have HZ2 := Lib.hid hz
      have HB := Lib.hid hb; have HO := Lib.hid hown; have HCL := Lib.hid hcell
      clear h4 h5 hx hz hb hown hcell
      go_wp2_with fail
      go_roundw
      case rel => exact ⟨k + 1, by go_num, by omega, H5.out, H4.out⟩
      case measure => simp [intOf]; omega
    · have HB := Lib.hid hb; have HO := Lib.hid hown
      clear hb hown
      go_wp2_with fail
      go_ret
      have hke : k = zs.length := by omega
      refine ⟨_, rfl, ?_, ?_⟩
      · rw [← HG.out]; exact HB.out
      · rw [← HG.out, ← tn8_end zs, ← hke]
        have := HO.out
        rw [hke] at this ⊢
        exact this

set_option maxHeartbeats 1000000 in
theorem eqInt8S_any (v u : Value) (xs ys : List Int) (hn : xs.length ≤ 1048576) (hn2 : ys.length ≤ 1048576) (w : World) (h : R8 0 w v xs) (h' : R8 0 w u ys) :
    Calls Tryd.prog 111 #[v, u] w fun e w' => e = .returned (.bool (eqB xs ys)) ∧ ∃ m, w' = w.drewN m := by
  obtain ⟨A, c, rfl, _, hc⟩ := h
  obtain ⟨A', c', rfl, _, hc'⟩ := h'
  have HC := Lib.hid hc; clear hc
  have HC' := Lib.hid hc'; clear hc'
  by_cases hl : xs.length = ys.length
  · have hle : ys.length ≤ xs.length := by omega
    have hge : xs.length ≤ ys.length := by omega
    have HL := Lib.hid hl
    have ht : ((xs.length : Int) != (ys.length : Int)) = false := by rw [hl]; simp
    clear hl
    go_enter Tryd.func111, Tryd.ntmps111
    go_wp2_with fail
    go_loopw [5] (fun i wr => ∃ k m : Nat, i = .int .i64 k ∧ k ≤ xs.length ∧ wr = w.drewN m ∧ Hid (∀ j, j < k → xs.getD j 0 = ys.getD j 0)) (fun i _ => xs.length - (intOf i).toNat)
    case atStart => exact ⟨0, 0, rfl, Nat.zero_le _, rfl, Lib.hid (fun j hj => absurd hj (by omega))⟩
    case round =>
      obtain ⟨k, m, rfl, hk, rfl, hall⟩ := hrel
      by_cases hlt : k < xs.length
      · obtain ⟨b, off, rfl, _, hlb, hcell⟩ := HC.out (by omega)
        obtain ⟨b', off', rfl, _, hlb', hcell'⟩ := HC'.out (by omega)
        have h1 : w.cell? ⟨b, off + k, none⟩ = some (.int .i8 (xs.getD k 0)) := hcell k hlt
        have h2 : w.cell? ⟨b', off' + k, none⟩ = some (.int .i8 (ys.getD k 0)) := hcell' k (by omega)
        have HCL := Lib.hid hcell; have HCL' := Lib.hid hcell'
        clear hcell hcell'
        have hlt' : (k : Int) < (xs.length : Int) := by omega
        have hlt2 : (k : Int) < (ys.length : Int) := by omega
        obtain ⟨x, hx⟩ : ∃ x, x = xs.getD k 0 := ⟨_, rfl⟩
        obtain ⟨y, hy⟩ : ∃ y, y = ys.getD k 0 := ⟨_, rfl⟩
        rw [← hx] at h1; rw [← hy] at h2
        by_cases hxy : x = y
        · have hstep := Lib.hid (all_step hall.out (by rw [← hx, ← hy]; exact hxy))
          subst hxy
          have HX := Lib.hid hx; have HY := Lib.hid hy; clear hx hy
          go_wp2_with fail
          go_quiet (fail)
          go_wp2_with fail
          exact ⟨⟨k + 1, m + nq, by go_num, by omega, rfl, hstep⟩, by simp [intOf]; omega⟩
        · have hst := Lib.hid (eqB_ne (xs := xs) (ys := ys) k (by rw [← hx, ← hy]; exact hxy))
          have hne : (x != y) = true := bne_iff_ne.2 hxy
          have HX := Lib.hid hx; have HY := Lib.hid hy; clear hx hy hxy
          go_wp2_with fail
          go_quiet (fail)
          go_wp2_with fail
          go_ret
          exact ⟨by rw [hst.out]; rfl, m + nq, by simp⟩
      · have hst := Lib.hid (show eqB xs ys = true from eqB_all HL.out (fun j hj => hall.out j (by omega)))
        go_wp2_with fail
        go_ret
        exact ⟨by rw [hst.out]; rfl, m, rfl⟩
  · have hst := Lib.hid (eqB_len hl)
    have ht : ((xs.length : Int) != (ys.length : Int)) = true := by rw [bne_iff_ne]; omega
    clear hl
    go_enter Tryd.func111, Tryd.ntmps111
    go_wp2_with fail
    go_ret
    exact ⟨by rw [hst.out]; rfl, 0, rfl⟩
end Go.Proofs.YtklddmmbbaaliaaDoor
