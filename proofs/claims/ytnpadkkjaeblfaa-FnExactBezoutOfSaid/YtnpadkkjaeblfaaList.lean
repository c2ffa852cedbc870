/-
  Lists of nimbers in memory: the laws' own helpers toNimberS, eqNimberS.
-/
import Derived.Test.YtnpadkkjaeblfaaPow2
import Derived.OwnWalk
namespace Go.Proofs.Ytnpadkkjaeblfaa
set_option linter.unusedVariables false
set_option linter.unusedSimpArgs false
open Go.ChangeShapes Go.WideShapes Go.ChangeAt Go.RowKit

abbrev u16s (zs : List Int) : List Value := zs.map (Value.int .u16)
/-- the value v is a slice that holds the nimbers zs -/
def NS (w : World) (v : Value) (zs : List Int) : Prop :=
  ∃ A c, v = .slice A zs.length c ∧ (∀ z ∈ zs, 0 ≤ z ∧ z < 65536) ∧
    (0 < zs.length → ∃ b off, A = some ⟨b, off, none⟩ ∧ b < w.heap.size ∧ ∀ i, i < zs.length → w.cell? ⟨b, off + i, none⟩ = some (.int .u16 (zs.getD i 0)))
theorem NS.below {w w' : World} {v : Value} {zs : List Int} (h : NS w v zs) (hb : Below w.heap.size w w') : NS w' v zs := by
  obtain ⟨A, c, hv, hz, hc⟩ := h
  refine ⟨A, c, hv, hz, fun hn => ?_⟩
  obtain ⟨b, off, hA, hlt, hcell⟩ := hc hn
  exact ⟨b, off, hA, Nat.lt_of_lt_of_le hlt hb.size, fun i hi => (hb.cell (p := ⟨b, off + i, none⟩) hlt).trans (hcell i hi)⟩
theorem NS.range {w : World} {v : Value} {zs : List Int} (h : NS w v zs) (i : Nat) : 0 ≤ zs.getD i 0 ∧ zs.getD i 0 < 65536 := by
  obtain ⟨A, c, hv, hz, hc⟩ := h
  by_cases hi : i < zs.length
  · have := hz zs[i] (List.getElem_mem hi)
    simp [List.getD, hi]; exact this
  · simp [List.getD, Nat.not_lt.1 hi]
theorem NS.of_own {w : World} {base : Nat} {e : TypeId} {v : Value} {zs : List Int} (h : w.ownsRow base e 1 v zs.length (u16s zs)) (hz : ∀ z ∈ zs, 0 ≤ z ∧ z < 65536) : NS w v zs := by
  rcases h.2 with ⟨rfl, h0⟩ | ⟨g, cap, cur, rfl, hb, hg, _⟩
  · refine ⟨none, 0, by rw [h0], hz, fun hn => by omega⟩
  · refine ⟨some ⟨g, 0, none⟩, cap, rfl, hz, fun hn => ⟨g, 0, rfl, (Array.getElem?_eq_some_iff.1 hg).1, fun i hi => ?_⟩⟩
    rw [Nat.zero_add, h.cellAt i (by omega)]
    simp [u16s, List.getD, hi]
/-- what stands in the new row after k rounds -/
def tn (zs : List Int) (k : Nat) : List Value := u16s (zs.take k ++ List.replicate (zs.length - k) 0)
theorem tn_len (zs : List Int) (k : Nat) (hk : k ≤ zs.length) : (tn zs k).length = zs.length := by
  unfold tn; simp; omega
theorem tn_end (zs : List Int) : tn zs zs.length = u16s zs := by unfold tn; simp
theorem tn_set (zs : List Int) (k : Nat) (hk : k < zs.length) : (tn zs k).set k (.int .u16 (zs.getD k 0)) = tn zs (k + 1) := by
  unfold tn u16s
  rw [← List.map_set]
  congr 1
  apply List.ext_getElem?
  intro i
  have hr : zs.length - k = (zs.length - (k + 1)) + 1 := by omega
  rw [List.getElem?_set]
  by_cases h1 : i < k
  · rw [if_neg (by omega), List.getElem?_append_left (by simp; omega), List.getElem?_append_left (by simp; omega), List.getElem?_take, List.getElem?_take, if_pos h1, if_pos (by omega)]
  · by_cases h2 : i = k
    · subst h2
      rw [if_pos rfl, if_pos (by simp; omega), List.getElem?_append_left (by simp; omega), List.getElem?_take, if_pos (by omega)]
      simp [List.getD, hk]
    · rw [if_neg (by omega), List.getElem?_append_right (by simp; omega), List.getElem?_append_right (by simp; omega)]
      simp only [List.length_take, Nat.min_eq_left (Nat.le_of_lt hk), Nat.min_eq_left (Nat.succ_le_of_lt hk), List.getElem?_replicate]
      by_cases h3 : i < zs.length
      · rw [if_pos (by omega), if_pos (by omega)]
      · rw [if_neg (by omega), if_neg (by omega)]
theorem grown_of_below {w w' : World} (h : Below w.heap.size w w') (hf : ∀ a, w'.frozen? a = w.frozen? a) : Grown w w' := ⟨h.frame _, hf, h.size⟩

theorem info25 : (Try.prog.info? 41).map (fun i => (i.zero, i.size, i.bytes)) = some (some (.int .u16 0), 1, 2) := by kernel_rfl

set_option maxHeartbeats 1000000 in
theorem toNimberS_any (v : Value) (zs : List Int) (hn : zs.length ≤ 1048576) (w : World) (h : NS w v zs) :
    Calls Try.prog 34 #[v] w fun e w' => ∃ u, e = .returned u ∧ Below w.heap.size w w' ∧ w'.ownsRow w.heap.size 41 1 u zs.length (u16s zs) := by
  have hr := h.range
  obtain ⟨A, c, rfl, hz, hc⟩ := h
  obtain ⟨i0, hi, hz0, hz1, hz2⟩ := info_parts info25
  have HR := Lib.hid hr; clear hr
  have HC := Lib.hid hc; clear hc
  have HZ := Lib.hid hz; clear hz
  go_enter Try.func34, Try.ntmps34
  go_wp2_with (at_make; refine wpList_make_full _ rfl _ _ 24 rfl w.heap.size 41 i0 (.int .u16 0) 1 Try.underlying24 hi hz0 hz1 _ _ _ _ zs.length rfl rfl rfl rfl (by rw [hz2]; omega) (by unfold maxLen; omega) (Nat.le_refl _) ?_)
  intro w1 hown hgrow
  have hb1 : Below w.heap.size w w1 := (Below.refl _ w).grown hgrow (Nat.le_refl _) (fun k hk => by cases hk)
  obtain ⟨g, hg⟩ : ∃ g, g = w.heap.size := ⟨_, rfl⟩
  rw [← hg] at hown hb1 ⊢
  have hown1 : w1.ownsRow g 41 1 (.slice (some ⟨g, 0, none⟩) zs.length zs.length) zs.length (tn zs 0) := by
    have e : (madeCells #[Value.int .u16 0] zs.length).toList = tn zs 0 := by
      rw [toList_madeCells_one]
      simp [tn, u16s]
    rw [← e]; exact hown
  clear hown hgrow
  have HG := Lib.hid hg; clear hg
  go_wp2_with fail
  go_loopw [4] (fun i wr => ∃ k : Nat, i = .int .i64 k ∧ k ≤ zs.length ∧ Below g w wr ∧ wr.ownsRow g 41 1 (.slice (some ⟨g, 0, none⟩) zs.length zs.length) zs.length (tn zs k)) (fun i _ => zs.length - (intOf i).toNat)
  case atStart => exact ⟨0, rfl, Nat.zero_le _, hb1, hown1⟩
  case round =>
    obtain ⟨k, rfl, hk, hb, hown⟩ := hrel
    clear hb1 hown1
    by_cases hlt : k < zs.length
    · obtain ⟨b, off, rfl, hlb, hcell⟩ := HC.out (by omega)
      have h1 : wr.cell? ⟨b, off + k, none⟩ = some (.int .u16 (zs.getD k 0)) := (hb.cell (p := ⟨b, off + k, none⟩) (by rw [HG.out]; exact hlb)).trans (hcell k hlt)
      have h2 : wr.cell? ⟨g, k, none⟩ = (tn zs k)[k]? := hown.cellAt k (by omega)
      have h3 : wr.frozen? ⟨g, k, none⟩ = false := hown.frozenAt k
      have h4 := (hown.stored k (.int .u16 (zs.getD k 0))).1
      rw [tn_set zs k hlt] at h4
      have h5 : Below g w (wr.setCell ⟨g, k, none⟩ (.int .u16 (zs.getD k 0))) := hb.setCell (p := ⟨g, k, none⟩) (Nat.le_refl _) _
      obtain ⟨x, hx⟩ : ∃ x, (tn zs k)[k]? = some x := ⟨_, List.getElem?_eq_getElem (by rw [tn_len zs k hk]; exact hlt)⟩
      rw [hx] at h2
      obtain ⟨z, hz⟩ : ∃ z, z = zs.getD k 0 := ⟨_, rfl⟩
      rw [← hz] at h1 h4 h5
      have H4 := Lib.hid h4; have H5 := Lib.hid h5; have HX := Lib.hid hx; have HZ2 := Lib.hid hz
      have HB := Lib.hid hb; have HO := Lib.hid hown; have HCL := Lib.hid hcell
      clear h4 h5 hx hz hb hown hcell
      go_wp2_with fail
      go_roundw
      case rel => exact ⟨k + 1, by go_num, by omega, H5.out, H4.out⟩
      case measure => simp [intOf]; omega
    · have HB := Lib.hid hb; have HO := Lib.hid hown
      clear hb hown
      go_wp2_with fail
      go_ret
      have hke : k = zs.length := by omega
      refine ⟨_, rfl, ?_, ?_⟩
      · rw [← HG.out]; exact HB.out
      · rw [← HG.out, ← tn_end zs, ← hke]
        have := HO.out
        rw [hke] at this ⊢
        exact this

def eqB (xs ys : List Int) : Bool := decide (xs = ys)
theorem eqB_len {xs ys : List Int} (h : ¬ xs.length = ys.length) : eqB xs ys = false := by
  unfold eqB; simp; intro e; exact h (by rw [e])
theorem eqB_ne {xs ys : List Int} (k : Nat) (h : ¬ xs.getD k 0 = ys.getD k 0) : eqB xs ys = false := by
  unfold eqB; simp; intro e; exact h (by rw [e])
theorem eqB_all {xs ys : List Int} (hl : xs.length = ys.length) (h : ∀ j, j < xs.length → xs.getD j 0 = ys.getD j 0) : eqB xs ys = true := by
  unfold eqB; simp
  apply List.ext_getElem hl
  intro i h1 h2
  have := h i h1
  simpa [List.getD, h1, h2] using this
theorem eqB_refl (xs : List Int) : eqB xs xs = true := by unfold eqB; simp
theorem all_step {xs ys : List Int} {k : Nat} (h : ∀ j, j < k → xs.getD j 0 = ys.getD j 0) (e : xs.getD k 0 = ys.getD k 0) : ∀ j, j < k + 1 → xs.getD j 0 = ys.getD j 0 := by
  intro j hj
  by_cases h1 : j < k
  · exact h j h1
  · rw [show j = k from by omega]; exact e
set_option maxHeartbeats 1000000 in
theorem eqNimberS_any (v u : Value) (xs ys : List Int) (hn : xs.length ≤ 1048576) (hn2 : ys.length ≤ 1048576) (w : World) (h : NS w v xs) (h' : NS w u ys) :
    Calls Try.prog 36 #[v, u] w fun e w' => e = .returned (.bool (eqB xs ys)) ∧ ∃ m, w' = w.drewN m := by
  obtain ⟨A, c, rfl, _, hc⟩ := h
  obtain ⟨A', c', rfl, _, hc'⟩ := h'
  have HC := Lib.hid hc; clear hc
  have HC' := Lib.hid hc'; clear hc'
  by_cases hl : xs.length = ys.length
  · have hle : ys.length ≤ xs.length := by omega
    have hge : xs.length ≤ ys.length := by omega
    have HL := Lib.hid hl
    have ht : ((xs.length : Int) != (ys.length : Int)) = false := by rw [hl]; simp
    clear hl
    go_enter Try.func36, Try.ntmps36
    go_wp2_with fail
    go_loopw [5] (fun i wr => ∃ k m : Nat, i = .int .i64 k ∧ k ≤ xs.length ∧ wr = w.drewN m ∧ Hid (∀ j, j < k → xs.getD j 0 = ys.getD j 0)) (fun i _ => xs.length - (intOf i).toNat)
    case atStart => exact ⟨0, 0, rfl, Nat.zero_le _, rfl, Lib.hid (fun j hj => absurd hj (by omega))⟩
    case round =>
      obtain ⟨k, m, rfl, hk, rfl, hall⟩ := hrel
      by_cases hlt : k < xs.length
      · obtain ⟨b, off, rfl, hlb, hcell⟩ := HC.out (by omega)
        obtain ⟨b', off', rfl, hlb', hcell'⟩ := HC'.out (by omega)
        have h1 : w.cell? ⟨b, off + k, none⟩ = some (.int .u16 (xs.getD k 0)) := hcell k hlt
        have h2 : w.cell? ⟨b', off' + k, none⟩ = some (.int .u16 (ys.getD k 0)) := hcell' k (by omega)
        have HCL := Lib.hid hcell; have HCL' := Lib.hid hcell'
        clear hcell hcell'
        have hlt' : (k : Int) < (xs.length : Int) := by omega
        have hlt2 : (k : Int) < (ys.length : Int) := by omega
        obtain ⟨x, hx⟩ : ∃ x, x = xs.getD k 0 := ⟨_, rfl⟩
        obtain ⟨y, hy⟩ : ∃ y, y = ys.getD k 0 := ⟨_, rfl⟩
        rw [← hx] at h1; rw [← hy] at h2
        by_cases hxy : x = y
        · have hstep := Lib.hid (all_step hall.out (by rw [← hx, ← hy]; exact hxy))
          subst hxy
          have HX := Lib.hid hx; have HY := Lib.hid hy; clear hx hy
          go_wp2_with fail
          go_quiet (fail)
          go_wp2_with fail
          exact ⟨⟨k + 1, m + nq, by go_num, by omega, rfl, hstep⟩, by simp [intOf]; omega⟩
        · have hst := Lib.hid (eqB_ne (xs := xs) (ys := ys) k (by rw [← hx, ← hy]; exact hxy))
          have hne : (x != y) = true := bne_iff_ne.2 hxy
          have HX := Lib.hid hx; have HY := Lib.hid hy; clear hx hy hxy
          go_wp2_with fail
          go_quiet (fail)
          go_wp2_with fail
          go_ret
          exact ⟨by rw [hst.out]; rfl, m + nq, by simp⟩
      · have hst := Lib.hid (show eqB xs ys = true from eqB_all HL.out (fun j hj => hall.out j (by omega)))
        go_wp2_with fail
        go_ret
        exact ⟨by rw [hst.out]; rfl, m, rfl⟩
  · have hst := Lib.hid (eqB_len hl)
    have ht : ((xs.length : Int) != (ys.length : Int)) = true := by rw [bne_iff_ne]; omega
    clear hl
    go_enter Try.func36, Try.ntmps36
    go_wp2_with fail
    go_ret
    exact ⟨by rw [hst.out]; rfl, 0, rfl⟩
end Go.Proofs.Ytnpadkkjaeblfaa
