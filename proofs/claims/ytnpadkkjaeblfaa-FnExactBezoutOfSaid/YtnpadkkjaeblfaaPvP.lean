/-
  Sums of polynomials: of the model and of the program.
-/
import Derived.Test.YtnpadkkjaeblfaaPvT
import Derived.Laws.CopyOwn
import Derived.StillTailTactics
import Derived.Deep.QuietTactic
namespace Go.Proofs.Ytnpadkkjaeblfaa
set_option linter.unusedVariables false
set_option linter.unusedSimpArgs false
open Go.ChangeShapes Go.WideShapes Go.ChangeAt Go.RowKit

theorem drew_b {B : Nat} {a b : World} (h : Below B a b) : Below B a b.drew := ⟨h.os, h.tape, h.output, h.size, h.block⟩
theorem made_tab (N : Nat) : (madeCells #[Value.int .u16 0] N).toList = u16s (tab N fun _ => 0) := by
  rw [toList_madeCells_one]
  unfold u16s tab
  apply List.ext_getElem?
  intro i
  by_cases h : i < N
  · simp [h]
  · simp [h]
theorem splice_tab (xs ys : List Int) (N : Nat) (h : xs.length ≤ N) : splice (u16s (tab N fun _ => 0)) 0 (u16s xs) = u16s (tab N (plusK xs ys 0)) := by
  rw [plusK_zero]
  unfold splice
  apply List.ext_getElem?
  intro i
  by_cases h1 : i < xs.length
  · simp [u16s, tab, h1, List.getElem?_append, List.getD, show i < N from by omega]
  · by_cases h2 : i < N
    · simp [u16s, tab, h1, h2, List.getElem?_append, List.getD, show xs.length + (i - xs.length) = i from by omega]
    · simp [u16s, tab, h1, h2, List.getElem?_append, List.getD, show xs.length + (i - xs.length) = i from by omega]
theorem mx_lt {a b : List Int} (h : a.length < b.length) : mx a b = b.length := by unfold mx; rw [if_pos h]
theorem mx_ge {a b : List Int} (h : ¬ a.length < b.length) : mx a b = a.length := by unfold mx; rw [if_neg h]
theorem plusK_next {a b : List Int} {N k : Nat} (hk : k < N) : (tab N (plusK a b k)).set k (xorI ((tab N (plusK a b k)).getD k 0) (b.getD k 0)) = tab N (plusK a b (k + 1)) := by
  rw [tab_at _ _ _ hk, tab_set]
  have : plusK a b k k = a.getD k 0 := by unfold plusK; rw [if_neg (by omega)]
  rw [this, plusK_step]
theorem plusK_in {a b : List Int} (ha : inU a) (hb : inU b) (N k : Nat) : inU (tab N (plusK a b k)) := by
  refine tab_in fun i _ => ?_
  unfold plusK
  split
  · exact pXor_u ha hb i
  · exact ha.at i
theorem RW.tabcell {w : World} {g N : Nat} {f : Nat → Int} (h : RW w g (tab N f)) (i : Nat) (hi : i < N) : w.cell? ⟨g, i, none⟩ = some (.int .u16 ((tab N f).getD i 0)) := h.cell i (by rw [tab_len]; exact hi)
theorem pPlus_po {w : World} {g B N : Nat} {a b : List Int} (ha : inU a) (hb : inU b) (hN : N = mx a b) (hN2 : N ≤ 4194304) (h : RW w g (tab N (plusK a b b.length))) (hB : B ≤ g) :
    PO w B (.slice (some ⟨g, 0, none⟩) (trimN (tab N (pXor a b)) N) (trimN (tab N (pXor a b)) N)) (pPlus a b) := by
  rw [plusK_end ha N] at h
  have h2 := h.po (tab_in fun i _ => pXor_u ha hb i) hB (by rw [tab_len]; unfold maxLen; omega)
  have h3 := h2.cut (trimN (tab N (pXor a b)) N) (by rw [tab_len]; exact trimN_le _ _)
  unfold pPlus pTrim
  rw [tab_len, ← hN]
  exact h3
set_option maxHeartbeats 2000000 in
set_option maxRecDepth 100000 in
theorem ppoly_any (v u : Value) (xs ys : List Int) (hn : xs.length ≤ 1048576) (hn2 : ys.length ≤ 1048576) (w : World) (h : NS w v xs) (h' : NS w u ys) :
    Calls Try.prog 96 #[v, u] w fun e w' => ∃ r, e = .returned r ∧ PO w' w.heap.size r (pPlus xs ys) ∧ Below w.heap.size w w' := by
  obtain ⟨i0, hi, hz0, hz1, hz2⟩ := info_parts info25
  have HU := Lib.hid (inU_of h)
  have HU' := Lib.hid (inU_of h')
  have HN := Lib.hid h
  have HN' := Lib.hid h'
  obtain ⟨A, c, rfl, hz, hc⟩ := h
  obtain ⟨A', c', rfl, hz', hc'⟩ := h'
  clear hz hz' hc hc'
  by_cases hlt : xs.length < ys.length
  · have hNL : ys.length = mx xs ys := (mx_lt hlt).symm
    have hxN : xs.length ≤ ys.length := by omega
    have hyN : ys.length ≤ ys.length := by omega
    have hN2 : ys.length ≤ 1048576 := by omega
    have HNL := Lib.hid hNL
    clear hNL
    go_enter Try.func96, Try.ntmps96
    go_wp2_with (at_make; refine wpList_make_full _ rfl _ _ 25 rfl w.heap.size 41 i0 (.int .u16 0) 1 Try.underlying25 hi hz0 hz1 _ _ _ _ ys.length rfl rfl rfl rfl (by rw [hz2]; omega) (by unfold maxLen; omega) (Nat.le_refl _) ?_)
    intro w1 hown hgrow
    have hb1 : Below w.heap.size w w1 := (Below.refl _ w).grown hgrow (Nat.le_refl _) (fun k hk => by cases hk)
    obtain ⟨g, hg⟩ : ∃ g, g = w.heap.size := ⟨_, rfl⟩
    rw [← hg] at hown hb1 ⊢
    rw [made_tab] at hown
    have hrw := RW.of_own hown
    have hN1 := HN.out.below (hg ▸ hb1)
    have hN1' := HN'.out.below (hg ▸ hb1)
    have HN1 := Lib.hid hN1
    have HN1' := Lib.hid hN1'
    clear hown hgrow hN1 hN1'
    have HG := Lib.hid hg
    have HRW := Lib.hid hrw
    have HB1 := Lib.hid hb1
    clear hg hrw hb1
    go_wp2_with (guard_target =~ wpList _ _ _ (⟨_, Op.call { callee := Callee.builtin Builtin.copy, args := _, argTypes := _ }, _, _, _, _⟩ :: _) _ _; go_loud (refine wpList_copy_splice rfl _ _ 25 25 rfl 41 Try.underlying25 (by rw [hi]; simp [hz1]) (some ⟨g, 0, none⟩) A ys.length ys.length xs.length c rfl rfl g 0 (u16s (tab ys.length fun _ => 0)) 41 HRW.out (u16s xs) (by rw [List.length_map]; exact (Nat.min_eq_left hxN).symm) ?cpos (by rw [List.length_map, List.length_map, tab_len]; omega) (u16s_one _) g w HB1.out (Nat.le_refl _) ?_))
    case cpos =>
      intro hp
      obtain ⟨b, off, rfl, hlt, hcell⟩ := HN1.out.spot.2 (by simpa [u16s] using hp)
      refine ⟨_, rfl, ?_⟩
      intro j u hj
      first | exact u16s_cell hcell j u hj | exact u16s_cell hcell j (.int .u16 u) (by simp [u16s, hj])
    intro w2 hw2 hb2
    have h2 : RW w2 g (tab ys.length (plusK xs ys 0)) := by
      have := hw2.out
      rw [splice_tab xs ys ys.length hxN] at this
      exact this
    have HR2 := Lib.hid h2
    have HB2 := Lib.hid hb2
    clear hw2 hb2 h2 HRW HB1 HN1 HN1'
    go_wp2_with fail
    go_loopw [19] (fun y wr => ∃ k : Nat, y = .int .i64 (k : Int) ∧ k ≤ ys.length ∧ Hid (RW wr g (tab ys.length (plusK xs ys k))) ∧ Hid (Below g w wr)) (fun y _ => ys.length - (intOf y).toNat)
    case atStart => exact ⟨0, rfl, Nat.zero_le _, HR2, HB2⟩
    case round =>
      clear HR2 HB2
      obtain ⟨k, rfl, hk, HR, HB⟩ := hrel
      by_cases hlt : k < ys.length
      · obtain ⟨b, off, rfl, hlb, hcell⟩ := HN'.out.spot.2 (by omega)
        have q1 : wr.cell? ⟨b, off + k, none⟩ = some (.int .u16 (ys.getD k 0)) := (HB.out.cell (p := ⟨b, off + k, none⟩) (by rw [HG.out]; exact hlb)).trans (hcell k hlt)
        have q2 := HR.out.tabcell k (by omega)
        have q3 := HR.out.free k
        have r1 := HU'.out.at k
        have r2 := (plusK_in HU.out HU'.out ys.length k).at k
        have hset := HR.out.set k (xorI ((tab ys.length (plusK xs ys k)).getD k 0) (ys.getD k 0))
        rw [plusK_next (by omega)] at hset
        obtain ⟨y, hy⟩ : ∃ y, y = ys.getD k 0 := ⟨_, rfl⟩
        obtain ⟨x, hx⟩ : ∃ x, x = (tab ys.length (plusK xs ys k)).getD k 0 := ⟨_, rfl⟩
        rw [← hx, ← hy] at hset
        rw [← hy] at q1 r1
        rw [← hx] at q2 r2
        obtain ⟨r10, r11⟩ := r1
        obtain ⟨r20, r21⟩ := r2
        have HSET := Lib.hid hset
        have HB3 := Lib.hid (HB.out.setCell (p := ⟨g, k, none⟩) (Nat.le_refl _) (.int .u16 (xorI x y)))
        have i1 : (k : Int) < (ys.length : Int) := by omega
        have i2 : (k : Int) < (ys.length : Int) := by omega
        have HCL := Lib.hid hcell
        clear hset hx hy hcell HR
        go_wp2_with fail
        refine (plus_v x y r20 r21 r10 r11 _).mono ?_
        rintro e w' ⟨rfl, rfl⟩
        obtain ⟨z, hz⟩ : ∃ z, z = xorI x y := ⟨_, rfl⟩
        rw [← hz] at HSET HB3 ⊢
        clear hz
        go_wp2_with fail
        go_roundw
        case rel => exact ⟨k + 1, by go_num, by omega, HSET, HB3⟩
        case measure => simp [intOf]; omega
      · obtain rfl : k = ys.length := by omega
        have hp := pPlus_po HU.out HU'.out HNL.out (by omega) HR.out (Nat.le_of_eq HG.out.symm)
        have hr := HR.out
        rw [plusK_end HU.out ys.length] at hr
        have HXR := Lib.hid (tab_len ys.length (pXor xs ys))
        have hns := hr.ns (tab_in fun i _ => pXor_u HU.out HU'.out i) ys.length
        have ht := trimmed_any (some ⟨g, 0, none⟩) ys.length (tab ys.length (pXor xs ys)) (by rw [tab_len]; exact hN2) (by rw [tab_len]; exact Nat.le_refl _) wr hns
        rw [tab_len] at ht
        have HP := Lib.hid hp
        have HT := Lib.hid ht
        have HBW : Hid (Below w.heap.size w wr) := Lib.hid (by rw [← HG.out]; exact HB.out)
        clear hp ht hr hns HR HB HXR
        go_wp2_with fail
        refine HT.out.mono ?_
        rintro e w' ⟨rfl, rfl⟩
        go_wp2_with fail
        go_ret
        exact ⟨_, rfl, HP.out, HBW.out⟩
  · have hNL : xs.length = mx xs ys := (mx_ge hlt).symm
    have hxN : xs.length ≤ xs.length := by omega
    have hyN : ys.length ≤ xs.length := by omega
    have hN2 : xs.length ≤ 1048576 := by omega
    have HNL := Lib.hid hNL
    clear hNL
    go_enter Try.func96, Try.ntmps96
    go_wp2_with (at_make; refine wpList_make_full _ rfl _ _ 25 rfl w.heap.size 41 i0 (.int .u16 0) 1 Try.underlying25 hi hz0 hz1 _ _ _ _ xs.length rfl rfl rfl rfl (by rw [hz2]; omega) (by unfold maxLen; omega) (Nat.le_refl _) ?_)
    intro w1 hown hgrow
    have hb1 : Below w.heap.size w w1 := (Below.refl _ w).grown hgrow (Nat.le_refl _) (fun k hk => by cases hk)
    obtain ⟨g, hg⟩ : ∃ g, g = w.heap.size := ⟨_, rfl⟩
    rw [← hg] at hown hb1 ⊢
    rw [made_tab] at hown
    have hrw := RW.of_own hown
    have hN1 := HN.out.below (hg ▸ hb1)
    have hN1' := HN'.out.below (hg ▸ hb1)
    have HN1 := Lib.hid hN1
    have HN1' := Lib.hid hN1'
    clear hown hgrow hN1 hN1'
    have HG := Lib.hid hg
    have HRW := Lib.hid hrw
    have HB1 := Lib.hid hb1
    clear hg hrw hb1
    go_wp2_with (guard_target =~ wpList _ _ _ (⟨_, Op.call { callee := Callee.builtin Builtin.copy, args := _, argTypes := _ }, _, _, _, _⟩ :: _) _ _; go_loud (refine wpList_copy_splice rfl _ _ 25 25 rfl 41 Try.underlying25 (by rw [hi]; simp [hz1]) (some ⟨g, 0, none⟩) A xs.length xs.length xs.length c rfl rfl g 0 (u16s (tab xs.length fun _ => 0)) 41 HRW.out (u16s xs) (by rw [List.length_map]; exact (Nat.min_eq_left hxN).symm) ?cpos (by rw [List.length_map, List.length_map, tab_len]; omega) (u16s_one _) g w HB1.out (Nat.le_refl _) ?_))
    case cpos =>
      intro hp
      obtain ⟨b, off, rfl, hlt, hcell⟩ := HN1.out.spot.2 (by simpa [u16s] using hp)
      refine ⟨_, rfl, ?_⟩
      intro j u hj
      first | exact u16s_cell hcell j u hj | exact u16s_cell hcell j (.int .u16 u) (by simp [u16s, hj])
    intro w2 hw2 hb2
    have h2 : RW w2 g (tab xs.length (plusK xs ys 0)) := by
      have := hw2.out
      rw [splice_tab xs ys xs.length hxN] at this
      exact this
    have HR2 := Lib.hid h2
    have HB2 := Lib.hid hb2
    clear hw2 hb2 h2 HRW HB1 HN1 HN1'
    go_wp2_with fail
    go_loopw [19] (fun y wr => ∃ k : Nat, y = .int .i64 (k : Int) ∧ k ≤ ys.length ∧ Hid (RW wr g (tab xs.length (plusK xs ys k))) ∧ Hid (Below g w wr)) (fun y _ => ys.length - (intOf y).toNat)
    case atStart => exact ⟨0, rfl, Nat.zero_le _, HR2, HB2⟩
    case round =>
      clear HR2 HB2
      obtain ⟨k, rfl, hk, HR, HB⟩ := hrel
      by_cases hlt : k < ys.length
      · obtain ⟨b, off, rfl, hlb, hcell⟩ := HN'.out.spot.2 (by omega)
        have q1 : wr.cell? ⟨b, off + k, none⟩ = some (.int .u16 (ys.getD k 0)) := (HB.out.cell (p := ⟨b, off + k, none⟩) (by rw [HG.out]; exact hlb)).trans (hcell k hlt)
        have q2 := HR.out.tabcell k (by omega)
        have q3 := HR.out.free k
        have r1 := HU'.out.at k
        have r2 := (plusK_in HU.out HU'.out xs.length k).at k
        have hset := HR.out.set k (xorI ((tab xs.length (plusK xs ys k)).getD k 0) (ys.getD k 0))
        rw [plusK_next (by omega)] at hset
        obtain ⟨y, hy⟩ : ∃ y, y = ys.getD k 0 := ⟨_, rfl⟩
        obtain ⟨x, hx⟩ : ∃ x, x = (tab xs.length (plusK xs ys k)).getD k 0 := ⟨_, rfl⟩
        rw [← hx, ← hy] at hset
        rw [← hy] at q1 r1
        rw [← hx] at q2 r2
        obtain ⟨r10, r11⟩ := r1
        obtain ⟨r20, r21⟩ := r2
        have HSET := Lib.hid hset
        have HB3 := Lib.hid (HB.out.setCell (p := ⟨g, k, none⟩) (Nat.le_refl _) (.int .u16 (xorI x y)))
        have i1 : (k : Int) < (ys.length : Int) := by omega
        have i2 : (k : Int) < (xs.length : Int) := by omega
        have HCL := Lib.hid hcell
        clear hset hx hy hcell HR
        go_wp2_with fail
        refine (plus_v x y r20 r21 r10 r11 _).mono ?_
        rintro e w' ⟨rfl, rfl⟩
        obtain ⟨z, hz⟩ : ∃ z, z = xorI x y := ⟨_, rfl⟩
        rw [← hz] at HSET HB3 ⊢
        clear hz
        go_wp2_with fail
        go_roundw
        case rel => exact ⟨k + 1, by go_num, by omega, HSET, HB3⟩
        case measure => simp [intOf]; omega
      · obtain rfl : k = ys.length := by omega
        have hp := pPlus_po HU.out HU'.out HNL.out (by omega) HR.out (Nat.le_of_eq HG.out.symm)
        have hr := HR.out
        rw [plusK_end HU.out xs.length] at hr
        have HXR := Lib.hid (tab_len xs.length (pXor xs ys))
        have hns := hr.ns (tab_in fun i _ => pXor_u HU.out HU'.out i) xs.length
        have ht := trimmed_any (some ⟨g, 0, none⟩) xs.length (tab xs.length (pXor xs ys)) (by rw [tab_len]; exact hN2) (by rw [tab_len]; exact Nat.le_refl _) wr hns
        rw [tab_len] at ht
        have HP := Lib.hid hp
        have HT := Lib.hid ht
        have HBW : Hid (Below w.heap.size w wr) := Lib.hid (by rw [← HG.out]; exact HB.out)
        clear hp ht hr hns HR HB HXR
        go_wp2_with fail
        refine HT.out.mono ?_
        rintro e w' ⟨rfl, rfl⟩
        go_wp2_with fail
        go_ret
        exact ⟨_, rfl, HP.out, HBW.out⟩
def copyK (a : List Int) (k : Nat) : Nat → Int := fun i => if i < k then a.getD i 0 else 0
theorem copyK_zero (a : List Int) : copyK a 0 = fun _ => 0 := by funext i; simp [copyK]
theorem copyK_next {a : List Int} {N k : Nat} : (tab N (copyK a k)).set k (a.getD k 0) = tab N (copyK a (k + 1)) := by
  rw [tab_set]
  congr 1
  funext i
  unfold put copyK
  by_cases h : i = k
  · subst h; rw [if_pos rfl, if_pos (by omega)]
  · rw [if_neg h]
    by_cases h2 : i < k
    · rw [if_pos h2, if_pos (by omega)]
    · rw [if_neg h2, if_neg (by omega)]
theorem copyK_end {a : List Int} {b : List Int} {N : Nat} : tab N (copyK a a.length) = tab N (plusK a b 0) := by
  rw [plusK_zero]
  apply tab_ext
  intro i hi
  unfold copyK
  by_cases h : i < a.length
  · rw [if_pos h]
  · rw [if_neg h, getD_out a i (by omega)]
theorem lmax_lt (a b : Nat) (h : a < b) (ha : a ≤ 1048576) (hb : b ≤ 1048576) (w : World) : Calls Try.prog 135 #[.int .i64 (a : Int), .int .i64 (b : Int)] w fun e w' => e = .returned (.int .i64 (b : Int)) ∧ w' = w := by
  have t : decide ((b : Int) < (a : Int)) = false := by simp; omega
  go_enter Try.func135, Try.ntmps135
  go_wp2_with fail
  go_ret
  exact ⟨rfl, rfl⟩
theorem lmax_ge (a b : Nat) (h : ¬ a < b) (ha : a ≤ 1048576) (hb : b ≤ 1048576) (w : World) : Calls Try.prog 135 #[.int .i64 (a : Int), .int .i64 (b : Int)] w fun e w' => e = .returned (.int .i64 (a : Int)) ∧ w' = w := by
  by_cases e : a = b
  · subst e
    have t : decide ((a : Int) < (a : Int)) = false := by simp
    go_enter Try.func135, Try.ntmps135
    go_wp2_with fail
    go_ret
    exact ⟨rfl, rfl⟩
  · have t : decide ((b : Int) < (a : Int)) = true := by simp; omega
    go_enter Try.func135, Try.ntmps135
    go_wp2_with fail
    go_ret
    exact ⟨rfl, rfl⟩
set_option maxHeartbeats 2000000 in
set_option maxRecDepth 100000 in
theorem l05Plus_any (v u : Value) (xs ys : List Int) (hn : xs.length ≤ 1048576) (hn2 : ys.length ≤ 1048576) (w : World) (h : NS w v xs) (h' : NS w u ys) :
    Calls Try.prog 95 #[v, u] w fun e w' => ∃ r, e = .returned r ∧ PO w' w.heap.size r (pPlus xs ys) ∧ Below w.heap.size w w' := by
  obtain ⟨i0, hi, hz0, hz1, hz2⟩ := info_parts info25
  have HU := Lib.hid (inU_of h)
  have HU' := Lib.hid (inU_of h')
  have HN := Lib.hid h
  have HN' := Lib.hid h'
  obtain ⟨A, c, rfl, hz, hc⟩ := h
  obtain ⟨A', c', rfl, hz', hc'⟩ := h'
  clear hz hz' hc hc'
  by_cases hlt : xs.length < ys.length
  · have hNL : ys.length = mx xs ys := (mx_lt hlt).symm
    have hxN : xs.length ≤ ys.length := by omega
    have hyN : ys.length ≤ ys.length := by omega
    have hN2 : ys.length ≤ 1048576 := by omega
    have HNL := Lib.hid hNL
    clear hNL
    go_enter Try.func95, Try.ntmps95
    go_wp2_with fail
    refine (lmax_lt _ _ (by omega) (by omega) (by omega) _).mono ?_
    rintro e w' ⟨rfl, rfl⟩
    go_wp2_with (at_make; refine wpList_make_full _ rfl _ _ 25 rfl w'.heap.size 41 i0 (.int .u16 0) 1 Try.underlying25 hi hz0 hz1 _ _ _ _ ys.length rfl rfl rfl rfl (by rw [hz2]; omega) (by unfold maxLen; omega) (Nat.le_refl _) ?_)
    intro w1 hown hgrow
    have hb1 : Below w'.heap.size w' w1 := (Below.refl _ w').grown hgrow (Nat.le_refl _) (fun k hk => by cases hk)
    obtain ⟨g, hg⟩ : ∃ g, g = w'.heap.size := ⟨_, rfl⟩
    rw [← hg] at hown hb1 ⊢
    rw [made_tab] at hown
    have hrw : RW w1 g (tab ys.length (copyK xs 0)) := by rw [copyK_zero]; exact RW.of_own hown
    clear hown hgrow
    have HG := Lib.hid hg
    have HRW := Lib.hid hrw
    have HB1 := Lib.hid hb1
    clear hg hrw hb1
    go_wp2_with fail
    go_loopw [6] (fun y wr => ∃ k : Nat, y = .int .i64 (k : Int) ∧ k ≤ xs.length ∧ Hid (RW wr g (tab ys.length (copyK xs k))) ∧ Hid (Below g w' wr)) (fun y _ => xs.length - (intOf y).toNat)
    case atStart => exact ⟨0, rfl, Nat.zero_le _, HRW, HB1⟩
    case round =>
      clear HRW HB1
      obtain ⟨k, rfl, hk, HR, HB⟩ := hrel
      by_cases hlt : k < xs.length
      · obtain ⟨b, off, rfl, hlb, hcell⟩ := HN.out.spot.2 (by omega)
        have q1 : wr.cell? ⟨b, off + k, none⟩ = some (.int .u16 (xs.getD k 0)) := (HB.out.cell (p := ⟨b, off + k, none⟩) (by rw [HG.out]; exact hlb)).trans (hcell k hlt)
        have q2 := HR.out.tabcell k (by omega)
        have q3 := HR.out.free k
        have hset := HR.out.set k (xs.getD k 0)
        rw [copyK_next] at hset
        obtain ⟨y, hy⟩ : ∃ y, y = xs.getD k 0 := ⟨_, rfl⟩
        rw [← hy] at hset q1
        have HSET := Lib.hid hset
        have HB3 := Lib.hid (HB.out.setCell (p := ⟨g, k, none⟩) (Nat.le_refl _) (.int .u16 y))
        have i1 : (k : Int) < (xs.length : Int) := by omega
        have i2 : (k : Int) < (ys.length : Int) := by omega
        have HCL := Lib.hid hcell
        clear hset hy hcell HR
        go_wp2_with fail
        go_roundw
        case rel => exact ⟨k + 1, by go_num, by omega, HSET, HB3⟩
        case measure => simp [intOf]; omega
      · obtain rfl : k = xs.length := by omega
        have HR0 : Hid (RW wr g (tab ys.length (plusK xs ys 0))) := Lib.hid (by have := HR.out; rw [copyK_end] at this; exact this)
        clear HR
        go_wp2_with fail
        go_loopw [7] (fun y wr => ∃ k : Nat, y = .int .i64 (k : Int) ∧ k ≤ ys.length ∧ Hid (RW wr g (tab ys.length (plusK xs ys k))) ∧ Hid (Below g w' wr)) (fun y _ => ys.length - (intOf y).toNat)
        case atStart => exact ⟨0, rfl, Nat.zero_le _, HR0, HB⟩
        case round =>
          clear HR0 HB
          obtain ⟨k, rfl, hk, HR, HB⟩ := hrel
          by_cases hlt : k < ys.length
          · obtain ⟨b, off, rfl, hlb, hcell⟩ := HN'.out.spot.2 (by omega)
            have q1 : wr.cell? ⟨b, off + k, none⟩ = some (.int .u16 (ys.getD k 0)) := (HB.out.cell (p := ⟨b, off + k, none⟩) (by rw [HG.out]; exact hlb)).trans (hcell k hlt)
            have q2 := HR.out.tabcell k (by omega)
            have q3 := HR.out.free k
            have r1 := HU'.out.at k
            have r2 := (plusK_in HU.out HU'.out ys.length k).at k
            have hset := (show RW wr.drew g _ from HR.out).set k (xorI ((tab ys.length (plusK xs ys k)).getD k 0) (ys.getD k 0))
            rw [plusK_next (by omega)] at hset
            obtain ⟨y, hy⟩ : ∃ y, y = ys.getD k 0 := ⟨_, rfl⟩
            obtain ⟨x, hx⟩ : ∃ x, x = (tab ys.length (plusK xs ys k)).getD k 0 := ⟨_, rfl⟩
            rw [← hx, ← hy] at hset
            rw [← hy] at q1 r1
            rw [← hx] at q2 r2
            obtain ⟨r10, r11⟩ := r1
            obtain ⟨r20, r21⟩ := r2
            have hbx := bits_xor x y r20 r21 r10 r11
            have HSET := Lib.hid hset
            have HB3 := Lib.hid ((drew_b HB.out : Below g w' wr.drew).setCell (p := ⟨g, k, none⟩) (Nat.le_refl _) (.int .u16 (xorI x y)))
            obtain ⟨z, hz⟩ : ∃ z, z = xorI x y := ⟨_, rfl⟩
            rw [← hz] at HSET HB3 hbx
            have i1 : (k : Int) < (ys.length : Int) := by omega
            have i2 : (k : Int) < (ys.length : Int) := by omega
            have HCL := Lib.hid hcell
            clear hset hx hy hcell HR hz
            go_wp2_with fail
            go_still_tail 12, (by kernel_rfl)
            change wpList _ _ _ _ _ wr.drew
            go_wp2_with fail
            go_roundw
            case rel => exact ⟨k + 1, by go_num, by omega, HSET, HB3⟩
            case measure => simp [intOf]; omega
          · obtain rfl : k = ys.length := by omega
            have hp := HR.out
            rw [plusK_end HU.out ys.length] at hp
            have hns := hp.ns (tab_in fun i _ => pXor_u HU.out HU'.out i) ys.length
            have ht := l05Trim_any (some ⟨g, 0, none⟩) ys.length (tab ys.length (pXor xs ys)) (by rw [tab_len]; omega) (by rw [tab_len]; exact Nat.le_refl _) wr hns
            have hL := HNL.out
            have hPP : pPlus xs ys = pTrim (tab ys.length (pXor xs ys)) := by unfold pPlus; rw [← hL]
            rw [tab_len, ← hPP] at ht
            have HT := Lib.hid ht
            have HPP : Hid ((pPlus xs ys).length = trimN (tab ys.length (pXor xs ys)) ys.length) := Lib.hid (by rw [hPP, pTrim_len, tab_len])
            have HSZ : Hid (w'.heap.size ≤ wr.heap.size) := Lib.hid HB.out.size
            have HBW : Hid (Below w'.heap.size w' wr) := Lib.hid (by rw [← HG.out]; exact HB.out)
            clear hp ht hns hPP hL HR HB
            go_wp2_with fail
            refine HT.out.mono ?_
            rintro e wn ⟨r, rfl, ho, hb⟩
            have HP := Lib.hid ((PO.of_own ho HPP.out (pPlus_in HU.out HU'.out)).lower HSZ.out)
            have HBN := Lib.hid (HBW.out.trans (hb.mono HSZ.out))
            clear ho hb
            go_wp2_with fail
            go_ret
            exact ⟨_, rfl, HP.out, HBN.out⟩
  · have hNL : xs.length = mx xs ys := (mx_ge hlt).symm
    have hxN : xs.length ≤ xs.length := by omega
    have hyN : ys.length ≤ xs.length := by omega
    have hN2 : xs.length ≤ 1048576 := by omega
    have HNL := Lib.hid hNL
    clear hNL
    go_enter Try.func95, Try.ntmps95
    go_wp2_with fail
    refine (lmax_ge _ _ (by omega) (by omega) (by omega) _).mono ?_
    rintro e w' ⟨rfl, rfl⟩
    go_wp2_with (at_make; refine wpList_make_full _ rfl _ _ 25 rfl w'.heap.size 41 i0 (.int .u16 0) 1 Try.underlying25 hi hz0 hz1 _ _ _ _ xs.length rfl rfl rfl rfl (by rw [hz2]; omega) (by unfold maxLen; omega) (Nat.le_refl _) ?_)
    intro w1 hown hgrow
    have hb1 : Below w'.heap.size w' w1 := (Below.refl _ w').grown hgrow (Nat.le_refl _) (fun k hk => by cases hk)
    obtain ⟨g, hg⟩ : ∃ g, g = w'.heap.size := ⟨_, rfl⟩
    rw [← hg] at hown hb1 ⊢
    rw [made_tab] at hown
    have hrw : RW w1 g (tab xs.length (copyK xs 0)) := by rw [copyK_zero]; exact RW.of_own hown
    clear hown hgrow
    have HG := Lib.hid hg
    have HRW := Lib.hid hrw
    have HB1 := Lib.hid hb1
    clear hg hrw hb1
    go_wp2_with fail
    go_loopw [6] (fun y wr => ∃ k : Nat, y = .int .i64 (k : Int) ∧ k ≤ xs.length ∧ Hid (RW wr g (tab xs.length (copyK xs k))) ∧ Hid (Below g w' wr)) (fun y _ => xs.length - (intOf y).toNat)
    case atStart => exact ⟨0, rfl, Nat.zero_le _, HRW, HB1⟩
    case round =>
      clear HRW HB1
      obtain ⟨k, rfl, hk, HR, HB⟩ := hrel
      by_cases hlt : k < xs.length
      · obtain ⟨b, off, rfl, hlb, hcell⟩ := HN.out.spot.2 (by omega)
        have q1 : wr.cell? ⟨b, off + k, none⟩ = some (.int .u16 (xs.getD k 0)) := (HB.out.cell (p := ⟨b, off + k, none⟩) (by rw [HG.out]; exact hlb)).trans (hcell k hlt)
        have q2 := HR.out.tabcell k (by omega)
        have q3 := HR.out.free k
        have hset := HR.out.set k (xs.getD k 0)
        rw [copyK_next] at hset
        obtain ⟨y, hy⟩ : ∃ y, y = xs.getD k 0 := ⟨_, rfl⟩
        rw [← hy] at hset q1
        have HSET := Lib.hid hset
        have HB3 := Lib.hid (HB.out.setCell (p := ⟨g, k, none⟩) (Nat.le_refl _) (.int .u16 y))
        have i1 : (k : Int) < (xs.length : Int) := by omega
        have i2 : (k : Int) < (xs.length : Int) := by omega
        have HCL := Lib.hid hcell
        clear hset hy hcell HR
        go_wp2_with fail
        go_roundw
        case rel => exact ⟨k + 1, by go_num, by omega, HSET, HB3⟩
        case measure => simp [intOf]; omega
      · obtain rfl : k = xs.length := by omega
        have HR0 : Hid (RW wr g (tab xs.length (plusK xs ys 0))) := Lib.hid (by have := HR.out; rw [copyK_end] at this; exact this)
        clear HR
        go_wp2_with fail
        go_loopw [7] (fun y wr => ∃ k : Nat, y = .int .i64 (k : Int) ∧ k ≤ ys.length ∧ Hid (RW wr g (tab xs.length (plusK xs ys k))) ∧ Hid (Below g w' wr)) (fun y _ => ys.length - (intOf y).toNat)
        case atStart => exact ⟨0, rfl, Nat.zero_le _, HR0, HB⟩
        case round =>
          clear HR0 HB
          obtain ⟨k, rfl, hk, HR, HB⟩ := hrel
          by_cases hlt : k < ys.length
          · obtain ⟨b, off, rfl, hlb, hcell⟩ := HN'.out.spot.2 (by omega)
            have q1 : wr.cell? ⟨b, off + k, none⟩ = some (.int .u16 (ys.getD k 0)) := (HB.out.cell (p := ⟨b, off + k, none⟩) (by rw [HG.out]; exact hlb)).trans (hcell k hlt)
            have q2 := HR.out.tabcell k (by omega)
            have q3 := HR.out.free k
            have r1 := HU'.out.at k
            have r2 := (plusK_in HU.out HU'.out xs.length k).at k
            have hset := (show RW wr.drew g _ from HR.out).set k (xorI ((tab xs.length (plusK xs ys k)).getD k 0) (ys.getD k 0))
            rw [plusK_next (by omega)] at hset
            obtain ⟨y, hy⟩ : ∃ y, y = ys.getD k 0 := ⟨_, rfl⟩
            obtain ⟨x, hx⟩ : ∃ x, x = (tab xs.length (plusK xs ys k)).getD k 0 := ⟨_, rfl⟩
            rw [← hx, ← hy] at hset
            rw [← hy] at q1 r1
            rw [← hx] at q2 r2
            obtain ⟨r10, r11⟩ := r1
            obtain ⟨r20, r21⟩ := r2
            have hbx := bits_xor x y r20 r21 r10 r11
            have HSET := Lib.hid hset
            have HB3 := Lib.hid ((drew_b HB.out : Below g w' wr.drew).setCell (p := ⟨g, k, none⟩) (Nat.le_refl _) (.int .u16 (xorI x y)))
            obtain ⟨z, hz⟩ : ∃ z, z = xorI x y := ⟨_, rfl⟩
            rw [← hz] at HSET HB3 hbx
            have i1 : (k : Int) < (ys.length : Int) := by omega
            have i2 : (k : Int) < (xs.length : Int) := by omega
            have HCL := Lib.hid hcell
            clear hset hx hy hcell HR hz
            go_wp2_with fail
            go_still_tail 12, (by kernel_rfl)
            change wpList _ _ _ _ _ wr.drew
            go_wp2_with fail
            go_roundw
            case rel => exact ⟨k + 1, by go_num, by omega, HSET, HB3⟩
            case measure => simp [intOf]; omega
          · obtain rfl : k = ys.length := by omega
            have hp := HR.out
            rw [plusK_end HU.out xs.length] at hp
            have hns := hp.ns (tab_in fun i _ => pXor_u HU.out HU'.out i) xs.length
            have ht := l05Trim_any (some ⟨g, 0, none⟩) xs.length (tab xs.length (pXor xs ys)) (by rw [tab_len]; omega) (by rw [tab_len]; exact Nat.le_refl _) wr hns
            have hL := HNL.out
            have hPP : pPlus xs ys = pTrim (tab xs.length (pXor xs ys)) := by unfold pPlus; rw [← hL]
            rw [tab_len, ← hPP] at ht
            have HT := Lib.hid ht
            have HPP : Hid ((pPlus xs ys).length = trimN (tab xs.length (pXor xs ys)) xs.length) := Lib.hid (by rw [hPP, pTrim_len, tab_len])
            have HSZ : Hid (w'.heap.size ≤ wr.heap.size) := Lib.hid HB.out.size
            have HBW : Hid (Below w'.heap.size w' wr) := Lib.hid (by rw [← HG.out]; exact HB.out)
            clear hp ht hns hPP hL HR HB
            go_wp2_with fail
            refine HT.out.mono ?_
            rintro e wn ⟨r, rfl, ho, hb⟩
            have HP := Lib.hid ((PO.of_own ho HPP.out (pPlus_in HU.out HU'.out)).lower HSZ.out)
            have HBN := Lib.hid (HBW.out.trans (hb.mono HSZ.out))
            clear ho hb
            go_wp2_with fail
            go_ret
            exact ⟨_, rfl, HP.out, HBN.out⟩
end Go.Proofs.Ytnpadkkjaeblfaa
