/-
  Quotient and rest of the program (over); TimesRoot: of the model and of the program.
-/
import Derived.Test.YtnpadkkjaeblfaaPvZ
namespace Go.Proofs.Ytnpadkkjaeblfaa
set_option linter.unusedVariables false
set_option linter.unusedSimpArgs false
open Go.ChangeShapes Go.WideShapes Go.ChangeAt Go.RowKit

set_option maxHeartbeats 1000000 in
theorem over_sep (v u : Value) (xs ys : List Int) (hn : xs.length ≤ 1000) (hn2 : ys.length ≤ 1000) (w : World) (h : NC w v xs) (h' : NC w u ys)
    (hta : topP xs) (hn1 : 1 ≤ ys.length) (ht : ys.getD (ys.length - 1) 0 ≠ 0) :
    Calls Try.prog 119 #[v, u] w fun e w' => ∃ q r, e = .returned (.tuple #[q, r]) ∧ PO w' w.heap.size q (pQuo xs ys) ∧ PO w' w.heap.size r (pRem xs ys) ∧ Below w.heap.size w w' ∧ SEP q (pQuo xs ys) r (pRem xs ys) := by
  have HU := Lib.hid h.inU
  have HU' := Lib.hid h'.inU
  have HD := Lib.hid (divide_sep v u xs ys hn hn2 w h h' hn1 ht)
  have HT := Lib.hid (pLeft_trim HU.out HU'.out hta hn1 ht)
  have HL := Lib.hid (pLeft_len xs ys)
  obtain ⟨A, c, rfl, _⟩ := h.form
  obtain ⟨A', c', rfl, _⟩ := h'.form
  clear h h'
  go_enter Try.func119, Try.ntmps119
  go_wp2_with fail
  refine HD.out.mono ?_
  rintro e w1 ⟨q, r, rfl, hq, hr, hb, hs⟩
  obtain ⟨A1, c1, rfl, _⟩ := hq.form
  obtain ⟨A2, c2, rfl, hc2, hc3⟩ := hr.form
  have HQ := Lib.hid hq
  have HR := Lib.hid hr
  have HB := Lib.hid hb
  have hs2 : SEP (.slice A1 (pQuo xs ys).length c1) (pQuo xs ys) (.slice A2 (trimN (pLeft xs ys) (pLeft xs ys).length) (trimN (pLeft xs ys) (pLeft xs ys).length)) (pRem xs ys) := by
    intro h1 h2 k hk1 hk2
    have e1 : (pLeft xs ys).take (trimN (pLeft xs ys) (pLeft xs ys).length) = pRem xs ys := HT.out
    have h3 : 0 < (pLeft xs ys).length := by
      rw [← e1, List.length_take] at h2
      omega
    have hk3 : (Value.slice A2 (pLeft xs ys).length c2).ownBlock = some k := by
      cases A2 with
      | none => simp [Value.ownBlock] at hk2
      | some a => simpa [Value.ownBlock] using hk2
    exact hs h1 h3 k hk1 hk3
  clear hq hr hb hs
  go_wp2_with fail
  refine (trimmed_any A2 c2 (pLeft xs ys) (by have := HL.out; omega) hc2 _ HR.out.ns).mono ?_
  rintro e w' ⟨rfl, hw⟩
  obtain rfl := hw.symm
  have hcut := HR.out.cut (trimN (pLeft xs ys) (pLeft xs ys).length) (trimN_le _ _)
  have e1 : (pLeft xs ys).take (trimN (pLeft xs ys) (pLeft xs ys).length) = pRem xs ys := HT.out
  rw [e1] at hcut
  have HC := Lib.hid hcut
  obtain ⟨t, ht'⟩ : ∃ t, t = trimN (pLeft xs ys) (pLeft xs ys).length := ⟨_, rfl⟩
  rw [← ht'] at HC hs2 ⊢
  have HS2 := Lib.hid hs2
  clear hcut e1 ht' hs2
  go_wp2_with fail
  go_ret2
  exact ⟨_, _, rfl, HQ.out, HC.out, HB.out, HS2.out⟩
theorem over_any (v u : Value) (xs ys : List Int) (hn : xs.length ≤ 1000) (hn2 : ys.length ≤ 1000) (w : World) (h : NC w v xs) (h' : NC w u ys)
    (hta : topP xs) (hn1 : 1 ≤ ys.length) (ht : ys.getD (ys.length - 1) 0 ≠ 0) :
    Calls Try.prog 119 #[v, u] w fun e w' => ∃ q r, e = .returned (.tuple #[q, r]) ∧ PO w' w.heap.size q (pQuo xs ys) ∧ PO w' w.heap.size r (pRem xs ys) ∧ Below w.heap.size w w' :=
  (over_sep v u xs ys hn hn2 w h h' hta hn1 ht).mono fun e w' ⟨q, r, a, b, c, d, _⟩ => ⟨q, r, a, b, c, d⟩

/-! how often -/
def zK (x : Int) (zs : List Int) : Nat → List Int
  | 0 => zs
  | k + 1 => pQuo (zK x zs k) [x, 1]
def tK (x : Int) (zs : List Int) : Nat → Nat → Nat
  | 0, k => k
  | f + 1, k => if (pRem (zK x zs k) [x, 1]).length = 0 then tK x zs f (k + 1) else k
def trI (zs : List Int) (x : Int) : Int := if okP zs then (if zs.length = 0 then 0 else (tK x zs zs.length 0 : Nat)) else 0
theorem trI_no {zs : List Int} {x : Int} (h : okP zs = false) : trI zs x = 0 := by unfold trI; rw [if_neg (by rw [h]; decide)]
theorem trI_zero {zs : List Int} {x : Int} (h : okP zs = true) (h0 : zs.length = 0) : trI zs x = 0 := by unfold trI; rw [if_pos h, if_pos h0]
theorem trI_yes {zs : List Int} {x : Int} (h : okP zs = true) (h0 : ¬ zs.length = 0) : trI zs x = (tK x zs zs.length 0 : Nat) := by unfold trI; rw [if_pos h, if_neg h0]
theorem root_in {x : Int} (x0 : 0 ≤ x) (x1 : x < 65536) : inU [x, 1] := by
  intro y hy
  rcases List.mem_cons.1 hy with rfl | hy
  · omega
  · rcases List.mem_singleton.1 hy with rfl
    omega
theorem root_lead (x : Int) : ([x, 1] : List Int).getD (([x, 1] : List Int).length - 1) 0 ≠ 0 := by simp
theorem zK_in {zs : List Int} {x : Int} (x0 : 0 ≤ x) (x1 : x < 65536) (h : inU zs) : ∀ k, inU (zK x zs k)
  | 0 => h
  | k + 1 => pQuo_in (zK_in x0 x1 h k) (root_in x0 x1)
theorem zK_next {zs : List Int} {x : Int} {k : Nat} (x0 : 0 ≤ x) (x1 : x < 65536) (h : inU zs) (h1 : 1 ≤ (zK x zs k).length) (ht : topP (zK x zs k)) (hr : (pRem (zK x zs k) [x, 1]).length = 0) :
    (zK x zs (k + 1)).length + 1 = (zK x zs k).length ∧ 1 ≤ (zK x zs (k + 1)).length ∧ topP (zK x zs (k + 1)) := by
  have hb : ([x, 1] : List Int).length = 2 := rfl
  have h2 : ¬ (zK x zs k).length < ([x, 1] : List Int).length := by
    intro hl
    rw [pRem_short hl] at hr
    omega
  have e : (zK x zs (k + 1)).length = (zK x zs k).length + 1 - 2 := by
    show (pQuo (zK x zs k) [x, 1]).length = _
    rw [pQuo_tab, tab_len]
    rfl
  refine ⟨by omega, by omega, ?_⟩
  exact pQuo_top (zK_in x0 x1 h k) (root_in x0 x1) ht (by rw [hb]; omega) (root_lead x)
theorem tK_go {zs : List Int} {x : Int} {f k T : Nat} (h : tK x zs f k = T) (hf : 1 ≤ f) (hr : (pRem (zK x zs k) [x, 1]).length = 0) : tK x zs (f - 1) (k + 1) = T := by
  obtain ⟨g, rfl⟩ : ∃ g, f = g + 1 := ⟨f - 1, by omega⟩
  unfold tK at h
  rw [if_pos hr] at h
  exact h
theorem tK_stop {zs : List Int} {x : Int} {f k T : Nat} (h : tK x zs f k = T) (hf : 1 ≤ f) (hr : ¬ (pRem (zK x zs k) [x, 1]).length = 0) : k = T := by
  obtain ⟨g, rfl⟩ : ∃ g, f = g + 1 := ⟨f - 1, by omega⟩
  unfold tK at h
  rw [if_neg hr] at h
  exact h
set_option maxHeartbeats 2000000 in
set_option maxRecDepth 100000 in
theorem spec_TimesRoot (v : Value) (zs : List Int) (x : Int) (hn : zs.length ≤ 1048576) (x0 : 0 ≤ x) (x1 : x < 65536) (w : World) (h : NC w v zs) :
    Calls Try.prog 65 #[v, .int .u16 x] w fun e w' => e = .returned (.tuple #[.int .i64 (trI zs x), .int .i64 (cuzC zs)]) ∧ Below w.heap.size w w' := by
  have HU := Lib.hid h.inU
  have HN := Lib.hid h.ns
  have HNC := Lib.hid h
  obtain ⟨A, c, rfl, hca⟩ := h.form
  have HB1 := Lib.hid ((Below.refl w.heap.size w).alloc (Nat.le_refl _) (.cells #[.slice A zs.length c] 25))
  clear h
  by_cases ho : okP zs = true
  · by_cases h0 : zs.length = 0
    · have T0 : ((zs.length : Int) == 0) = true := by rw [h0]; rfl
      have E1 := Lib.hid (trI_zero (x := x) ho h0)
      have E2 := Lib.hid (cuzC_zero ho h0)
      rw [E1.out, E2.out]
      clear h0
      go_enter Try.func65, Try.ntmps65
      go_wp2_with fail
      refine (l05Ok_any _ zs hn _ HN.out).mono ?_
      rintro e w' ⟨rfl, hw⟩
      obtain rfl := hw.symm
      rw [ho]
      go_wp2_with fail
      go_ret2
      exact ⟨rfl, Below.refl _ _⟩
    · have T0 : ((zs.length : Int) == 0) = false := by rw [beq_eq_false_iff_ne]; omega
      have h21 := okP_len ho
      have htop := okP_top ho
      obtain ⟨T, hT⟩ : ∃ T, tK x zs zs.length 0 = T := ⟨_, rfl⟩
      have E1 := Lib.hid (trI_yes (x := x) ho h0)
      rw [hT] at E1
      have E2 := Lib.hid (cuzC_yes ho h0)
      rw [E1.out, E2.out]
      have HS : Hid (NC w (.slice A zs.length c) (zK x zs 0) ∧ topP (zK x zs 0) ∧ 1 ≤ (zK x zs 0).length) := Lib.hid ⟨HNC.out, htop, by show 1 ≤ zs.length; omega⟩
      have HT0 := Lib.hid hT
      clear htop hT
      go_enter Try.func65, Try.ntmps65
      go_wp2_with fail
      refine (l05Ok_any _ zs hn _ HN.out).mono ?_
      rintro e w' ⟨rfl, hw⟩
      obtain rfl := hw.symm
      rw [ho]
      go_wp2_with fail
      go_loopw [0, 6] (fun y0 y wr => ∃ k : Nat, y = .int .i64 (k : Int) ∧ Hid (NC wr y0 (zK x zs k) ∧ topP (zK x zs k) ∧ 1 ≤ (zK x zs k).length) ∧ (zK x zs k).length + k = zs.length ∧ Hid (tK x zs (zs.length - k) k = T) ∧ Hid (Below w.heap.size w wr)) (fun _ y _ => zs.length - (intOf y).toNat)
      case atStart => exact ⟨0, rfl, HS, rfl, HT0, Lib.hid (Below.refl _ _)⟩
      case round =>
        clear HS HT0
        obtain ⟨k, rfl, HZ, hlk, HT, HB⟩ := hrel
        obtain ⟨A3, c3, rfl, hc3⟩ := HZ.out.1.form
        have h1 := HZ.out.2.2
        have hnx := zK_next (k := k) x0 x1 HU.out h1 HZ.out.2.1
        have hgo := tK_go (f := zs.length - k) HT.out (by omega)
        have hst := tK_stop (f := zs.length - k) HT.out (by omega)
        have HNX := Lib.hid hnx
        have HGO := Lib.hid hgo
        have HST := Lib.hid hst
        have hzd : zK x zs (k + 1) = pQuo (zK x zs k) [x, 1] := rfl
        have HZD := Lib.hid hzd
        clear hnx hgo hst hzd
        have hba : Below wr.heap.size wr (wr.alloc (.cells #[.int .u16 x, .int .u16 1] 41)) := (Below.refl _ wr).alloc (Nat.le_refl _) _
        have hrw : RW (wr.alloc (.cells #[.int .u16 x, .int .u16 1] 41)) wr.heap.size [x, 1] := heap_alloc_new wr _
        have hnb : NC (wr.alloc (.cells #[.int .u16 x, .int .u16 1] 41)) (.slice (some ⟨wr.heap.size, 0, none⟩) 2 2) [x, 1] := (hrw.po (B := wr.heap.size) (root_in x0 x1) (Nat.le_refl _) (by unfold maxLen; simp)).nc
        have hdv := l05Divide_any _ _ (zK x zs k) [x, 1] (by omega) (by simp) _ (HZ.out.1.below hba) hnb HZ.out.2.1 (by simp) (root_lead x)
        have HDV := Lib.hid hdv
        have HBA := Lib.hid hba
        clear hba hrw hnb hdv
        have hlz : (zK x zs k).length ≤ 21 := by omega
        obtain ⟨Z, hZ⟩ : ∃ Z, Z = (zK x zs k).length := ⟨_, rfl⟩
        rw [← hZ] at hlk ⊢
        have HZ9 := Lib.hid hZ
        clear hZ h1
        go_wp2_with fail
        rw [HZ9.out]
        refine HDV.out.mono ?_
        rintro e w3 ⟨q, r, rfl, hq, hr, hb⟩
        obtain ⟨A4, c4, rfl, hc4, _⟩ := hq.form
        obtain ⟨A5, c5, rfl, hc5, _⟩ := hr.form
        have HQ := Lib.hid hq
        have HB3 : Hid (Below w.heap.size w w3) := Lib.hid (bchain HB.out (bchain HBA.out hb))
        clear hq hr hb
        by_cases hz : (pRem (zK x zs k) [x, 1]).length = 0
        · obtain ⟨n1, n2, n3⟩ := HNX.out hz
          have HG := Lib.hid (HGO.out hz)
          have HN3 : Hid (NC w3 (.slice A4 (pQuo (zK x zs k) [x, 1]).length c4) (zK x zs (k + 1)) ∧ topP (zK x zs (k + 1)) ∧ 1 ≤ (zK x zs (k + 1)).length) := Lib.hid ⟨by rw [HZD.out]; exact HQ.out.nc, n3, n2⟩
          have hl2 : (zK x zs (k + 1)).length + (k + 1) = zs.length := by rw [HZ9.out] at hlk; omega
          have hk9 : k < zs.length := by omega
          clear n1 n2 n3 HQ
          obtain ⟨L, hL⟩ : ∃ L, L = (pRem (zK x zs k) [x, 1]).length := ⟨_, rfl⟩
          rw [← hL] at hz ⊢
          clear hL
          subst hz
          go_wp2_with fail
          go_roundw
          case rel => exact ⟨k + 1, by go_num, HN3, hl2, Lib.hid (by have := HG.out; rwa [show zs.length - k - 1 = zs.length - (k + 1) from by omega] at this), HB3⟩
          case measure => simp [intOf]; omega
        · have hk := HST.out hz
          obtain ⟨L, hL⟩ : ∃ L, L = (pRem (zK x zs k) [x, 1]).length := ⟨_, rfl⟩
          rw [← hL] at hz ⊢
          clear hL
          have HK := Lib.hid hk
          clear hk
          have hL0 : (0 : Int) < (L : Int) := by omega
          go_wp2_with fail
          go_ret2
          exact ⟨by rw [← HK.out]; rfl, HB3.out⟩
  · have ho' : okP zs = false := by simpa using ho
    have E1 := Lib.hid (trI_no (x := x) ho')
    have E2 := Lib.hid (cuzC_no ho')
    rw [E1.out, E2.out]
    go_enter Try.func65, Try.ntmps65
    go_wp2_with fail
    refine (l05Ok_any _ zs hn _ HN.out).mono ?_
    rintro e w' ⟨rfl, hw⟩
    obtain rfl := hw.symm
    rw [ho']
    go_wp2_with fail
    go_ret2
    exact ⟨rfl, Below.refl _ _⟩
set_option maxHeartbeats 2000000 in
set_option maxRecDepth 100000 in
theorem impl_TimesRoot (v : Value) (zs : List Int) (x : Int) (hn : zs.length ≤ 1048576) (x0 : 0 ≤ x) (x1 : x < 65536) (w : World) (h : NC w v zs) :
    Calls Try.prog 66 #[v, .int .u16 x] w fun e w' => e = .returned (.tuple #[.int .i64 (trI zs x), .int .i64 (cuzC zs)]) ∧ Below w.heap.size w w' := by
  have HU := Lib.hid h.inU
  have HN := Lib.hid h.ns
  have HNC := Lib.hid h
  have HC := Lib.hid (cuz_any v zs hn w h.ns)
  obtain ⟨A, c, rfl, hca⟩ := h.form
  have HB1 := Lib.hid ((Below.refl w.heap.size w).alloc (Nat.le_refl _) (.cells #[.slice A zs.length c] 25))
  clear h
  by_cases ho : okP zs = true
  · by_cases h0 : zs.length = 0
    · have T0 : ((zs.length : Int) == 0) = true := by rw [h0]; rfl
      have E1 := Lib.hid (trI_zero (x := x) ho h0)
      have E2 := Lib.hid (cuzC_zero ho h0)
      rw [E1.out, E2.out]
      clear h0
      go_enter Try.func66, Try.ntmps66
      go_wp2_with fail
      refine HC.out.mono ?_
      rintro e w' ⟨rfl, rfl⟩
      rw [E2.out]
      go_wp2_with fail
      go_ret2
      exact ⟨rfl, HB1.out⟩
    · have T0 : ((zs.length : Int) == 0) = false := by rw [beq_eq_false_iff_ne]; omega
      have h21 := okP_len ho
      have htop := okP_top ho
      obtain ⟨T, hT⟩ : ∃ T, tK x zs zs.length 0 = T := ⟨_, rfl⟩
      have E1 := Lib.hid (trI_yes (x := x) ho h0)
      rw [hT] at E1
      have E2 := Lib.hid (cuzC_yes ho h0)
      rw [E1.out, E2.out]
      have HS : Hid (NC (w.alloc (.cells #[.slice A zs.length c] 25)) (.slice A zs.length c) (zK x zs 0) ∧ topP (zK x zs 0) ∧ 1 ≤ (zK x zs 0).length) := Lib.hid ⟨HNC.out.below HB1.out, htop, by show 1 ≤ zs.length; omega⟩
      have HT0 := Lib.hid hT
      clear htop hT
      go_enter Try.func66, Try.ntmps66
      go_wp2_with fail
      refine HC.out.mono ?_
      rintro e w' ⟨rfl, rfl⟩
      rw [E2.out]
      go_wp2_with fail
      go_loopw [0, 7] (fun y0 y wr => ∃ k : Nat, y = .int .i64 (k : Int) ∧ Hid (NC wr y0 (zK x zs k) ∧ topP (zK x zs k) ∧ 1 ≤ (zK x zs k).length) ∧ (zK x zs k).length + k = zs.length ∧ Hid (tK x zs (zs.length - k) k = T) ∧ Hid (Below w.heap.size w wr)) (fun _ y _ => zs.length - (intOf y).toNat)
      case atStart => exact ⟨0, rfl, HS, rfl, HT0, HB1⟩
      case round =>
        clear HS HT0
        obtain ⟨k, rfl, HZ, hlk, HT, HB⟩ := hrel
        obtain ⟨A3, c3, rfl, hc3⟩ := HZ.out.1.form
        have h1 := HZ.out.2.2
        have hnx := zK_next (k := k) x0 x1 HU.out h1 HZ.out.2.1
        have hgo := tK_go (f := zs.length - k) HT.out (by omega)
        have hst := tK_stop (f := zs.length - k) HT.out (by omega)
        have HNX := Lib.hid hnx
        have HGO := Lib.hid hgo
        have HST := Lib.hid hst
        have hzd : zK x zs (k + 1) = pQuo (zK x zs k) [x, 1] := rfl
        have HZD := Lib.hid hzd
        clear hnx hgo hst hzd
        have hba : Below wr.heap.size wr (wr.alloc (.cells #[.int .u16 x, .int .u16 1] 41)) := (Below.refl _ wr).alloc (Nat.le_refl _) _
        have hrw : RW (wr.alloc (.cells #[.int .u16 x, .int .u16 1] 41)) wr.heap.size [x, 1] := heap_alloc_new wr _
        have hnb : NC (wr.alloc (.cells #[.int .u16 x, .int .u16 1] 41)) (.slice (some ⟨wr.heap.size, 0, none⟩) 2 2) [x, 1] := (hrw.po (B := wr.heap.size) (root_in x0 x1) (Nat.le_refl _) (by unfold maxLen; simp)).nc
        have hdv := over_any _ _ (zK x zs k) [x, 1] (by omega) (by simp) _ (HZ.out.1.below hba) hnb HZ.out.2.1 (by simp) (root_lead x)
        have HDV := Lib.hid hdv
        have HBA := Lib.hid hba
        clear hba hrw hnb hdv
        have hlz : (zK x zs k).length ≤ 21 := by omega
        obtain ⟨Z, hZ⟩ : ∃ Z, Z = (zK x zs k).length := ⟨_, rfl⟩
        rw [← hZ] at hlk ⊢
        have HZ9 := Lib.hid hZ
        clear hZ h1
        go_wp2_with fail
        refine (rootPoly_any x _).mono ?_
        rintro e w' ⟨rfl, rfl⟩
        go_wp2_with fail
        rw [HZ9.out]
        refine HDV.out.mono ?_
        rintro e w3 ⟨q, r, rfl, hq, hr, hb⟩
        obtain ⟨A4, c4, rfl, hc4, _⟩ := hq.form
        obtain ⟨A5, c5, rfl, hc5, _⟩ := hr.form
        have HQ := Lib.hid hq
        have HB3 : Hid (Below w.heap.size w w3) := Lib.hid (bchain HB.out (bchain HBA.out hb))
        clear hq hr hb
        by_cases hz : (pRem (zK x zs k) [x, 1]).length = 0
        · obtain ⟨n1, n2, n3⟩ := HNX.out hz
          have HG := Lib.hid (HGO.out hz)
          have HN3 : Hid (NC w3 (.slice A4 (pQuo (zK x zs k) [x, 1]).length c4) (zK x zs (k + 1)) ∧ topP (zK x zs (k + 1)) ∧ 1 ≤ (zK x zs (k + 1)).length) := Lib.hid ⟨by rw [HZD.out]; exact HQ.out.nc, n3, n2⟩
          have hl2 : (zK x zs (k + 1)).length + (k + 1) = zs.length := by rw [HZ9.out] at hlk; omega
          have hk9 : k < zs.length := by omega
          clear n1 n2 n3 HQ
          obtain ⟨L, hL⟩ : ∃ L, L = (pRem (zK x zs k) [x, 1]).length := ⟨_, rfl⟩
          rw [← hL] at hz ⊢
          clear hL
          subst hz
          go_wp2_with fail
          refine (isZero_any A5 0 c5 (by omega) _).mono ?_
          rintro e w' ⟨rfl, hw⟩
          obtain rfl := hw.symm
          go_wp2_with fail
          go_roundw
          case rel => exact ⟨k + 1, by go_num, HN3, hl2, Lib.hid (by have := HG.out; rwa [show zs.length - k - 1 = zs.length - (k + 1) from by omega] at this), HB3⟩
          case measure => simp [intOf]; omega
        · have hk := HST.out hz
          obtain ⟨L, hL⟩ : ∃ L, L = (pRem (zK x zs k) [x, 1]).length := ⟨_, rfl⟩
          rw [← hL] at hz ⊢
          have hL8 := hL
          have hL9a : L ≤ 1048576 := by rw [hL8]; exact Nat.le_trans (Nat.le_of_lt (pRem_len (zK_in x0 x1 HU.out k) (root_in x0 x1) (by simp) (root_lead x))) (by simp)
          clear hL hL8
          have HK := Lib.hid hk
          clear hk
          have hdz : decide (L = 0) = false := by simpa using hz
          go_wp2_with fail
          refine (isZero_any A5 L c5 (by omega) _).mono ?_
          rintro e w' ⟨rfl, hw⟩
          obtain rfl := hw.symm
          rw [hdz]
          go_wp2_with fail
          go_ret2
          exact ⟨by rw [← HK.out]; rfl, HB3.out⟩
  · have ho' : okP zs = false := by simpa using ho
    have E1 := Lib.hid (trI_no (x := x) ho')
    have E2 := Lib.hid (cuzC_no ho')
    rw [E1.out, E2.out]
    go_enter Try.func66, Try.ntmps66
    go_wp2_with fail
    refine HC.out.mono ?_
    rintro e w' ⟨rfl, rfl⟩
    rw [E2.out]
    go_wp2_with fail
    go_ret2
    exact ⟨rfl, HB1.out⟩
end Go.Proofs.Ytnpadkkjaeblfaa
