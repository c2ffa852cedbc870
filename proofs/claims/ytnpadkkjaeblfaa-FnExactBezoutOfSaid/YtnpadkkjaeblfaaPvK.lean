/-
  TimesPoly, ScalePoly, MonicOf: of the model and of the program.
-/
import Derived.Test.YtnpadkkjaeblfaaPvM
namespace Go.Proofs.Ytnpadkkjaeblfaa
set_option linter.unusedVariables false
set_option linter.unusedSimpArgs false
open Go.ChangeShapes Go.WideShapes Go.ChangeAt Go.RowKit

theorem own_low {w : World} {B B' : Nat} {e : TypeId} {s n : Nat} {v : Value} {xs : List Value} (h : w.ownsRow B e s v n xs) (hB : B' ≤ B) : w.ownsRow B' e s v n xs := by
  refine ⟨h.1, ?_⟩
  rcases h.2 with q | ⟨g, c, cur, q1, q2, q3⟩
  · exact .inl q
  · exact .inr ⟨g, c, cur, q1, Nat.le_trans hB q2, q3⟩
theorem timesC_no {a b : List Int} (h : (okP a && okP b) = false) : timesC a b = 1 := by unfold timesC; rw [if_neg (by rw [h]; decide)]
theorem timesA_no {a b : List Int} (h : (okP a && okP b) = false) : timesA a b = [] := by unfold timesA; rw [if_neg (by rw [h]; decide)]
theorem times_yes {a b : List Int} (h : (okP a && okP b) = true) (hl : (pTimes a b).length ≤ 21) : timesC a b = 0 ∧ timesA a b = pTimes a b := by
  unfold timesC timesA; rw [if_pos h, if_pos h, if_pos hl, if_pos hl]; exact ⟨rfl, rfl⟩
theorem times_long {a b : List Int} (h : (okP a && okP b) = true) (hl : ¬ (pTimes a b).length ≤ 21) : timesC a b = 3 ∧ timesA a b = [] := by
  unfold timesC timesA; rw [if_pos h, if_pos h, if_neg hl, if_neg hl]; exact ⟨rfl, rfl⟩
theorem pTimes_deg {a b : List Int} (ha : a.length ≤ 21) (hb : b.length ≤ 21) : (pTimes a b).length ≤ 21 ↔ ((a.length : Int) - 1 + ((b.length : Int) - 1)) ≤ 20 := by
  by_cases h : a.length = 0 ∨ b.length = 0
  · rw [pTimes_zero h]
    simp
    omega
  · rw [pTimes_some h, tab_len]
    omega
set_option maxHeartbeats 1000000 in
theorem spec_TimesPoly (v u : Value) (xs ys : List Int) (hn : xs.length ≤ 1048576) (hn2 : ys.length ≤ 1048576) (w : World) (h : NC w v xs) (h' : NC w u ys) :
    Calls Try.prog 42 #[v, u] w fun e w' => ∃ r, e = .returned (.tuple #[r, .int .i64 (timesC xs ys)]) ∧ PO w' w.heap.size r (timesA xs ys) ∧ Below w.heap.size w w' := by
  have HN := Lib.hid h.ns
  have HN' := Lib.hid h'.ns
  have HC := Lib.hid (check2 v u xs ys hn hn2 w h.ns h'.ns)
  obtain ⟨A, c, rfl, hca⟩ := h.form
  obtain ⟨A', c', rfl, hca'⟩ := h'.form
  have HB1 := Lib.hid ((Below.refl w.heap.size w).alloc (Nat.le_refl _) (.cells #[.slice A xs.length c, .slice A' ys.length c'] 25))
  have HU := Lib.hid h.inU
  have HU' := Lib.hid h'.inU
  clear h h'
  by_cases ho : (okP xs && okP ys) = true
  · have HY := Lib.hid ho
    have hl1 : xs.length ≤ 21 := okP_len (by rw [Bool.and_eq_true] at ho; exact ho.1)
    have hl2 : ys.length ≤ 21 := okP_len (by rw [Bool.and_eq_true] at ho; exact ho.2)
    go_enter Try.func42, Try.ntmps42
    go_wp2_with fail
    refine (l05Both_any _ _ xs ys hn hn2 _ HN.out HN'.out).mono ?_
    rintro e w' ⟨rfl, rfl⟩
    rw [okC2_yes ho]
    clear ho
    go_wp2_with fail
    refine (l05Times_any _ _ xs ys hn hn2 _ HN.out HN'.out).mono ?_
    rintro e wn ⟨r, rfl, ho, hb⟩
    have hp := PO.of_own ho rfl (pTimes_in HU.out HU'.out)
    obtain ⟨A1, c1, rfl, _, _⟩ := own_form ho
    have HP := Lib.hid hp
    have HB := Lib.hid hb
    clear hp hb ho
    by_cases hle : (pTimes xs ys).length ≤ 21
    · have E := Lib.hid (times_yes HY.out hle)
      obtain ⟨t, ht⟩ : ∃ t, t = (pTimes xs ys).length := ⟨_, rfl⟩
      rw [← ht] at hle HP ⊢
      have T1 : decide ((21 : Int) < (t : Int)) = false := by simp; omega
      clear ht
      go_wp2_with fail
      go_ret2
      exact ⟨_, by rw [E.out.1]; rfl, by rw [E.out.2]; exact HP.out, HB.out⟩
    · have E := Lib.hid (times_long HY.out hle)
      have htb := pTimes_len xs ys
      obtain ⟨t, ht⟩ : ∃ t, t = (pTimes xs ys).length := ⟨_, rfl⟩
      rw [← ht] at hle htb ⊢
      have T1 : decide ((21 : Int) < (t : Int)) = true := by simp; omega
      clear ht HP
      go_wp2_with fail
      go_ret2
      exact ⟨_, by rw [E.out.1]; rfl, by rw [E.out.2]; exact PO.nil _ _ _ _ (by first | exact Nat.zero_le _ | simp) (fun e => by first | rfl | cases e), HB.out.alloc HB.out.size _⟩
  · have ho' : (okP xs && okP ys) = false := by simpa using ho
    have HO := Lib.hid ho'
    go_enter Try.func42, Try.ntmps42
    go_wp2_with fail
    refine (l05Both_any _ _ xs ys hn hn2 _ HN.out HN'.out).mono ?_
    rintro e w' ⟨rfl, rfl⟩
    rw [okC2_no ho']
    clear ho ho'
    go_wp2_with fail
    go_ret2
    exact ⟨_, by rw [timesC_no HO.out]; rfl, by rw [timesA_no HO.out]; exact PO.nil _ _ _ _ (by first | exact Nat.zero_le _ | simp) (fun e => by first | rfl | cases e), (Below.refl _ _).alloc (Nat.le_refl _) _⟩
set_option maxHeartbeats 1000000 in
theorem impl_TimesPoly (v u : Value) (xs ys : List Int) (hn : xs.length ≤ 1048576) (hn2 : ys.length ≤ 1048576) (w : World) (h : NC w v xs) (h' : NC w u ys) :
    Calls Try.prog 43 #[v, u] w fun e w' => ∃ r, e = .returned (.tuple #[r, .int .i64 (timesC xs ys)]) ∧ PO w' w.heap.size r (timesA xs ys) ∧ Below w.heap.size w w' := by
  have HN := Lib.hid h.ns
  have HN' := Lib.hid h'.ns
  have HC := Lib.hid (check2 v u xs ys hn hn2 w h.ns h'.ns)
  obtain ⟨A, c, rfl, hca⟩ := h.form
  obtain ⟨A', c', rfl, hca'⟩ := h'.form
  have HB1 := Lib.hid ((Below.refl w.heap.size w).alloc (Nat.le_refl _) (.cells #[.slice A xs.length c, .slice A' ys.length c'] 25))
  have HU := Lib.hid h.inU
  have HU' := Lib.hid h'.inU
  clear h h'
  by_cases ho : (okP xs && okP ys) = true
  · have HY := Lib.hid ho
    have hl1 : xs.length ≤ 21 := okP_len (by rw [Bool.and_eq_true] at ho; exact ho.1)
    have hl2 : ys.length ≤ 21 := okP_len (by rw [Bool.and_eq_true] at ho; exact ho.2)
    go_enter Try.func43, Try.ntmps43
    go_wp2_with fail
    refine HC.out.mono ?_
    rintro e w' ⟨rfl, rfl⟩
    rw [okC2_yes ho]
    clear ho
    go_wp2_with fail
    refine (degree_any A xs.length c hn _).mono ?_
    rintro e w' ⟨rfl, hw⟩
    obtain rfl := hw.symm
    go_wp2_with fail
    refine (degree_any A' ys.length c' hn2 _).mono ?_
    rintro e w' ⟨rfl, hw⟩
    obtain rfl := hw.symm
    by_cases hle : (pTimes xs ys).length ≤ 21
    · have E := Lib.hid (times_yes HY.out hle)
      have T1 : decide ((20 : Int) < (xs.length : Int) - 1 + ((ys.length : Int) - 1)) = false := by have := (pTimes_deg hl1 hl2).1 hle; simp; omega
      clear hle
      go_wp2_with fail
      refine (ptimes_any _ _ xs ys hn hn2 _ (HN.out.below HB1.out) (HN'.out.below HB1.out)).mono ?_
      rintro e wn ⟨r, rfl, ho, hb⟩
      have HP := Lib.hid ((PO.of_own ho rfl (pTimes_in HU.out HU'.out)).lower (by rw [World.size_alloc]; omega) : PO wn w.heap.size r (pTimes xs ys))
      have HB := Lib.hid (bchain HB1.out hb)
      clear ho hb
      go_wp2_with fail
      go_ret2
      exact ⟨_, by rw [E.out.1]; rfl, by rw [E.out.2]; exact HP.out, HB.out⟩
    · have E := Lib.hid (times_long HY.out hle)
      have T1 : decide ((20 : Int) < (xs.length : Int) - 1 + ((ys.length : Int) - 1)) = true := by
        have := mt (pTimes_deg hl1 hl2).2 hle
        simp; omega
      clear hle
      go_wp2_with fail
      go_ret2
      exact ⟨_, by rw [E.out.1]; rfl, by rw [E.out.2]; exact PO.nil0 _ _, HB1.out⟩
  · have ho' : (okP xs && okP ys) = false := by simpa using ho
    have HO := Lib.hid ho'
    go_enter Try.func43, Try.ntmps43
    go_wp2_with fail
    refine HC.out.mono ?_
    rintro e w' ⟨rfl, rfl⟩
    rw [okC2_no ho']
    clear ho ho'
    go_wp2_with fail
    go_ret2
    exact ⟨_, by rw [timesC_no HO.out]; rfl, by rw [timesA_no HO.out]; exact PO.nil _ _ _ _ (by first | exact Nat.zero_le _ | simp) (fun e => by first | rfl | cases e), (Below.refl _ _).alloc (Nat.le_refl _) _⟩
set_option maxHeartbeats 1000000 in
theorem scaled_any (v : Value) (zs : List Int) (x : Int) (hn : zs.length ≤ 1048576) (x0 : 0 ≤ x) (x1 : x < 65536) (w : World) (h : NS w v zs) :
    Calls Try.prog 100 #[v, .int .u16 x] w fun e w' => ∃ r, e = .returned r ∧ w'.ownsRow w.heap.size 41 1 r (pScale zs x).length (u16s (pScale zs x)) ∧ Below w.heap.size w w' := by
  have HN := Lib.hid h
  have HU := Lib.hid (inU_of h)
  have HUX : Hid (inU [x]) := Lib.hid (fun z hz => by rcases List.mem_singleton.1 hz with rfl; exact ⟨x0, x1⟩)
  have hx : RW (w.alloc (.cells #[.int .u16 x] 41)) w.heap.size [x] := heap_alloc_new w _
  have HX := Lib.hid (hx.ns HUX.out 1)
  have HB1 := Lib.hid ((Below.refl w.heap.size w).alloc (Nat.le_refl _) (.cells #[.int .u16 x] 41))
  clear hx h
  go_enter Try.func100, Try.ntmps100
  go_wp2_with fail
  refine (trimmed_any (some ⟨w.heap.size, 0, none⟩) 1 [x] (by simp) (by simp) _ HX.out).mono ?_
  rintro e w' ⟨rfl, rfl⟩
  have HT := Lib.hid (HX.out.cut (trimN [x] [x].length) (trimN_le _ _) (trimN [x] [x].length))
  obtain ⟨t, ht⟩ : ∃ t, t = trimN [x] [x].length := ⟨_, rfl⟩
  obtain ⟨ts, hts⟩ : ∃ ts, ts = pTrim [x] := ⟨_, rfl⟩
  have hl : ts.length = t := by rw [hts, ht]; exact pTrim_len _
  have hns : NS (w.alloc (.cells #[.int .u16 x] 41)) (.slice (some ⟨w.heap.size, 0, none⟩) t t) ts := by rw [hts, ht]; exact HT.out
  rw [← ht]
  have hle : t ≤ 1 := by rw [ht]; exact trimN_le [x] 1
  have HNS := Lib.hid hns
  have HTS : Hid (pScale zs x = pTimes zs ts) := Lib.hid (by rw [hts]; rfl)
  have HUT : Hid (inU ts) := Lib.hid (by rw [hts]; exact pTrim_in HUX.out)
  have HLT := Lib.hid hl
  clear ht hts hl hns HT
  go_wp2_with fail
  refine (ptimes_any _ _ zs ts hn (by rw [HLT.out]; omega) _ (HN.out.below HB1.out) HNS.out).mono ?_
  rintro e wn ⟨r, rfl, ho, hb⟩
  have HO := Lib.hid (own_low ho (by rw [World.size_alloc]; omega) : wn.ownsRow w.heap.size 41 1 r (pTimes zs ts).length (u16s (pTimes zs ts)))
  have HB := Lib.hid (bchain HB1.out hb)
  clear ho hb
  go_wp2_with fail
  go_ret
  exact ⟨_, rfl, by rw [HTS.out]; exact HO.out, HB.out⟩
set_option maxHeartbeats 1000000 in
theorem l05Scale_any (v : Value) (zs : List Int) (x : Int) (hn : zs.length ≤ 1048576) (x0 : 0 ≤ x) (x1 : x < 65536) (w : World) (h : NS w v zs) :
    Calls Try.prog 99 #[v, .int .u16 x] w fun e w' => ∃ r, e = .returned r ∧ w'.ownsRow w.heap.size 41 1 r (pScale zs x).length (u16s (pScale zs x)) ∧ Below w.heap.size w w' := by
  have HN := Lib.hid h
  have HU := Lib.hid (inU_of h)
  have HUX : Hid (inU [x]) := Lib.hid (fun z hz => by rcases List.mem_singleton.1 hz with rfl; exact ⟨x0, x1⟩)
  have hx : RW (w.alloc (.cells #[.int .u16 x] 41)) w.heap.size [x] := heap_alloc_new w _
  have HX := Lib.hid (hx.ns HUX.out 1)
  have HB1 := Lib.hid ((Below.refl w.heap.size w).alloc (Nat.le_refl _) (.cells #[.int .u16 x] 41))
  clear hx h
  go_enter Try.func99, Try.ntmps99
  go_wp2_with fail
  refine (l05Trim_any (some ⟨w.heap.size, 0, none⟩) 1 [x] (by simp) (by simp) _ HX.out).mono ?_
  rintro e w1 ⟨r1, rfl, ho1, hb1⟩
  obtain ⟨ts, hts⟩ : ∃ ts, ts = pTrim [x] := ⟨_, rfl⟩
  have hl : ts.length ≤ 1 := by rw [hts, pTrim_len]; exact trimN_le [x] 1
  have hns : NS w1 r1 ts := by rw [hts]; exact (PO.of_own ho1 (pTrim_len [x]) (pTrim_in HUX.out)).ns
  have HNS := Lib.hid hns
  have HTS : Hid (pScale zs x = pTimes zs ts) := Lib.hid (by rw [hts]; rfl)
  have HUT : Hid (inU ts) := Lib.hid (by rw [hts]; exact pTrim_in HUX.out)
  have HB2 := Lib.hid (bchain HB1.out hb1)
  clear hts hns ho1 hb1
  go_wp2_with fail
  refine (l05Times_any _ _ zs ts hn (by omega) _ (HN.out.below HB2.out) HNS.out).mono ?_
  rintro e wn ⟨r, rfl, ho, hb⟩
  have HO := Lib.hid (own_low ho HB2.out.size : wn.ownsRow w.heap.size 41 1 r (pTimes zs ts).length (u16s (pTimes zs ts)))
  have HB := Lib.hid (bchain HB2.out hb)
  clear ho hb
  go_wp2_with fail
  go_ret
  exact ⟨_, rfl, by rw [HTS.out]; exact HO.out, HB.out⟩
theorem scaleA_no {a : List Int} {x : Int} (h : okP a = false) : scaleA a x = [] := by unfold scaleA; rw [if_neg (by rw [h]; decide)]
theorem scaleA_yes {a : List Int} {x : Int} (h : okP a = true) : scaleA a x = pScale a x := by unfold scaleA; rw [if_pos h]
theorem pScale_in {a : List Int} (h : inU a) {x : Int} (x0 : 0 ≤ x) (x1 : x < 65536) : inU (pScale a x) := pTimes_in h (pTrim_in (fun z hz => by rcases List.mem_singleton.1 hz with rfl; exact ⟨x0, x1⟩))
set_option maxHeartbeats 1000000 in
theorem spec_ScalePoly (v : Value) (zs : List Int) (x : Int) (hn : zs.length ≤ 1048576) (x0 : 0 ≤ x) (x1 : x < 65536) (w : World) (h : NC w v zs) :
    Calls Try.prog 44 #[v, .int .u16 x] w fun e w' => ∃ r, e = .returned (.tuple #[r, .int .i64 (okC zs)]) ∧ PO w' w.heap.size r (scaleA zs x) ∧ Below w.heap.size w w' := by
  have HN := Lib.hid h.ns
  have HC := Lib.hid (check1 v zs hn w h.ns)
  obtain ⟨A, c, rfl, hca⟩ := h.form
  have HB1 := Lib.hid ((Below.refl w.heap.size w).alloc (Nat.le_refl _) (.cells #[.slice A zs.length c] 25))
  have HU := Lib.hid h.inU
  have HNC := Lib.hid h
  clear h
  by_cases ho : okP zs = true
  · have HY := Lib.hid ho
    have hl1 : zs.length ≤ 21 := okP_len ho
    go_enter Try.func44, Try.ntmps44
    go_wp2_with fail
    refine (l05Ok_any _ zs hn _ HN.out).mono ?_
    rintro e w' ⟨rfl, hw⟩
    obtain rfl := hw.symm
    rw [ho]
    clear ho
    go_wp2_with fail
    refine (l05Scale_any _ zs x hn x0 x1 _ HN.out).mono ?_
    rintro e wn ⟨r, rfl, ho, hb⟩
    have HP := Lib.hid ((PO.of_own ho rfl (pScale_in HU.out x0 x1)).lower (Nat.le_refl _) : PO wn w.heap.size r (pScale zs x))
    have HB := Lib.hid (hb)
    clear ho hb
    go_wp2_with fail
    go_ret2
    exact ⟨_, by rw [okC_yes HY.out]; rfl, by rw [scaleA_yes HY.out]; exact HP.out, HB.out⟩
  · have ho' : okP zs = false := by simpa using ho
    have HO := Lib.hid ho'
    go_enter Try.func44, Try.ntmps44
    go_wp2_with fail
    refine (l05Ok_any _ zs hn _ HN.out).mono ?_
    rintro e w' ⟨rfl, hw⟩
    obtain rfl := hw.symm
    rw [ho']
    clear ho ho'
    go_wp2_with fail
    go_ret2
    exact ⟨_, by rw [okC_no HO.out]; rfl, by rw [scaleA_no HO.out]; exact PO.nil _ _ _ _ (by first | exact Nat.zero_le _ | simp) (fun e => by first | rfl | cases e), (Below.refl _ _).alloc (Nat.le_refl _) _⟩
set_option maxHeartbeats 1000000 in
theorem impl_ScalePoly (v : Value) (zs : List Int) (x : Int) (hn : zs.length ≤ 1048576) (x0 : 0 ≤ x) (x1 : x < 65536) (w : World) (h : NC w v zs) :
    Calls Try.prog 45 #[v, .int .u16 x] w fun e w' => ∃ r, e = .returned (.tuple #[r, .int .i64 (okC zs)]) ∧ PO w' w.heap.size r (scaleA zs x) ∧ Below w.heap.size w w' := by
  have HN := Lib.hid h.ns
  have HC := Lib.hid (check1 v zs hn w h.ns)
  obtain ⟨A, c, rfl, hca⟩ := h.form
  have HB1 := Lib.hid ((Below.refl w.heap.size w).alloc (Nat.le_refl _) (.cells #[.slice A zs.length c] 25))
  have HU := Lib.hid h.inU
  have HNC := Lib.hid h
  clear h
  by_cases ho : okP zs = true
  · have HY := Lib.hid ho
    have hl1 : zs.length ≤ 21 := okP_len ho
    go_enter Try.func45, Try.ntmps45
    go_wp2_with fail
    refine HC.out.mono ?_
    rintro e w' ⟨rfl, rfl⟩
    rw [okC_yes ho]
    clear ho
    go_wp2_with fail
    refine (scaled_any _ zs x hn x0 x1 _ (HN.out.below HB1.out)).mono ?_
    rintro e wn ⟨r, rfl, ho, hb⟩
    have HP := Lib.hid ((PO.of_own ho rfl (pScale_in HU.out x0 x1)).lower (by rw [World.size_alloc]; omega) : PO wn w.heap.size r (pScale zs x))
    have HB := Lib.hid (bchain HB1.out hb)
    clear ho hb
    go_wp2_with fail
    go_ret2
    exact ⟨_, by rw [okC_yes HY.out]; rfl, by rw [scaleA_yes HY.out]; exact HP.out, HB.out⟩
  · have ho' : okP zs = false := by simpa using ho
    have HO := Lib.hid ho'
    go_enter Try.func45, Try.ntmps45
    go_wp2_with fail
    refine HC.out.mono ?_
    rintro e w' ⟨rfl, rfl⟩
    rw [okC_no ho']
    clear ho ho'
    go_wp2_with fail
    go_ret2
    exact ⟨_, by rw [okC_no HO.out]; rfl, by rw [scaleA_no HO.out]; exact PO.nil _ _ _ _ (by first | exact Nat.zero_le _ | simp) (fun e => by first | rfl | cases e), (Below.refl _ _).alloc (Nat.le_refl _) _⟩
end Go.Proofs.Ytnpadkkjaeblfaa
