/-
  Products with fewer gates.
-/
import Derived.Test.YtngaelifkhelbaaDoorDf
import Derived.Deep.RegionHeld
namespace Go.Proofs.YtngaelifkhelbaaDoor
set_option linter.unusedVariables false
set_option linter.unusedSimpArgs false
open Go.ChangeShapes Go.WideShapes Go.ChangeAt Go.RowKit Go.Deep


/-- the number of gates; the gates and the places -/
def scN : Nat → Nat
  | 0 => 1
  | k + 1 => 3 * scN k + hcN k + 4 * 2 ^ k
def shortG : JT
  | 0, xs, ys, gs => (gs ++ pairG 3 xs ys 1, outsL gs.length 1)
  | k + 1, xs, ys, gs =>
    let g1 := gs ++ pairG 2 (xs.drop (2 ^ k)) (xs.take (2 ^ k)) (2 ^ k)
    let g2 := g1 ++ pairG 2 (ys.drop (2 ^ k)) (ys.take (2 ^ k)) (2 ^ k)
    let p := shortG k (xs.drop (2 ^ k)) (ys.drop (2 ^ k)) g2
    let u := shortG k (xs.take (2 ^ k)) (ys.take (2 ^ k)) p.1
    let c := shortG k (outsL gs.length (2 ^ k)) (outsL g1.length (2 ^ k)) u.1
    let g6 := c.1 ++ pairG 2 c.2 u.2 (2 ^ k)
    let w := halfG k p.2 g6
    (w.1 ++ pairG 2 u.2 w.2 (2 ^ k), outsL w.1.length (2 ^ k) ++ outsL c.1.length (2 ^ k))
theorem shortG_succ (k n : Nat) (hn : n = 2 ^ k) (xs ys l1 l2 l6 l8 : List Int) (gs g1 g2 g6 g8 : List G3) (p u c w : List G3 × List Int) (h1 : g1 = gs ++ pairG 2 (xs.drop n) (xs.take n) n) (h2 : g2 = g1 ++ pairG 2 (ys.drop n) (ys.take n) n)
    (e1 : l1 = outsL gs.length n) (e2 : l2 = outsL g1.length n) (h3 : p = shortG k (xs.drop n) (ys.drop n) g2) (h4 : u = shortG k (xs.take n) (ys.take n) p.1) (h5 : c = shortG k l1 l2 u.1) (h6 : g6 = c.1 ++ pairG 2 c.2 u.2 n) (e6 : l6 = outsL c.1.length n)
    (h7 : w = halfG k p.2 g6) (h8 : g8 = w.1 ++ pairG 2 u.2 w.2 n) (e8 : l8 = outsL w.1.length n) : shortG (k + 1) xs ys gs = (g8, l8 ++ l6) := by
  subst hn h1 h2 e1 e2 h3 h4 h5 h6 e6 h7 h8 e8; rfl
theorem shortG_len : ∀ (k : Nat) (xs ys : List Int) (gs : List G3), xs.length = 2 ^ k → ys.length = 2 ^ k → (shortG k xs ys gs).1.length = gs.length + scN k ∧ (shortG k xs ys gs).2.length = 2 ^ k := by
  intro k
  induction k with
  | zero => intro xs ys gs h h'; simp [shortG, scN, pairG_len, outsL_len]
  | succ k ih =>
    intro xs ys gs h h'
    rw [Nat.pow_succ] at h h'
    obtain ⟨g1, h1⟩ : ∃ g1, g1 = gs ++ pairG 2 (xs.drop (2 ^ k)) (xs.take (2 ^ k)) (2 ^ k) := ⟨_, rfl⟩
    obtain ⟨g2, h2⟩ : ∃ g2, g2 = g1 ++ pairG 2 (ys.drop (2 ^ k)) (ys.take (2 ^ k)) (2 ^ k) := ⟨_, rfl⟩
    have a3 := ih (xs.drop (2 ^ k)) (ys.drop (2 ^ k)) g2 (by rw [List.length_drop]; omega) (by rw [List.length_drop]; omega)
    obtain ⟨p, h3⟩ : ∃ p, p = shortG k (xs.drop (2 ^ k)) (ys.drop (2 ^ k)) g2 := ⟨_, rfl⟩
    have a4 := ih (xs.take (2 ^ k)) (ys.take (2 ^ k)) p.1 (by rw [List.length_take]; omega) (by rw [List.length_take]; omega)
    obtain ⟨u, h4⟩ : ∃ u, u = shortG k (xs.take (2 ^ k)) (ys.take (2 ^ k)) p.1 := ⟨_, rfl⟩
    have a5 := ih (outsL gs.length (2 ^ k)) (outsL g1.length (2 ^ k)) u.1 (outsL_len _ _) (outsL_len _ _)
    obtain ⟨c, h5⟩ : ∃ c, c = shortG k (outsL gs.length (2 ^ k)) (outsL g1.length (2 ^ k)) u.1 := ⟨_, rfl⟩
    have a7 := halfG_len k p.2 (c.1 ++ pairG 2 c.2 u.2 (2 ^ k)) (by rw [h3]; exact a3.2)
    obtain ⟨w, h7⟩ : ∃ w, w = halfG k p.2 (c.1 ++ pairG 2 c.2 u.2 (2 ^ k)) := ⟨_, rfl⟩
    rw [shortG_succ k _ rfl xs ys _ _ _ _ gs g1 g2 _ _ p u c w h1 h2 rfl rfl h3 h4 h5 rfl rfl h7 rfl rfl]
    rw [← h3] at a3; rw [← h4] at a4; rw [← h5] at a5; rw [← h7] at a7
    have b1 : g1.length = gs.length + 2 ^ k := by rw [h1, List.length_append, pairG_len]
    have b2 : g2.length = g1.length + 2 ^ k := by rw [h2, List.length_append, pairG_len]
    simp only [List.length_append, pairG_len, outsL_len, Nat.pow_succ, scN] at *
    omega
theorem shortG_w (k : Nat) (xs ys : List Int) (gs : List G3) (h : xs.length = 2 ^ k) (h' : ys.length = 2 ^ k) (hg : gs.length + scN k ≤ 10000) : ∀ z ∈ (shortG k xs ys gs).2, IW z := by
  cases k with
  | zero => intro z hz; exact outsL_w _ _ (by simp only [scN] at hg; omega) z hz
  | succ k =>
    rw [Nat.pow_succ] at h h'
    obtain ⟨g1, h1⟩ : ∃ g1, g1 = gs ++ pairG 2 (xs.drop (2 ^ k)) (xs.take (2 ^ k)) (2 ^ k) := ⟨_, rfl⟩
    obtain ⟨g2, h2⟩ : ∃ g2, g2 = g1 ++ pairG 2 (ys.drop (2 ^ k)) (ys.take (2 ^ k)) (2 ^ k) := ⟨_, rfl⟩
    have a3 := shortG_len k (xs.drop (2 ^ k)) (ys.drop (2 ^ k)) g2 (by rw [List.length_drop]; omega) (by rw [List.length_drop]; omega)
    obtain ⟨p, h3⟩ : ∃ p, p = shortG k (xs.drop (2 ^ k)) (ys.drop (2 ^ k)) g2 := ⟨_, rfl⟩
    have a4 := shortG_len k (xs.take (2 ^ k)) (ys.take (2 ^ k)) p.1 (by rw [List.length_take]; omega) (by rw [List.length_take]; omega)
    obtain ⟨u, h4⟩ : ∃ u, u = shortG k (xs.take (2 ^ k)) (ys.take (2 ^ k)) p.1 := ⟨_, rfl⟩
    have a5 := shortG_len k (outsL gs.length (2 ^ k)) (outsL g1.length (2 ^ k)) u.1 (outsL_len _ _) (outsL_len _ _)
    obtain ⟨c, h5⟩ : ∃ c, c = shortG k (outsL gs.length (2 ^ k)) (outsL g1.length (2 ^ k)) u.1 := ⟨_, rfl⟩
    have a7 := halfG_len k p.2 (c.1 ++ pairG 2 c.2 u.2 (2 ^ k)) (by rw [h3]; exact a3.2)
    obtain ⟨w, h7⟩ : ∃ w, w = halfG k p.2 (c.1 ++ pairG 2 c.2 u.2 (2 ^ k)) := ⟨_, rfl⟩
    rw [shortG_succ k _ rfl xs ys _ _ _ _ gs g1 g2 _ _ p u c w h1 h2 rfl rfl h3 h4 h5 rfl rfl h7 rfl rfl]
    rw [← h3] at a3; rw [← h4] at a4; rw [← h5] at a5; rw [← h7] at a7
    have b1 : g1.length = gs.length + 2 ^ k := by rw [h1, List.length_append, pairG_len]
    have b2 : g2.length = g1.length + 2 ^ k := by rw [h2, List.length_append, pairG_len]
    have b3 := a7.1
    rw [List.length_append, pairG_len] at b3
    simp only [scN] at hg
    intro z hz
    rcases List.mem_append.1 hz with hz | hz
    · exact outsL_w _ _ (by omega) z hz
    · exact outsL_w _ _ (by omega) z hz

set_option maxHeartbeats 2000000 in
theorem implLower_any (k n : Nat) (hn : n = 2 ^ k) (B gp : Nat) (PT : TypeId) (hP : PT ≠ 88) (hP2 : 86 ≠ PT) (v u : Value) (ps us : List Int) (gs : List G3) (hk : k ≤ 3) (hx : ps.length = n) (hy : us.length = n) (hg : gs.length + (hcN k + n) ≤ 10000) (w : World) (h : ST B gp PT w gs) (h1 : TL w v ps) (h2 : TL w u us) :
    Calls Tryd.prog 109 #[.pointer (some ⟨gp, 0, none⟩), v, u] w fun e w' => ∃ r, e = .returned r ∧ ST B gp PT w' ((halfG k ps gs).1 ++ pairG 2 us (halfG k ps gs).2 n) ∧ w'.ownsRow w.heap.size 86 1 r n (i16s (outsL (halfG k ps gs).1.length n)) ∧ AD B gp PT w w' := by
  have S := Lib.hid h; have H1 := Lib.hid h1; have H2 := Lib.hid h2; have HP := Lib.hid hP; have HP2 := Lib.hid hP2; have HG := Lib.hid hg; have HK := Lib.hid hk; have HX := Lib.hid (hx.trans hn); have HY := Lib.hid hy
  have hlen := halfG_len k ps gs (hx.trans hn)
  rw [← hn] at hlen
  have HL := Lib.hid hlen
  obtain ⟨P, hP'⟩ : ∃ P, P = halfG k ps gs := ⟨_, rfl⟩
  rw [← hP'] at HL ⊢
  have HPE := Lib.hid hP'
  clear h h1 h2 hP hP2 hg hk hx hy hlen hn hP'
  go_enter Tryd.func109, Tryd.ntmps109
  go_wp2_with fail
  refine (implHalf_any k B gp PT HP.out HP2.out _ ps gs HK.out HX.out (by have := HG.out; omega) w S.out H1.out).mono ?_
  rintro e w2 ⟨r, rfl, hs, ht, ha, _⟩
  rw [← HPE.out] at hs ht
  have HA := Lib.hid ha; have HS := Lib.hid hs; have HT := Lib.hid ht; have HU := Lib.hid (H2.out.ad HP2.out ha)
  clear ha hs ht
  go_wp2_with fail
  refine (implPlus_any B gp PT HP.out HP2.out _ _ us P.2 P.1 (by rw [HY.out, HL.out.1]; have := HG.out; omega) (by rw [HY.out, HL.out.2]) w2 HS.out HU.out HT.out).mono ?_
  rintro e w3 ⟨r2, rfl, hs, ho, ha⟩
  rw [HY.out] at hs ho
  have HR := Lib.hid (And.intro hs (And.intro (own_low ho HA.out.size) (HA.out.trans ha)))
  clear hs ho ha
  go_wp2_with fail
  go_ret
  exact ⟨r2, rfl, HR.out⟩

set_option maxHeartbeats 8000000 in
set_option maxRecDepth 100000 in
theorem implShort_any : ∀ (k : Nat) (B gp : Nat) (PT : TypeId) (hP : PT ≠ 88) (hP2 : 86 ≠ PT) (v u : Value) (xs ys : List Int) (gs : List G3) (hk : k ≤ 3) (hx : xs.length = 2 ^ k) (hy : ys.length = 2 ^ k) (hg : gs.length + scN k ≤ 10000) (w : World) (h : ST B gp PT w gs) (h1 : TL w v xs) (h2 : TL w u ys),
    Calls Tryd.prog 90 #[.pointer (some ⟨gp, 0, none⟩), v, u] w fun e w' => ∃ r, e = .returned r ∧ ST B gp PT w' (shortG k xs ys gs).1 ∧ w'.ownsRow w.heap.size 86 1 r (shortG k xs ys gs).2.length (i16s (shortG k xs ys gs).2) ∧ AD B gp PT w w' := by
  intro k
  induction k with
  | zero =>
    intro B gp PT hP hP2 v u xs ys gs hk hx hy hg w h h1 h2
    have S := Lib.hid h; have H1 := Lib.hid h1; have H2 := Lib.hid h2; have HP := Lib.hid hP; have HP2 := Lib.hid hP2
    have HX := Lib.hid (show xs.length = 1 from hx); have HY := Lib.hid (show ys.length = 1 from hy)
    have HG := Lib.hid hg
    obtain ⟨b, off, c, rfl, _, _⟩ := h1.form
    obtain ⟨b', off', c', rfl, _, _⟩ := h2.form
    rw [HX.out] at H1 ⊢
    rw [HY.out] at H2 ⊢
    clear h h1 h2 hP hP2 hx hy hg
    go_enter Tryd.func90, Tryd.ntmps90
    go_wp2_with fail
    refine (pairand_any B gp PT HP.out HP2.out _ _ xs ys gs (by rw [HX.out]; have := HG.out; omega) (by rw [HX.out, HY.out]) w S.out H1.out H2.out).mono ?_
    rintro e w2 ⟨r, rfl, hr⟩
    rw [HX.out] at hr
    have HR := Lib.hid hr
    clear hr
    go_wp2_with fail
    go_ret
    exact ⟨r, rfl, HR.out⟩

  | succ k ih =>
    intro B gp PT hP hP2 v u xs ys gs hk hx hy hg w h h1 h2
    have S := Lib.hid h; have H1 := Lib.hid h1; have H2 := Lib.hid h2; have IH := Lib.hid ih
    have HP := Lib.hid hP; have HP2 := Lib.hid hP2
    obtain ⟨n, hn⟩ : ∃ n, n = 2 ^ k := ⟨_, rfl⟩
    have hn1 : 1 ≤ n := by rw [hn]; exact Nat.one_le_two_pow
    have hn4 : n ≤ 4 := by rw [hn]; exact Nat.pow_le_pow_right (by omega) (show k ≤ 2 by omega)
    have hxn : xs.length = n + n := by rw [hx, Nat.pow_succ, ← hn]; omega
    have hyn : ys.length = n + n := by rw [hy, Nat.pow_succ, ← hn]; omega
    have HG : Hid (gs.length + (3 * scN k + hcN k + 4 * n) ≤ 10000) := Lib.hid (by rw [hn]; exact hg)
    obtain ⟨b, off, c, rfl, hcl, hcm⟩ := h1.form
    obtain ⟨b', off', c', rfl, hcl', hcm'⟩ := h2.form
    rw [hxn] at hcl H1 ⊢
    rw [hyn] at hcl' H2 ⊢
    have td := H1.out.drop n (by omega); have ta := H1.out.take n (by omega)
    have ud := H2.out.drop n (by omega); have ua := H2.out.take n (by omega)
    rw [show n + n - n = n from by omega] at td ud
    have X1 := Lib.hid td; have X0 := Lib.hid ta; have Y1 := Lib.hid ud; have Y0 := Lib.hid ua
    have LX1 := Lib.hid (show (xs.drop n).length = n from by rw [List.length_drop, hxn]; omega)
    have LX0 := Lib.hid (show (xs.take n).length = n from by rw [List.length_take, hxn]; omega)
    have LY1 := Lib.hid (show (ys.drop n).length = n from by rw [List.length_drop, hyn]; omega)
    have LY0 := Lib.hid (show (ys.take n).length = n from by rw [List.length_take, hyn]; omega)
    have HK : Hid (k ≤ 3) := Lib.hid (by omega)
    have HN := Lib.hid hn
    obtain ⟨m, hm⟩ : ∃ m, m = n + n := ⟨_, rfl⟩
    clear ih td ta ud ua hx hy hg hxn hyn hP hP2 h h1 h2 H1 H2 hk hn
    have m1 : ((m : Int) == 1) = false := by simp; omega
    have HM := Lib.hid hm; have HCL := Lib.hid hcl; have HCM := Lib.hid hcm; have HCL' := Lib.hid hcl'; have HCM' := Lib.hid hcm'
    rw [← hm]
    clear hm hcl hcm hcl' hcm'
    go_enter Tryd.func90, Tryd.ntmps90
    go_wp2_with fail
    rw [HM.out]
    refine (halves_any b off c n hn1 HCL.out HCM.out w).mono ?_
    rintro e wa ⟨rfl, hb0⟩
    have A := Lib.hid (AD.of_below (PT := PT) hb0 S.out.1 S.out.lt)
    replace S := Lib.hid (S.out.below hb0); replace X1 := Lib.hid (X1.out.below hb0); replace X0 := Lib.hid (X0.out.below hb0); replace Y1 := Lib.hid (Y1.out.below hb0); replace Y0 := Lib.hid (Y0.out.below hb0)
    clear hb0
    go_wp2_with fail
    try rw [HM.out]
    refine (halves_any b' off' c' n hn1 HCL'.out HCM'.out wa).mono ?_
    rintro e w0 ⟨rfl, hb0⟩
    replace A := Lib.hid (A.out.trans (AD.of_below hb0 S.out.1 S.out.lt))
    replace S := Lib.hid (S.out.below hb0); replace X1 := Lib.hid (X1.out.below hb0); replace X0 := Lib.hid (X0.out.below hb0); replace Y1 := Lib.hid (Y1.out.below hb0); replace Y0 := Lib.hid (Y0.out.below hb0)
    clear hb0

    go_wp2_with fail
    refine (implPlus_any B gp PT HP.out HP2.out _ _ (xs.drop n) (xs.take n) gs (by have := HG.out; have := LX1.out; omega) (by rw [LX1.out, LX0.out]) w0 S.out X1.out X0.out).mono ?_
    rintro e w1 ⟨r1, rfl, hs, ho, ha⟩
    rw [LX1.out] at hs ho
    obtain ⟨g1, hg⟩ : ∃ g1, g1 = gs ++ pairG 2 (xs.drop n) (xs.take n) n := ⟨_, rfl⟩
    rw [← hg] at hs
    have LG1 := Lib.hid (show g1.length = gs.length + n from by rw [hg, List.length_append, pairG_len])
    have EQ1 := Lib.hid hg
    obtain ⟨l1, hl⟩ : ∃ l1, l1 = outsL gs.length n := ⟨_, rfl⟩
    have ho2 : w1.ownsRow w0.heap.size 86 1 r1 l1.length (i16s l1) := by rw [hl, outsL_len]; exact ho
    have LL1 := Lib.hid (show l1.length = n from by rw [hl, outsL_len])
    have EL1 := Lib.hid hl
    have tl1 := TL.of_own ho2 (by rw [LL1.out]; omega) (by rw [hl]; exact outsL_w _ _ (by have := HG.out; omega))
    replace X1 := Lib.hid (X1.out.ad HP2.out ha)
    replace X0 := Lib.hid (X0.out.ad HP2.out ha)
    replace Y1 := Lib.hid (Y1.out.ad HP2.out ha)
    replace Y0 := Lib.hid (Y0.out.ad HP2.out ha)
    replace A := Lib.hid (A.out.trans ha)
    replace S := Lib.hid hs
    obtain ⟨b1, o1, c1, rfl, _, _⟩ := tl1.form
    rw [LL1.out] at tl1 ⊢
    have T1 := Lib.hid tl1
    rw [LL1.out] at ho2
    have O1 := Lib.hid ho2
    clear hs ha hg tl1 ho2 ho hl
    go_wp2_with fail
    refine (implPlus_any B gp PT HP.out HP2.out _ _ (ys.drop n) (ys.take n) g1 (by have := HG.out; have := LG1.out; have := LY1.out; omega) (by rw [LY1.out, LY0.out]) w1 S.out Y1.out Y0.out).mono ?_
    rintro e w2 ⟨r2, rfl, hs, ho, ha⟩
    rw [LY1.out] at hs ho
    obtain ⟨g2, hg⟩ : ∃ g2, g2 = g1 ++ pairG 2 (ys.drop n) (ys.take n) n := ⟨_, rfl⟩
    rw [← hg] at hs
    have LG2 := Lib.hid (show g2.length = g1.length + n from by rw [hg, List.length_append, pairG_len])
    have EQ2 := Lib.hid hg
    obtain ⟨l2, hl⟩ : ∃ l2, l2 = outsL g1.length n := ⟨_, rfl⟩
    have ho2 : w2.ownsRow w1.heap.size 86 1 r2 l2.length (i16s l2) := by rw [hl, outsL_len]; exact ho
    have LL2 := Lib.hid (show l2.length = n from by rw [hl, outsL_len])
    have EL2 := Lib.hid hl
    have tl2 := TL.of_own ho2 (by rw [LL2.out]; omega) (by rw [hl]; exact outsL_w _ _ (by have := HG.out; have := LG1.out; omega))
    replace X1 := Lib.hid (X1.out.ad HP2.out ha)
    replace X0 := Lib.hid (X0.out.ad HP2.out ha)
    replace Y1 := Lib.hid (Y1.out.ad HP2.out ha)
    replace Y0 := Lib.hid (Y0.out.ad HP2.out ha)
    replace T1 := Lib.hid (T1.out.ad HP2.out ha)
    replace A := Lib.hid (A.out.trans ha)
    replace S := Lib.hid hs
    obtain ⟨b2, o2, c2, rfl, _, _⟩ := tl2.form
    rw [LL2.out] at tl2 ⊢
    have T2 := Lib.hid tl2
    rw [LL2.out] at ho2
    have O2 := Lib.hid ho2
    clear hs ha hg tl2 ho2 ho hl
    go_wp2_with fail
    refine (IH.out B gp PT HP.out HP2.out _ _ (xs.drop n) (ys.drop n) g2 HK.out (LX1.out.trans HN.out) (LY1.out.trans HN.out) (by have := HG.out; have := LG1.out; have := LG2.out; omega) w2 S.out X1.out Y1.out).mono ?_
    rintro e w3 ⟨r3, rfl, hs, ho2, ha⟩
    have hlen := shortG_len k (xs.drop n) (ys.drop n) g2 (LX1.out.trans HN.out) (LY1.out.trans HN.out)
    have hww := shortG_w k (xs.drop n) (ys.drop n) g2 (LX1.out.trans HN.out) (LY1.out.trans HN.out) (by have := HG.out; have := LG1.out; have := LG2.out; omega)
    obtain ⟨P3, hg⟩ : ∃ P3, P3 = shortG k (xs.drop n) (ys.drop n) g2 := ⟨_, rfl⟩
    rw [← hg] at hs ho2 hlen hww
    have LG3 := Lib.hid hlen.1; have LL3 := Lib.hid (hlen.2.trans HN.out.symm); have EQ3 := Lib.hid hg
    have tl3 := TL.of_own ho2 (by rw [LL3.out]; omega) hww
    clear hlen hww
    replace X1 := Lib.hid (X1.out.ad HP2.out ha)
    replace X0 := Lib.hid (X0.out.ad HP2.out ha)
    replace Y1 := Lib.hid (Y1.out.ad HP2.out ha)
    replace Y0 := Lib.hid (Y0.out.ad HP2.out ha)
    replace T1 := Lib.hid (T1.out.ad HP2.out ha)
    replace T2 := Lib.hid (T2.out.ad HP2.out ha)
    replace A := Lib.hid (A.out.trans ha)
    replace S := Lib.hid hs
    obtain ⟨b3, o3, c3, rfl, _, _⟩ := tl3.form
    rw [LL3.out] at tl3 ⊢
    have T3 := Lib.hid tl3
    rw [LL3.out] at ho2
    have O3 := Lib.hid ho2
    clear hs ha hg tl3 ho2
    go_wp2_with fail
    refine (IH.out B gp PT HP.out HP2.out _ _ (xs.take n) (ys.take n) P3.1 HK.out (LX0.out.trans HN.out) (LY0.out.trans HN.out) (by have := HG.out; have := LG1.out; have := LG2.out; have := LG3.out; omega) w3 S.out X0.out Y0.out).mono ?_
    rintro e w4 ⟨r4, rfl, hs, ho2, ha⟩
    have hlen := shortG_len k (xs.take n) (ys.take n) P3.1 (LX0.out.trans HN.out) (LY0.out.trans HN.out)
    have hww := shortG_w k (xs.take n) (ys.take n) P3.1 (LX0.out.trans HN.out) (LY0.out.trans HN.out) (by have := HG.out; have := LG1.out; have := LG2.out; have := LG3.out; omega)
    obtain ⟨P4, hg⟩ : ∃ P4, P4 = shortG k (xs.take n) (ys.take n) P3.1 := ⟨_, rfl⟩
    rw [← hg] at hs ho2 hlen hww
    have LG4 := Lib.hid hlen.1; have LL4 := Lib.hid (hlen.2.trans HN.out.symm); have EQ4 := Lib.hid hg
    have tl4 := TL.of_own ho2 (by rw [LL4.out]; omega) hww
    clear hlen hww
    replace X1 := Lib.hid (X1.out.ad HP2.out ha)
    replace X0 := Lib.hid (X0.out.ad HP2.out ha)
    replace Y1 := Lib.hid (Y1.out.ad HP2.out ha)
    replace Y0 := Lib.hid (Y0.out.ad HP2.out ha)
    replace T1 := Lib.hid (T1.out.ad HP2.out ha)
    replace T2 := Lib.hid (T2.out.ad HP2.out ha)
    replace T3 := Lib.hid (T3.out.ad HP2.out ha)
    replace A := Lib.hid (A.out.trans ha)
    replace S := Lib.hid hs
    obtain ⟨b4, o4, c4, rfl, _, _⟩ := tl4.form
    rw [LL4.out] at tl4 ⊢
    have T4 := Lib.hid tl4
    rw [LL4.out] at ho2
    have O4 := Lib.hid ho2
    clear hs ha hg tl4 ho2
    go_wp2_with fail
    refine (IH.out B gp PT HP.out HP2.out _ _ l1 l2 P4.1 HK.out (LL1.out.trans HN.out) (LL2.out.trans HN.out) (by have := HG.out; have := LG1.out; have := LG2.out; have := LG3.out; have := LG4.out; omega) w4 S.out T1.out T2.out).mono ?_
    rintro e w5 ⟨r5, rfl, hs, ho2, ha⟩
    have hlen := shortG_len k l1 l2 P4.1 (LL1.out.trans HN.out) (LL2.out.trans HN.out)
    have hww := shortG_w k l1 l2 P4.1 (LL1.out.trans HN.out) (LL2.out.trans HN.out) (by have := HG.out; have := LG1.out; have := LG2.out; have := LG3.out; have := LG4.out; omega)
    obtain ⟨P5, hg⟩ : ∃ P5, P5 = shortG k l1 l2 P4.1 := ⟨_, rfl⟩
    rw [← hg] at hs ho2 hlen hww
    have LG5 := Lib.hid hlen.1; have LL5 := Lib.hid (hlen.2.trans HN.out.symm); have EQ5 := Lib.hid hg
    have tl5 := TL.of_own ho2 (by rw [LL5.out]; omega) hww
    clear hlen hww
    replace X1 := Lib.hid (X1.out.ad HP2.out ha)
    replace X0 := Lib.hid (X0.out.ad HP2.out ha)
    replace Y1 := Lib.hid (Y1.out.ad HP2.out ha)
    replace Y0 := Lib.hid (Y0.out.ad HP2.out ha)
    replace T1 := Lib.hid (T1.out.ad HP2.out ha)
    replace T2 := Lib.hid (T2.out.ad HP2.out ha)
    replace T3 := Lib.hid (T3.out.ad HP2.out ha)
    replace T4 := Lib.hid (T4.out.ad HP2.out ha)
    replace A := Lib.hid (A.out.trans ha)
    replace S := Lib.hid hs
    obtain ⟨b5, o5, c5, rfl, _, _⟩ := tl5.form
    rw [LL5.out] at tl5 ⊢
    have T5 := Lib.hid tl5
    rw [LL5.out] at ho2
    have O5 := Lib.hid ho2
    clear hs ha hg tl5 ho2
    go_wp2_with fail
    refine (implPlus_any B gp PT HP.out HP2.out _ _ P5.2 P4.2 P5.1 (by have := HG.out; have := LG1.out; have := LG2.out; have := LG3.out; have := LG4.out; have := LG5.out; have := LL5.out; omega) (by rw [LL5.out, LL4.out]) w5 S.out T5.out T4.out).mono ?_
    rintro e w6 ⟨r6, rfl, hs, ho, ha⟩
    rw [LL5.out] at hs ho
    obtain ⟨g6, hg⟩ : ∃ g6, g6 = P5.1 ++ pairG 2 P5.2 P4.2 n := ⟨_, rfl⟩
    rw [← hg] at hs
    have LG6 := Lib.hid (show g6.length = P5.1.length + n from by rw [hg, List.length_append, pairG_len])
    have EQ6 := Lib.hid hg
    obtain ⟨l6, hl⟩ : ∃ l6, l6 = outsL P5.1.length n := ⟨_, rfl⟩
    have ho2 : w6.ownsRow w5.heap.size 86 1 r6 l6.length (i16s l6) := by rw [hl, outsL_len]; exact ho
    have LL6 := Lib.hid (show l6.length = n from by rw [hl, outsL_len])
    have EL6 := Lib.hid hl
    have tl6 := TL.of_own ho2 (by rw [LL6.out]; omega) (by rw [hl]; exact outsL_w _ _ (by have := HG.out; have := LG1.out; have := LG2.out; have := LG3.out; have := LG4.out; have := LG5.out; omega))
    replace X1 := Lib.hid (X1.out.ad HP2.out ha)
    replace X0 := Lib.hid (X0.out.ad HP2.out ha)
    replace Y1 := Lib.hid (Y1.out.ad HP2.out ha)
    replace Y0 := Lib.hid (Y0.out.ad HP2.out ha)
    replace T1 := Lib.hid (T1.out.ad HP2.out ha)
    replace T2 := Lib.hid (T2.out.ad HP2.out ha)
    replace T3 := Lib.hid (T3.out.ad HP2.out ha)
    replace T4 := Lib.hid (T4.out.ad HP2.out ha)
    replace T5 := Lib.hid (T5.out.ad HP2.out ha)
    replace A := Lib.hid (A.out.trans ha)
    replace S := Lib.hid hs
    obtain ⟨b6, o6, c6, rfl, _, _⟩ := tl6.form
    rw [LL6.out] at tl6 ⊢
    have T6 := Lib.hid tl6
    rw [LL6.out] at ho2
    have O6 := Lib.hid ho2
    clear hs ha hg tl6 ho2 ho hl
    go_wp2_with fail
    refine (implLower_any k n HN.out B gp PT HP.out HP2.out _ _ P3.2 P4.2 g6 HK.out LL3.out LL4.out (by have := HG.out; have := LG1.out; have := LG2.out; have := LG3.out; have := LG4.out; have := LG5.out; have := LG6.out; omega) w6 S.out T3.out T4.out).mono ?_
    rintro e w8 ⟨r8, rfl, hs, ho, ha⟩
    have hlen := halfG_len k P3.2 g6 (LL3.out.trans HN.out)
    obtain ⟨P7, hg⟩ : ∃ P7, P7 = halfG k P3.2 g6 := ⟨_, rfl⟩
    rw [← hg] at hs ho hlen
    have LG7 := Lib.hid hlen.1; have EQ7 := Lib.hid hg
    clear hlen hg
    obtain ⟨g8, hg⟩ : ∃ g8, g8 = P7.1 ++ pairG 2 P4.2 P7.2 n := ⟨_, rfl⟩
    rw [← hg] at hs
    have LG8 := Lib.hid (show g8.length = P7.1.length + n from by rw [hg, List.length_append, pairG_len])
    have EQ8 := Lib.hid hg
    obtain ⟨l8, hl⟩ : ∃ l8, l8 = outsL P7.1.length n := ⟨_, rfl⟩
    have ho2 : w8.ownsRow w6.heap.size 86 1 r8 l8.length (i16s l8) := by rw [hl, outsL_len]; exact ho
    have LL8 := Lib.hid (show l8.length = n from by rw [hl, outsL_len])
    have EL8 := Lib.hid hl
    have tl8 := TL.of_own ho2 (by rw [LL8.out]; omega) (by rw [hl]; exact outsL_w _ _ (by have := HG.out; have := LG1.out; have := LG2.out; have := LG3.out; have := LG4.out; have := LG5.out; have := LG6.out; have := LG7.out; omega))
    replace X1 := Lib.hid (X1.out.ad HP2.out ha)
    replace X0 := Lib.hid (X0.out.ad HP2.out ha)
    replace Y1 := Lib.hid (Y1.out.ad HP2.out ha)
    replace Y0 := Lib.hid (Y0.out.ad HP2.out ha)
    replace T1 := Lib.hid (T1.out.ad HP2.out ha)
    replace T2 := Lib.hid (T2.out.ad HP2.out ha)
    replace T3 := Lib.hid (T3.out.ad HP2.out ha)
    replace T4 := Lib.hid (T4.out.ad HP2.out ha)
    replace T5 := Lib.hid (T5.out.ad HP2.out ha)
    replace T6 := Lib.hid (T6.out.ad HP2.out ha)
    replace A := Lib.hid (A.out.trans ha)
    replace S := Lib.hid hs
    obtain ⟨b8, o8, c8, rfl, _, _⟩ := tl8.form
    rw [LL8.out] at tl8 ⊢
    have T8 := Lib.hid tl8
    rw [LL8.out] at ho2
    have O8 := Lib.hid ho2
    clear hs ha hg tl8 ho2 ho hl
    have EE := Lib.hid (shortG_succ k n HN.out xs ys l1 l2 l6 l8 gs g1 g2 g6 g8 P3 P4 P5 P7 EQ1.out EQ2.out EL1.out EL2.out EQ3.out EQ4.out EQ5.out EQ6.out EL6.out EQ7.out EQ8.out EL8.out)
    have hb5 := (nw1 w8 (.cells #[.slice (some ⟨b8, o8, none⟩) n c8, .slice (some ⟨b6, o6, none⟩) n c6] 72)).2.1
    have hcc := concat2_any (.slice (some ⟨b8, o8, none⟩) n c8) (.slice (some ⟨b6, o6, none⟩) n c6) l8 l6 w8.heap.size (by rw [LL8.out]; omega) (by rw [LL8.out]; omega) (by rw [LL6.out]; omega) _ (by simp) (cell2_0 w8 _ _ _) (cell2_1 w8 _ _ _) (T8.out.below hb5) (T6.out.below hb5)
    have HCC := Lib.hid hcc; have HB5 := Lib.hid hb5
    clear hcc hb5
    go_wp2_with fail
    refine HCC.out.mono ?_
    rintro e wz ⟨r, rfl, ho, hb⟩
    have HBZ := Lib.hid (HB5.out.trans (hb.mono HB5.out.size))
    have HO := Lib.hid ho
    clear ho hb
    go_wp2_with fail
    go_ret
    rw [EE.out]
    exact ⟨_, rfl, S.out.below HBZ.out, own_low HO.out (by have := A.out.size; have := HB5.out.size; omega), A.out.trans (AD.of_below HBZ.out S.out.1 S.out.lt)⟩

set_option maxHeartbeats 8000000 in
set_option maxRecDepth 100000 in
theorem specShort_any : ∀ (k : Nat) (B gp : Nat) (PT : TypeId) (hP : PT ≠ 88) (hP2 : 86 ≠ PT) (v u : Value) (xs ys : List Int) (gs : List G3) (hk : k ≤ 3) (hx : xs.length = 2 ^ k) (hy : ys.length = 2 ^ k) (hg : gs.length + scN k ≤ 10000) (w : World) (h : ST B gp PT w gs) (h1 : TL w v xs) (h2 : TL w u ys),
    Calls Tryd.prog 89 #[.pointer (some ⟨gp, 0, none⟩), v, u] w fun e w' => ∃ r, e = .returned r ∧ ST B gp PT w' (shortG k xs ys gs).1 ∧ w'.ownsRow w.heap.size 86 1 r (shortG k xs ys gs).2.length (i16s (shortG k xs ys gs).2) ∧ AD B gp PT w w' := by
  intro k
  induction k with
  | zero =>
    intro B gp PT hP hP2 v u xs ys gs hk hx hy hg w h h1 h2
    have S := Lib.hid h; have H1 := Lib.hid h1; have H2 := Lib.hid h2; have HP := Lib.hid hP; have HP2 := Lib.hid hP2
    have HX := Lib.hid (show xs.length = 1 from hx); have HY := Lib.hid (show ys.length = 1 from hy)
    have HG := Lib.hid hg
    obtain ⟨b, off, c, rfl, _, _⟩ := h1.form
    obtain ⟨b', off', c', rfl, _, _⟩ := h2.form
    rw [HX.out] at H1 ⊢
    rw [HY.out] at H2 ⊢
    clear h h1 h2 hP hP2 hx hy hg
    obtain ⟨x, hx⟩ : ∃ x, x = xs.getD 0 0 := ⟨_, rfl⟩
    obtain ⟨y, hy⟩ : ∃ y, y = ys.getD 0 0 := ⟨_, rfl⟩
    have HCX : Hid (∀ W, AD B gp PT w W → W.cell? ⟨b, off, none⟩ = some (.int .i16 x) ∧ W.cell? ⟨b', off', none⟩ = some (.int .i16 y)) := Lib.hid (fun W hW => by
      obtain ⟨_, _, _, e, hw1, d1⟩ := (H1.out.ad HP2.out hW).at 0 (by rw [HX.out]; omega)
      rw [HX.out] at e
      cases e
      obtain ⟨_, _, _, e, hw2, d2⟩ := (H2.out.ad HP2.out hW).at 0 (by rw [HY.out]; omega)
      rw [HY.out] at e
      cases e
      rw [← hx] at d1; rw [← hy] at d2
      exact ⟨d1, d2⟩)
    have HE := Lib.hid (show gs ++ [(3, x, y)] = gs ++ pairG 3 xs ys 1 from by rw [hx, hy]; rfl)
    have HEO := Lib.hid (show outsL gs.length 1 = [((gs.length : Nat) : Int)] from rfl)
    clear hx hy
    go_enter Tryd.func89, Tryd.ntmps89
    go_upto_region 3 with fail
    refine wp_region_held_drew (S := fun u => u.cell? ⟨b, off, none⟩ = some (.int .i16 x) ∧ u.cell? ⟨b', off', none⟩ = some (.int .i16 y)) (by kernel_rfl) ?hS0 (fun hS => ?_)
    case hS0 => exact HCX.out _ (AD.refl B gp PT w).drew
    have HAD := Lib.hid (AD.refl B gp PT w).drew
    have HSD : Hid (ST B gp PT w.drew gs) := Lib.hid S.out
    have HWS := Lib.hid (show w.drew.heap.size = w.heap.size from rfl)
    generalize w.drew = wd at hS HAD HSD HWS ⊢
    refine takeHd (i := 0) (v := ?v0) rfl rfl (by kernel_rfl) (by kernel_rfl) (by kernel_rfl) (fun _ _ _ h => h) rfl ?hy0 hS ?rs0
    case hy0 => (intro wq hq; obtain ⟨hq1, hq2⟩ := hq; go_simp; try (with_reducible rfl))
    simp only [Act.put, List.setIfInBounds_toArray, List.set_cons_zero, List.set_cons_succ]
    refine takeHd (i := 1) (v := ?v1) rfl rfl (by kernel_rfl) (by kernel_rfl) (by kernel_rfl) (fun _ _ _ h => h) rfl ?hy1 hS ?rs1
    case hy1 => (intro wq hq; obtain ⟨hq1, hq2⟩ := hq; go_simp; try (with_reducible rfl))
    simp only [Act.put, List.setIfInBounds_toArray, List.set_cons_zero, List.set_cons_succ]
    refine takeHd (i := 2) (v := ?v2) rfl rfl (by kernel_rfl) (by kernel_rfl) (by kernel_rfl) (fun _ _ _ h => h) rfl ?hy2 hS ?rs2
    case hy2 => (intro wq hq; obtain ⟨hq1, hq2⟩ := hq; go_simp; try (with_reducible rfl))
    simp only [Act.put, List.setIfInBounds_toArray, List.set_cons_zero, List.set_cons_succ]
    refine takeHd (i := 3) (v := ?v3) rfl rfl (by kernel_rfl) (by kernel_rfl) (by kernel_rfl) (fun _ _ _ h => h) rfl ?hy3 hS ?rs3
    case hy3 => (intro wq hq; obtain ⟨hq1, hq2⟩ := hq; go_simp; try (with_reducible rfl))
    simp only [Act.put, List.setIfInBounds_toArray, List.set_cons_zero, List.set_cons_succ]
    refine takeHd (i := 4) (v := ?v4) rfl rfl (by kernel_rfl) (by kernel_rfl) (by kernel_rfl) (fun _ _ _ h => h) rfl ?hy4 hS ?rs4
    case hy4 => (intro wq hq; obtain ⟨hq1, hq2⟩ := hq; go_simp; try (with_reducible rfl))
    simp only [Act.put, List.setIfInBounds_toArray, List.set_cons_zero, List.set_cons_succ]
    refine takeHd (i := 5) (v := ?v5) rfl rfl (by kernel_rfl) (by kernel_rfl) (by kernel_rfl) (fun _ _ _ h => h) rfl ?hy5 hS ?rs5
    case hy5 => (intro wq hq; obtain ⟨hq1, hq2⟩ := hq; go_simp; try (with_reducible rfl))
    simp only [Act.put, List.setIfInBounds_toArray, List.set_cons_zero, List.set_cons_succ]
    refine takeHd (i := 6) (v := ?v6) rfl rfl (by kernel_rfl) (by kernel_rfl) (by kernel_rfl) (fun _ _ _ h => h) rfl ?hy6 hS ?rs6
    case hy6 => (intro wq hq; obtain ⟨hq1, hq2⟩ := hq; go_simp; try (with_reducible rfl))
    simp only [Act.put, List.setIfInBounds_toArray, List.set_cons_zero, List.set_cons_succ]
    refine wpAnyH_ready (rs := [7]) (by kernel_rfl) (by simp) ?_
    refine AllReadyH.cons rfl (fun K hK => ?_) AllReadyH.nil
    go_simp
    refine (specAdd_any B gp PT HP.out 3 x y _ (by have := HG.out; omega) wd HSD.out).mono ?_
    rintro e w2 ⟨rfl, hs2, ha2⟩
    rw [HE.out] at hs2
    have HA2 := Lib.hid (HAD.out.trans ha2)
    have HS2 := Lib.hid hs2
    clear hs2 ha2 HAD HSD
    refine hK.out _ w2 (HCX.out _ HA2.out) (fun hS => ?_)
    clear hK
    try simp only [Act.put, List.setIfInBounds_toArray, List.set_cons_zero, List.set_cons_succ]
    refine wpAnyH_ready (rs := [8]) (by kernel_rfl) (by simp) ?_
    refine AllReadyH.cons rfl (fun K hK => ?_) AllReadyH.nil
    go_simp
    have hb := (nw1 w2 (.cells #[.int .i16 ((gs.length : Nat) : Int)] 86)).2.1
    have HAA := Lib.hid (HA2.out.trans (AD.of_below hb S.out.1 HS2.out.lt))
    have HSA := Lib.hid (HS2.out.below hb)
    have HO : Hid ((w2.alloc (.cells #[.int .i16 ((gs.length : Nat) : Int)] 86)).ownsRow w.heap.size 86 1 (.slice (some ⟨w2.heap.size, 0, none⟩) 1 1) (outsL gs.length 1).length (i16s (outsL gs.length 1))) := Lib.hid (by
      rw [HEO.out]
      exact ⟨by simp, .inr ⟨w2.heap.size, 1, #[.int .i16 ((gs.length : Nat) : Int)], rfl, HA2.out.size, heap_alloc_new w2 _, Nat.le_refl 1, by unfold maxLen; decide, rfl, by simp⟩⟩)
    refine hK.out _ (w2.alloc (.cells #[.int .i16 ((gs.length : Nat) : Int)] 86)) (HCX.out _ HAA.out) (fun hS => ?_)
    clear hK hb
    try simp only [Act.put, List.setIfInBounds_toArray, List.set_cons_zero, List.set_cons_succ]
    generalize w2.alloc (.cells #[.int .i16 ((gs.length : Nat) : Int)] 86) = wa at hS HAA HSA HO ⊢
    refine takeHd (i := 9) (v := ?v9) rfl rfl (by kernel_rfl) (by kernel_rfl) (by kernel_rfl) (fun _ _ _ h => h) rfl ?hy9 hS ?rs9
    case hy9 => (intro wq hq; obtain ⟨hq1, hq2⟩ := hq; go_simp; try (with_reducible rfl))
    simp only [Act.put, List.setIfInBounds_toArray, List.set_cons_zero, List.set_cons_succ]
    refine wpAnyH_done (by kernel_rfl) ?_ _
    go_wp2_with fail
    go_ret
    exact ⟨_, rfl, HSA.out, HO.out, HAA.out⟩

  | succ k ih =>
    intro B gp PT hP hP2 v u xs ys gs hk hx hy hg w h h1 h2
    have S := Lib.hid h; have H1 := Lib.hid h1; have H2 := Lib.hid h2; have IH := Lib.hid ih
    have HP := Lib.hid hP; have HP2 := Lib.hid hP2
    obtain ⟨n, hn⟩ : ∃ n, n = 2 ^ k := ⟨_, rfl⟩
    have hn1 : 1 ≤ n := by rw [hn]; exact Nat.one_le_two_pow
    have hn4 : n ≤ 4 := by rw [hn]; exact Nat.pow_le_pow_right (by omega) (show k ≤ 2 by omega)
    have hxn : xs.length = n + n := by rw [hx, Nat.pow_succ, ← hn]; omega
    have hyn : ys.length = n + n := by rw [hy, Nat.pow_succ, ← hn]; omega
    have HG : Hid (gs.length + (3 * scN k + hcN k + 4 * n) ≤ 10000) := Lib.hid (by rw [hn]; exact hg)
    obtain ⟨b, off, c, rfl, hcl, hcm⟩ := h1.form
    obtain ⟨b', off', c', rfl, hcl', hcm'⟩ := h2.form
    rw [hxn] at hcl H1 ⊢
    rw [hyn] at hcl' H2 ⊢
    have td := H1.out.drop n (by omega); have ta := H1.out.take n (by omega)
    have ud := H2.out.drop n (by omega); have ua := H2.out.take n (by omega)
    rw [show n + n - n = n from by omega] at td ud
    have X1 := Lib.hid td; have X0 := Lib.hid ta; have Y1 := Lib.hid ud; have Y0 := Lib.hid ua
    have LX1 := Lib.hid (show (xs.drop n).length = n from by rw [List.length_drop, hxn]; omega)
    have LX0 := Lib.hid (show (xs.take n).length = n from by rw [List.length_take, hxn]; omega)
    have LY1 := Lib.hid (show (ys.drop n).length = n from by rw [List.length_drop, hyn]; omega)
    have LY0 := Lib.hid (show (ys.take n).length = n from by rw [List.length_take, hyn]; omega)
    have HK : Hid (k ≤ 3) := Lib.hid (by omega)
    have HN := Lib.hid hn
    obtain ⟨m, hm⟩ : ∃ m, m = n + n := ⟨_, rfl⟩
    clear ih td ta ud ua hx hy hg hxn hyn hP hP2 h h1 h2 H1 H2 hk hn
    have e1 : ((m : Nat) : Int).tdiv 2 = (n : Int) := by rw [Int.tdiv_eq_ediv_of_nonneg (by omega)]; omega
    have e2 : ((m : Nat) : Int) / 2 = (n : Int) := by omega
    have e3 : m - n = n := by omega
    have e4 : (n : Int) ≤ (m : Int) := by omega
    have e5 : (n : Int) ≤ (c : Int) := by omega
    have e6 : (m : Int) ≤ (c : Int) := by omega
    have e7 : (c = n) = False := by simp; omega
    have e8 : ((n : Int) == 0) = false := by simp; omega
    have e9 : c ≤ 9223372036854775807 := by unfold maxLen at hcm; omega
    have f5 : (n : Int) ≤ (c' : Int) := by omega
    have f6 : (m : Int) ≤ (c' : Int) := by omega
    have f7 : (c' = n) = False := by simp; omega
    have f9 : c' ≤ 9223372036854775807 := by unfold maxLen at hcm'; omega
    have HM := Lib.hid hm
    rw [← hm]
    clear hm hcl hcm hcl' hcm'
    have A := Lib.hid (AD.refl B gp PT w)
    go_enter Tryd.func89, Tryd.ntmps89

    have SB := Lib.hid S.out.1; have SL := Lib.hid S.out.lt
    go_upto_region 4 with fail
    refine wp_region_held_drew (S := fun _ => True) (by kernel_rfl) ?hS0 (fun hS => ?_)
    case hS0 => trivial
    refine takeHd (i := 0) (v := ?v0h) rfl rfl (by kernel_rfl) (by kernel_rfl) (by kernel_rfl) (fun _ _ _ h => h) rfl ?hy0h hS ?rs0h
    case hy0h => (intro wq hq; go_simp; try (with_reducible rfl))
    simp only [Act.put, List.setIfInBounds_toArray, List.set_cons_zero, List.set_cons_succ]
    refine takeHd (i := 1) (v := ?v1h) rfl rfl (by kernel_rfl) (by kernel_rfl) (by kernel_rfl) (fun _ _ _ h => h) rfl ?hy1h hS ?rs1h
    case hy1h => (intro wq hq; go_simp; try (with_reducible rfl))
    simp only [Act.put, List.setIfInBounds_toArray, List.set_cons_zero, List.set_cons_succ]
    refine takeHd (i := 2) (v := ?v2h) rfl rfl (by kernel_rfl) (by kernel_rfl) (by kernel_rfl) (fun _ _ _ h => h) rfl ?hy2h hS ?rs2h
    case hy2h => (intro wq hq; go_simp; try (with_reducible rfl))
    simp only [Act.put, List.setIfInBounds_toArray, List.set_cons_zero, List.set_cons_succ]
    refine takeHd (i := 3) (v := ?v3h) rfl rfl (by kernel_rfl) (by kernel_rfl) (by kernel_rfl) (fun _ _ _ h => h) rfl ?hy3h hS ?rs3h
    case hy3h => (intro wq hq; go_simp; try (with_reducible rfl))
    simp only [Act.put, List.setIfInBounds_toArray, List.set_cons_zero, List.set_cons_succ]
    refine takeHd (i := 4) (v := ?v4h) rfl rfl (by kernel_rfl) (by kernel_rfl) (by kernel_rfl) (fun _ _ _ h => h) rfl ?hy4h hS ?rs4h
    case hy4h => (intro wq hq; go_simp; try (with_reducible rfl))
    simp only [Act.put, List.setIfInBounds_toArray, List.set_cons_zero, List.set_cons_succ]
    refine takeHd (i := 5) (v := ?v5h) rfl rfl (by kernel_rfl) (by kernel_rfl) (by kernel_rfl) (fun _ _ _ h => h) rfl ?hy5h hS ?rs5h
    case hy5h => (intro wq hq; go_simp; try (with_reducible rfl))
    simp only [Act.put, List.setIfInBounds_toArray, List.set_cons_zero, List.set_cons_succ]
    refine takeHd (i := 6) (v := ?v6h) rfl rfl (by kernel_rfl) (by kernel_rfl) (by kernel_rfl) (fun _ _ _ h => h) rfl ?hy6h hS ?rs6h
    case hy6h => (intro wq hq; go_simp; try (with_reducible rfl))
    simp only [Act.put, List.setIfInBounds_toArray, List.set_cons_zero, List.set_cons_succ]
    refine wpAnyH_ready (rs := [7]) (by kernel_rfl) (by simp) ?_
    refine AllReadyH.cons rfl (fun K hK => ?_) AllReadyH.nil
    go_simp
    refine (specXor_any B gp PT HP.out HP2.out _ _ (xs.drop n) (xs.take n) gs (by have := HG.out; have := LX1.out; omega) (by rw [LX1.out, LX0.out]) w.drew S.out X1.out X0.out).mono ?_
    rintro e w1 ⟨r1, rfl, hs, ho, ha⟩
    rw [LX1.out] at hs ho
    obtain ⟨g1, hg⟩ : ∃ g1, g1 = gs ++ pairG 2 (xs.drop n) (xs.take n) n := ⟨_, rfl⟩
    rw [← hg] at hs
    have LG1 := Lib.hid (show g1.length = gs.length + n from by rw [hg, List.length_append, pairG_len])
    have EQ1 := Lib.hid hg
    obtain ⟨l1, hl⟩ : ∃ l1, l1 = outsL gs.length n := ⟨_, rfl⟩
    have ho2 : w1.ownsRow w.drew.heap.size 86 1 r1 l1.length (i16s l1) := by rw [hl, outsL_len]; exact ho
    have LL1 := Lib.hid (show l1.length = n from by rw [hl, outsL_len])
    have EL1 := Lib.hid hl
    have tl1 := TL.of_own ho2 (by rw [LL1.out]; omega) (by rw [hl]; exact outsL_w _ _ (by have := HG.out; omega))
    replace ha := (AD.refl B gp PT w).drew.trans ha
    replace X1 := Lib.hid (X1.out.ad HP2.out ha)
    replace X0 := Lib.hid (X0.out.ad HP2.out ha)
    replace Y1 := Lib.hid (Y1.out.ad HP2.out ha)
    replace Y0 := Lib.hid (Y0.out.ad HP2.out ha)
    replace A := Lib.hid (A.out.trans ha)
    replace S := Lib.hid hs
    obtain ⟨b1, o1, c1, rfl, _, _⟩ := tl1.form
    rw [LL1.out] at tl1 ⊢
    have T1 := Lib.hid tl1
    rw [LL1.out] at ho2
    have O1 := Lib.hid ho2
    refine hK.out _ w1 trivial (fun hS => ?_)
    clear hK
    clear hs ha hg tl1 ho2 ho hl
    try simp only [Act.put, List.setIfInBounds_toArray, List.set_cons_zero, List.set_cons_succ]
    refine takeHd (i := 8) (v := ?v8h) rfl rfl (by kernel_rfl) (by kernel_rfl) (by kernel_rfl) (fun _ _ _ h => h) rfl ?hy8h hS ?rs8h
    case hy8h => (intro wq hq; go_simp; try (with_reducible rfl))
    simp only [Act.put, List.setIfInBounds_toArray, List.set_cons_zero, List.set_cons_succ]
    refine wpAnyH_done (by kernel_rfl) ?_ _
    go_upto_region 5 with fail
    refine wp_region_held_drew (S := fun _ => True) (by kernel_rfl) ?hS0 (fun hS => ?_)
    case hS0 => trivial
    refine takeHd (i := 0) (v := ?v0kk) rfl rfl (by kernel_rfl) (by kernel_rfl) (by kernel_rfl) (fun _ _ _ h => h) rfl ?hy0kk hS ?rs0kk
    case hy0kk => (intro wq hq; go_simp; try (with_reducible rfl))
    simp only [Act.put, List.setIfInBounds_toArray, List.set_cons_zero, List.set_cons_succ]
    refine takeHd (i := 1) (v := ?v1kk) rfl rfl (by kernel_rfl) (by kernel_rfl) (by kernel_rfl) (fun _ _ _ h => h) rfl ?hy1kk hS ?rs1kk
    case hy1kk => (intro wq hq; go_simp; try (with_reducible rfl))
    simp only [Act.put, List.setIfInBounds_toArray, List.set_cons_zero, List.set_cons_succ]
    refine takeHd (i := 2) (v := ?v2kk) rfl rfl (by kernel_rfl) (by kernel_rfl) (by kernel_rfl) (fun _ _ _ h => h) rfl ?hy2kk hS ?rs2kk
    case hy2kk => (intro wq hq; go_simp; try (with_reducible rfl))
    simp only [Act.put, List.setIfInBounds_toArray, List.set_cons_zero, List.set_cons_succ]
    refine takeHd (i := 3) (v := ?v3kk) rfl rfl (by kernel_rfl) (by kernel_rfl) (by kernel_rfl) (fun _ _ _ h => h) rfl ?hy3kk hS ?rs3kk
    case hy3kk => (intro wq hq; go_simp; try (with_reducible rfl))
    simp only [Act.put, List.setIfInBounds_toArray, List.set_cons_zero, List.set_cons_succ]
    refine takeHd (i := 4) (v := ?v4kk) rfl rfl (by kernel_rfl) (by kernel_rfl) (by kernel_rfl) (fun _ _ _ h => h) rfl ?hy4kk hS ?rs4kk
    case hy4kk => (intro wq hq; go_simp; try (with_reducible rfl))
    simp only [Act.put, List.setIfInBounds_toArray, List.set_cons_zero, List.set_cons_succ]
    refine takeHd (i := 5) (v := ?v5kk) rfl rfl (by kernel_rfl) (by kernel_rfl) (by kernel_rfl) (fun _ _ _ h => h) rfl ?hy5kk hS ?rs5kk
    case hy5kk => (intro wq hq; go_simp; try (with_reducible rfl))
    simp only [Act.put, List.setIfInBounds_toArray, List.set_cons_zero, List.set_cons_succ]
    refine takeHd (i := 6) (v := ?v6kk) rfl rfl (by kernel_rfl) (by kernel_rfl) (by kernel_rfl) (fun _ _ _ h => h) rfl ?hy6kk hS ?rs6kk
    case hy6kk => (intro wq hq; go_simp; try (with_reducible rfl))
    simp only [Act.put, List.setIfInBounds_toArray, List.set_cons_zero, List.set_cons_succ]
    refine wpAnyH_ready (rs := [7]) (by kernel_rfl) (by simp) ?_
    refine AllReadyH.cons rfl (fun K hK => ?_) AllReadyH.nil
    go_simp
    refine (specXor_any B gp PT HP.out HP2.out _ _ (ys.drop n) (ys.take n) g1 (by have := HG.out; have := LG1.out; have := LY1.out; omega) (by rw [LY1.out, LY0.out]) w1.drew S.out Y1.out Y0.out).mono ?_
    rintro e w2 ⟨r2, rfl, hs, ho, ha⟩
    rw [LY1.out] at hs ho
    obtain ⟨g2, hg⟩ : ∃ g2, g2 = g1 ++ pairG 2 (ys.drop n) (ys.take n) n := ⟨_, rfl⟩
    rw [← hg] at hs
    have LG2 := Lib.hid (show g2.length = g1.length + n from by rw [hg, List.length_append, pairG_len])
    have EQ2 := Lib.hid hg
    obtain ⟨l2, hl⟩ : ∃ l2, l2 = outsL g1.length n := ⟨_, rfl⟩
    have ho2 : w2.ownsRow w1.drew.heap.size 86 1 r2 l2.length (i16s l2) := by rw [hl, outsL_len]; exact ho
    have LL2 := Lib.hid (show l2.length = n from by rw [hl, outsL_len])
    have EL2 := Lib.hid hl
    have tl2 := TL.of_own ho2 (by rw [LL2.out]; omega) (by rw [hl]; exact outsL_w _ _ (by have := HG.out; have := LG1.out; omega))
    replace ha := (AD.refl B gp PT w1).drew.trans ha
    replace X1 := Lib.hid (X1.out.ad HP2.out ha)
    replace X0 := Lib.hid (X0.out.ad HP2.out ha)
    replace Y1 := Lib.hid (Y1.out.ad HP2.out ha)
    replace Y0 := Lib.hid (Y0.out.ad HP2.out ha)
    replace T1 := Lib.hid (T1.out.ad HP2.out ha)
    replace A := Lib.hid (A.out.trans ha)
    replace S := Lib.hid hs
    obtain ⟨b2, o2, c2, rfl, _, _⟩ := tl2.form
    rw [LL2.out] at tl2 ⊢
    have T2 := Lib.hid tl2
    rw [LL2.out] at ho2
    have O2 := Lib.hid ho2
    refine hK.out _ w2 trivial (fun hS => ?_)
    clear hK
    clear hs ha hg tl2 ho2 ho hl
    try simp only [Act.put, List.setIfInBounds_toArray, List.set_cons_zero, List.set_cons_succ]
    refine takeHd (i := 8) (v := ?v8kk) rfl rfl (by kernel_rfl) (by kernel_rfl) (by kernel_rfl) (fun _ _ _ h => h) rfl ?hy8kk hS ?rs8kk
    case hy8kk => (intro wq hq; go_simp; try (with_reducible rfl))
    simp only [Act.put, List.setIfInBounds_toArray, List.set_cons_zero, List.set_cons_succ]
    refine wpAnyH_done (by kernel_rfl) ?_ _
    go_upto_region 6 with fail
    refine wp_region_held_drew (S := fun _ => True) (by kernel_rfl) ?hS0 (fun hS => ?_)
    case hS0 => trivial
    refine takeHd (i := 0) (v := ?v0p) rfl rfl (by kernel_rfl) (by kernel_rfl) (by kernel_rfl) (fun _ _ _ h => h) rfl ?hy0p hS ?rs0p
    case hy0p => (intro wq hq; go_simp; try (with_reducible rfl))
    simp only [Act.put, List.setIfInBounds_toArray, List.set_cons_zero, List.set_cons_succ]
    refine takeHd (i := 1) (v := ?v1p) rfl rfl (by kernel_rfl) (by kernel_rfl) (by kernel_rfl) (fun _ _ _ h => h) rfl ?hy1p hS ?rs1p
    case hy1p => (intro wq hq; go_simp; try (with_reducible rfl))
    simp only [Act.put, List.setIfInBounds_toArray, List.set_cons_zero, List.set_cons_succ]
    refine takeHd (i := 2) (v := ?v2p) rfl rfl (by kernel_rfl) (by kernel_rfl) (by kernel_rfl) (fun _ _ _ h => h) rfl ?hy2p hS ?rs2p
    case hy2p => (intro wq hq; go_simp; try (with_reducible rfl))
    simp only [Act.put, List.setIfInBounds_toArray, List.set_cons_zero, List.set_cons_succ]
    refine takeHd (i := 3) (v := ?v3p) rfl rfl (by kernel_rfl) (by kernel_rfl) (by kernel_rfl) (fun _ _ _ h => h) rfl ?hy3p hS ?rs3p
    case hy3p => (intro wq hq; go_simp; try (with_reducible rfl))
    simp only [Act.put, List.setIfInBounds_toArray, List.set_cons_zero, List.set_cons_succ]
    refine takeHd (i := 4) (v := ?v4p) rfl rfl (by kernel_rfl) (by kernel_rfl) (by kernel_rfl) (fun _ _ _ h => h) rfl ?hy4p hS ?rs4p
    case hy4p => (intro wq hq; go_simp; try (with_reducible rfl))
    simp only [Act.put, List.setIfInBounds_toArray, List.set_cons_zero, List.set_cons_succ]
    refine takeHd (i := 5) (v := ?v5p) rfl rfl (by kernel_rfl) (by kernel_rfl) (by kernel_rfl) (fun _ _ _ h => h) rfl ?hy5p hS ?rs5p
    case hy5p => (intro wq hq; go_simp; try (with_reducible rfl))
    simp only [Act.put, List.setIfInBounds_toArray, List.set_cons_zero, List.set_cons_succ]
    refine takeHd (i := 6) (v := ?v6p) rfl rfl (by kernel_rfl) (by kernel_rfl) (by kernel_rfl) (fun _ _ _ h => h) rfl ?hy6p hS ?rs6p
    case hy6p => (intro wq hq; go_simp; try (with_reducible rfl))
    simp only [Act.put, List.setIfInBounds_toArray, List.set_cons_zero, List.set_cons_succ]
    refine wpAnyH_ready (rs := [7]) (by kernel_rfl) (by simp) ?_
    refine AllReadyH.cons rfl (fun K hK => ?_) AllReadyH.nil
    go_simp
    refine (IH.out B gp PT HP.out HP2.out _ _ (xs.drop n) (ys.drop n) g2 HK.out (LX1.out.trans HN.out) (LY1.out.trans HN.out) (by have := HG.out; have := LG1.out; have := LG2.out; omega) w2.drew S.out X1.out Y1.out).mono ?_
    rintro e w3 ⟨r3, rfl, hs, ho2, ha⟩
    have hlen := shortG_len k (xs.drop n) (ys.drop n) g2 (LX1.out.trans HN.out) (LY1.out.trans HN.out)
    have hww := shortG_w k (xs.drop n) (ys.drop n) g2 (LX1.out.trans HN.out) (LY1.out.trans HN.out) (by have := HG.out; have := LG1.out; have := LG2.out; omega)
    obtain ⟨P3, hg⟩ : ∃ P3, P3 = shortG k (xs.drop n) (ys.drop n) g2 := ⟨_, rfl⟩
    rw [← hg] at hs ho2 hlen hww
    have LG3 := Lib.hid hlen.1; have LL3 := Lib.hid (hlen.2.trans HN.out.symm); have EQ3 := Lib.hid hg
    have tl3 := TL.of_own ho2 (by rw [LL3.out]; omega) hww
    clear hlen hww
    replace ha := (AD.refl B gp PT w2).drew.trans ha
    replace X1 := Lib.hid (X1.out.ad HP2.out ha)
    replace X0 := Lib.hid (X0.out.ad HP2.out ha)
    replace Y1 := Lib.hid (Y1.out.ad HP2.out ha)
    replace Y0 := Lib.hid (Y0.out.ad HP2.out ha)
    replace T1 := Lib.hid (T1.out.ad HP2.out ha)
    replace T2 := Lib.hid (T2.out.ad HP2.out ha)
    replace A := Lib.hid (A.out.trans ha)
    replace S := Lib.hid hs
    obtain ⟨b3, o3, c3, rfl, _, _⟩ := tl3.form
    rw [LL3.out] at tl3 ⊢
    have T3 := Lib.hid tl3
    rw [LL3.out] at ho2
    have O3 := Lib.hid ho2
    refine hK.out _ w3 trivial (fun hS => ?_)
    clear hK
    clear hs ha hg tl3 ho2
    try simp only [Act.put, List.setIfInBounds_toArray, List.set_cons_zero, List.set_cons_succ]
    refine takeHd (i := 8) (v := ?v8p) rfl rfl (by kernel_rfl) (by kernel_rfl) (by kernel_rfl) (fun _ _ _ h => h) rfl ?hy8p hS ?rs8p
    case hy8p => (intro wq hq; go_simp; try (with_reducible rfl))
    simp only [Act.put, List.setIfInBounds_toArray, List.set_cons_zero, List.set_cons_succ]
    refine wpAnyH_done (by kernel_rfl) ?_ _
    go_upto_region 7 with fail
    refine wp_region_held_drew (S := fun _ => True) (by kernel_rfl) ?hS0 (fun hS => ?_)
    case hS0 => trivial
    refine takeHd (i := 0) (v := ?v0u) rfl rfl (by kernel_rfl) (by kernel_rfl) (by kernel_rfl) (fun _ _ _ h => h) rfl ?hy0u hS ?rs0u
    case hy0u => (intro wq hq; go_simp; try (with_reducible rfl))
    simp only [Act.put, List.setIfInBounds_toArray, List.set_cons_zero, List.set_cons_succ]
    refine takeHd (i := 1) (v := ?v1u) rfl rfl (by kernel_rfl) (by kernel_rfl) (by kernel_rfl) (fun _ _ _ h => h) rfl ?hy1u hS ?rs1u
    case hy1u => (intro wq hq; go_simp; try (with_reducible rfl))
    simp only [Act.put, List.setIfInBounds_toArray, List.set_cons_zero, List.set_cons_succ]
    refine takeHd (i := 2) (v := ?v2u) rfl rfl (by kernel_rfl) (by kernel_rfl) (by kernel_rfl) (fun _ _ _ h => h) rfl ?hy2u hS ?rs2u
    case hy2u => (intro wq hq; go_simp; try (with_reducible rfl))
    simp only [Act.put, List.setIfInBounds_toArray, List.set_cons_zero, List.set_cons_succ]
    refine takeHd (i := 3) (v := ?v3u) rfl rfl (by kernel_rfl) (by kernel_rfl) (by kernel_rfl) (fun _ _ _ h => h) rfl ?hy3u hS ?rs3u
    case hy3u => (intro wq hq; go_simp; try (with_reducible rfl))
    simp only [Act.put, List.setIfInBounds_toArray, List.set_cons_zero, List.set_cons_succ]
    refine takeHd (i := 4) (v := ?v4u) rfl rfl (by kernel_rfl) (by kernel_rfl) (by kernel_rfl) (fun _ _ _ h => h) rfl ?hy4u hS ?rs4u
    case hy4u => (intro wq hq; go_simp; try (with_reducible rfl))
    simp only [Act.put, List.setIfInBounds_toArray, List.set_cons_zero, List.set_cons_succ]
    refine takeHd (i := 5) (v := ?v5u) rfl rfl (by kernel_rfl) (by kernel_rfl) (by kernel_rfl) (fun _ _ _ h => h) rfl ?hy5u hS ?rs5u
    case hy5u => (intro wq hq; go_simp; try (with_reducible rfl))
    simp only [Act.put, List.setIfInBounds_toArray, List.set_cons_zero, List.set_cons_succ]
    refine takeHd (i := 6) (v := ?v6u) rfl rfl (by kernel_rfl) (by kernel_rfl) (by kernel_rfl) (fun _ _ _ h => h) rfl ?hy6u hS ?rs6u
    case hy6u => (intro wq hq; go_simp; try (with_reducible rfl))
    simp only [Act.put, List.setIfInBounds_toArray, List.set_cons_zero, List.set_cons_succ]
    refine wpAnyH_ready (rs := [7]) (by kernel_rfl) (by simp) ?_
    refine AllReadyH.cons rfl (fun K hK => ?_) AllReadyH.nil
    go_simp
    refine (IH.out B gp PT HP.out HP2.out _ _ (xs.take n) (ys.take n) P3.1 HK.out (LX0.out.trans HN.out) (LY0.out.trans HN.out) (by have := HG.out; have := LG1.out; have := LG2.out; have := LG3.out; omega) w3.drew S.out X0.out Y0.out).mono ?_
    rintro e w4 ⟨r4, rfl, hs, ho2, ha⟩
    have hlen := shortG_len k (xs.take n) (ys.take n) P3.1 (LX0.out.trans HN.out) (LY0.out.trans HN.out)
    have hww := shortG_w k (xs.take n) (ys.take n) P3.1 (LX0.out.trans HN.out) (LY0.out.trans HN.out) (by have := HG.out; have := LG1.out; have := LG2.out; have := LG3.out; omega)
    obtain ⟨P4, hg⟩ : ∃ P4, P4 = shortG k (xs.take n) (ys.take n) P3.1 := ⟨_, rfl⟩
    rw [← hg] at hs ho2 hlen hww
    have LG4 := Lib.hid hlen.1; have LL4 := Lib.hid (hlen.2.trans HN.out.symm); have EQ4 := Lib.hid hg
    have tl4 := TL.of_own ho2 (by rw [LL4.out]; omega) hww
    clear hlen hww
    replace ha := (AD.refl B gp PT w3).drew.trans ha
    replace X1 := Lib.hid (X1.out.ad HP2.out ha)
    replace X0 := Lib.hid (X0.out.ad HP2.out ha)
    replace Y1 := Lib.hid (Y1.out.ad HP2.out ha)
    replace Y0 := Lib.hid (Y0.out.ad HP2.out ha)
    replace T1 := Lib.hid (T1.out.ad HP2.out ha)
    replace T2 := Lib.hid (T2.out.ad HP2.out ha)
    replace T3 := Lib.hid (T3.out.ad HP2.out ha)
    replace A := Lib.hid (A.out.trans ha)
    replace S := Lib.hid hs
    obtain ⟨b4, o4, c4, rfl, _, _⟩ := tl4.form
    rw [LL4.out] at tl4 ⊢
    have T4 := Lib.hid tl4
    rw [LL4.out] at ho2
    have O4 := Lib.hid ho2
    refine hK.out _ w4 trivial (fun hS => ?_)
    clear hK
    clear hs ha hg tl4 ho2
    try simp only [Act.put, List.setIfInBounds_toArray, List.set_cons_zero, List.set_cons_succ]
    refine takeHd (i := 8) (v := ?v8u) rfl rfl (by kernel_rfl) (by kernel_rfl) (by kernel_rfl) (fun _ _ _ h => h) rfl ?hy8u hS ?rs8u
    case hy8u => (intro wq hq; go_simp; try (with_reducible rfl))
    simp only [Act.put, List.setIfInBounds_toArray, List.set_cons_zero, List.set_cons_succ]
    refine wpAnyH_done (by kernel_rfl) ?_ _
    go_wp2_with fail
    refine (IH.out B gp PT HP.out HP2.out _ _ l1 l2 P4.1 HK.out (LL1.out.trans HN.out) (LL2.out.trans HN.out) (by have := HG.out; have := LG1.out; have := LG2.out; have := LG3.out; have := LG4.out; omega) w4 S.out T1.out T2.out).mono ?_
    rintro e w5 ⟨r5, rfl, hs, ho2, ha⟩
    have hlen := shortG_len k l1 l2 P4.1 (LL1.out.trans HN.out) (LL2.out.trans HN.out)
    have hww := shortG_w k l1 l2 P4.1 (LL1.out.trans HN.out) (LL2.out.trans HN.out) (by have := HG.out; have := LG1.out; have := LG2.out; have := LG3.out; have := LG4.out; omega)
    obtain ⟨P5, hg⟩ : ∃ P5, P5 = shortG k l1 l2 P4.1 := ⟨_, rfl⟩
    rw [← hg] at hs ho2 hlen hww
    have LG5 := Lib.hid hlen.1; have LL5 := Lib.hid (hlen.2.trans HN.out.symm); have EQ5 := Lib.hid hg
    have tl5 := TL.of_own ho2 (by rw [LL5.out]; omega) hww
    clear hlen hww
    replace X1 := Lib.hid (X1.out.ad HP2.out ha)
    replace X0 := Lib.hid (X0.out.ad HP2.out ha)
    replace Y1 := Lib.hid (Y1.out.ad HP2.out ha)
    replace Y0 := Lib.hid (Y0.out.ad HP2.out ha)
    replace T1 := Lib.hid (T1.out.ad HP2.out ha)
    replace T2 := Lib.hid (T2.out.ad HP2.out ha)
    replace T3 := Lib.hid (T3.out.ad HP2.out ha)
    replace T4 := Lib.hid (T4.out.ad HP2.out ha)
    replace A := Lib.hid (A.out.trans ha)
    replace S := Lib.hid hs
    obtain ⟨b5, o5, c5, rfl, _, _⟩ := tl5.form
    rw [LL5.out] at tl5 ⊢
    have T5 := Lib.hid tl5
    rw [LL5.out] at ho2
    have O5 := Lib.hid ho2
    clear hs ha hg tl5 ho2
    go_wp2_with fail
    refine (specXor_any B gp PT HP.out HP2.out _ _ P5.2 P4.2 P5.1 (by have := HG.out; have := LG1.out; have := LG2.out; have := LG3.out; have := LG4.out; have := LG5.out; have := LL5.out; omega) (by rw [LL5.out, LL4.out]) w5 S.out T5.out T4.out).mono ?_
    rintro e w6 ⟨r6, rfl, hs, ho, ha⟩
    rw [LL5.out] at hs ho
    obtain ⟨g6, hg⟩ : ∃ g6, g6 = P5.1 ++ pairG 2 P5.2 P4.2 n := ⟨_, rfl⟩
    rw [← hg] at hs
    have LG6 := Lib.hid (show g6.length = P5.1.length + n from by rw [hg, List.length_append, pairG_len])
    have EQ6 := Lib.hid hg
    obtain ⟨l6, hl⟩ : ∃ l6, l6 = outsL P5.1.length n := ⟨_, rfl⟩
    have ho2 : w6.ownsRow w5.heap.size 86 1 r6 l6.length (i16s l6) := by rw [hl, outsL_len]; exact ho
    have LL6 := Lib.hid (show l6.length = n from by rw [hl, outsL_len])
    have EL6 := Lib.hid hl
    have tl6 := TL.of_own ho2 (by rw [LL6.out]; omega) (by rw [hl]; exact outsL_w _ _ (by have := HG.out; have := LG1.out; have := LG2.out; have := LG3.out; have := LG4.out; have := LG5.out; omega))
    replace X1 := Lib.hid (X1.out.ad HP2.out ha)
    replace X0 := Lib.hid (X0.out.ad HP2.out ha)
    replace Y1 := Lib.hid (Y1.out.ad HP2.out ha)
    replace Y0 := Lib.hid (Y0.out.ad HP2.out ha)
    replace T1 := Lib.hid (T1.out.ad HP2.out ha)
    replace T2 := Lib.hid (T2.out.ad HP2.out ha)
    replace T3 := Lib.hid (T3.out.ad HP2.out ha)
    replace T4 := Lib.hid (T4.out.ad HP2.out ha)
    replace T5 := Lib.hid (T5.out.ad HP2.out ha)
    replace A := Lib.hid (A.out.trans ha)
    replace S := Lib.hid hs
    obtain ⟨b6, o6, c6, rfl, _, _⟩ := tl6.form
    rw [LL6.out] at tl6 ⊢
    have T6 := Lib.hid tl6
    rw [LL6.out] at ho2
    have O6 := Lib.hid ho2
    clear hs ha hg tl6 ho2 ho hl
    go_wp2_with fail
    refine (specHalf_any k B gp PT HP.out HP2.out _ P3.2 g6 HK.out (LL3.out.trans HN.out) (by have := HG.out; have := LG1.out; have := LG2.out; have := LG3.out; have := LG4.out; have := LG5.out; have := LG6.out; omega) w6 S.out T3.out).mono ?_
    rintro e w7 ⟨r7, rfl, hs, tl7, ha, _⟩
    have hlen := halfG_len k P3.2 g6 (LL3.out.trans HN.out)
    obtain ⟨P7, hg⟩ : ∃ P7, P7 = halfG k P3.2 g6 := ⟨_, rfl⟩
    rw [← hg] at hs tl7 hlen
    have LG7 := Lib.hid hlen.1; have LL7 := Lib.hid (hlen.2.trans HN.out.symm); have EQ7 := Lib.hid hg
    clear hlen
    replace X1 := Lib.hid (X1.out.ad HP2.out ha)
    replace X0 := Lib.hid (X0.out.ad HP2.out ha)
    replace Y1 := Lib.hid (Y1.out.ad HP2.out ha)
    replace Y0 := Lib.hid (Y0.out.ad HP2.out ha)
    replace T1 := Lib.hid (T1.out.ad HP2.out ha)
    replace T2 := Lib.hid (T2.out.ad HP2.out ha)
    replace T3 := Lib.hid (T3.out.ad HP2.out ha)
    replace T4 := Lib.hid (T4.out.ad HP2.out ha)
    replace T5 := Lib.hid (T5.out.ad HP2.out ha)
    replace T6 := Lib.hid (T6.out.ad HP2.out ha)
    replace A := Lib.hid (A.out.trans ha)
    replace S := Lib.hid hs
    obtain ⟨b7, o7, c7, rfl, _, _⟩ := tl7.form
    rw [LL7.out] at tl7 ⊢
    have T7 := Lib.hid tl7
    clear hs ha hg tl7
    have AS := Lib.hid A.out.size
    go_wp2_with fail
    refine (specXor_any B gp PT HP.out HP2.out _ _ P4.2 P7.2 P7.1 (by have := HG.out; have := LG1.out; have := LG2.out; have := LG3.out; have := LG4.out; have := LG5.out; have := LG6.out; have := LG7.out; have := LL4.out; omega) (by rw [LL4.out, LL7.out]) w7 S.out T4.out T7.out).mono ?_
    rintro e w8 ⟨r8, rfl, hs, ho, ha⟩
    rw [LL4.out] at hs ho
    obtain ⟨g8, hg⟩ : ∃ g8, g8 = P7.1 ++ pairG 2 P4.2 P7.2 n := ⟨_, rfl⟩
    rw [← hg] at hs
    have LG8 := Lib.hid (show g8.length = P7.1.length + n from by rw [hg, List.length_append, pairG_len])
    have EQ8 := Lib.hid hg
    obtain ⟨l8, hl⟩ : ∃ l8, l8 = outsL P7.1.length n := ⟨_, rfl⟩
    have ho2 : w8.ownsRow w7.heap.size 86 1 r8 l8.length (i16s l8) := by rw [hl, outsL_len]; exact ho
    have LL8 := Lib.hid (show l8.length = n from by rw [hl, outsL_len])
    have EL8 := Lib.hid hl
    have tl8 := TL.of_own ho2 (by rw [LL8.out]; omega) (by rw [hl]; exact outsL_w _ _ (by have := HG.out; have := LG1.out; have := LG2.out; have := LG3.out; have := LG4.out; have := LG5.out; have := LG6.out; have := LG7.out; omega))
    replace X1 := Lib.hid (X1.out.ad HP2.out ha)
    replace X0 := Lib.hid (X0.out.ad HP2.out ha)
    replace Y1 := Lib.hid (Y1.out.ad HP2.out ha)
    replace Y0 := Lib.hid (Y0.out.ad HP2.out ha)
    replace T1 := Lib.hid (T1.out.ad HP2.out ha)
    replace T2 := Lib.hid (T2.out.ad HP2.out ha)
    replace T3 := Lib.hid (T3.out.ad HP2.out ha)
    replace T4 := Lib.hid (T4.out.ad HP2.out ha)
    replace T5 := Lib.hid (T5.out.ad HP2.out ha)
    replace T6 := Lib.hid (T6.out.ad HP2.out ha)
    replace T7 := Lib.hid (T7.out.ad HP2.out ha)
    replace A := Lib.hid (A.out.trans ha)
    replace S := Lib.hid hs
    obtain ⟨b8, o8, c8, rfl, _, _⟩ := tl8.form
    rw [LL8.out] at tl8 ⊢
    have T8 := Lib.hid tl8
    rw [LL8.out] at ho2
    have O8 := Lib.hid ho2
    clear hs ha hg tl8 ho2 ho hl
    have EE := Lib.hid (shortG_succ k n HN.out xs ys l1 l2 l6 l8 gs g1 g2 g6 g8 P3 P4 P5 P7 EQ1.out EQ2.out EL1.out EL2.out EQ3.out EQ4.out EQ5.out EQ6.out EL6.out EQ7.out EQ8.out EL8.out)
    obtain ⟨i0, hi, hz0, hz1, hz2⟩ := info_parts infoI16
    have OB := Lib.hid (own_low O8.out (show w.heap.size ≤ w7.heap.size from AS.out))
    go_wp2_with (at_builtin; refine wpList_append_own _ rfl _ _ 24 rfl w.heap.size 86 i0 (.int .i16 0) 1 2 Tryd.underlying24 hi hz0 hz1 hz2 rfl (by decide) _ n _ rfl OB.out ⟨b6, o6, none⟩ n c6 (i16s l6) rfl (by rw [i16s_len, LL6.out]; omega) ?c1 ?c2 ?c3 ?c4 ?c5 ?_)
    case c1 => exact T6.out.src
    case c2 => exact i16s_one _
    case c3 => unfold maxLen; omega
    case c4 => omega
    case c5 => exact A.out.size
    intro s8 w8 hown hgrow _
    have A8 := Lib.hid (A.out.after hgrow (fun k hk => (own_block OB.out k hk).1) SB.out SL.out)
    have S8 := Lib.hid (S.out.grown HP2.out hgrow (fun k hk => by obtain ⟨cr, hh⟩ := own_type OB.out k hk; exact ⟨cr, _, hh⟩))
    have HO := Lib.hid (show w8.ownsRow w.heap.size 86 1 s8 (l8 ++ l6).length (i16s (l8 ++ l6)) from by
      rw [List.length_append, LL8.out, LL6.out, ← i16s_append]; exact hown)
    clear hown hgrow
    go_wp2_with fail
    go_ret
    rw [EE.out]
    exact ⟨_, rfl, S8.out, HO.out, A8.out⟩

end Go.Proofs.YtngaelifkhelbaaDoor
