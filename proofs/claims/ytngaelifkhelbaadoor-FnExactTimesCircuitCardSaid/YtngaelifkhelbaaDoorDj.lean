/-
  Products.
-/
import Derived.Test.YtngaelifkhelbaaDoorDh
import Derived.Deep.RegionHeld
namespace Go.Proofs.YtngaelifkhelbaaDoor
set_option linter.unusedVariables false
set_option linter.unusedSimpArgs false
open Go.ChangeShapes Go.WideShapes Go.ChangeAt Go.RowKit Go.Deep


/-- the sums of three lists, bit by bit; their places -/
def crossG (s : Nat) (ps qs rs : List Int) : Nat → List G3
  | 0 => []
  | k + 1 => crossG s ps qs rs k ++ [(2, ps.getD k 0, qs.getD k 0), (2, ((s + 2 * k : Nat) : Int), rs.getD k 0)]
def outs2 (s : Nat) : Nat → List Int
  | 0 => []
  | k + 1 => outs2 s k ++ [((s + 2 * k + 1 : Nat) : Int)]
theorem crossG_len (s : Nat) (ps qs rs : List Int) : ∀ k, (crossG s ps qs rs k).length = 2 * k
  | 0 => rfl
  | k + 1 => by rw [crossG, List.length_append, crossG_len s ps qs rs k]; simp; omega
theorem outs2_len (s : Nat) : ∀ k, (outs2 s k).length = k
  | 0 => rfl
  | k + 1 => by rw [outs2, List.length_append, outs2_len s k]; rfl
theorem outs2_w (s : Nat) : ∀ k, s + 2 * k < 32768 → ∀ z ∈ outs2 s k, IW z
  | 0, _ => by simp [outs2]
  | k + 1, h => fun z hz => by
    rcases List.mem_append.1 hz with hz | hz
    · exact outs2_w s k (by omega) z hz
    · rcases List.mem_singleton.1 hz with rfl
      constructor <;> omega
def rowF2 (s n k : Nat) : List Int := outs2 s k ++ List.replicate (n - k) 0
theorem rowF2_zero (s n : Nat) : rowF2 s n 0 = List.replicate n 0 := by simp [rowF2, outs2]
theorem rowF2_end (s n : Nat) : rowF2 s n n = outs2 s n := by simp [rowF2]
theorem rowF2_len (s n k : Nat) (hk : k ≤ n) : (rowF2 s n k).length = n := by simp [rowF2, outs2_len]; omega
theorem rowF2_set (s n k : Nat) (hk : k < n) : (rowF2 s n k).set k ((s + 2 * k + 1 : Nat) : Int) = rowF2 s n (k + 1) := by
  unfold rowF2
  rw [List.set_append_right k _ (by rw [outs2_len]; exact Nat.le_refl _), outs2_len, Nat.sub_self, show n - k = (n - (k + 1)) + 1 from by omega, List.replicate_succ, List.set_cons_zero, outs2, List.append_assoc]
  rfl
def tcN : Nat → Nat
  | 0 => 1
  | k + 1 => 4 * tcN k + hcN k + 3 * 2 ^ k
def timesG : JT
  | 0, xs, ys, gs => (gs ++ pairG 3 xs ys 1, outsL gs.length 1)
  | k + 1, xs, ys, gs =>
    let p := timesG k (xs.drop (2 ^ k)) (ys.drop (2 ^ k)) gs
    let q := timesG k (xs.drop (2 ^ k)) (ys.take (2 ^ k)) p.1
    let r := timesG k (xs.take (2 ^ k)) (ys.drop (2 ^ k)) q.1
    let u := timesG k (xs.take (2 ^ k)) (ys.take (2 ^ k)) r.1
    let g5 := u.1 ++ crossG u.1.length p.2 q.2 r.2 (2 ^ k)
    let w := halfG k p.2 g5
    (w.1 ++ pairG 2 u.2 w.2 (2 ^ k), outsL w.1.length (2 ^ k) ++ outs2 u.1.length (2 ^ k))
theorem timesG_succ (k n : Nat) (hn : n = 2 ^ k) (xs ys l5 l7 : List Int) (gs g5 g7 : List G3) (p q r u w : List G3 × List Int) (h1 : p = timesG k (xs.drop n) (ys.drop n) gs) (h2 : q = timesG k (xs.drop n) (ys.take n) p.1) (h3 : r = timesG k (xs.take n) (ys.drop n) q.1) (h4 : u = timesG k (xs.take n) (ys.take n) r.1)
    (h5 : g5 = u.1 ++ crossG u.1.length p.2 q.2 r.2 n) (e5 : l5 = outs2 u.1.length n) (h6 : w = halfG k p.2 g5) (h7 : g7 = w.1 ++ pairG 2 u.2 w.2 n) (e7 : l7 = outsL w.1.length n) : timesG (k + 1) xs ys gs = (g7, l7 ++ l5) := by
  subst hn h1 h2 h3 h4 h5 e5 h6 h7 e7; rfl
theorem timesG_len : ∀ (k : Nat) (xs ys : List Int) (gs : List G3), xs.length = 2 ^ k → ys.length = 2 ^ k → (timesG k xs ys gs).1.length = gs.length + tcN k ∧ (timesG k xs ys gs).2.length = 2 ^ k := by
  intro k
  induction k with
  | zero => intro xs ys gs h h'; simp [timesG, tcN, pairG_len, outsL_len]
  | succ k ih =>
    intro xs ys gs h h'
    rw [Nat.pow_succ] at h h'
    have a1 := ih (xs.drop (2 ^ k)) (ys.drop (2 ^ k)) gs (by rw [List.length_drop]; omega) (by rw [List.length_drop]; omega)
    obtain ⟨p, h1⟩ : ∃ p, p = timesG k (xs.drop (2 ^ k)) (ys.drop (2 ^ k)) gs := ⟨_, rfl⟩
    have a2 := ih (xs.drop (2 ^ k)) (ys.take (2 ^ k)) p.1 (by rw [List.length_drop]; omega) (by rw [List.length_take]; omega)
    obtain ⟨q, h2⟩ : ∃ q, q = timesG k (xs.drop (2 ^ k)) (ys.take (2 ^ k)) p.1 := ⟨_, rfl⟩
    have a3 := ih (xs.take (2 ^ k)) (ys.drop (2 ^ k)) q.1 (by rw [List.length_take]; omega) (by rw [List.length_drop]; omega)
    obtain ⟨r, h3⟩ : ∃ r, r = timesG k (xs.take (2 ^ k)) (ys.drop (2 ^ k)) q.1 := ⟨_, rfl⟩
    have a4 := ih (xs.take (2 ^ k)) (ys.take (2 ^ k)) r.1 (by rw [List.length_take]; omega) (by rw [List.length_take]; omega)
    obtain ⟨u, h4⟩ : ∃ u, u = timesG k (xs.take (2 ^ k)) (ys.take (2 ^ k)) r.1 := ⟨_, rfl⟩
    have a6 := halfG_len k p.2 (u.1 ++ crossG u.1.length p.2 q.2 r.2 (2 ^ k)) (by rw [h1]; exact a1.2)
    obtain ⟨w, h6⟩ : ∃ w, w = halfG k p.2 (u.1 ++ crossG u.1.length p.2 q.2 r.2 (2 ^ k)) := ⟨_, rfl⟩
    rw [timesG_succ k _ rfl xs ys _ _ gs _ _ p q r u w h1 h2 h3 h4 rfl rfl h6 rfl rfl]
    rw [← h1] at a1; rw [← h2] at a2; rw [← h3] at a3; rw [← h4] at a4; rw [← h6] at a6
    simp only [List.length_append, pairG_len, outsL_len, outs2_len, crossG_len, Nat.pow_succ, tcN] at *
    omega
theorem timesG_w (k : Nat) (xs ys : List Int) (gs : List G3) (h : xs.length = 2 ^ k) (h' : ys.length = 2 ^ k) (hg : gs.length + tcN k ≤ 10000) : ∀ z ∈ (timesG k xs ys gs).2, IW z := by
  cases k with
  | zero => intro z hz; exact outsL_w _ _ (by simp only [tcN] at hg; omega) z hz
  | succ k =>
    rw [Nat.pow_succ] at h h'
    have a1 := timesG_len k (xs.drop (2 ^ k)) (ys.drop (2 ^ k)) gs (by rw [List.length_drop]; omega) (by rw [List.length_drop]; omega)
    obtain ⟨p, h1⟩ : ∃ p, p = timesG k (xs.drop (2 ^ k)) (ys.drop (2 ^ k)) gs := ⟨_, rfl⟩
    have a2 := timesG_len k (xs.drop (2 ^ k)) (ys.take (2 ^ k)) p.1 (by rw [List.length_drop]; omega) (by rw [List.length_take]; omega)
    obtain ⟨q, h2⟩ : ∃ q, q = timesG k (xs.drop (2 ^ k)) (ys.take (2 ^ k)) p.1 := ⟨_, rfl⟩
    have a3 := timesG_len k (xs.take (2 ^ k)) (ys.drop (2 ^ k)) q.1 (by rw [List.length_take]; omega) (by rw [List.length_drop]; omega)
    obtain ⟨r, h3⟩ : ∃ r, r = timesG k (xs.take (2 ^ k)) (ys.drop (2 ^ k)) q.1 := ⟨_, rfl⟩
    have a4 := timesG_len k (xs.take (2 ^ k)) (ys.take (2 ^ k)) r.1 (by rw [List.length_take]; omega) (by rw [List.length_take]; omega)
    obtain ⟨u, h4⟩ : ∃ u, u = timesG k (xs.take (2 ^ k)) (ys.take (2 ^ k)) r.1 := ⟨_, rfl⟩
    have a6 := halfG_len k p.2 (u.1 ++ crossG u.1.length p.2 q.2 r.2 (2 ^ k)) (by rw [h1]; exact a1.2)
    obtain ⟨w, h6⟩ : ∃ w, w = halfG k p.2 (u.1 ++ crossG u.1.length p.2 q.2 r.2 (2 ^ k)) := ⟨_, rfl⟩
    rw [timesG_succ k _ rfl xs ys _ _ gs _ _ p q r u w h1 h2 h3 h4 rfl rfl h6 rfl rfl]
    rw [← h1] at a1; rw [← h2] at a2; rw [← h3] at a3; rw [← h4] at a4; rw [← h6] at a6
    have b3 := a6.1
    rw [List.length_append, crossG_len] at b3
    simp only [tcN] at hg
    intro z hz
    rcases List.mem_append.1 hz with hz | hz
    · exact outsL_w _ _ (by omega) z hz
    · exact outs2_w _ _ (by omega) z hz

set_option maxHeartbeats 8000000 in
set_option maxRecDepth 100000 in
theorem implTimes_any : ∀ (k : Nat) (B gp : Nat) (PT : TypeId) (hP : PT ≠ 88) (hP2 : 86 ≠ PT) (v u : Value) (xs ys : List Int) (gs : List G3) (hk : k ≤ 3) (hx : xs.length = 2 ^ k) (hy : ys.length = 2 ^ k) (hg : gs.length + tcN k ≤ 10000) (w : World) (h : ST B gp PT w gs) (h1 : TL w v xs) (h2 : TL w u ys),
    Calls Tryd.prog 88 #[.pointer (some ⟨gp, 0, none⟩), v, u] w fun e w' => ∃ r, e = .returned r ∧ ST B gp PT w' (timesG k xs ys gs).1 ∧ w'.ownsRow w.heap.size 86 1 r (timesG k xs ys gs).2.length (i16s (timesG k xs ys gs).2) ∧ AD B gp PT w w' := by
  intro k
  induction k with
  | zero =>
    intro B gp PT hP hP2 v u xs ys gs hk hx hy hg w h h1 h2
    have S := Lib.hid h; have H1 := Lib.hid h1; have H2 := Lib.hid h2; have HP := Lib.hid hP; have HP2 := Lib.hid hP2
    have HX := Lib.hid (show xs.length = 1 from hx); have HY := Lib.hid (show ys.length = 1 from hy)
    have HG := Lib.hid hg
    obtain ⟨b, off, c, rfl, _, _⟩ := h1.form
    obtain ⟨b', off', c', rfl, _, _⟩ := h2.form
    rw [HX.out] at H1 ⊢
    rw [HY.out] at H2 ⊢
    clear h h1 h2 hP hP2 hx hy hg
    go_enter Tryd.func88, Tryd.ntmps88
    go_wp2_with fail
    refine (pairand_any B gp PT HP.out HP2.out _ _ xs ys gs (by rw [HX.out]; have := HG.out; omega) (by rw [HX.out, HY.out]) w S.out H1.out H2.out).mono ?_
    rintro e w2 ⟨r, rfl, hr⟩
    rw [HX.out] at hr
    have HR := Lib.hid hr
    clear hr
    go_wp2_with fail
    go_ret
    exact ⟨r, rfl, HR.out⟩

  | succ k ih =>
    intro B gp PT hP hP2 v u xs ys gs hk hx hy hg w h h1 h2
    have S := Lib.hid h; have H1 := Lib.hid h1; have H2 := Lib.hid h2; have IH := Lib.hid ih
    have HP := Lib.hid hP; have HP2 := Lib.hid hP2
    obtain ⟨n, hn⟩ : ∃ n, n = 2 ^ k := ⟨_, rfl⟩
    have hn1 : 1 ≤ n := by rw [hn]; exact Nat.one_le_two_pow
    have hn4 : n ≤ 4 := by rw [hn]; exact Nat.pow_le_pow_right (by omega) (show k ≤ 2 by omega)
    have hxn : xs.length = n + n := by rw [hx, Nat.pow_succ, ← hn]; omega
    have hyn : ys.length = n + n := by rw [hy, Nat.pow_succ, ← hn]; omega
    have HG : Hid (gs.length + (4 * tcN k + hcN k + 3 * n) ≤ 10000) := Lib.hid (by rw [hn]; exact hg)
    obtain ⟨b, off, c, rfl, hcl, hcm⟩ := h1.form
    obtain ⟨b', off', c', rfl, hcl', hcm'⟩ := h2.form
    rw [hxn] at hcl H1 ⊢
    rw [hyn] at hcl' H2 ⊢
    have td := H1.out.drop n (by omega); have ta := H1.out.take n (by omega)
    have ud := H2.out.drop n (by omega); have ua := H2.out.take n (by omega)
    rw [show n + n - n = n from by omega] at td ud
    have X1 := Lib.hid td; have X0 := Lib.hid ta; have Y1 := Lib.hid ud; have Y0 := Lib.hid ua
    have LX1 := Lib.hid (show (xs.drop n).length = n from by rw [List.length_drop, hxn]; omega)
    have LX0 := Lib.hid (show (xs.take n).length = n from by rw [List.length_take, hxn]; omega)
    have LY1 := Lib.hid (show (ys.drop n).length = n from by rw [List.length_drop, hyn]; omega)
    have LY0 := Lib.hid (show (ys.take n).length = n from by rw [List.length_take, hyn]; omega)
    have HK : Hid (k ≤ 3) := Lib.hid (by omega)
    have HN := Lib.hid hn
    obtain ⟨m, hm⟩ : ∃ m, m = n + n := ⟨_, rfl⟩
    clear ih td ta ud ua hx hy hg hxn hyn hP hP2 h h1 h2 H1 H2 hk hn
    have m1 : ((m : Int) == 1) = false := by simp; omega
    have HM := Lib.hid hm; have HCL := Lib.hid hcl; have HCM := Lib.hid hcm; have HCL' := Lib.hid hcl'; have HCM' := Lib.hid hcm'
    rw [← hm]
    clear hm hcl hcm hcl' hcm'
    go_enter Tryd.func88, Tryd.ntmps88
    go_wp2_with fail
    rw [HM.out]
    refine (halves_any b off c n hn1 HCL.out HCM.out w).mono ?_
    rintro e wa ⟨rfl, hb0⟩
    have A := Lib.hid (AD.of_below (PT := PT) hb0 S.out.1 S.out.lt)
    replace S := Lib.hid (S.out.below hb0); replace X1 := Lib.hid (X1.out.below hb0); replace X0 := Lib.hid (X0.out.below hb0); replace Y1 := Lib.hid (Y1.out.below hb0); replace Y0 := Lib.hid (Y0.out.below hb0)
    clear hb0
    go_wp2_with fail
    try rw [HM.out]
    refine (halves_any b' off' c' n hn1 HCL'.out HCM'.out wa).mono ?_
    rintro e w0 ⟨rfl, hb0⟩
    replace A := Lib.hid (A.out.trans (AD.of_below hb0 S.out.1 S.out.lt))
    replace S := Lib.hid (S.out.below hb0); replace X1 := Lib.hid (X1.out.below hb0); replace X0 := Lib.hid (X0.out.below hb0); replace Y1 := Lib.hid (Y1.out.below hb0); replace Y0 := Lib.hid (Y0.out.below hb0)
    clear hb0

    go_wp2_with fail
    refine (IH.out B gp PT HP.out HP2.out _ _ (xs.drop n) (ys.drop n) gs HK.out (LX1.out.trans HN.out) (LY1.out.trans HN.out) (by have := HG.out; omega) w0 S.out X1.out Y1.out).mono ?_
    rintro e w1 ⟨r1, rfl, hs, ho2, ha⟩
    have hlen := timesG_len k (xs.drop n) (ys.drop n) gs (LX1.out.trans HN.out) (LY1.out.trans HN.out)
    have hww := timesG_w k (xs.drop n) (ys.drop n) gs (LX1.out.trans HN.out) (LY1.out.trans HN.out) (by have := HG.out; omega)
    obtain ⟨P1, hg⟩ : ∃ P1, P1 = timesG k (xs.drop n) (ys.drop n) gs := ⟨_, rfl⟩
    rw [← hg] at hs ho2 hlen hww
    have LG1 := Lib.hid hlen.1; have LL1 := Lib.hid (hlen.2.trans HN.out.symm); have EQ1 := Lib.hid hg
    have tl1 := TL.of_own ho2 (by rw [LL1.out]; omega) hww
    clear hlen hww
    replace X1 := Lib.hid (X1.out.ad HP2.out ha)
    replace X0 := Lib.hid (X0.out.ad HP2.out ha)
    replace Y1 := Lib.hid (Y1.out.ad HP2.out ha)
    replace Y0 := Lib.hid (Y0.out.ad HP2.out ha)
    replace A := Lib.hid (A.out.trans ha)
    replace S := Lib.hid hs
    obtain ⟨b1, o1, c1, rfl, _, _⟩ := tl1.form
    rw [LL1.out] at tl1 ⊢
    have T1 := Lib.hid tl1
    rw [LL1.out] at ho2
    have O1 := Lib.hid ho2
    clear hs ha hg tl1 ho2
    go_wp2_with fail
    refine (IH.out B gp PT HP.out HP2.out _ _ (xs.drop n) (ys.take n) P1.1 HK.out (LX1.out.trans HN.out) (LY0.out.trans HN.out) (by have := HG.out; have := LG1.out; omega) w1 S.out X1.out Y0.out).mono ?_
    rintro e w2 ⟨r2, rfl, hs, ho2, ha⟩
    have hlen := timesG_len k (xs.drop n) (ys.take n) P1.1 (LX1.out.trans HN.out) (LY0.out.trans HN.out)
    have hww := timesG_w k (xs.drop n) (ys.take n) P1.1 (LX1.out.trans HN.out) (LY0.out.trans HN.out) (by have := HG.out; have := LG1.out; omega)
    obtain ⟨P2, hg⟩ : ∃ P2, P2 = timesG k (xs.drop n) (ys.take n) P1.1 := ⟨_, rfl⟩
    rw [← hg] at hs ho2 hlen hww
    have LG2 := Lib.hid hlen.1; have LL2 := Lib.hid (hlen.2.trans HN.out.symm); have EQ2 := Lib.hid hg
    have tl2 := TL.of_own ho2 (by rw [LL2.out]; omega) hww
    clear hlen hww
    replace X1 := Lib.hid (X1.out.ad HP2.out ha)
    replace X0 := Lib.hid (X0.out.ad HP2.out ha)
    replace Y1 := Lib.hid (Y1.out.ad HP2.out ha)
    replace Y0 := Lib.hid (Y0.out.ad HP2.out ha)
    replace T1 := Lib.hid (T1.out.ad HP2.out ha)
    replace A := Lib.hid (A.out.trans ha)
    replace S := Lib.hid hs
    obtain ⟨b2, o2, c2, rfl, _, _⟩ := tl2.form
    rw [LL2.out] at tl2 ⊢
    have T2 := Lib.hid tl2
    rw [LL2.out] at ho2
    have O2 := Lib.hid ho2
    clear hs ha hg tl2 ho2
    go_wp2_with fail
    refine (IH.out B gp PT HP.out HP2.out _ _ (xs.take n) (ys.drop n) P2.1 HK.out (LX0.out.trans HN.out) (LY1.out.trans HN.out) (by have := HG.out; have := LG1.out; have := LG2.out; omega) w2 S.out X0.out Y1.out).mono ?_
    rintro e w3 ⟨r3, rfl, hs, ho2, ha⟩
    have hlen := timesG_len k (xs.take n) (ys.drop n) P2.1 (LX0.out.trans HN.out) (LY1.out.trans HN.out)
    have hww := timesG_w k (xs.take n) (ys.drop n) P2.1 (LX0.out.trans HN.out) (LY1.out.trans HN.out) (by have := HG.out; have := LG1.out; have := LG2.out; omega)
    obtain ⟨P3, hg⟩ : ∃ P3, P3 = timesG k (xs.take n) (ys.drop n) P2.1 := ⟨_, rfl⟩
    rw [← hg] at hs ho2 hlen hww
    have LG3 := Lib.hid hlen.1; have LL3 := Lib.hid (hlen.2.trans HN.out.symm); have EQ3 := Lib.hid hg
    have tl3 := TL.of_own ho2 (by rw [LL3.out]; omega) hww
    clear hlen hww
    replace X1 := Lib.hid (X1.out.ad HP2.out ha)
    replace X0 := Lib.hid (X0.out.ad HP2.out ha)
    replace Y1 := Lib.hid (Y1.out.ad HP2.out ha)
    replace Y0 := Lib.hid (Y0.out.ad HP2.out ha)
    replace T1 := Lib.hid (T1.out.ad HP2.out ha)
    replace T2 := Lib.hid (T2.out.ad HP2.out ha)
    replace A := Lib.hid (A.out.trans ha)
    replace S := Lib.hid hs
    obtain ⟨b3, o3, c3, rfl, _, _⟩ := tl3.form
    rw [LL3.out] at tl3 ⊢
    have T3 := Lib.hid tl3
    rw [LL3.out] at ho2
    have O3 := Lib.hid ho2
    clear hs ha hg tl3 ho2
    go_wp2_with fail
    refine (IH.out B gp PT HP.out HP2.out _ _ (xs.take n) (ys.take n) P3.1 HK.out (LX0.out.trans HN.out) (LY0.out.trans HN.out) (by have := HG.out; have := LG1.out; have := LG2.out; have := LG3.out; omega) w3 S.out X0.out Y0.out).mono ?_
    rintro e w4 ⟨r4, rfl, hs, ho2, ha⟩
    have hlen := timesG_len k (xs.take n) (ys.take n) P3.1 (LX0.out.trans HN.out) (LY0.out.trans HN.out)
    have hww := timesG_w k (xs.take n) (ys.take n) P3.1 (LX0.out.trans HN.out) (LY0.out.trans HN.out) (by have := HG.out; have := LG1.out; have := LG2.out; have := LG3.out; omega)
    obtain ⟨P4, hg⟩ : ∃ P4, P4 = timesG k (xs.take n) (ys.take n) P3.1 := ⟨_, rfl⟩
    rw [← hg] at hs ho2 hlen hww
    have LG4 := Lib.hid hlen.1; have LL4 := Lib.hid (hlen.2.trans HN.out.symm); have EQ4 := Lib.hid hg
    have tl4 := TL.of_own ho2 (by rw [LL4.out]; omega) hww
    clear hlen hww
    replace X1 := Lib.hid (X1.out.ad HP2.out ha)
    replace X0 := Lib.hid (X0.out.ad HP2.out ha)
    replace Y1 := Lib.hid (Y1.out.ad HP2.out ha)
    replace Y0 := Lib.hid (Y0.out.ad HP2.out ha)
    replace T1 := Lib.hid (T1.out.ad HP2.out ha)
    replace T2 := Lib.hid (T2.out.ad HP2.out ha)
    replace T3 := Lib.hid (T3.out.ad HP2.out ha)
    replace A := Lib.hid (A.out.trans ha)
    replace S := Lib.hid hs
    obtain ⟨b4, o4, c4, rfl, _, _⟩ := tl4.form
    rw [LL4.out] at tl4 ⊢
    have T4 := Lib.hid tl4
    rw [LL4.out] at ho2
    have O4 := Lib.hid ho2
    clear hs ha hg tl4 ho2

    obtain ⟨i0, hi, hz0, hz1, hz2⟩ := info_parts infoI16
    have SB := Lib.hid S.out.1; have SL := Lib.hid S.out.lt
    go_wp2_with (at_make; refine wpList_make_full _ rfl _ _ 72 rfl w4.heap.size 86 i0 (.int .i16 0) 1 Tryd.underlying72 hi hz0 hz1 _ _ _ _ n rfl rfl rfl rfl (by rw [hz2]; omega) (by unfold maxLen; omega) (Nat.le_refl _) ?_)
    intro w5 hown hgrow
    have hb1 : Below w4.heap.size w4 w5 := (Below.refl _ w4).grown hgrow (Nat.le_refl _) (fun k hk => by cases hk)
    obtain ⟨g, hgs⟩ : ∃ g, g = w4.heap.size := ⟨_, rfl⟩
    rw [← hgs] at hown ⊢
    have hown1 : w5.ownsRow g 86 1 (.slice (some ⟨g, 0, none⟩) n n) n (i16s (rowF2 P4.1.length n 0)) := by
      have e : (madeCells #[Value.int .i16 0] n).toList = i16s (rowF2 P4.1.length n 0) := by
        rw [toList_madeCells_one, rowF2_zero]; simp
      rw [← e]; simpa using hown
    clear hown hgrow
    have HGW := Lib.hid hgs; clear hgs
    have HA1 := Lib.hid (AD.of_below (B := B) (gp := gp) (PT := PT) hb1 SB.out SL.out); have HO1 := Lib.hid hown1
    have HS1 : Hid (ST B gp PT w5 (P4.1 ++ crossG P4.1.length P1.2 P2.2 P3.2 0)) := Lib.hid (by rw [crossG, List.append_nil]; exact S.out.below hb1)
    clear hb1 hown1
    go_wp2_with fail
    go_loopw [56] (fun y wr => ∃ j : Nat, y = .int .i64 (j : Int) ∧ j ≤ n ∧ Hid (AD B gp PT w4 wr) ∧ Hid (ST B gp PT wr (P4.1 ++ crossG P4.1.length P1.2 P2.2 P3.2 j)) ∧ Hid (wr.ownsRow g 86 1 (.slice (some ⟨g, 0, none⟩) n n) n (i16s (rowF2 P4.1.length n j)))) (fun y _ => n - (intOf y).toNat)
    case atStart => exact ⟨0, rfl, Nat.zero_le _, HA1, HS1, HO1⟩
    case round =>
      obtain ⟨j, rfl, hj, HA, HS, HO⟩ := hrel
      clear HA1 HS1 HO1
      by_cases hlt : j < n
      · obtain ⟨x, hx⟩ : ∃ x, x = P1.2.getD j 0 := ⟨_, rfl⟩
        obtain ⟨y, hy⟩ : ∃ y, y = P2.2.getD j 0 := ⟨_, rfl⟩
        obtain ⟨z, hz⟩ : ∃ z, z = P3.2.getD j 0 := ⟨_, rfl⟩
        have HCX : Hid (∀ W, AD B gp PT w4 W → W.cell? ⟨b1, o1 + j, none⟩ = some (.int .i16 x) ∧ W.cell? ⟨b2, o2 + j, none⟩ = some (.int .i16 y) ∧ W.cell? ⟨b3, o3 + j, none⟩ = some (.int .i16 z)) := Lib.hid (fun W hW => by
          obtain ⟨_, _, _, e, hw1, d1⟩ := (T1.out.ad HP2.out hW).at j (by rw [LL1.out]; exact hlt)
          rw [LL1.out] at e
          cases e
          obtain ⟨_, _, _, e, hw2, d2⟩ := (T2.out.ad HP2.out hW).at j (by rw [LL2.out]; exact hlt)
          rw [LL2.out] at e
          cases e
          obtain ⟨_, _, _, e, hw3, d3⟩ := (T3.out.ad HP2.out hW).at j (by rw [LL3.out]; exact hlt)
          rw [LL3.out] at e
          cases e
          rw [← hx] at d1; rw [← hy] at d2; rw [← hz] at d3
          exact ⟨d1, d2, d3⟩)
        have JT1 : decide ((j : Int) < (n : Int)) = true := by simp; omega
        have ji1 : (j : Int) < (n : Int) := by omega
        have HLN := Lib.hid (show (P4.1 ++ crossG P4.1.length P1.2 P2.2 P3.2 j).length = P4.1.length + 2 * j from by rw [List.length_append, crossG_len])
        have HLT2 : Hid (P4.1.length + 2 * n ≤ 10000) := Lib.hid (by have := HG.out; have := LG1.out; have := LG2.out; have := LG3.out; have := LG4.out; omega)
        have HLN2 := Lib.hid (show ((P4.1 ++ crossG P4.1.length P1.2 P2.2 P3.2 j) ++ [((2 : Int), x, y)]).length = P4.1.length + 2 * j + 1 from by rw [List.length_append, HLN.out]; rfl)
        have HE := Lib.hid (show ((P4.1 ++ crossG P4.1.length P1.2 P2.2 P3.2 j) ++ [((2 : Int), x, y)]) ++ [((2 : Int), ((P4.1.length + 2 * j : Nat) : Int), z)] = P4.1 ++ crossG P4.1.length P1.2 P2.2 P3.2 (j + 1) from by rw [crossG, hx, hy, hz]; simp)
        clear hx hy hz
        go_upto_region 13 with fail
        refine wp_region_held_drew (S := fun u => u.cell? ⟨b1, o1 + j, none⟩ = some (.int .i16 x) ∧ u.cell? ⟨b2, o2 + j, none⟩ = some (.int .i16 y) ∧ u.cell? ⟨b3, o3 + j, none⟩ = some (.int .i16 z)) (by kernel_rfl) ?hS0 (fun hS => ?_)
        case hS0 => exact HCX.out _ HA.out.drew
        have HAD := Lib.hid HA.out.drew
        have HSD : Hid (ST B gp PT wr.drew (P4.1 ++ crossG P4.1.length P1.2 P2.2 P3.2 j)) := Lib.hid HS.out
        have HOD : Hid (wr.drew.ownsRow g 86 1 (.slice (some ⟨g, 0, none⟩) n n) n (i16s (rowF2 P4.1.length n j))) := Lib.hid HO.out
        clear HA HS HO
        generalize wr.drew = wd at hS HAD HSD HOD ⊢
        refine takeHd (i := 0) (v := ?v0) rfl rfl (by kernel_rfl) (by kernel_rfl) (by kernel_rfl) (fun _ _ _ h => h) rfl ?hy0 hS ?rs0
        case hy0 => (intro wq hq; obtain ⟨hq1, hq2, hq3⟩ := hq; go_simp; try (with_reducible rfl))
        simp only [Act.put, List.setIfInBounds_toArray, List.set_cons_zero, List.set_cons_succ]
        refine takeHd (i := 1) (v := ?v1) rfl rfl (by kernel_rfl) (by kernel_rfl) (by kernel_rfl) (fun _ _ _ h => h) rfl ?hy1 hS ?rs1
        case hy1 => (intro wq hq; obtain ⟨hq1, hq2, hq3⟩ := hq; go_simp; try (with_reducible rfl))
        simp only [Act.put, List.setIfInBounds_toArray, List.set_cons_zero, List.set_cons_succ]
        refine takeHd (i := 2) (v := ?v2) rfl rfl (by kernel_rfl) (by kernel_rfl) (by kernel_rfl) (fun _ _ _ h => h) rfl ?hy2 hS ?rs2
        case hy2 => (intro wq hq; obtain ⟨hq1, hq2, hq3⟩ := hq; go_simp; try (with_reducible rfl))
        simp only [Act.put, List.setIfInBounds_toArray, List.set_cons_zero, List.set_cons_succ]
        refine takeHd (i := 3) (v := ?v3) rfl rfl (by kernel_rfl) (by kernel_rfl) (by kernel_rfl) (fun _ _ _ h => h) rfl ?hy3 hS ?rs3
        case hy3 => (intro wq hq; obtain ⟨hq1, hq2, hq3⟩ := hq; go_simp; try (with_reducible rfl))
        simp only [Act.put, List.setIfInBounds_toArray, List.set_cons_zero, List.set_cons_succ]
        refine takeHd (i := 4) (v := ?v4) rfl rfl (by kernel_rfl) (by kernel_rfl) (by kernel_rfl) (fun _ _ _ h => h) rfl ?hy4 hS ?rs4
        case hy4 => (intro wq hq; obtain ⟨hq1, hq2, hq3⟩ := hq; go_simp; try (with_reducible rfl))
        simp only [Act.put, List.setIfInBounds_toArray, List.set_cons_zero, List.set_cons_succ]
        refine takeHd (i := 5) (v := ?v5) rfl rfl (by kernel_rfl) (by kernel_rfl) (by kernel_rfl) (fun _ _ _ h => h) rfl ?hy5 hS ?rs5
        case hy5 => (intro wq hq; obtain ⟨hq1, hq2, hq3⟩ := hq; go_simp; try (with_reducible rfl))
        simp only [Act.put, List.setIfInBounds_toArray, List.set_cons_zero, List.set_cons_succ]
        refine takeHd (i := 6) (v := ?v6) rfl rfl (by kernel_rfl) (by kernel_rfl) (by kernel_rfl) (fun _ _ _ h => h) rfl ?hy6 hS ?rs6
        case hy6 => (intro wq hq; obtain ⟨hq1, hq2, hq3⟩ := hq; go_simp; try (with_reducible rfl))
        simp only [Act.put, List.setIfInBounds_toArray, List.set_cons_zero, List.set_cons_succ]
        refine takeHd (i := 7) (v := ?v7) rfl rfl (by kernel_rfl) (by kernel_rfl) (by kernel_rfl) (fun _ _ _ h => h) rfl ?hy7 hS ?rs7
        case hy7 => (intro wq hq; obtain ⟨hq1, hq2, hq3⟩ := hq; go_simp; try (with_reducible rfl))
        simp only [Act.put, List.setIfInBounds_toArray, List.set_cons_zero, List.set_cons_succ]
        refine takeHd (i := 8) (v := ?v8) rfl rfl (by kernel_rfl) (by kernel_rfl) (by kernel_rfl) (fun _ _ _ h => h) rfl ?hy8 hS ?rs8
        case hy8 => (intro wq hq; obtain ⟨hq1, hq2, hq3⟩ := hq; go_simp; try (with_reducible rfl))
        simp only [Act.put, List.setIfInBounds_toArray, List.set_cons_zero, List.set_cons_succ]
        refine takeHd (i := 9) (v := ?v9) rfl rfl (by kernel_rfl) (by kernel_rfl) (by kernel_rfl) (fun _ _ _ h => h) rfl ?hy9 hS ?rs9
        case hy9 => (intro wq hq; obtain ⟨hq1, hq2, hq3⟩ := hq; go_simp; try (with_reducible rfl))
        simp only [Act.put, List.setIfInBounds_toArray, List.set_cons_zero, List.set_cons_succ]
        refine takeHd (i := 10) (v := ?v10) rfl rfl (by kernel_rfl) (by kernel_rfl) (by kernel_rfl) (fun _ _ _ h => h) rfl ?hy10 hS ?rs10
        case hy10 => (intro wq hq; obtain ⟨hq1, hq2, hq3⟩ := hq; go_simp; try (with_reducible rfl))
        simp only [Act.put, List.setIfInBounds_toArray, List.set_cons_zero, List.set_cons_succ]
        refine takeHd (i := 11) (v := ?v11) rfl rfl (by kernel_rfl) (by kernel_rfl) (by kernel_rfl) (fun _ _ _ h => h) rfl ?hy11 hS ?rs11
        case hy11 => (intro wq hq; obtain ⟨hq1, hq2, hq3⟩ := hq; go_simp; try (with_reducible rfl))
        simp only [Act.put, List.setIfInBounds_toArray, List.set_cons_zero, List.set_cons_succ]
        refine takeHd (i := 13) (v := ?v13) rfl rfl (by kernel_rfl) (by kernel_rfl) (by kernel_rfl) (fun _ _ _ h => h) rfl ?hy13 hS ?rs13
        case hy13 => (intro wq hq; obtain ⟨hq1, hq2, hq3⟩ := hq; go_simp; try (with_reducible rfl))
        simp only [Act.put, List.setIfInBounds_toArray, List.set_cons_zero, List.set_cons_succ]
        refine takeHd (i := 14) (v := ?v14) rfl rfl (by kernel_rfl) (by kernel_rfl) (by kernel_rfl) (fun _ _ _ h => h) rfl ?hy14 hS ?rs14
        case hy14 => (intro wq hq; obtain ⟨hq1, hq2, hq3⟩ := hq; go_simp; try (with_reducible rfl))
        simp only [Act.put, List.setIfInBounds_toArray, List.set_cons_zero, List.set_cons_succ]
        refine takeHd (i := 15) (v := ?v15) rfl rfl (by kernel_rfl) (by kernel_rfl) (by kernel_rfl) (fun _ _ _ h => h) rfl ?hy15 hS ?rs15
        case hy15 => (intro wq hq; obtain ⟨hq1, hq2, hq3⟩ := hq; go_simp; try (with_reducible rfl))
        simp only [Act.put, List.setIfInBounds_toArray, List.set_cons_zero, List.set_cons_succ]
        refine takeHd (i := 16) (v := ?v16) rfl rfl (by kernel_rfl) (by kernel_rfl) (by kernel_rfl) (fun _ _ _ h => h) rfl ?hy16 hS ?rs16
        case hy16 => (intro wq hq; obtain ⟨hq1, hq2, hq3⟩ := hq; go_simp; try (with_reducible rfl))
        simp only [Act.put, List.setIfInBounds_toArray, List.set_cons_zero, List.set_cons_succ]
        refine wpAnyH_ready (rs := [12]) (by kernel_rfl) (by simp) ?_
        refine AllReadyH.cons rfl (fun K hK => ?_) AllReadyH.nil
        go_simp
        refine (implxor_any B gp PT HP.out x y _ (by rw [HLN.out]; have := HLT2.out; omega) wd HSD.out).mono ?_
        rintro e w6 ⟨rfl, hs2, ha2⟩
        rw [HLN.out] at *
        have HA2 := Lib.hid (HAD.out.trans ha2)
        have HO2 := Lib.hid (own_ad gt_i16 HP2.out HOD.out ha2)
        have HS2 := Lib.hid hs2
        clear hs2 ha2 HAD HSD HOD
        refine hK.out _ w6 (HCX.out _ HA2.out) (fun hS => ?_)
        clear hK
        try simp only [Act.put, List.setIfInBounds_toArray, List.set_cons_zero, List.set_cons_succ]
        refine wpAnyH_ready (rs := [17]) (by kernel_rfl) (by simp) ?_
        refine AllReadyH.cons rfl (fun K hK => ?_) AllReadyH.nil
        go_simp
        have hq := implxor_any B gp PT HP.out ((P4.1.length + 2 * j : Nat) : Int) z _ (by rw [HLN2.out]; have := HLT2.out; omega) w6 HS2.out
        rw [HE.out, HLN2.out] at hq
        push_cast at hq
        refine hq.mono ?_
        clear hq
        rintro e w7 ⟨rfl, hs2, ha2⟩
        have HA3 := Lib.hid (HA2.out.trans ha2)
        have HO3 := Lib.hid (own_ad gt_i16 HP2.out HO2.out ha2)
        have HS3 := Lib.hid hs2
        clear hs2 ha2 HA2 HS2 HO2
        refine hK.out _ w7 (HCX.out _ HA3.out) (fun hS => ?_)
        clear hK
        obtain ⟨nk, hnk⟩ : ∃ nk : Nat, nk = P4.1.length + 2 * j + 1 := ⟨_, rfl⟩
        have hnk2 : (P4.1.length : Int) + 2 * (j : Int) + 1 = (nk : Int) := by omega
        rw [hnk2]
        have HNK := Lib.hid hnk
        clear hnk hnk2
        try simp only [Act.put, List.setIfInBounds_toArray, List.set_cons_zero, List.set_cons_succ]
        refine takeHd (i := 18) (v := ?v18) rfl rfl (by kernel_rfl) (by kernel_rfl) (by kernel_rfl) (fun _ _ _ h => h) rfl ?hy18 hS ?rs18
        case hy18 => (intro wq hq; obtain ⟨hq1, hq2, hq3⟩ := hq; go_simp; try (with_reducible rfl))
        simp only [Act.put, List.setIfInBounds_toArray, List.set_cons_zero, List.set_cons_succ]
        obtain ⟨y0, hy0⟩ : ∃ y, (i16s (rowF2 P4.1.length n j))[j]? = some y := ⟨_, List.getElem?_eq_getElem (by rw [List.length_map, rowF2_len _ _ _ hj]; exact hlt)⟩
        have q2 : w7.cell? ⟨g, j, none⟩ = some y0 := (HO3.out.cellAt j (by omega)).trans hy0
        have q3 : w7.frozen? ⟨g, j, none⟩ = false := HO3.out.frozenAt j
        have h4 := (HO3.out.stored j (.int .i16 (nk : Int))).1
        rw [← List.map_set, HNK.out, rowF2_set _ _ _ hlt, ← HNK.out] at h4
        have H4 := Lib.hid h4
        have H5 := Lib.hid (HA3.out.after (grown_putd w7 g j (.int .i16 (nk : Int))) (fun z hz => by have := HGW.out; cases hz; omega) SB.out SL.out)
        have H6 := Lib.hid (HS3.out.grown HP2.out (grown_putd w7 g j (.int .i16 (nk : Int))) (fun z hz => by
          cases hz
          obtain ⟨cr, h⟩ := own_type HO3.out g rfl
          exact ⟨cr, _, h⟩))
        clear h4 hy0 HO3 HA3 HS3
        refine wpAnyH_ready (rs := [19]) (by kernel_rfl) (by simp) ?_
        refine AllReadyH.cons rfl (fun K hK => ?_) AllReadyH.nil
        go_simp
        refine hK.out _ (w7.setCell ⟨g, j, none⟩ (.int .i16 (nk : Int))) (HCX.out _ H5.out) (fun hS => ?_)
        clear hK
        generalize w7.setCell ⟨g, j, none⟩ (.int .i16 (nk : Int)) = w8 at hS H4 H5 H6 ⊢
        try simp only [Act.put, List.setIfInBounds_toArray, List.set_cons_zero, List.set_cons_succ]
        refine wpAnyH_done (by kernel_rfl) ?_ _
        go_wp2_with fail
        exact ⟨⟨j + 1, by go_num, by omega, H5, H6, H4⟩, by simp [intOf]; omega⟩

      · obtain rfl : j = n := by omega
        have JT1 : decide ((j : Int) < (j : Int)) = false := by simp
        obtain ⟨g5, hg⟩ : ∃ g5, g5 = P4.1 ++ crossG P4.1.length P1.2 P2.2 P3.2 j := ⟨_, rfl⟩
        obtain ⟨l5, hl⟩ : ∃ l5, l5 = outs2 P4.1.length j := ⟨_, rfl⟩
        have LG5 := Lib.hid (show g5.length = P4.1.length + 2 * j from by rw [hg, List.length_append, crossG_len])
        have LL5 := Lib.hid (show l5.length = j from by rw [hl, outs2_len])
        have ho2 := own_low (by have h := HO.out; rw [rowF2_end] at h; exact h) (Nat.le_of_eq HGW.out.symm)
        have S5 := HS.out
        rw [← hg] at S5
        rw [← hl] at ho2
        have tl5 := TL.of_own (xs := l5) (by rw [LL5.out]; exact ho2) (by rw [LL5.out]; omega) (by rw [hl]; exact outs2_w _ _ (by have := HG.out; have := LG1.out; have := LG2.out; have := LG3.out; have := LG4.out; omega))
        replace S := Lib.hid S5
        have EQ5 := Lib.hid hg; have EL5 := Lib.hid hl
        replace T1 := Lib.hid (T1.out.ad HP2.out HA.out); replace T4 := Lib.hid (T4.out.ad HP2.out HA.out)
        replace A := Lib.hid (A.out.trans HA.out)
        obtain ⟨b5, o5, c5, e5, _, _⟩ := tl5.form
        rw [LL5.out] at e5
        cases e5
        have T5 := Lib.hid tl5
        clear hg hl ho2 S5 tl5 HA HS HO
        go_wp2_with fail
        refine (implLower_any k j HN.out B gp PT HP.out HP2.out _ _ P1.2 P4.2 g5 HK.out LL1.out LL4.out (by have := HG.out; have := LG1.out; have := LG2.out; have := LG3.out; have := LG4.out; have := LG5.out; omega) wr S.out T1.out T4.out).mono ?_
        rintro e w7 ⟨r7, rfl, hs, ho, ha⟩
        have hlen := halfG_len k P1.2 g5 (LL1.out.trans HN.out)
        obtain ⟨P6, hg⟩ : ∃ P6, P6 = halfG k P1.2 g5 := ⟨_, rfl⟩
        rw [← hg] at hs ho hlen
        have LG6 := Lib.hid hlen.1; have EQ6 := Lib.hid hg
        clear hlen hg
        obtain ⟨g7, hg⟩ : ∃ g7, g7 = P6.1 ++ pairG 2 P4.2 P6.2 j := ⟨_, rfl⟩
        rw [← hg] at hs
        have LG7 := Lib.hid (show g7.length = P6.1.length + j from by rw [hg, List.length_append, pairG_len])
        have EQ7 := Lib.hid hg
        obtain ⟨l7, hl⟩ : ∃ l7, l7 = outsL P6.1.length j := ⟨_, rfl⟩
        have ho2 : w7.ownsRow wr.heap.size 86 1 r7 l7.length (i16s l7) := by rw [hl, outsL_len]; exact ho
        have LL7 := Lib.hid (show l7.length = j from by rw [hl, outsL_len])
        have EL7 := Lib.hid hl
        have tl7 := TL.of_own ho2 (by rw [LL7.out]; omega) (by rw [hl]; exact outsL_w _ _ (by have := HG.out; have := LG1.out; have := LG2.out; have := LG3.out; have := LG4.out; have := LG5.out; have := LG6.out; omega))
        replace T1 := Lib.hid (T1.out.ad HP2.out ha)
        replace T4 := Lib.hid (T4.out.ad HP2.out ha)
        replace T5 := Lib.hid (T5.out.ad HP2.out ha)
        replace A := Lib.hid (A.out.trans ha)
        replace S := Lib.hid hs
        obtain ⟨b7, o7, c7, rfl, _, _⟩ := tl7.form
        rw [LL7.out] at tl7 ⊢
        have T7 := Lib.hid tl7
        rw [LL7.out] at ho2
        have O7 := Lib.hid ho2
        clear hs ha hg tl7 ho2 ho hl
        have EE := Lib.hid (timesG_succ k j HN.out xs ys l5 l7 gs g5 g7 P1 P2 P3 P4 P6 EQ1.out EQ2.out EQ3.out EQ4.out EQ5.out EL5.out EQ6.out EQ7.out EL7.out)
        have hb5 := (nw1 w7 (.cells #[.slice (some ⟨b7, o7, none⟩) j c7, .slice (some ⟨g, 0, none⟩) j j] 72)).2.1
        have hcc := concat2_any (.slice (some ⟨b7, o7, none⟩) j c7) (.slice (some ⟨g, 0, none⟩) j j) l7 l5 w7.heap.size (by rw [LL7.out]; omega) (by rw [LL7.out]; omega) (by rw [LL5.out]; omega) _ (by simp) (cell2_0 w7 _ _ _) (cell2_1 w7 _ _ _) (T7.out.below hb5) (T5.out.below hb5)
        have HCC := Lib.hid hcc; have HB5 := Lib.hid hb5
        clear hcc hb5
        go_wp2_with fail
        refine HCC.out.mono ?_
        rintro e wz ⟨r, rfl, ho, hb⟩
        have HBZ := Lib.hid (HB5.out.trans (hb.mono HB5.out.size))
        have HO := Lib.hid ho
        clear ho hb
        go_wp2_with fail
        go_ret
        rw [EE.out]
        exact ⟨_, rfl, S.out.below HBZ.out, own_low HO.out (by have := A.out.size; have := HB5.out.size; omega), A.out.trans (AD.of_below HBZ.out S.out.1 S.out.lt)⟩

set_option maxHeartbeats 8000000 in
set_option maxRecDepth 100000 in
theorem specTimes_any : ∀ (k : Nat) (B gp : Nat) (PT : TypeId) (hP : PT ≠ 88) (hP2 : 86 ≠ PT) (v u : Value) (xs ys : List Int) (gs : List G3) (hk : k ≤ 3) (hx : xs.length = 2 ^ k) (hy : ys.length = 2 ^ k) (hg : gs.length + tcN k ≤ 10000) (w : World) (h : ST B gp PT w gs) (h1 : TL w v xs) (h2 : TL w u ys),
    Calls Tryd.prog 87 #[.pointer (some ⟨gp, 0, none⟩), v, u] w fun e w' => ∃ r, e = .returned r ∧ ST B gp PT w' (timesG k xs ys gs).1 ∧ w'.ownsRow w.heap.size 86 1 r (timesG k xs ys gs).2.length (i16s (timesG k xs ys gs).2) ∧ AD B gp PT w w' := by
  intro k
  induction k with
  | zero =>
    intro B gp PT hP hP2 v u xs ys gs hk hx hy hg w h h1 h2
    have S := Lib.hid h; have H1 := Lib.hid h1; have H2 := Lib.hid h2; have HP := Lib.hid hP; have HP2 := Lib.hid hP2
    have HX := Lib.hid (show xs.length = 1 from hx); have HY := Lib.hid (show ys.length = 1 from hy)
    have HG := Lib.hid hg
    obtain ⟨b, off, c, rfl, _, _⟩ := h1.form
    obtain ⟨b', off', c', rfl, _, _⟩ := h2.form
    rw [HX.out] at H1 ⊢
    rw [HY.out] at H2 ⊢
    clear h h1 h2 hP hP2 hx hy hg
    obtain ⟨x, hx⟩ : ∃ x, x = xs.getD 0 0 := ⟨_, rfl⟩
    obtain ⟨y, hy⟩ : ∃ y, y = ys.getD 0 0 := ⟨_, rfl⟩
    have HCX : Hid (∀ W, AD B gp PT w W → W.cell? ⟨b, off, none⟩ = some (.int .i16 x) ∧ W.cell? ⟨b', off', none⟩ = some (.int .i16 y)) := Lib.hid (fun W hW => by
      obtain ⟨_, _, _, e, hw1, d1⟩ := (H1.out.ad HP2.out hW).at 0 (by rw [HX.out]; omega)
      rw [HX.out] at e
      cases e
      obtain ⟨_, _, _, e, hw2, d2⟩ := (H2.out.ad HP2.out hW).at 0 (by rw [HY.out]; omega)
      rw [HY.out] at e
      cases e
      rw [← hx] at d1; rw [← hy] at d2
      exact ⟨d1, d2⟩)
    have HE := Lib.hid (show gs ++ [(3, x, y)] = gs ++ pairG 3 xs ys 1 from by rw [hx, hy]; rfl)
    have HEO := Lib.hid (show outsL gs.length 1 = [((gs.length : Nat) : Int)] from rfl)
    clear hx hy
    go_enter Tryd.func87, Tryd.ntmps87
    go_upto_region 3 with fail
    refine wp_region_held_drew (S := fun u => u.cell? ⟨b, off, none⟩ = some (.int .i16 x) ∧ u.cell? ⟨b', off', none⟩ = some (.int .i16 y)) (by kernel_rfl) ?hS0 (fun hS => ?_)
    case hS0 => exact HCX.out _ (AD.refl B gp PT w).drew
    have HAD := Lib.hid (AD.refl B gp PT w).drew
    have HSD : Hid (ST B gp PT w.drew gs) := Lib.hid S.out
    have HWS := Lib.hid (show w.drew.heap.size = w.heap.size from rfl)
    generalize w.drew = wd at hS HAD HSD HWS ⊢
    refine takeHd (i := 0) (v := ?v0) rfl rfl (by kernel_rfl) (by kernel_rfl) (by kernel_rfl) (fun _ _ _ h => h) rfl ?hy0 hS ?rs0
    case hy0 => (intro wq hq; obtain ⟨hq1, hq2⟩ := hq; go_simp; try (with_reducible rfl))
    simp only [Act.put, List.setIfInBounds_toArray, List.set_cons_zero, List.set_cons_succ]
    refine takeHd (i := 1) (v := ?v1) rfl rfl (by kernel_rfl) (by kernel_rfl) (by kernel_rfl) (fun _ _ _ h => h) rfl ?hy1 hS ?rs1
    case hy1 => (intro wq hq; obtain ⟨hq1, hq2⟩ := hq; go_simp; try (with_reducible rfl))
    simp only [Act.put, List.setIfInBounds_toArray, List.set_cons_zero, List.set_cons_succ]
    refine takeHd (i := 2) (v := ?v2) rfl rfl (by kernel_rfl) (by kernel_rfl) (by kernel_rfl) (fun _ _ _ h => h) rfl ?hy2 hS ?rs2
    case hy2 => (intro wq hq; obtain ⟨hq1, hq2⟩ := hq; go_simp; try (with_reducible rfl))
    simp only [Act.put, List.setIfInBounds_toArray, List.set_cons_zero, List.set_cons_succ]
    refine takeHd (i := 3) (v := ?v3) rfl rfl (by kernel_rfl) (by kernel_rfl) (by kernel_rfl) (fun _ _ _ h => h) rfl ?hy3 hS ?rs3
    case hy3 => (intro wq hq; obtain ⟨hq1, hq2⟩ := hq; go_simp; try (with_reducible rfl))
    simp only [Act.put, List.setIfInBounds_toArray, List.set_cons_zero, List.set_cons_succ]
    refine takeHd (i := 4) (v := ?v4) rfl rfl (by kernel_rfl) (by kernel_rfl) (by kernel_rfl) (fun _ _ _ h => h) rfl ?hy4 hS ?rs4
    case hy4 => (intro wq hq; obtain ⟨hq1, hq2⟩ := hq; go_simp; try (with_reducible rfl))
    simp only [Act.put, List.setIfInBounds_toArray, List.set_cons_zero, List.set_cons_succ]
    refine takeHd (i := 5) (v := ?v5) rfl rfl (by kernel_rfl) (by kernel_rfl) (by kernel_rfl) (fun _ _ _ h => h) rfl ?hy5 hS ?rs5
    case hy5 => (intro wq hq; obtain ⟨hq1, hq2⟩ := hq; go_simp; try (with_reducible rfl))
    simp only [Act.put, List.setIfInBounds_toArray, List.set_cons_zero, List.set_cons_succ]
    refine takeHd (i := 6) (v := ?v6) rfl rfl (by kernel_rfl) (by kernel_rfl) (by kernel_rfl) (fun _ _ _ h => h) rfl ?hy6 hS ?rs6
    case hy6 => (intro wq hq; obtain ⟨hq1, hq2⟩ := hq; go_simp; try (with_reducible rfl))
    simp only [Act.put, List.setIfInBounds_toArray, List.set_cons_zero, List.set_cons_succ]
    refine wpAnyH_ready (rs := [7]) (by kernel_rfl) (by simp) ?_
    refine AllReadyH.cons rfl (fun K hK => ?_) AllReadyH.nil
    go_simp
    refine (specAdd_any B gp PT HP.out 3 x y _ (by have := HG.out; omega) wd HSD.out).mono ?_
    rintro e w2 ⟨rfl, hs2, ha2⟩
    rw [HE.out] at hs2
    have HA2 := Lib.hid (HAD.out.trans ha2)
    have HS2 := Lib.hid hs2
    clear hs2 ha2 HAD HSD
    refine hK.out _ w2 (HCX.out _ HA2.out) (fun hS => ?_)
    clear hK
    try simp only [Act.put, List.setIfInBounds_toArray, List.set_cons_zero, List.set_cons_succ]
    refine wpAnyH_ready (rs := [8]) (by kernel_rfl) (by simp) ?_
    refine AllReadyH.cons rfl (fun K hK => ?_) AllReadyH.nil
    go_simp
    have hb := (nw1 w2 (.cells #[.int .i16 ((gs.length : Nat) : Int)] 86)).2.1
    have HAA := Lib.hid (HA2.out.trans (AD.of_below hb S.out.1 HS2.out.lt))
    have HSA := Lib.hid (HS2.out.below hb)
    have HO : Hid ((w2.alloc (.cells #[.int .i16 ((gs.length : Nat) : Int)] 86)).ownsRow w.heap.size 86 1 (.slice (some ⟨w2.heap.size, 0, none⟩) 1 1) (outsL gs.length 1).length (i16s (outsL gs.length 1))) := Lib.hid (by
      rw [HEO.out]
      exact ⟨by simp, .inr ⟨w2.heap.size, 1, #[.int .i16 ((gs.length : Nat) : Int)], rfl, HA2.out.size, heap_alloc_new w2 _, Nat.le_refl 1, by unfold maxLen; decide, rfl, by simp⟩⟩)
    refine hK.out _ (w2.alloc (.cells #[.int .i16 ((gs.length : Nat) : Int)] 86)) (HCX.out _ HAA.out) (fun hS => ?_)
    clear hK hb
    try simp only [Act.put, List.setIfInBounds_toArray, List.set_cons_zero, List.set_cons_succ]
    generalize w2.alloc (.cells #[.int .i16 ((gs.length : Nat) : Int)] 86) = wa at hS HAA HSA HO ⊢
    refine takeHd (i := 9) (v := ?v9) rfl rfl (by kernel_rfl) (by kernel_rfl) (by kernel_rfl) (fun _ _ _ h => h) rfl ?hy9 hS ?rs9
    case hy9 => (intro wq hq; obtain ⟨hq1, hq2⟩ := hq; go_simp; try (with_reducible rfl))
    simp only [Act.put, List.setIfInBounds_toArray, List.set_cons_zero, List.set_cons_succ]
    refine wpAnyH_done (by kernel_rfl) ?_ _
    go_wp2_with fail
    go_ret
    exact ⟨_, rfl, HSA.out, HO.out, HAA.out⟩

  | succ k ih =>
    intro B gp PT hP hP2 v u xs ys gs hk hx hy hg w h h1 h2
    have S := Lib.hid h; have H1 := Lib.hid h1; have H2 := Lib.hid h2; have IH := Lib.hid ih
    have HP := Lib.hid hP; have HP2 := Lib.hid hP2
    obtain ⟨n, hn⟩ : ∃ n, n = 2 ^ k := ⟨_, rfl⟩
    have hn1 : 1 ≤ n := by rw [hn]; exact Nat.one_le_two_pow
    have hn4 : n ≤ 4 := by rw [hn]; exact Nat.pow_le_pow_right (by omega) (show k ≤ 2 by omega)
    have hxn : xs.length = n + n := by rw [hx, Nat.pow_succ, ← hn]; omega
    have hyn : ys.length = n + n := by rw [hy, Nat.pow_succ, ← hn]; omega
    have HG : Hid (gs.length + (4 * tcN k + hcN k + 3 * n) ≤ 10000) := Lib.hid (by rw [hn]; exact hg)
    obtain ⟨b, off, c, rfl, hcl, hcm⟩ := h1.form
    obtain ⟨b', off', c', rfl, hcl', hcm'⟩ := h2.form
    rw [hxn] at hcl H1 ⊢
    rw [hyn] at hcl' H2 ⊢
    have td := H1.out.drop n (by omega); have ta := H1.out.take n (by omega)
    have ud := H2.out.drop n (by omega); have ua := H2.out.take n (by omega)
    rw [show n + n - n = n from by omega] at td ud
    have X1 := Lib.hid td; have X0 := Lib.hid ta; have Y1 := Lib.hid ud; have Y0 := Lib.hid ua
    have LX1 := Lib.hid (show (xs.drop n).length = n from by rw [List.length_drop, hxn]; omega)
    have LX0 := Lib.hid (show (xs.take n).length = n from by rw [List.length_take, hxn]; omega)
    have LY1 := Lib.hid (show (ys.drop n).length = n from by rw [List.length_drop, hyn]; omega)
    have LY0 := Lib.hid (show (ys.take n).length = n from by rw [List.length_take, hyn]; omega)
    have HK : Hid (k ≤ 3) := Lib.hid (by omega)
    have HN := Lib.hid hn
    obtain ⟨m, hm⟩ : ∃ m, m = n + n := ⟨_, rfl⟩
    clear ih td ta ud ua hx hy hg hxn hyn hP hP2 h h1 h2 H1 H2 hk hn
    have e1 : ((m : Nat) : Int).tdiv 2 = (n : Int) := by rw [Int.tdiv_eq_ediv_of_nonneg (by omega)]; omega
    have e2 : ((m : Nat) : Int) / 2 = (n : Int) := by omega
    have e3 : m - n = n := by omega
    have e4 : (n : Int) ≤ (m : Int) := by omega
    have e5 : (n : Int) ≤ (c : Int) := by omega
    have e6 : (m : Int) ≤ (c : Int) := by omega
    have e7 : (c = n) = False := by simp; omega
    have e8 : ((n : Int) == 0) = false := by simp; omega
    have e9 : c ≤ 9223372036854775807 := by unfold maxLen at hcm; omega
    have f5 : (n : Int) ≤ (c' : Int) := by omega
    have f6 : (m : Int) ≤ (c' : Int) := by omega
    have f7 : (c' = n) = False := by simp; omega
    have f9 : c' ≤ 9223372036854775807 := by unfold maxLen at hcm'; omega
    have HM := Lib.hid hm
    rw [← hm]
    clear hm hcl hcm hcl' hcm'
    have A := Lib.hid (AD.refl B gp PT w)
    go_enter Tryd.func87, Tryd.ntmps87

    have SB := Lib.hid S.out.1; have SL := Lib.hid S.out.lt
    go_upto_region 4 with fail
    refine wp_region_held_drew (S := fun _ => True) (by kernel_rfl) ?hS0 (fun hS => ?_)
    case hS0 => trivial
    refine takeHd (i := 0) (v := ?v0p) rfl rfl (by kernel_rfl) (by kernel_rfl) (by kernel_rfl) (fun _ _ _ h => h) rfl ?hy0p hS ?rs0p
    case hy0p => (intro wq hq; go_simp; try (with_reducible rfl))
    simp only [Act.put, List.setIfInBounds_toArray, List.set_cons_zero, List.set_cons_succ]
    refine takeHd (i := 1) (v := ?v1p) rfl rfl (by kernel_rfl) (by kernel_rfl) (by kernel_rfl) (fun _ _ _ h => h) rfl ?hy1p hS ?rs1p
    case hy1p => (intro wq hq; go_simp; try (with_reducible rfl))
    simp only [Act.put, List.setIfInBounds_toArray, List.set_cons_zero, List.set_cons_succ]
    refine takeHd (i := 2) (v := ?v2p) rfl rfl (by kernel_rfl) (by kernel_rfl) (by kernel_rfl) (fun _ _ _ h => h) rfl ?hy2p hS ?rs2p
    case hy2p => (intro wq hq; go_simp; try (with_reducible rfl))
    simp only [Act.put, List.setIfInBounds_toArray, List.set_cons_zero, List.set_cons_succ]
    refine takeHd (i := 3) (v := ?v3p) rfl rfl (by kernel_rfl) (by kernel_rfl) (by kernel_rfl) (fun _ _ _ h => h) rfl ?hy3p hS ?rs3p
    case hy3p => (intro wq hq; go_simp; try (with_reducible rfl))
    simp only [Act.put, List.setIfInBounds_toArray, List.set_cons_zero, List.set_cons_succ]
    refine takeHd (i := 4) (v := ?v4p) rfl rfl (by kernel_rfl) (by kernel_rfl) (by kernel_rfl) (fun _ _ _ h => h) rfl ?hy4p hS ?rs4p
    case hy4p => (intro wq hq; go_simp; try (with_reducible rfl))
    simp only [Act.put, List.setIfInBounds_toArray, List.set_cons_zero, List.set_cons_succ]
    refine takeHd (i := 5) (v := ?v5p) rfl rfl (by kernel_rfl) (by kernel_rfl) (by kernel_rfl) (fun _ _ _ h => h) rfl ?hy5p hS ?rs5p
    case hy5p => (intro wq hq; go_simp; try (with_reducible rfl))
    simp only [Act.put, List.setIfInBounds_toArray, List.set_cons_zero, List.set_cons_succ]
    refine takeHd (i := 6) (v := ?v6p) rfl rfl (by kernel_rfl) (by kernel_rfl) (by kernel_rfl) (fun _ _ _ h => h) rfl ?hy6p hS ?rs6p
    case hy6p => (intro wq hq; go_simp; try (with_reducible rfl))
    simp only [Act.put, List.setIfInBounds_toArray, List.set_cons_zero, List.set_cons_succ]
    refine wpAnyH_ready (rs := [7]) (by kernel_rfl) (by simp) ?_
    refine AllReadyH.cons rfl (fun K hK => ?_) AllReadyH.nil
    go_simp
    refine (IH.out B gp PT HP.out HP2.out _ _ (xs.drop n) (ys.drop n) gs HK.out (LX1.out.trans HN.out) (LY1.out.trans HN.out) (by have := HG.out; omega) w.drew S.out X1.out Y1.out).mono ?_
    rintro e w1 ⟨r1, rfl, hs, ho2, ha⟩
    have hlen := timesG_len k (xs.drop n) (ys.drop n) gs (LX1.out.trans HN.out) (LY1.out.trans HN.out)
    have hww := timesG_w k (xs.drop n) (ys.drop n) gs (LX1.out.trans HN.out) (LY1.out.trans HN.out) (by have := HG.out; omega)
    obtain ⟨P1, hg⟩ : ∃ P1, P1 = timesG k (xs.drop n) (ys.drop n) gs := ⟨_, rfl⟩
    rw [← hg] at hs ho2 hlen hww
    have LG1 := Lib.hid hlen.1; have LL1 := Lib.hid (hlen.2.trans HN.out.symm); have EQ1 := Lib.hid hg
    have tl1 := TL.of_own ho2 (by rw [LL1.out]; omega) hww
    clear hlen hww
    replace ha := (AD.refl B gp PT w).drew.trans ha
    replace X1 := Lib.hid (X1.out.ad HP2.out ha)
    replace X0 := Lib.hid (X0.out.ad HP2.out ha)
    replace Y1 := Lib.hid (Y1.out.ad HP2.out ha)
    replace Y0 := Lib.hid (Y0.out.ad HP2.out ha)
    replace A := Lib.hid (A.out.trans ha)
    replace S := Lib.hid hs
    obtain ⟨b1, o1, c1, rfl, _, _⟩ := tl1.form
    rw [LL1.out] at tl1 ⊢
    have T1 := Lib.hid tl1
    rw [LL1.out] at ho2
    have O1 := Lib.hid ho2
    refine hK.out _ w1 trivial (fun hS => ?_)
    clear hK
    clear hs ha hg tl1 ho2
    try simp only [Act.put, List.setIfInBounds_toArray, List.set_cons_zero, List.set_cons_succ]
    refine takeHd (i := 8) (v := ?v8p) rfl rfl (by kernel_rfl) (by kernel_rfl) (by kernel_rfl) (fun _ _ _ h => h) rfl ?hy8p hS ?rs8p
    case hy8p => (intro wq hq; go_simp; try (with_reducible rfl))
    simp only [Act.put, List.setIfInBounds_toArray, List.set_cons_zero, List.set_cons_succ]
    refine wpAnyH_done (by kernel_rfl) ?_ _
    go_upto_region 5 with fail
    refine wp_region_held_drew (S := fun _ => True) (by kernel_rfl) ?hS0 (fun hS => ?_)
    case hS0 => trivial
    refine takeHd (i := 0) (v := ?v0q) rfl rfl (by kernel_rfl) (by kernel_rfl) (by kernel_rfl) (fun _ _ _ h => h) rfl ?hy0q hS ?rs0q
    case hy0q => (intro wq hq; go_simp; try (with_reducible rfl))
    simp only [Act.put, List.setIfInBounds_toArray, List.set_cons_zero, List.set_cons_succ]
    refine takeHd (i := 1) (v := ?v1q) rfl rfl (by kernel_rfl) (by kernel_rfl) (by kernel_rfl) (fun _ _ _ h => h) rfl ?hy1q hS ?rs1q
    case hy1q => (intro wq hq; go_simp; try (with_reducible rfl))
    simp only [Act.put, List.setIfInBounds_toArray, List.set_cons_zero, List.set_cons_succ]
    refine takeHd (i := 2) (v := ?v2q) rfl rfl (by kernel_rfl) (by kernel_rfl) (by kernel_rfl) (fun _ _ _ h => h) rfl ?hy2q hS ?rs2q
    case hy2q => (intro wq hq; go_simp; try (with_reducible rfl))
    simp only [Act.put, List.setIfInBounds_toArray, List.set_cons_zero, List.set_cons_succ]
    refine takeHd (i := 3) (v := ?v3q) rfl rfl (by kernel_rfl) (by kernel_rfl) (by kernel_rfl) (fun _ _ _ h => h) rfl ?hy3q hS ?rs3q
    case hy3q => (intro wq hq; go_simp; try (with_reducible rfl))
    simp only [Act.put, List.setIfInBounds_toArray, List.set_cons_zero, List.set_cons_succ]
    refine takeHd (i := 4) (v := ?v4q) rfl rfl (by kernel_rfl) (by kernel_rfl) (by kernel_rfl) (fun _ _ _ h => h) rfl ?hy4q hS ?rs4q
    case hy4q => (intro wq hq; go_simp; try (with_reducible rfl))
    simp only [Act.put, List.setIfInBounds_toArray, List.set_cons_zero, List.set_cons_succ]
    refine takeHd (i := 5) (v := ?v5q) rfl rfl (by kernel_rfl) (by kernel_rfl) (by kernel_rfl) (fun _ _ _ h => h) rfl ?hy5q hS ?rs5q
    case hy5q => (intro wq hq; go_simp; try (with_reducible rfl))
    simp only [Act.put, List.setIfInBounds_toArray, List.set_cons_zero, List.set_cons_succ]
    refine takeHd (i := 6) (v := ?v6q) rfl rfl (by kernel_rfl) (by kernel_rfl) (by kernel_rfl) (fun _ _ _ h => h) rfl ?hy6q hS ?rs6q
    case hy6q => (intro wq hq; go_simp; try (with_reducible rfl))
    simp only [Act.put, List.setIfInBounds_toArray, List.set_cons_zero, List.set_cons_succ]
    refine wpAnyH_ready (rs := [7]) (by kernel_rfl) (by simp) ?_
    refine AllReadyH.cons rfl (fun K hK => ?_) AllReadyH.nil
    go_simp
    refine (IH.out B gp PT HP.out HP2.out _ _ (xs.drop n) (ys.take n) P1.1 HK.out (LX1.out.trans HN.out) (LY0.out.trans HN.out) (by have := HG.out; have := LG1.out; omega) w1.drew S.out X1.out Y0.out).mono ?_
    rintro e w2 ⟨r2, rfl, hs, ho2, ha⟩
    have hlen := timesG_len k (xs.drop n) (ys.take n) P1.1 (LX1.out.trans HN.out) (LY0.out.trans HN.out)
    have hww := timesG_w k (xs.drop n) (ys.take n) P1.1 (LX1.out.trans HN.out) (LY0.out.trans HN.out) (by have := HG.out; have := LG1.out; omega)
    obtain ⟨P2, hg⟩ : ∃ P2, P2 = timesG k (xs.drop n) (ys.take n) P1.1 := ⟨_, rfl⟩
    rw [← hg] at hs ho2 hlen hww
    have LG2 := Lib.hid hlen.1; have LL2 := Lib.hid (hlen.2.trans HN.out.symm); have EQ2 := Lib.hid hg
    have tl2 := TL.of_own ho2 (by rw [LL2.out]; omega) hww
    clear hlen hww
    replace ha := (AD.refl B gp PT w1).drew.trans ha
    replace X1 := Lib.hid (X1.out.ad HP2.out ha)
    replace X0 := Lib.hid (X0.out.ad HP2.out ha)
    replace Y1 := Lib.hid (Y1.out.ad HP2.out ha)
    replace Y0 := Lib.hid (Y0.out.ad HP2.out ha)
    replace T1 := Lib.hid (T1.out.ad HP2.out ha)
    replace A := Lib.hid (A.out.trans ha)
    replace S := Lib.hid hs
    obtain ⟨b2, o2, c2, rfl, _, _⟩ := tl2.form
    rw [LL2.out] at tl2 ⊢
    have T2 := Lib.hid tl2
    rw [LL2.out] at ho2
    have O2 := Lib.hid ho2
    refine hK.out _ w2 trivial (fun hS => ?_)
    clear hK
    clear hs ha hg tl2 ho2
    try simp only [Act.put, List.setIfInBounds_toArray, List.set_cons_zero, List.set_cons_succ]
    refine takeHd (i := 8) (v := ?v8q) rfl rfl (by kernel_rfl) (by kernel_rfl) (by kernel_rfl) (fun _ _ _ h => h) rfl ?hy8q hS ?rs8q
    case hy8q => (intro wq hq; go_simp; try (with_reducible rfl))
    simp only [Act.put, List.setIfInBounds_toArray, List.set_cons_zero, List.set_cons_succ]
    refine wpAnyH_done (by kernel_rfl) ?_ _
    go_upto_region 6 with fail
    refine wp_region_held_drew (S := fun _ => True) (by kernel_rfl) ?hS0 (fun hS => ?_)
    case hS0 => trivial
    refine takeHd (i := 0) (v := ?v0r) rfl rfl (by kernel_rfl) (by kernel_rfl) (by kernel_rfl) (fun _ _ _ h => h) rfl ?hy0r hS ?rs0r
    case hy0r => (intro wq hq; go_simp; try (with_reducible rfl))
    simp only [Act.put, List.setIfInBounds_toArray, List.set_cons_zero, List.set_cons_succ]
    refine takeHd (i := 1) (v := ?v1r) rfl rfl (by kernel_rfl) (by kernel_rfl) (by kernel_rfl) (fun _ _ _ h => h) rfl ?hy1r hS ?rs1r
    case hy1r => (intro wq hq; go_simp; try (with_reducible rfl))
    simp only [Act.put, List.setIfInBounds_toArray, List.set_cons_zero, List.set_cons_succ]
    refine takeHd (i := 2) (v := ?v2r) rfl rfl (by kernel_rfl) (by kernel_rfl) (by kernel_rfl) (fun _ _ _ h => h) rfl ?hy2r hS ?rs2r
    case hy2r => (intro wq hq; go_simp; try (with_reducible rfl))
    simp only [Act.put, List.setIfInBounds_toArray, List.set_cons_zero, List.set_cons_succ]
    refine takeHd (i := 3) (v := ?v3r) rfl rfl (by kernel_rfl) (by kernel_rfl) (by kernel_rfl) (fun _ _ _ h => h) rfl ?hy3r hS ?rs3r
    case hy3r => (intro wq hq; go_simp; try (with_reducible rfl))
    simp only [Act.put, List.setIfInBounds_toArray, List.set_cons_zero, List.set_cons_succ]
    refine takeHd (i := 4) (v := ?v4r) rfl rfl (by kernel_rfl) (by kernel_rfl) (by kernel_rfl) (fun _ _ _ h => h) rfl ?hy4r hS ?rs4r
    case hy4r => (intro wq hq; go_simp; try (with_reducible rfl))
    simp only [Act.put, List.setIfInBounds_toArray, List.set_cons_zero, List.set_cons_succ]
    refine takeHd (i := 5) (v := ?v5r) rfl rfl (by kernel_rfl) (by kernel_rfl) (by kernel_rfl) (fun _ _ _ h => h) rfl ?hy5r hS ?rs5r
    case hy5r => (intro wq hq; go_simp; try (with_reducible rfl))
    simp only [Act.put, List.setIfInBounds_toArray, List.set_cons_zero, List.set_cons_succ]
    refine takeHd (i := 6) (v := ?v6r) rfl rfl (by kernel_rfl) (by kernel_rfl) (by kernel_rfl) (fun _ _ _ h => h) rfl ?hy6r hS ?rs6r
    case hy6r => (intro wq hq; go_simp; try (with_reducible rfl))
    simp only [Act.put, List.setIfInBounds_toArray, List.set_cons_zero, List.set_cons_succ]
    refine wpAnyH_ready (rs := [7]) (by kernel_rfl) (by simp) ?_
    refine AllReadyH.cons rfl (fun K hK => ?_) AllReadyH.nil
    go_simp
    refine (IH.out B gp PT HP.out HP2.out _ _ (xs.take n) (ys.drop n) P2.1 HK.out (LX0.out.trans HN.out) (LY1.out.trans HN.out) (by have := HG.out; have := LG1.out; have := LG2.out; omega) w2.drew S.out X0.out Y1.out).mono ?_
    rintro e w3 ⟨r3, rfl, hs, ho2, ha⟩
    have hlen := timesG_len k (xs.take n) (ys.drop n) P2.1 (LX0.out.trans HN.out) (LY1.out.trans HN.out)
    have hww := timesG_w k (xs.take n) (ys.drop n) P2.1 (LX0.out.trans HN.out) (LY1.out.trans HN.out) (by have := HG.out; have := LG1.out; have := LG2.out; omega)
    obtain ⟨P3, hg⟩ : ∃ P3, P3 = timesG k (xs.take n) (ys.drop n) P2.1 := ⟨_, rfl⟩
    rw [← hg] at hs ho2 hlen hww
    have LG3 := Lib.hid hlen.1; have LL3 := Lib.hid (hlen.2.trans HN.out.symm); have EQ3 := Lib.hid hg
    have tl3 := TL.of_own ho2 (by rw [LL3.out]; omega) hww
    clear hlen hww
    replace ha := (AD.refl B gp PT w2).drew.trans ha
    replace X1 := Lib.hid (X1.out.ad HP2.out ha)
    replace X0 := Lib.hid (X0.out.ad HP2.out ha)
    replace Y1 := Lib.hid (Y1.out.ad HP2.out ha)
    replace Y0 := Lib.hid (Y0.out.ad HP2.out ha)
    replace T1 := Lib.hid (T1.out.ad HP2.out ha)
    replace T2 := Lib.hid (T2.out.ad HP2.out ha)
    replace A := Lib.hid (A.out.trans ha)
    replace S := Lib.hid hs
    obtain ⟨b3, o3, c3, rfl, _, _⟩ := tl3.form
    rw [LL3.out] at tl3 ⊢
    have T3 := Lib.hid tl3
    rw [LL3.out] at ho2
    have O3 := Lib.hid ho2
    refine hK.out _ w3 trivial (fun hS => ?_)
    clear hK
    clear hs ha hg tl3 ho2
    try simp only [Act.put, List.setIfInBounds_toArray, List.set_cons_zero, List.set_cons_succ]
    refine takeHd (i := 8) (v := ?v8r) rfl rfl (by kernel_rfl) (by kernel_rfl) (by kernel_rfl) (fun _ _ _ h => h) rfl ?hy8r hS ?rs8r
    case hy8r => (intro wq hq; go_simp; try (with_reducible rfl))
    simp only [Act.put, List.setIfInBounds_toArray, List.set_cons_zero, List.set_cons_succ]
    refine wpAnyH_done (by kernel_rfl) ?_ _
    go_upto_region 7 with fail
    refine wp_region_held_drew (S := fun _ => True) (by kernel_rfl) ?hS0 (fun hS => ?_)
    case hS0 => trivial
    refine takeHd (i := 0) (v := ?v0u) rfl rfl (by kernel_rfl) (by kernel_rfl) (by kernel_rfl) (fun _ _ _ h => h) rfl ?hy0u hS ?rs0u
    case hy0u => (intro wq hq; go_simp; try (with_reducible rfl))
    simp only [Act.put, List.setIfInBounds_toArray, List.set_cons_zero, List.set_cons_succ]
    refine takeHd (i := 1) (v := ?v1u) rfl rfl (by kernel_rfl) (by kernel_rfl) (by kernel_rfl) (fun _ _ _ h => h) rfl ?hy1u hS ?rs1u
    case hy1u => (intro wq hq; go_simp; try (with_reducible rfl))
    simp only [Act.put, List.setIfInBounds_toArray, List.set_cons_zero, List.set_cons_succ]
    refine takeHd (i := 2) (v := ?v2u) rfl rfl (by kernel_rfl) (by kernel_rfl) (by kernel_rfl) (fun _ _ _ h => h) rfl ?hy2u hS ?rs2u
    case hy2u => (intro wq hq; go_simp; try (with_reducible rfl))
    simp only [Act.put, List.setIfInBounds_toArray, List.set_cons_zero, List.set_cons_succ]
    refine takeHd (i := 3) (v := ?v3u) rfl rfl (by kernel_rfl) (by kernel_rfl) (by kernel_rfl) (fun _ _ _ h => h) rfl ?hy3u hS ?rs3u
    case hy3u => (intro wq hq; go_simp; try (with_reducible rfl))
    simp only [Act.put, List.setIfInBounds_toArray, List.set_cons_zero, List.set_cons_succ]
    refine takeHd (i := 4) (v := ?v4u) rfl rfl (by kernel_rfl) (by kernel_rfl) (by kernel_rfl) (fun _ _ _ h => h) rfl ?hy4u hS ?rs4u
    case hy4u => (intro wq hq; go_simp; try (with_reducible rfl))
    simp only [Act.put, List.setIfInBounds_toArray, List.set_cons_zero, List.set_cons_succ]
    refine takeHd (i := 5) (v := ?v5u) rfl rfl (by kernel_rfl) (by kernel_rfl) (by kernel_rfl) (fun _ _ _ h => h) rfl ?hy5u hS ?rs5u
    case hy5u => (intro wq hq; go_simp; try (with_reducible rfl))
    simp only [Act.put, List.setIfInBounds_toArray, List.set_cons_zero, List.set_cons_succ]
    refine takeHd (i := 6) (v := ?v6u) rfl rfl (by kernel_rfl) (by kernel_rfl) (by kernel_rfl) (fun _ _ _ h => h) rfl ?hy6u hS ?rs6u
    case hy6u => (intro wq hq; go_simp; try (with_reducible rfl))
    simp only [Act.put, List.setIfInBounds_toArray, List.set_cons_zero, List.set_cons_succ]
    refine wpAnyH_ready (rs := [7]) (by kernel_rfl) (by simp) ?_
    refine AllReadyH.cons rfl (fun K hK => ?_) AllReadyH.nil
    go_simp
    refine (IH.out B gp PT HP.out HP2.out _ _ (xs.take n) (ys.take n) P3.1 HK.out (LX0.out.trans HN.out) (LY0.out.trans HN.out) (by have := HG.out; have := LG1.out; have := LG2.out; have := LG3.out; omega) w3.drew S.out X0.out Y0.out).mono ?_
    rintro e w4 ⟨r4, rfl, hs, ho2, ha⟩
    have hlen := timesG_len k (xs.take n) (ys.take n) P3.1 (LX0.out.trans HN.out) (LY0.out.trans HN.out)
    have hww := timesG_w k (xs.take n) (ys.take n) P3.1 (LX0.out.trans HN.out) (LY0.out.trans HN.out) (by have := HG.out; have := LG1.out; have := LG2.out; have := LG3.out; omega)
    obtain ⟨P4, hg⟩ : ∃ P4, P4 = timesG k (xs.take n) (ys.take n) P3.1 := ⟨_, rfl⟩
    rw [← hg] at hs ho2 hlen hww
    have LG4 := Lib.hid hlen.1; have LL4 := Lib.hid (hlen.2.trans HN.out.symm); have EQ4 := Lib.hid hg
    have tl4 := TL.of_own ho2 (by rw [LL4.out]; omega) hww
    clear hlen hww
    replace ha := (AD.refl B gp PT w3).drew.trans ha
    replace X1 := Lib.hid (X1.out.ad HP2.out ha)
    replace X0 := Lib.hid (X0.out.ad HP2.out ha)
    replace Y1 := Lib.hid (Y1.out.ad HP2.out ha)
    replace Y0 := Lib.hid (Y0.out.ad HP2.out ha)
    replace T1 := Lib.hid (T1.out.ad HP2.out ha)
    replace T2 := Lib.hid (T2.out.ad HP2.out ha)
    replace T3 := Lib.hid (T3.out.ad HP2.out ha)
    replace A := Lib.hid (A.out.trans ha)
    replace S := Lib.hid hs
    obtain ⟨b4, o4, c4, rfl, _, _⟩ := tl4.form
    rw [LL4.out] at tl4 ⊢
    have T4 := Lib.hid tl4
    rw [LL4.out] at ho2
    have O4 := Lib.hid ho2
    refine hK.out _ w4 trivial (fun hS => ?_)
    clear hK
    clear hs ha hg tl4 ho2
    try simp only [Act.put, List.setIfInBounds_toArray, List.set_cons_zero, List.set_cons_succ]
    refine takeHd (i := 8) (v := ?v8u) rfl rfl (by kernel_rfl) (by kernel_rfl) (by kernel_rfl) (fun _ _ _ h => h) rfl ?hy8u hS ?rs8u
    case hy8u => (intro wq hq; go_simp; try (with_reducible rfl))
    simp only [Act.put, List.setIfInBounds_toArray, List.set_cons_zero, List.set_cons_succ]
    refine wpAnyH_done (by kernel_rfl) ?_ _

    obtain ⟨i0, hi, hz0, hz1, hz2⟩ := info_parts infoI16
    have SB4 := Lib.hid S.out.1; have SL4 := Lib.hid S.out.lt
    obtain ⟨B2, hB2⟩ : ∃ B2, B2 = w4.heap.size := ⟨_, rfl⟩
    have HB2 := Lib.hid hB2
    clear hB2
    go_wp2_with fail
    have m1 : (w4.alloc (.cells #[] 86)).ownsRow B2 86 1 (.slice (some ⟨w4.heap.size, 0, none⟩) 0 0) 0 (i16s (outs2 P4.1.length 0)) := World.ownsRow_made _ #[] 0 (by have := HB2.out; omega) (Nat.zero_le _) rfl
    have m2 : Below w4.heap.size w4 (w4.alloc (.cells #[] 86)) := (nw1 w4 _).2.1
    have HA0 := Lib.hid (AD.of_below (B := B) (gp := gp) (PT := PT) m2 SB4.out SL4.out); have HO0 := Lib.hid m1
    have HS0 : Hid (ST B gp PT (w4.alloc (.cells #[] 86)) (P4.1 ++ crossG P4.1.length P1.2 P2.2 P3.2 0)) := Lib.hid (by rw [crossG, List.append_nil]; exact S.out.below m2)
    clear m1 m2
    generalize w4.alloc (.cells #[] 86) = w5 at HA0 HO0 HS0 ⊢
    go_loopw [13, 12] (fun y ov wr => ∃ j : Nat, y = .int .i64 (j : Int) ∧ j ≤ n ∧ Hid (AD B gp PT w4 wr) ∧ Hid (ST B gp PT wr (P4.1 ++ crossG P4.1.length P1.2 P2.2 P3.2 j)) ∧ Hid (wr.ownsRow B2 86 1 ov j (i16s (outs2 P4.1.length j)))) (fun y _ _ => n - (intOf y).toNat)
    case atStart => exact ⟨0, rfl, Nat.zero_le _, HA0, HS0, HO0⟩
    case round =>
      obtain ⟨j, rfl, hj, HA, HS, HO⟩ := hrel
      clear HA0 HS0 HO0
      obtain ⟨AO, cO, rfl, _, _⟩ := own_formu HO.out
      by_cases hlt : j < n
      · obtain ⟨x, hx⟩ : ∃ x, x = P1.2.getD j 0 := ⟨_, rfl⟩
        obtain ⟨y, hy⟩ : ∃ y, y = P2.2.getD j 0 := ⟨_, rfl⟩
        obtain ⟨z, hz⟩ : ∃ z, z = P3.2.getD j 0 := ⟨_, rfl⟩
        have HCX : Hid (∀ W, AD B gp PT w4 W → W.cell? ⟨b1, o1 + j, none⟩ = some (.int .i16 x) ∧ W.cell? ⟨b2, o2 + j, none⟩ = some (.int .i16 y) ∧ W.cell? ⟨b3, o3 + j, none⟩ = some (.int .i16 z)) := Lib.hid (fun W hW => by
          obtain ⟨_, _, _, e, hw1, d1⟩ := (T1.out.ad HP2.out hW).at j (by rw [LL1.out]; exact hlt)
          rw [LL1.out] at e
          cases e
          obtain ⟨_, _, _, e, hw2, d2⟩ := (T2.out.ad HP2.out hW).at j (by rw [LL2.out]; exact hlt)
          rw [LL2.out] at e
          cases e
          obtain ⟨_, _, _, e, hw3, d3⟩ := (T3.out.ad HP2.out hW).at j (by rw [LL3.out]; exact hlt)
          rw [LL3.out] at e
          cases e
          rw [← hx] at d1; rw [← hy] at d2; rw [← hz] at d3
          exact ⟨d1, d2, d3⟩)
        have JT1 : decide ((j : Int) < (n : Int)) = true := by simp; omega
        have ji1 : (j : Int) < (n : Int) := by omega
        have HLN := Lib.hid (show (P4.1 ++ crossG P4.1.length P1.2 P2.2 P3.2 j).length = P4.1.length + 2 * j from by rw [List.length_append, crossG_len])
        have HLT2 : Hid (P4.1.length + 2 * n ≤ 10000) := Lib.hid (by have := HG.out; have := LG1.out; have := LG2.out; have := LG3.out; have := LG4.out; omega)
        have HLN2 := Lib.hid (show ((P4.1 ++ crossG P4.1.length P1.2 P2.2 P3.2 j) ++ [((2 : Int), x, y)]).length = P4.1.length + 2 * j + 1 from by rw [List.length_append, HLN.out]; rfl)
        have HE := Lib.hid (show ((P4.1 ++ crossG P4.1.length P1.2 P2.2 P3.2 j) ++ [((2 : Int), x, y)]) ++ [((2 : Int), ((P4.1.length + 2 * j : Nat) : Int), z)] = P4.1 ++ crossG P4.1.length P1.2 P2.2 P3.2 (j + 1) from by rw [crossG, hx, hy, hz]; simp)
        clear hx hy hz
        go_upto_region 12 with fail
        refine wp_region_held_drew (S := fun u => u.cell? ⟨b1, o1 + j, none⟩ = some (.int .i16 x) ∧ u.cell? ⟨b2, o2 + j, none⟩ = some (.int .i16 y)) (by kernel_rfl) ?hS0 (fun hS => ?_)
        case hS0 => exact ⟨(HCX.out _ HA.out.drew).1, (HCX.out _ HA.out.drew).2.1⟩
        have HAD := Lib.hid HA.out.drew
        have HSD : Hid (ST B gp PT wr.drew (P4.1 ++ crossG P4.1.length P1.2 P2.2 P3.2 j)) := Lib.hid HS.out
        have HOD : Hid (wr.drew.ownsRow B2 86 1 (.slice AO j cO) j (i16s (outs2 P4.1.length j))) := Lib.hid HO.out
        clear HA HS HO
        generalize wr.drew = wd at hS HAD HSD HOD ⊢
        refine takeHd (i := 0) (v := ?v0L) rfl rfl (by kernel_rfl) (by kernel_rfl) (by kernel_rfl) (fun _ _ _ h => h) rfl ?hy0L hS ?rs0L
        case hy0L => (intro wq hq; obtain ⟨hq1, hq2⟩ := hq; go_simp; try (with_reducible rfl))
        simp only [Act.put, List.setIfInBounds_toArray, List.set_cons_zero, List.set_cons_succ]
        refine takeHd (i := 1) (v := ?v1L) rfl rfl (by kernel_rfl) (by kernel_rfl) (by kernel_rfl) (fun _ _ _ h => h) rfl ?hy1L hS ?rs1L
        case hy1L => (intro wq hq; obtain ⟨hq1, hq2⟩ := hq; go_simp; try (with_reducible rfl))
        simp only [Act.put, List.setIfInBounds_toArray, List.set_cons_zero, List.set_cons_succ]
        refine takeHd (i := 2) (v := ?v2L) rfl rfl (by kernel_rfl) (by kernel_rfl) (by kernel_rfl) (fun _ _ _ h => h) rfl ?hy2L hS ?rs2L
        case hy2L => (intro wq hq; obtain ⟨hq1, hq2⟩ := hq; go_simp; try (with_reducible rfl))
        simp only [Act.put, List.setIfInBounds_toArray, List.set_cons_zero, List.set_cons_succ]
        refine takeHd (i := 3) (v := ?v3L) rfl rfl (by kernel_rfl) (by kernel_rfl) (by kernel_rfl) (fun _ _ _ h => h) rfl ?hy3L hS ?rs3L
        case hy3L => (intro wq hq; obtain ⟨hq1, hq2⟩ := hq; go_simp; try (with_reducible rfl))
        simp only [Act.put, List.setIfInBounds_toArray, List.set_cons_zero, List.set_cons_succ]
        refine takeHd (i := 4) (v := ?v4L) rfl rfl (by kernel_rfl) (by kernel_rfl) (by kernel_rfl) (fun _ _ _ h => h) rfl ?hy4L hS ?rs4L
        case hy4L => (intro wq hq; obtain ⟨hq1, hq2⟩ := hq; go_simp; try (with_reducible rfl))
        simp only [Act.put, List.setIfInBounds_toArray, List.set_cons_zero, List.set_cons_succ]
        refine takeHd (i := 5) (v := ?v5L) rfl rfl (by kernel_rfl) (by kernel_rfl) (by kernel_rfl) (fun _ _ _ h => h) rfl ?hy5L hS ?rs5L
        case hy5L => (intro wq hq; obtain ⟨hq1, hq2⟩ := hq; go_simp; try (with_reducible rfl))
        simp only [Act.put, List.setIfInBounds_toArray, List.set_cons_zero, List.set_cons_succ]
        refine takeHd (i := 6) (v := ?v6L) rfl rfl (by kernel_rfl) (by kernel_rfl) (by kernel_rfl) (fun _ _ _ h => h) rfl ?hy6L hS ?rs6L
        case hy6L => (intro wq hq; obtain ⟨hq1, hq2⟩ := hq; go_simp; try (with_reducible rfl))
        simp only [Act.put, List.setIfInBounds_toArray, List.set_cons_zero, List.set_cons_succ]
        refine takeHd (i := 7) (v := ?v7L) rfl rfl (by kernel_rfl) (by kernel_rfl) (by kernel_rfl) (fun _ _ _ h => h) rfl ?hy7L hS ?rs7L
        case hy7L => (intro wq hq; obtain ⟨hq1, hq2⟩ := hq; go_simp; try (with_reducible rfl))
        simp only [Act.put, List.setIfInBounds_toArray, List.set_cons_zero, List.set_cons_succ]
        refine takeHd (i := 8) (v := ?v8L) rfl rfl (by kernel_rfl) (by kernel_rfl) (by kernel_rfl) (fun _ _ _ h => h) rfl ?hy8L hS ?rs8L
        case hy8L => (intro wq hq; obtain ⟨hq1, hq2⟩ := hq; go_simp; try (with_reducible rfl))
        simp only [Act.put, List.setIfInBounds_toArray, List.set_cons_zero, List.set_cons_succ]
        refine wpAnyH_ready (rs := [9]) (by kernel_rfl) (by simp) ?_
        refine AllReadyH.cons rfl (fun K hK => ?_) AllReadyH.nil
        go_simp
        refine (specAdd_any B gp PT HP.out 2 x y _ (by rw [HLN.out]; have := HLT2.out; omega) wd HSD.out).mono ?_
        rintro e w6 ⟨rfl, hs2, ha2⟩
        rw [HLN.out] at *
        have HA2 := Lib.hid (HAD.out.trans ha2)
        have HO2 := Lib.hid (own_ad gt_i16 HP2.out HOD.out ha2)
        have HS2 := Lib.hid hs2
        have d3 := (HCX.out _ HA2.out).2.2
        clear hs2 ha2 HAD HSD HOD
        refine hK.out _ w6 ⟨(HCX.out _ HA2.out).1, (HCX.out _ HA2.out).2.1⟩ (fun hS => ?_)
        clear hK
        try simp only [Act.put, List.setIfInBounds_toArray, List.set_cons_zero, List.set_cons_succ]
        refine takeHd (i := 10) (v := ?v10L) rfl rfl (by kernel_rfl) (by kernel_rfl) (by kernel_rfl) (fun _ _ _ h => h) rfl ?hy10L hS ?rs10L
        case hy10L => (intro wq hq; obtain ⟨hq1, hq2⟩ := hq; go_simp; try (with_reducible rfl))
        simp only [Act.put, List.setIfInBounds_toArray, List.set_cons_zero, List.set_cons_succ]
        refine wpAnyH_done (by kernel_rfl) ?_ _
        clear hS
        go_wp2_with fail
        have hq := specAdd_any B gp PT HP.out 2 ((P4.1.length + 2 * j : Nat) : Int) z _ (by rw [HLN2.out]; have := HLT2.out; omega) w6 HS2.out
        rw [HE.out, HLN2.out] at hq
        push_cast at hq
        refine hq.mono ?_
        clear hq
        rintro e w7 ⟨rfl, hs2, ha2⟩
        obtain ⟨nk, hnk⟩ : ∃ nk : Nat, nk = P4.1.length + 2 * j + 1 := ⟨_, rfl⟩
        have hnk2 : (P4.1.length : Int) + 2 * (j : Int) + 1 = (nk : Int) := by omega
        rw [hnk2]
        have HA3 := Lib.hid (HA2.out.trans ha2)
        have HO3 := Lib.hid (own_ad gt_i16 HP2.out HO2.out ha2)
        have HS3 := Lib.hid hs2
        have HNK := Lib.hid hnk
        have hb := (nw1 w7 (.cells #[.int .i16 (nk : Int)] 86)).2.1
        have HOA := Lib.hid (owb HO3.out hb)
        have HAA := Lib.hid (HA3.out.trans (AD.of_below hb SB4.out HS3.out.lt))
        have HSA := Lib.hid (HS3.out.below hb)
        clear hs2 ha2 HA2 HO2 HS2 hnk hnk2 hb HA3 HO3 HS3 d3
        go_wp2_with (at_builtin; refine wpList_append_own _ rfl _ _ 24 rfl B2 86 i0 (.int .i16 0) 1 2 Tryd.underlying24 hi hz0 hz1 hz2 rfl (by decide) _ j _ rfl HOA.out ⟨w7.heap.size, 0, none⟩ 1 1 [.int .i16 (nk : Int)] rfl rfl ?c1 ?c2 ?c3 ?c4 ?c5 ?_)
        case c1 => exact one_cellD _ _ _
        case c2 => simp [Value.oneCell']
        case c3 => unfold maxLen; omega
        case c4 => omega
        case c5 => have := HAA.out.size; have := HB2.out; omega
        intro s' wy hown hgrow _
        rw [show i16s (outs2 P4.1.length j) ++ [Value.int .i16 (nk : Int)] = i16s (outs2 P4.1.length (j + 1)) from by rw [outs2, HNK.out]; simp [i16s]] at hown
        have H5 := Lib.hid (HAA.out.after hgrow (fun z hz => by have := (own_block HOA.out z hz).1; have := HB2.out; omega) SB4.out SL4.out)
        have H6 := Lib.hid (HSA.out.grown HP2.out hgrow (fun z hz => by obtain ⟨cr, h⟩ := own_type HOA.out z hz; exact ⟨cr, _, h⟩))
        have H4 := Lib.hid hown
        clear hown hgrow HOA HAA HSA
        go_wp2_with fail
        exact ⟨⟨j + 1, by go_num, by omega, H5, H6, H4⟩, by simp [intOf]; omega⟩

      · obtain rfl : j = n := by omega
        have JT1 : decide ((j : Int) < (j : Int)) = false := by simp
        obtain ⟨g5, hg⟩ : ∃ g5, g5 = P4.1 ++ crossG P4.1.length P1.2 P2.2 P3.2 j := ⟨_, rfl⟩
        obtain ⟨l5, hl⟩ : ∃ l5, l5 = outs2 P4.1.length j := ⟨_, rfl⟩
        have LG5 := Lib.hid (show g5.length = P4.1.length + 2 * j from by rw [hg, List.length_append, crossG_len])
        have LL5 := Lib.hid (show l5.length = j from by rw [hl, outs2_len])
        have ho2 := own_low HO.out (Nat.le_of_eq HB2.out.symm)
        have S5 := HS.out
        rw [← hg] at S5
        rw [← hl] at ho2
        have tl5 := TL.of_own (xs := l5) (by rw [LL5.out]; exact ho2) (by rw [LL5.out]; omega) (by rw [hl]; exact outs2_w _ _ (by have := HG.out; have := LG1.out; have := LG2.out; have := LG3.out; have := LG4.out; omega))
        replace S := Lib.hid S5
        have EQ5 := Lib.hid hg; have EL5 := Lib.hid hl
        replace T1 := Lib.hid (T1.out.ad HP2.out HA.out); replace T4 := Lib.hid (T4.out.ad HP2.out HA.out)
        replace A := Lib.hid (A.out.trans HA.out)
        obtain ⟨b5, o5, c5, e5, _, _⟩ := tl5.form
        rw [LL5.out] at e5
        cases e5
        have T5 := Lib.hid tl5
        clear hg hl ho2 S5 tl5 HA HS HO
        go_wp2_with fail
        refine (specHalf_any k B gp PT HP.out HP2.out _ P1.2 g5 HK.out (LL1.out.trans HN.out) (by have := HG.out; have := LG1.out; have := LG2.out; have := LG3.out; have := LG4.out; have := LG5.out; omega) wr S.out T1.out).mono ?_
        rintro e w6 ⟨r6, rfl, hs, tl6, ha, _⟩
        have hlen := halfG_len k P1.2 g5 (LL1.out.trans HN.out)
        obtain ⟨P6, hg⟩ : ∃ P6, P6 = halfG k P1.2 g5 := ⟨_, rfl⟩
        rw [← hg] at hs tl6 hlen
        have LG6 := Lib.hid hlen.1; have LL6 := Lib.hid (hlen.2.trans HN.out.symm); have EQ6 := Lib.hid hg
        clear hlen
        replace T1 := Lib.hid (T1.out.ad HP2.out ha)
        replace T4 := Lib.hid (T4.out.ad HP2.out ha)
        replace T5 := Lib.hid (T5.out.ad HP2.out ha)
        replace A := Lib.hid (A.out.trans ha)
        replace S := Lib.hid hs
        obtain ⟨b6, o6, c6, rfl, _, _⟩ := tl6.form
        rw [LL6.out] at tl6 ⊢
        have T6 := Lib.hid tl6
        clear hs ha hg tl6
        have AS := Lib.hid A.out.size
        go_wp2_with fail
        refine (specXor_any B gp PT HP.out HP2.out _ _ P4.2 P6.2 P6.1 (by have := HG.out; have := LG1.out; have := LG2.out; have := LG3.out; have := LG4.out; have := LG5.out; have := LG6.out; have := LL4.out; omega) (by rw [LL4.out, LL6.out]) w6 S.out T4.out T6.out).mono ?_
        rintro e w7 ⟨r7, rfl, hs, ho, ha⟩
        rw [LL4.out] at hs ho
        obtain ⟨g7, hg⟩ : ∃ g7, g7 = P6.1 ++ pairG 2 P4.2 P6.2 j := ⟨_, rfl⟩
        rw [← hg] at hs
        have LG7 := Lib.hid (show g7.length = P6.1.length + j from by rw [hg, List.length_append, pairG_len])
        have EQ7 := Lib.hid hg
        obtain ⟨l7, hl⟩ : ∃ l7, l7 = outsL P6.1.length j := ⟨_, rfl⟩
        have ho2 : w7.ownsRow w6.heap.size 86 1 r7 l7.length (i16s l7) := by rw [hl, outsL_len]; exact ho
        have LL7 := Lib.hid (show l7.length = j from by rw [hl, outsL_len])
        have EL7 := Lib.hid hl
        have tl7 := TL.of_own ho2 (by rw [LL7.out]; omega) (by rw [hl]; exact outsL_w _ _ (by have := HG.out; have := LG1.out; have := LG2.out; have := LG3.out; have := LG4.out; have := LG5.out; have := LG6.out; omega))
        replace T1 := Lib.hid (T1.out.ad HP2.out ha)
        replace T4 := Lib.hid (T4.out.ad HP2.out ha)
        replace T5 := Lib.hid (T5.out.ad HP2.out ha)
        replace T6 := Lib.hid (T6.out.ad HP2.out ha)
        replace A := Lib.hid (A.out.trans ha)
        replace S := Lib.hid hs
        obtain ⟨b7, o7, c7, rfl, _, _⟩ := tl7.form
        rw [LL7.out] at tl7 ⊢
        have T7 := Lib.hid tl7
        rw [LL7.out] at ho2
        have O7 := Lib.hid ho2
        clear hs ha hg tl7 ho2 ho hl
        have EE := Lib.hid (timesG_succ k j HN.out xs ys l5 l7 gs g5 g7 P1 P2 P3 P4 P6 EQ1.out EQ2.out EQ3.out EQ4.out EQ5.out EL5.out EQ6.out EQ7.out EL7.out)
        obtain ⟨i0, hi, hz0, hz1, hz2⟩ := info_parts infoI16
        have OB := Lib.hid (own_low O7.out (show w.heap.size ≤ w6.heap.size from AS.out))
        go_wp2_with (at_builtin; refine wpList_append_own _ rfl _ _ 24 rfl w.heap.size 86 i0 (.int .i16 0) 1 2 Tryd.underlying24 hi hz0 hz1 hz2 rfl (by decide) _ j _ rfl OB.out ⟨b5, o5, none⟩ j cO (i16s l5) rfl (by rw [i16s_len, LL5.out]; omega) ?c1 ?c2 ?c3 ?c4 ?c5 ?_)
        case c1 => exact T5.out.src
        case c2 => exact i16s_one _
        case c3 => unfold maxLen; omega
        case c4 => omega
        case c5 => exact A.out.size
        intro s8 w8 hown hgrow _
        have A8 := Lib.hid (A.out.after hgrow (fun k hk => (own_block OB.out k hk).1) SB.out SL.out)
        have S8 := Lib.hid (S.out.grown HP2.out hgrow (fun k hk => by obtain ⟨cr, hh⟩ := own_type OB.out k hk; exact ⟨cr, _, hh⟩))
        have HO := Lib.hid (show w8.ownsRow w.heap.size 86 1 s8 (l7 ++ l5).length (i16s (l7 ++ l5)) from by
          rw [List.length_append, LL7.out, LL5.out, ← i16s_append]; exact hown)
        clear hown hgrow
        go_wp2_with fail
        go_ret
        rw [EE.out]
        exact ⟨_, rfl, S8.out, HO.out, A8.out⟩

end Go.Proofs.YtngaelifkhelbaaDoor
