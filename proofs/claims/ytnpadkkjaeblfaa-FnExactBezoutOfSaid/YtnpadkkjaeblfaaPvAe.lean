/-
  The combination that is the common divisor: of the model.
-/
import Derived.Test.YtnpadkkjaeblfaaPvAd
import Derived.Test.YtnpadkkjaeblfaaPvW
namespace Go.Proofs.Ytnpadkkjaeblfaa
set_option linter.unusedVariables false
set_option linter.unusedSimpArgs false
open Go.ChangeShapes Go.WideShapes Go.ChangeAt Go.RowKit

/-- the last rest that is not 0, and what it is made of -/
def bzF : Nat → List Int → List Int → List Int → List Int → List Int → List Int → List Int × List Int × List Int
  | 0, a, _, u, v, _, _ => (a, u, v)
  | f + 1, a, b, u, v, w, z => if b.length = 0 then (a, u, v) else bzF f b (pRem a b) w z (pPlus u (pTimes w (pQuo a b))) (pPlus v (pTimes z (pQuo a b)))
theorem bzF_stop {f : Nat} {a b u v w z : List Int} {T : List Int × List Int × List Int} (h : bzF f a b u v w z = T) (hf : 1 ≤ f) (hb : b.length = 0) : T = (a, u, v) := by
  obtain ⟨g, rfl⟩ : ∃ g, f = g + 1 := ⟨f - 1, by omega⟩
  unfold bzF at h
  rw [if_pos hb] at h
  exact h.symm
theorem bzF_go {f : Nat} {a b u v w z : List Int} {T : List Int × List Int × List Int} (h : bzF f a b u v w z = T) (hf : 1 ≤ f) (hb : ¬ b.length = 0) : bzF (f - 1) b (pRem a b) w z (pPlus u (pTimes w (pQuo a b))) (pPlus v (pTimes z (pQuo a b))) = T := by
  obtain ⟨g, rfl⟩ : ∃ g, f = g + 1 := ⟨f - 1, by omega⟩
  unfold bzF at h
  rw [if_neg hb] at h
  exact h
def bzT (a b : List Int) : List Int × List Int × List Int := bzF (b.length + 1) a b [1] [] [] [1]
def bzU (a b : List Int) : List Int := pScale (bzT a b).2.1 (leadP (bzT a b).1)
def bzV (a b : List Int) : List Int := pScale (bzT a b).2.2 (leadP (bzT a b).1)
def beU (a b : List Int) : List Int := if okP a && okP b then bzU a b else []
def beV (a b : List Int) : List Int := if okP a && okP b then bzV a b else []
theorem be_yes {a b : List Int} (h : (okP a && okP b) = true) : beU a b = bzU a b ∧ beV a b = bzV a b := by unfold beU beV; rw [if_pos h, if_pos h]; exact ⟨rfl, rfl⟩
theorem be_no {a b : List Int} (h : (okP a && okP b) = false) : beU a b = [] ∧ beV a b = [] := by unfold beU beV; rw [if_neg (by rw [h]; decide), if_neg (by rw [h]; decide)]; exact ⟨rfl, rfl⟩
theorem one_in : inU [1] := fun y hy => by rcases List.mem_singleton.1 hy with rfl; omega
theorem scale_nil : pScale [] 1 = [] := by unfold pScale; exact pTimes_zero (Or.inl rfl)
theorem scale_one : pScale [1] 1 = [1] := by kernel_rfl
theorem po_one (w : World) (B : Nat) (h : B ≤ w.heap.size) : PO (w.alloc (.cells #[.int .u16 1] 41)) B (.slice (some ⟨w.heap.size, 0, none⟩) 1 1) [1] :=
  RW.po (w := w.alloc (.cells #[.int .u16 1] 41)) (g := w.heap.size) (zs := [1]) (heap_alloc_new w _) one_in h (by unfold maxLen; simp)
set_option maxHeartbeats 4000000 in
set_option maxRecDepth 100000 in
theorem l05Bezout_any (A A' : Option Addr) (c c' : Nat) (xs ys : List Int) (hok : (okP xs && okP ys) = true) (w : World) (h : NC w (.slice A xs.length c) xs) (h' : NC w (.slice A' ys.length c') ys) :
    Calls Try.prog 50 #[.slice A xs.length c, .slice A' ys.length c'] w fun e w' => ∃ q r, e = .returned (.tuple #[q, r, .int .i64 0]) ∧ PO w' w.heap.size q (bzU xs ys) ∧ PO w' w.heap.size r (bzV xs ys) ∧ Below w.heap.size w w' := by
  have hok1 : okP xs = true := by rw [Bool.and_eq_true] at hok; exact hok.1
  have hok2 : okP ys = true := by rw [Bool.and_eq_true] at hok; exact hok.2
  have hn := okP_len hok1
  have hn2 := okP_len hok2
  have hta := okP_top hok1
  have htb := okP_top hok2
  obtain ⟨T, hT⟩ : ∃ T, bzF (ys.length + 1) xs ys [1] [] [] [1] = T := ⟨_, rfl⟩
  have hU : bzU xs ys = pScale T.2.1 (leadP T.1) := by unfold bzU bzT; rw [hT]
  have hV : bzV xs ys = pScale T.2.2 (leadP T.1) := by unfold bzV bzT; rw [hT]
  rw [hU, hV]
  have HN := Lib.hid h.ns
  have HN' := Lib.hid h'.ns
  obtain ⟨wa, hwa⟩ : ∃ wa, wa = w.alloc (.cells #[.int .u16 1] 41) := ⟨_, rfl⟩
  obtain ⟨wb, hwb⟩ : ∃ wb, wb = wa.alloc (.cells #[] 41) := ⟨_, rfl⟩
  obtain ⟨wc, hwc⟩ : ∃ wc, wc = wb.alloc (.cells #[] 41) := ⟨_, rfl⟩
  obtain ⟨wd, hwd⟩ : ∃ wd, wd = wc.alloc (.cells #[.int .u16 1] 41) := ⟨_, rfl⟩
  have ha : Below w.heap.size w wa := by rw [hwa]; exact (Below.refl _ _).alloc (Nat.le_refl _) _
  have hb : Below wa.heap.size wa wb := by rw [hwb]; exact (Below.refl _ _).alloc (Nat.le_refl _) _
  have hc : Below wb.heap.size wb wc := by rw [hwc]; exact (Below.refl _ _).alloc (Nat.le_refl _) _
  have hd : Below wc.heap.size wc wd := by rw [hwd]; exact (Below.refl _ _).alloc (Nat.le_refl _) _
  have sa := ha.size
  have sb := hb.size
  have sc := hc.size
  have za : wa.heap.size = w.heap.size + 1 := by rw [hwa]; simp
  have zb : wb.heap.size = w.heap.size + 2 := by rw [hwb, World.size_alloc, za]
  have zc : wc.heap.size = w.heap.size + 3 := by rw [hwc, World.size_alloc, zb]
  have h4 : Below w.heap.size w wd := bchain (bchain (bchain ha hb) hc) hd
  have pU : PO wd w.heap.size (.slice (some ⟨w.heap.size, 0, none⟩) 1 1) [1] := by
    have := po_one w w.heap.size (Nat.le_refl _)
    rw [← hwa] at this
    exact ((this.below hb).below hc).below hd
  have pZ : PO wd w.heap.size (.slice (some ⟨w.heap.size + 3, 0, none⟩) 1 1) [1] := by
    have := po_one wc w.heap.size (by omega)
    rw [← hwd, zc] at this
    exact this
  have pN : ∀ k, PO wd w.heap.size (.slice (some ⟨k, 0, none⟩) 0 0) [] := fun k => PO.nil _ _ _ _ (Nat.zero_le _) (fun e => by cases e)
  have HS : Hid (NC wd (.slice A xs.length c) xs ∧ NC wd (.slice A' ys.length c') ys ∧ PO wd w.heap.size (.slice (some ⟨w.heap.size, 0, none⟩) 1 1) [1] ∧ PO wd w.heap.size (.slice (some ⟨w.heap.size + 1, 0, none⟩) 0 0) [] ∧ PO wd w.heap.size (.slice (some ⟨w.heap.size + 1 + 1, 0, none⟩) 0 0) [] ∧ PO wd w.heap.size (.slice (some ⟨w.heap.size + 1 + 1 + 1, 0, none⟩) 1 1) [1] ∧ topP xs ∧ topP ys ∧ xs.length ≤ 21 ∧ ys.length ≤ 21) := Lib.hid ⟨h.below h4, h'.below h4, pU, pN _, pN _, pZ, hta, htb, hn, hn2⟩
  have HG := Lib.hid hT
  have HB0 := Lib.hid h4
  have HW : Hid (wd = (((w.alloc (.cells #[.int .u16 1] 41)).alloc (.cells #[] 41)).alloc (.cells #[] 41)).alloc (.cells #[.int .u16 1] 41)) := Lib.hid (by rw [hwd, hwc, hwb, hwa])
  have HOK := Lib.hid hok
  clear h h' hta htb hT hU hV hwa hwb hwc hwd ha hb hc hd sa sb sc za zb zc h4 pU pZ pN hok hok1 hok2
  go_enter Try.func50, Try.ntmps50
  go_wp2_with fail
  refine (l05Both_any _ _ xs ys (by omega) (by omega) _ HN.out HN'.out).mono ?_
  rintro e w' ⟨rfl, hw⟩
  obtain rfl := hw.symm
  rw [okC2_yes HOK.out]
  clear HN HN'
  go_wp2_with fail
  rw [← HW.out]
  clear HW
  go_loopw [8, 9, 10, 11, 12, 13] (fun y0 y1 y2 y3 y4 y5 wr => ∃ (k : Nat) (X Y U V W Z : List Int), Hid (NC wr y0 X ∧ NC wr y1 Y ∧ PO wr w.heap.size y2 U ∧ PO wr w.heap.size y3 V ∧ PO wr w.heap.size y4 W ∧ PO wr w.heap.size y5 Z ∧ topP X ∧ topP Y ∧ X.length ≤ 21 ∧ Y.length ≤ 21) ∧ Y.length + k ≤ ys.length ∧ Hid (bzF (ys.length + 1 - k) X Y U V W Z = T) ∧ U.length ≤ 21 + 21 * k ∧ V.length ≤ 21 + 21 * k ∧ W.length ≤ 21 + 21 * k ∧ Z.length ≤ 21 + 21 * k ∧ Hid (X.length = 0 → U = [1] ∧ V = []) ∧ Hid (Below w.heap.size w wr)) (fun _ y1 _ _ _ _ _ => match y1 with | .slice _ n _ => n | _ => 0)
  case atStart => exact ⟨0, xs, ys, [1], [], [], [1], HS, by omega, HG, by simp, by simp, by simp, by simp, Lib.hid (fun _ => ⟨rfl, rfl⟩), HB0⟩
  case round =>
    clear HS HG HB0
    obtain ⟨k, X, Y, U, V, W, Z, HZ, hlk, HG, lU, lV, lW, lZ, HE, HB⟩ := hrel
    obtain ⟨A3, c3, rfl, _⟩ := HZ.out.1.form
    obtain ⟨A4, c4, rfl, _⟩ := HZ.out.2.1.form
    obtain ⟨A5, c5, rfl, _⟩ := HZ.out.2.2.1.form
    obtain ⟨A6, c6, rfl, _⟩ := HZ.out.2.2.2.1.form
    obtain ⟨A7, c7, rfl, _⟩ := HZ.out.2.2.2.2.1.form
    obtain ⟨A8, c8, rfl, _⟩ := HZ.out.2.2.2.2.2.1.form
    by_cases h0 : Y.length = 0
    · have hx := bzF_stop HG.out (by omega) h0
      subst hx
      have HX := Lib.hid HZ.out.1.ns
      have HPU := Lib.hid HZ.out.2.2.1
      have HPV := Lib.hid HZ.out.2.2.2.1
      have hlx : X.length ≤ 21 := HZ.out.2.2.2.2.2.2.2.2.1
      rw [h0]
      clear h0 HZ HG
      by_cases hx0 : X.length = 0
      · have T1 : decide ((0 : Int) < (X.length : Int)) = false := by rw [hx0]; rfl
        obtain ⟨e1, e2⟩ := HE.out hx0
        have e3 : X = [] := List.length_eq_zero_iff.1 hx0
        have HF : Hid (pScale U (leadP X) = U ∧ pScale V (leadP X) = V) := Lib.hid (by rw [leadP_zero hx0, e1, e2]; exact ⟨scale_one, scale_nil⟩)
        clear e1 e2 e3 T1
        rw [hx0]
        clear hx0
        go_wp2_with fail
        go_ret3
        exact ⟨_, _, rfl, by show PO _ _ _ (pScale U (leadP X)); rw [HF.out.1]; exact HPU.out, by show PO _ _ _ (pScale V (leadP X)); rw [HF.out.2]; exact HPV.out, HB.out⟩
      · have T1 : decide ((0 : Int) < (X.length : Int)) = true := by simp; omega
        obtain ⟨m, hm⟩ : ∃ m, m = X.length - 1 := ⟨_, rfl⟩
        have hmi : (X.length : Int) - 1 = (m : Int) := by omega
        have i1 : (m : Int) < (X.length : Int) := by omega
        obtain ⟨b3, off3, rfl, hlb3, hcell3⟩ := HX.out.spot.2 (by omega)
        have q1 := hcell3 m (by omega)
        have r1 := (inU_of HX.out).at m
        have hlp := leadP_some hx0 hm
        obtain ⟨x, hxx⟩ : ∃ x, x = X.getD m 0 := ⟨_, rfl⟩
        rw [← hxx] at q1 r1 hlp
        obtain ⟨r10, r11⟩ := r1
        have r2 := invP_u x r11
        obtain ⟨r20, r21⟩ := r2
        have HLP := Lib.hid hlp
        clear hm hxx hcell3 hlp hx0
        go_wp2_with fail
        refine (linv_v x r10 r11 _).mono ?_
        rintro e w' ⟨rfl, hw⟩
        obtain rfl := hw.symm
        go_wp2_with fail
        refine (l05Scale_any _ U (invP x) (by omega) r20 r21 _ HPU.out.ns).mono ?_
        rintro e w3 ⟨r3, rfl, ho, hb⟩
        obtain ⟨D3, k3, rfl, _, _⟩ := own_form ho
        have HP3 := Lib.hid ((PO.of_own ho rfl (pScale_in HPU.out.all r20 r21)).lower HB.out.size)
        have HB3 := Lib.hid (bchain HB.out hb)
        have HV3 := Lib.hid (HPV.out.below hb)
        clear ho hb
        go_wp2_with fail
        refine (l05Scale_any _ V (invP x) (by omega) r20 r21 _ HV3.out.ns).mono ?_
        rintro e w4 ⟨r4, rfl, ho, hb⟩
        obtain ⟨D4, k4, rfl, _, _⟩ := own_form ho
        have HP4 := Lib.hid ((PO.of_own ho rfl (pScale_in HPV.out.all r20 r21)).lower HB3.out.size)
        have HB4 := Lib.hid (bchain HB3.out hb)
        have HU4 := Lib.hid (HP3.out.below hb)
        clear ho hb
        go_wp2_with fail
        go_ret3
        exact ⟨_, _, rfl, by show PO _ _ _ (pScale U (leadP X)); rw [HLP.out]; exact HU4.out, by show PO _ _ _ (pScale V (leadP X)); rw [HLP.out]; exact HP4.out, HB4.out⟩
    · have hp : (0 : Int) < (Y.length : Int) := by omega
      have hq := HZ.out
      obtain ⟨z1, z2, z3, z4, z5, z6, z7, z8, z9, z10⟩ := hq
      have hdv := l05Divide_any _ _ X Y (by omega) (by omega) wr z1 z2 z7 (by omega) (top_ne z8 h0)
      have hrl := pRem_len z1.inU z2.inU (by omega) (top_ne z8 h0)
      have hrt : topP (pRem X Y) := pRem_top z7
      have hg := bzF_go HG.out (by omega) h0
      have hql := pQuo_len X Y
      have hqi := pQuo_in z1.inU z2.inU
      have sW : pTimes (pQuo X Y) W = pTimes W (pQuo X Y) := pTimes_swap hqi z5.all
      have sZ : pTimes (pQuo X Y) Z = pTimes Z (pQuo X Y) := pTimes_swap hqi z6.all
      have L1 := pPlus_len U (pTimes W (pQuo X Y))
      have L2 := pPlus_len V (pTimes Z (pQuo X Y))
      have L3 := pTimes_len W (pQuo X Y)
      have L4 := pTimes_len Z (pQuo X Y)
      unfold mx at L1 L2
      have hm1 : (pPlus U (pTimes W (pQuo X Y))).length ≤ 21 + 21 * (k + 1) := by split at L1 <;> omega
      have hm2 : (pPlus V (pTimes Z (pQuo X Y))).length ≤ 21 + 21 * (k + 1) := by split at L2 <;> omega
      have hlW : (pTimes W (pQuo X Y)).length ≤ 1048576 := by omega
      have hlZ : (pTimes Z (pQuo X Y)).length ≤ 1048576 := by omega
      have hlQ : (pQuo X Y).length ≤ 1048576 := by omega
      have HDV := Lib.hid hdv
      have HRT := Lib.hid hrt
      have HG2 := Lib.hid hg
      have HSW := Lib.hid sW
      have HSZ := Lib.hid sZ
      have HQI := Lib.hid hqi
      have HM1 := Lib.hid hm1
      have HM2 := Lib.hid hm2
      clear hdv hrt hg sW sZ hqi L1 L2 L3 L4 hm1 hm2 z1 z2 z3 z4 z5 z6 z7 z8 hql
      go_wp2_with fail
      refine HDV.out.mono ?_
      rintro e w3 ⟨q, r, rfl, hq, hr, hb⟩
      obtain ⟨A9, c9, rfl, _⟩ := hq.form
      obtain ⟨A0, c0, rfl, _⟩ := hr.form
      have HQ3 := Lib.hid hq.ns
      have HR3 := Lib.hid hr.nc
      have HB3 := Lib.hid (bchain HB.out hb)
      have HK3 := Lib.hid hb
      clear hq hr hb
      go_wp2_with fail
      refine (l05Times_any _ _ (pQuo X Y) W hlQ (by omega) _ HQ3.out (HZ.out.2.2.2.2.1.below HK3.out).ns).mono ?_
      rintro e w4 ⟨r4, rfl, ho, hb⟩
      rw [HSW.out] at ho
      obtain ⟨D4, k4, rfl, _, _⟩ := own_form ho
      have HP4 := Lib.hid (PO.of_own ho rfl (pTimes_in HZ.out.2.2.2.2.1.all HQI.out)).ns
      have HB4 := Lib.hid (bchain HB3.out hb)
      have HK4 := Lib.hid (bchain HK3.out hb)
      have HQ4 := Lib.hid (HQ3.out.below hb)
      have HR4 := Lib.hid (HR3.out.below hb)
      clear ho hb
      go_wp2_with fail
      refine (l05Plus_any _ _ U (pTimes W (pQuo X Y)) (by omega) hlW _ (HZ.out.2.2.1.below HK4.out).ns HP4.out).mono ?_
      rintro e w5 ⟨r5, rfl, hp5, hb⟩
      obtain ⟨D5, k5, rfl, _⟩ := hp5.form
      have HP5 := Lib.hid (hp5.lower HB4.out.size)
      have HB5 := Lib.hid (bchain HB4.out hb)
      have HK5 := Lib.hid (bchain HK4.out hb)
      have HQ5 := Lib.hid (HQ4.out.below hb)
      have HR5 := Lib.hid (HR4.out.below hb)
      clear hp5 hb
      go_wp2_with fail
      refine (l05Times_any _ _ (pQuo X Y) Z hlQ (by omega) _ HQ5.out (HZ.out.2.2.2.2.2.1.below HK5.out).ns).mono ?_
      rintro e w6 ⟨r6, rfl, ho, hb⟩
      rw [HSZ.out] at ho
      obtain ⟨D6, k6, rfl, _, _⟩ := own_form ho
      have HP6 := Lib.hid (PO.of_own ho rfl (pTimes_in HZ.out.2.2.2.2.2.1.all HQI.out)).ns
      have HB6 := Lib.hid (bchain HB5.out hb)
      have HK6 := Lib.hid (bchain HK5.out hb)
      have HP56 := Lib.hid (HP5.out.below hb)
      have HR6 := Lib.hid (HR5.out.below hb)
      clear ho hb
      go_wp2_with fail
      refine (l05Plus_any _ _ V (pTimes Z (pQuo X Y)) (by omega) hlZ _ (HZ.out.2.2.2.1.below HK6.out).ns HP6.out).mono ?_
      rintro e w7 ⟨r7, rfl, hp7, hb⟩
      obtain ⟨D7, k7, rfl, _⟩ := hp7.form
      have HP7 := Lib.hid (hp7.lower HB6.out.size)
      have HB7 := Lib.hid (bchain HB6.out hb)
      have HK7 := Lib.hid (bchain HK6.out hb)
      have HP57 := Lib.hid (HP56.out.below hb)
      have HR7 := Lib.hid (HR6.out.below hb)
      clear hp7 hb
      go_wp2_with fail
      go_roundw
      case rel =>
        refine ⟨k + 1, Y, pRem X Y, W, Z, _, _, Lib.hid ⟨HZ.out.2.1.below HK7.out, HR7.out, HZ.out.2.2.2.2.1.below HK7.out, HZ.out.2.2.2.2.2.1.below HK7.out, HP57.out, HP7.out, HZ.out.2.2.2.2.2.2.2.1, HRT.out, z10, by omega⟩, by omega, Lib.hid ?_, by omega, by omega, HM1.out, HM2.out, Lib.hid (fun e => absurd e h0), HB7⟩
        have := HG2.out
        rwa [show ys.length + 1 - k - 1 = ys.length + 1 - (k + 1) from by omega] at this
      case measure => exact hrl
end Go.Proofs.Ytnpadkkjaeblfaa
