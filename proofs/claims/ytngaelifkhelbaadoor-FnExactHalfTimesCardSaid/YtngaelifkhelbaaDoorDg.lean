/-
  HalfTimes.
-/
import Derived.Test.YtngaelifkhelbaaDoorDf
import Derived.Deep.RegionHeld
namespace Go.Proofs.YtngaelifkhelbaaDoor
set_option linter.unusedVariables false
set_option linter.unusedSimpArgs false
open Go.ChangeShapes Go.WideShapes Go.ChangeAt Go.RowKit Go.Deep

theorem mid_sets {lo hi b : Nat} {a : World} (h1 : lo ≤ b) (h2 : b < hi) : ∀ (vs : List Value) (o : Nat) (w : World), Mid lo hi a w → Mid lo hi a (w.setCells b o vs)
  | [], _, _, h => h
  | v :: r, o, w, h => by
    rw [World.setCells]
    exact mid_sets h1 h2 r (o + 1) _ ⟨h.1.setCell (p := ⟨b, o, none⟩) h1 v, fun k hk hs => (heap_setCell_other _ _ _ _ (fun e => by have e2 : k = b := e; omega)).trans (h.2 k hk hs)⟩
theorem hcN_le (lv : Nat) (h : lv ≤ 3) : hcN lv ≤ 19 := by
  have hc : lv = 0 ∨ lv = 1 ∨ lv = 2 ∨ lv = 3 := by omega
  rcases hc with rfl | rfl | rfl | rfl <;> decide
def hdC (lv : Nat) : List G3 × List Int := halfG lv (outsL 0 (2 ^ lv)) (inG (2 ^ lv))
def hdN (level : Int) : Int := if lvB level then ((2 ^ level.toNat : Nat) : Int) else 0
def hdG (level : Int) : List G3 := if lvB level then (hdC level.toNat).1 else []
def hdO (level : Int) : List Int := if lvB level then (hdC level.toNat).2 else []
theorem okHalfTimes : ∀ lv, lv ≤ 3 → okJ (hdC lv) = true := fun lv h => by
  have hc : lv = 0 ∨ lv = 1 ∨ lv = 2 ∨ lv = 3 := by omega
  rcases hc with rfl | rfl | rfl | rfl
  · exact show okJ (hdC 0) = true by kernel_rfl
  · exact show okJ (hdC 1) = true by kernel_rfl
  · exact show okJ (hdC 2) = true by kernel_rfl
  · exact show okJ (hdC 3) = true by kernel_rfl
theorem lenHalfTimes (level : Int) : (hdG level).length + (hdO level).length ≤ 1048576 := by
  unfold hdG hdO
  by_cases h : lvB level = true
  · obtain ⟨lv, rfl, hl⟩ := level_of h
    have := (okJ_of (okHalfTimes lv hl)).2.2
    rw [if_pos h, if_pos h, show ((lv : Nat) : Int).toNat = lv from rfl]; omega
  · rw [if_neg h, if_neg h]; simp
set_option maxHeartbeats 4000000 in
set_option maxRecDepth 100000 in
theorem impl_HalfTimes (level : Int) (hbl : -9223372036854775808 ≤ level ∧ level ≤ 9223372036854775807) (w : World) (hE : ET w) :
    Calls Tryd.prog 50 #[.int .i64 level] w fun e w' => ∃ u, e = .returned (.tuple #[u, .int .i64 (mdK level)]) ∧ Below w.heap.size w w' ∧ CO w.heap.size w'.heap.size w' u (hdN level) (hdG level) (hdO level) := by
  have HE := Lib.hid hE
  clear hE hbl
  obtain ⟨a1, hb1, s1⟩ := nw1 w (.cells #[.int .i8 0, .slice none 0 0, .slice none 0 0] 33)
  cases hb : lvB level with
  | false =>
    have hlv : level < 0 ∨ 3 < level := by have := of_decide_eq_false hb; omega
    have eN : hdN level = 0 := by unfold hdN; rw [hb]; rfl
    have eG : hdG level = [] := by unfold hdG; rw [hb]; rfl
    have eO : hdO level = [] := by unfold hdO; rw [hb]; rfl
    have eK : mdK level = 2 := by unfold mdK; rw [hb]; rfl
    rw [eN, eG, eO, eK]
    clear eN eG eO eK hb
    have HLV := Lib.hid hlv
    clear hlv
    go_enter Tryd.func50, Tryd.ntmps50
    go_wp2_with fail
    generalize World.alloc w _ = w1 at a1 hb1 s1 ⊢
    refine (wiringFor_bad level HLV.out 1 w1).mono ?_
    rintro e w2 ⟨rfl, hb2⟩
    have M2 : Hid (BX w2 w.heap.size (.int .i8 0) (.slice none 0 0) (.slice none 0 0)) := Lib.hid (BX.belowB ⟨_, a1⟩ hb2 (by omega))
    have HB2 := Lib.hid (hb1.trans (hb2.mono hb1.size))
    clear a1 hb1 s1 hb2
    have HB4 := Lib.hid (nw1 w2 (.cells #[.slice none 0 0, .int .i8 0, .slice none 0 0] 74)).2.1
    go_wp2_with fail
    refine (reasonOf_bad 2 _ (HE.out.below (HB2.out.trans (HB4.out.mono HB2.out.size)))).mono ?_
    rintro e w3 ⟨rfl, hb3⟩
    have m3 := (M2.out.below HB4.out).below hb3
    have HB3 := Lib.hid (HB2.out.trans ((HB4.out.trans (hb3.mono HB4.out.size)).mono HB2.out.size))
    have r3 := m3.there
    have M3 := Lib.hid m3
    clear m3 hb3
    go_wp2_with (guard_target =~ wpList _ _ _ (⟨_, Op.store 33 _ _, _, _, _, _⟩ :: _) _ _; refine wpList_store_mid rfl 33 _ _ rfl (w.heap.size) 0 #[.int .i8 0, .slice none 0 0, .slice none 0 0] rfl rfl r3 (by kernel_rfl) (three_one rfl rfl rfl) ?_)
    obtain ⟨t8, h8⟩ := M3.out.puts (.int .i8 0) (.slice none 0 0) (.slice none 0 0)
    refine bodyPost_ret (v := .tuple #[.agg #[.int .i8 0, .slice none 0 0, .slice none 0 0], .int .i64 2]) ?_ rfl ⟨_, rfl, bsets (Nat.le_refl _) _ 0 w3 HB3.out, ⟨.slice none 0 0, .slice none 0 0, rfl, by omega, by simp, by simp, World.ownsRow_nil _ _ _ _, World.ownsRow_nil _ _ _ _, by simp [Value.ownBlock], by simp [Value.ownBlock], by simp [Value.ownBlock]⟩⟩
    exact results_cell_tmp rfl _ _ w.heap.size _ _ (0, 0) _ _ rfl rfl h8 Tryd.underlying33 rfl (by kernel_rfl)
  | true =>
    obtain ⟨lv, rfl, hl⟩ := level_of hb
    obtain ⟨n, hn⟩ : ∃ n, n = 2 ^ lv := ⟨_, rfl⟩
    have hn1 : 1 ≤ n := by rw [hn]; exact Nat.one_le_two_pow
    have hn8 : n ≤ 8 := by rw [hn]; exact Nat.pow_le_pow_right (by omega) hl
    have eN : hdN (lv : Int) = (n : Int) := by unfold hdN; rw [hb, hn]; rfl
    have eG : hdG (lv : Int) = (hdC lv).1 := by unfold hdG; rw [hb]; rfl
    have eO : hdO (lv : Int) = (hdC lv).2 := by unfold hdO; rw [hb]; rfl
    have eK : mdK (lv : Int) = 0 := by unfold mdK; rw [hb]; rfl
    have eC : hdC lv = halfG lv (outsL 0 n) (inG n) := by unfold hdC; rw [hn]
    have OKJ := Lib.hid (okJ_of (okHalfTimes lv hl))
    rw [eN, eG, eO, eK]
    have HEC := Lib.hid eC; have HN := Lib.hid hn; have HL := Lib.hid hl
    clear eN eG eO eK hb eC hn hl
    go_enter Tryd.func50, Tryd.ntmps50
    go_wp2_with fail
    generalize World.alloc w _ = w1 at a1 hb1 s1 ⊢
    refine (wiringFor_any lv 1 n HL.out (by omega) (by rw [HN.out]; omega) w1).mono ?_
    rintro e w2 ⟨v, r, rfl, hb2, hov, hor⟩
    obtain ⟨AV, cV, rfl, _, _⟩ := own_formu hov
    have htl : TL w2 r (outsL 0 n) := TL.of_own (by rw [outsL_len]; exact hor) (by rw [outsL_len]; omega) (outsL_w _ _ (by omega))
    obtain ⟨g, off, cR, rfl, hcl, hcm⟩ := htl.form
    rw [outsL_len] at hcl htl hor ⊢
    have HCL := Lib.hid hcl; have HCM := Lib.hid hcm
    have M1 : Hid (BX w2 w.heap.size (.int .i8 0) (.slice none 0 0) (.slice none 0 0)) := Lib.hid (BX.belowB ⟨_, a1⟩ hb2 (by omega))
    have HS1 := Lib.hid s1; have HB1 := Lib.hid hb1; have HB2 := Lib.hid hb2
    have HTL := Lib.hid htl; have HOV := Lib.hid hov
    have HORR := Lib.hid hor
    clear a1 hb1 s1 hb2 hov hor htl hcl hcm
    go_upto_region 2 with fail
    obtain ⟨z1, z2, z3⟩ := nw1 w2 (.cells #[.slice AV n cV, .int .i8 (n : Int), .slice none 0 0] 74)
    generalize World.alloc w2 _ = w3 at z1 z2 z3 ⊢
    obtain ⟨gp, hgp⟩ : ∃ gp, gp = w2.heap.size := ⟨_, rfl⟩
    rw [← hgp] at z1 ⊢
    have HGP := Lib.hid hgp
    have X3 : Hid (BX w3 gp (.slice AV n cV) (.int .i8 (n : Int)) (.slice none 0 0)) := Lib.hid ⟨_, z1⟩
    have HST : Hid (ST w1.heap.size gp 74 w3 (inG n)) := Lib.hid ⟨by have := HB2.out.size; omega, ⟨_, z1, by simp⟩, _, X3.out.c0, by rw [inG_len]; exact owb HOV.out z2⟩
    have HTL3 := Lib.hid (HTL.out.below z2)
    have HZ2 := Lib.hid z2
    clear z1 z2 z3 hgp
    go_wp2_with fail
    have hj := implHalf_any lv w1.heap.size gp 74 (by decide) (by decide) _ _ (inG n) HL.out (by rw [outsL_len, ← HN.out]) (by have := hcN_le lv HL.out; rw [inG_len]; omega) w3 HST.out HTL3.out
    rw [← HEC.out] at hj
    refine hj.mono ?_
    clear hj
    rintro e w5 ⟨rr, rfl, hst, _, had, hro⟩
    have NLV := Lib.hid (show 0 = lv → hdC lv = (inG n, outsL 0 n) from fun e => by rw [HEC.out, ← e]; rfl)
    replace hro : w5.ownsRow w1.heap.size 86 1 rr (hdC lv).2.length (i16s (hdC lv).2) := by
      rcases hro with ⟨e0, rfl⟩ | hro
      · rw [NLV.out e0]
        show w5.ownsRow w1.heap.size _ 1 _ (outsL 0 n).length _
        rw [outsL_len]
        have hor2 := own_ad (PT := 74) gt_i16 (by decide) (owb HORR.out HZ2.out) had
        exact hor2
      · exact own_low hro (by have := HB2.out.size; have := HZ2.out.size; omega)
    obtain ⟨AR, cR2, rfl, _, _⟩ := own_formu hro
    obtain ⟨_, ⟨cur, hcur, _⟩, v5, hv5, hov5⟩ := hst
    obtain ⟨AG, cG, rfl, _, _⟩ := own_formu hov5
    have k1 : w5.cell? ⟨gp, 1, none⟩ = some (.int .i8 (n : Int)) := (had.off 1 (by decide)).trans X3.out.c1
    have k2 : w5.cell? ⟨gp, 2, none⟩ = some (.slice none 0 0) := (had.off 2 (by decide)).trans X3.out.c2
    have k3 : w5.frozen? ⟨gp, 2, none⟩ = false := frozen_of_row _ _ _ _ _ hcur
    obtain ⟨q0, q1, q2⟩ := cells2 hcur hv5 k1 _ (.slice AR (hdC lv).2.length cR2) k2
    obtain ⟨na, hna⟩ : ∃ na, na = (hdC lv).1.length := ⟨_, rfl⟩
    obtain ⟨nb, hnb⟩ : ∃ nb, nb = (hdC lv).2.length := ⟨_, rfl⟩
    have hgt := grown_putd w5 gp 2 (.slice AR (hdC lv).2.length cR2)
    have o6 := own_grown hov5 hgt (fun k hk e => by
      obtain ⟨cr, h⟩ := own_type hov5 k hk
      cases e
      rw [hcur] at h; cases h)
    have p6 := own_grown hro hgt (fun k hk e => by
      obtain ⟨cr, h⟩ := own_type hro k hk
      cases e
      rw [hcur] at h; cases h)
    have s12 : w.heap.size < w1.heap.size := by have := HS1.out; omega
    have b15 : Below w1.heap.size w1 w5 := (HB2.out.trans (HZ2.out.mono HB2.out.size)).trans had.toBelow
    have b6 : Below w.heap.size w (w5.setCell ⟨gp, 2, none⟩ (.slice AR (hdC lv).2.length cR2)) := (HB1.out.trans (b15.mono (by omega))).setCell (p := ⟨gp, 2, none⟩) (by show w.heap.size ≤ gp; have := HGP.out; have := HB2.out.size; omega) _
    have m6 := (M1.out.below HZ2.out).belowB had.toBelow s12
    have m6' := m6.other (k := gp) (o := 2) (by have := HGP.out; have := HB2.out.size; omega) (.slice AR (hdC lv).2.length cR2)
    have h16 : w1.heap.size ≤ w1.heap.size := Nat.le_refl _
    have TYP := Lib.hid (show ∀ k, (Value.slice AG (hdC lv).1.length cG).ownBlock = some k → (Value.slice AR (hdC lv).2.length cR2).ownBlock ≠ some k from fun k hk hk2 => by
      obtain ⟨c1, h1⟩ := own_type hov5 k hk
      obtain ⟨c2, h2⟩ := own_type hro k hk2
      rw [h1] at h2; cases h2)
    rw [← hna] at hv5 hov5 q0 o6 TYP
    rw [← hnb] at q0 q1 q2 o6 p6 b6 m6' TYP ⊢
    have O6 := Lib.hid o6; have P6 := Lib.hid (own_low p6 h16); have B6 := Lib.hid b6; have M6 := Lib.hid m6'
    have HNA := Lib.hid hna; have HNB := Lib.hid hnb; have S12 := Lib.hid s12
    clear hro had hcur hv5 hov5 hgt o6 p6 b15 b6 m6 m6' h16 s12 hna hnb
    generalize hw6 : w5.setCell ⟨gp, 2, none⟩ (.slice AR nb cR2) = w6 at q0 q1 q2 O6 P6 B6 M6
    go_wp2_with fail
    clear hw6 k1 k2 k3 q0 q1 q2
    refine (circuit_any _ _ _ _ _ _ _ _ _ rfl rfl w6).mono ?_
    rintro e w7 ⟨rfl, hb7⟩
    have m7 := M6.out.below hb7
    have r7 := m7.there
    have M7 := Lib.hid m7
    have B7 := Lib.hid (B6.out.trans (hb7.mono B6.out.size))
    have O7 := Lib.hid (owb O6.out hb7); have P7 := Lib.hid (owb P6.out hb7)
    clear m7 hb7
    go_wp2_with (guard_target =~ wpList _ _ _ (⟨_, Op.store 33 _ _, _, _, _, _⟩ :: _) _ _; refine wpList_store_mid rfl 33 _ _ rfl (w.heap.size) 0 #[.int .i8 (n : Int), .slice AG na cG, .slice AR nb cR2] rfl rfl r7 (by kernel_rfl) (three_one rfl rfl rfl) ?_)
    obtain ⟨t8, h8⟩ := M7.out.puts (.int .i8 (n : Int)) (.slice AG na cG) (.slice AR nb cR2)
    refine bodyPost_ret (v := .tuple #[.agg #[.int .i8 (n : Int), .slice AG na cG, .slice AR nb cR2], .int .i64 0]) ?_ rfl ⟨_, rfl, bsets (Nat.le_refl _) _ 0 w7 B7.out, _, _, rfl, by omega, OKJ.out.1, OKJ.out.2.1, ?_, ?_, ?_, ?_, ?_⟩
    · exact results_cell_tmp rfl _ _ w.heap.size _ _ (0, 0) _ _ rfl rfl h8 Tryd.underlying33 rfl (by kernel_rfl)
    · rw [← HNA.out]; exact own_low (own_sets O7.out S12.out _ 0) (Nat.le_of_lt S12.out)
    · rw [← HNB.out]; exact own_low (own_sets P7.out S12.out _ 0) (Nat.le_of_lt S12.out)
    · intro k hk; exact (own_block (own_sets O7.out S12.out _ 0) k hk).2
    · intro k hk; exact (own_block (own_sets P7.out S12.out _ 0) k hk).2
    · exact TYP.out
set_option maxHeartbeats 4000000 in
set_option maxRecDepth 100000 in
theorem spec_HalfTimes (level : Int) (hbl : -9223372036854775808 ≤ level ∧ level ≤ 9223372036854775807) (w : World) :
    Calls Tryd.prog 49 #[.int .i64 level] w fun e w' => ∃ u, e = .returned (.tuple #[u, .int .i64 (mdK level)]) ∧ Below w.heap.size w w' ∧ CO w.heap.size w'.heap.size w' u (hdN level) (hdG level) (hdO level) := by
  clear hbl
  obtain ⟨a1, hb1, s1⟩ := nw1 w (.cells #[.int .i8 0, .slice none 0 0, .slice none 0 0] 33)
  cases hb : lvB level with
  | false =>
    have eN : hdN level = 0 := by unfold hdN; rw [hb]; rfl
    have eG : hdG level = [] := by unfold hdG; rw [hb]; rfl
    have eO : hdO level = [] := by unfold hdO; rw [hb]; rfl
    have eK : mdK level = 2 := by unfold mdK; rw [hb]; rfl
    rw [eN, eG, eO, eK]
    clear eN eG eO eK
    go_enter Tryd.func49, Tryd.ntmps49
    go_wp2_with fail
    generalize World.alloc w _ = w1 at a1 hb1 s1 ⊢
    refine (l07Level_any level w1).mono ?_
    rintro e w2 ⟨rfl, hww⟩
    subst hww
    rw [hb]
    have m2 : BX w2 w.heap.size (.int .i8 0) (.slice none 0 0) (.slice none 0 0) := ⟨_, a1⟩
    have r2 := m2.there
    have M2 := Lib.hid m2; have HB2 := Lib.hid hb1
    clear a1 hb1 s1 m2 hb
    go_wp2_with (guard_target =~ wpList _ _ _ (⟨_, Op.store 33 _ _, _, _, _, _⟩ :: _) _ _; refine wpList_store_mid rfl 33 _ _ rfl (w.heap.size) 0 #[.int .i8 0, .slice none 0 0, .slice none 0 0] rfl rfl r2 (by kernel_rfl) (three_one rfl rfl rfl) ?_)
    obtain ⟨t8, h8⟩ := M2.out.puts (.int .i8 0) (.slice none 0 0) (.slice none 0 0)
    refine bodyPost_ret (v := .tuple #[.agg #[.int .i8 0, .slice none 0 0, .slice none 0 0], .int .i64 2]) ?_ rfl ⟨_, rfl, bsets (Nat.le_refl _) _ 0 w2 HB2.out, ⟨.slice none 0 0, .slice none 0 0, rfl, by omega, by simp, by simp, World.ownsRow_nil _ _ _ _, World.ownsRow_nil _ _ _ _, by simp [Value.ownBlock], by simp [Value.ownBlock], by simp [Value.ownBlock]⟩⟩
    exact results_cell_tmp rfl _ _ w.heap.size _ _ (0, 0) _ _ rfl rfl h8 Tryd.underlying33 rfl (by kernel_rfl)
  | true =>
    obtain ⟨lv, rfl, hl⟩ := level_of hb
    obtain ⟨n, hn⟩ : ∃ n, n = 2 ^ lv := ⟨_, rfl⟩
    have hn1 : 1 ≤ n := by rw [hn]; exact Nat.one_le_two_pow
    have hn8 : n ≤ 8 := by rw [hn]; exact Nat.pow_le_pow_right (by omega) hl
    obtain ⟨m, hm⟩ : ∃ m, m = n := ⟨_, rfl⟩
    have eN : hdN (lv : Int) = (m : Int) := by unfold hdN; rw [hb, hm, hn]; rfl
    have eG : hdG (lv : Int) = (hdC lv).1 := by unfold hdG; rw [hb]; rfl
    have eO : hdO (lv : Int) = (hdC lv).2 := by unfold hdO; rw [hb]; rfl
    have eK : mdK (lv : Int) = 0 := by unfold mdK; rw [hb]; rfl
    have eC : hdC lv = halfG lv (outsL 0 m) (inG m) := by unfold hdC; rw [hm, hn]
    have OKJ := Lib.hid (okJ_of (okHalfTimes lv hl))
    rw [eN, eG, eO, eK]
    have HEC := Lib.hid eC; have HN := Lib.hid hn; have HL := Lib.hid hl; have HM := Lib.hid hm
    have e2 : (n : Int) = (m : Int) := by omega
    have e8 : IntKind.wrap .i8 (m : Int) = (m : Int) := by
      simp only [IntKind.wrap, show IntKind.i8.bits = 8 from rfl, show IntKind.i8.signed = true from rfl]
      simp
      omega
    have HMI : Hid (m ≤ 16) := Lib.hid (by omega)
    clear eN eG eO eK eC hn hl hm
    go_enter Tryd.func49, Tryd.ntmps49
    go_wp2_with fail
    generalize World.alloc w _ = w1 at a1 hb1 s1 ⊢
    refine (l07Level_any lv w1).mono ?_
    rintro e w0 ⟨rfl, hww⟩
    subst hww
    rw [hb]
    clear hb
    go_wp2_with fail
    refine (l07Bits_any lv HL.out w0).mono ?_
    rintro e w2 ⟨rfl, hww⟩
    rw [← HN.out]
    subst hww
    have M1 : Hid (BX w2 w.heap.size (.int .i8 0) (.slice none 0 0) (.slice none 0 0)) := Lib.hid ⟨_, a1⟩
    have HS1 := Lib.hid s1; have HB1 := Lib.hid hb1
    clear a1 hb1 s1
    go_upto_region 5 with fail
    obtain ⟨z1, z2, z3⟩ := nw1 w2 (.cells #[.slice none 0 0] 107)
    generalize World.alloc w2 _ = w3 at z1 z2 z3 ⊢
    obtain ⟨gp, hgp⟩ : ∃ gp, gp = w2.heap.size := ⟨_, rfl⟩
    rw [← hgp] at z1 ⊢
    have HGP := Lib.hid hgp
    have hc0 : w3.cell? ⟨gp, 0, none⟩ = some (.slice none 0 0) := by simp [World.cell?, z1]
    have HST : Hid (ST w2.heap.size gp 107 w3 []) := Lib.hid ⟨by omega, ⟨_, z1, by simp⟩, _, hc0, World.ownsRow_nil _ _ _ _⟩
    have HZ2 := Lib.hid z2
    clear z1 z2 z3 hgp hc0
    go_wp2_with fail
    refine (specInputs_any w2.heap.size gp 107 (by decide) (by decide) m (by have := HMI.out; omega) w3 HST.out).mono ?_
    rintro e w4 ⟨r, rfl, hs4, hor, had⟩
    have htl : TL w4 r (outsL 0 m) := TL.of_own (by rw [outsL_len]; exact hor) (by rw [outsL_len]; omega) (outsL_w _ _ (by have := HMI.out; omega))
    obtain ⟨g, off, cR, rfl, hcl, hcm⟩ := htl.form
    rw [outsL_len] at hcl htl hor ⊢
    have HTA := Lib.hid htl
    have HST4 := Lib.hid hs4
    have M4 := Lib.hid ((M1.out.below HZ2.out).belowB had.toBelow (by have := HS1.out; omega))
    have HB4 := Lib.hid (HB1.out.trans ((HZ2.out.mono HB1.out.size).trans (had.toBelow.mono HB1.out.size)))
    have Q4 : Hid (w2.heap.size ≤ w4.heap.size) := Lib.hid (by have := HZ2.out.size; have := had.size; omega)
    clear hs4 hor had htl hcl hcm
    go_wp2_with fail
    have hj := specHalf_any lv w2.heap.size gp 107 (by decide) (by decide) _ _ (inG m) HL.out (by rw [outsL_len, HM.out, ← HN.out]) (by have := hcN_le lv HL.out; have := HMI.out; rw [inG_len]; omega) w4 HST4.out HTA.out
    rw [← HEC.out] at hj
    refine hj.mono ?_
    clear hj
    rintro e w5 ⟨rr, rfl, hst, htr, had, _⟩
    obtain ⟨bR, oR, cR2, rfl, _, _⟩ := htr.form
    obtain ⟨_, ⟨cur, hcur, _⟩, v5, hv5, hov5⟩ := hst
    obtain ⟨AG, cG, rfl, _, _⟩ := own_formu hov5
    obtain ⟨na, hna⟩ : ∃ na, na = (hdC lv).1.length := ⟨_, rfl⟩
    obtain ⟨nb, hnb⟩ : ∃ nb, nb = (hdC lv).2.length := ⟨_, rfl⟩
    have O6 := Lib.hid hov5; have TR := Lib.hid htr
    have m6 := M4.out.belowB had.toBelow (by have := HS1.out; omega)
    have M6 := Lib.hid m6
    have B6 := Lib.hid (HB4.out.trans (had.toBelow.mono HB1.out.size))
    have S12 : Hid (w.heap.size < w2.heap.size) := Lib.hid (by have := HS1.out; omega)
    have Q5 : Hid (w2.heap.size ≤ w5.heap.size) := Lib.hid (by have := Q4.out; have := had.size; omega)
    have GPL : Hid (w.heap.size < gp) := Lib.hid (by rw [HGP.out]; exact S12.out)
    rw [← hna] at hv5 O6
    rw [← hnb] at TR ⊢
    have HNA := Lib.hid hna; have HNB := Lib.hid hnb
    have hnbb : nb ≤ 2000 := by have := OKJ.out.2.2; omega
    have HV5 := Lib.hid hv5
    clear hna hnb hcur hov5 htr had m6 hv5
    obtain ⟨i0, hi, hz0, hz1, hz2⟩ := info_parts infoI16
    go_upto_region 7 with fail
    have HMX : Hid (∀ W, Mid w.heap.size w2.heap.size w5 W → W.cell? ⟨gp, 0, none⟩ = some (.slice AG na cG)) := Lib.hid (fun W hW => (World.cell?_of_block (hW.heap gp (block_of_cellc HV5.out) (.inr (by rw [HGP.out]; exact Nat.le_refl _)))).trans HV5.out)
    have HR0 := Lib.hid (Mid.refl w.heap.size w2.heap.size w5)
    refine wp_region_held_drew (S := fun u => u.cell? ⟨gp, 0, none⟩ = some (.slice AG na cG) ∧ Hid (Mid w.heap.size w2.heap.size w5 u)) (by kernel_rfl) ?hS0 (fun hS => ?_)
    case hS0 => exact ⟨HMX.out _ (Mid.of_below (bdrew1 w5) (by have := Q5.out; have := S12.out; omega)), Lib.hid (Mid.of_below (bdrew1 w5) (by have := Q5.out; have := S12.out; omega))⟩
    have HBD := Lib.hid (bdrew1 w5)
    generalize w5.drew = wd at hS HBD ⊢
    refine takeHd (i := 0) (v := ?v0) rfl rfl (by kernel_rfl) (by kernel_rfl) (by kernel_rfl) (fun _ _ _ h => h) rfl ?hy0 hS ?rs0
    case hy0 => (intro wq hq; obtain ⟨hq1, hq2⟩ := hq; go_simp; try (with_reducible rfl))
    simp only [Act.put, List.setIfInBounds_toArray, List.set_cons_zero, List.set_cons_succ]
    refine takeHd (i := 1) (v := ?v1) rfl rfl (by kernel_rfl) (by kernel_rfl) (by kernel_rfl) (fun _ _ _ h => h) rfl ?hy1 hS ?rs1
    case hy1 => (intro wq hq; obtain ⟨hq1, hq2⟩ := hq; go_simp; try (with_reducible rfl))
    simp only [Act.put, List.setIfInBounds_toArray, List.set_cons_zero, List.set_cons_succ]
    refine takeHd (i := 2) (v := ?v2) rfl rfl (by kernel_rfl) (by kernel_rfl) (by kernel_rfl) (fun _ _ _ h => h) rfl ?hy2 hS ?rs2
    case hy2 => (intro wq hq; obtain ⟨hq1, hq2⟩ := hq; go_simp; try (with_reducible rfl))
    simp only [Act.put, List.setIfInBounds_toArray, List.set_cons_zero, List.set_cons_succ]
    refine takeHd (i := 3) (v := ?v3) rfl rfl (by kernel_rfl) (by kernel_rfl) (by kernel_rfl) (fun _ _ _ h => h) rfl ?hy3 hS ?rs3
    case hy3 => (intro wq hq; obtain ⟨hq1, hq2⟩ := hq; go_simp; try (with_reducible rfl))
    simp only [Act.put, List.setIfInBounds_toArray, List.set_cons_zero, List.set_cons_succ]
    refine takeHd (i := 4) (v := ?v4) rfl rfl (by kernel_rfl) (by kernel_rfl) (by kernel_rfl) (fun _ _ _ h => h) rfl ?hy4 hS ?rs4
    case hy4 => (intro wq hq; obtain ⟨hq1, hq2⟩ := hq; go_simp; try (with_reducible rfl))
    simp only [Act.put, List.setIfInBounds_toArray, List.set_cons_zero, List.set_cons_succ]
    refine takeHd (i := 5) (v := ?v5) rfl rfl (by kernel_rfl) (by kernel_rfl) (by kernel_rfl) (fun _ _ _ h => h) rfl ?hy5 hS ?rs5
    case hy5 => (intro wq hq; obtain ⟨hq1, hq2⟩ := hq; go_simp; try (with_reducible rfl))
    simp only [Act.put, List.setIfInBounds_toArray, List.set_cons_zero, List.set_cons_succ]
    refine takeHd (i := 7) (v := ?v7) rfl rfl (by kernel_rfl) (by kernel_rfl) (by kernel_rfl) (fun _ _ _ h => h) rfl ?hy7 hS ?rs7
    case hy7 => (intro wq hq; obtain ⟨hq1, hq2⟩ := hq; go_simp; try (with_reducible rfl))
    simp only [Act.put, List.setIfInBounds_toArray, List.set_cons_zero, List.set_cons_succ]
    refine wpAnyH_ready (rs := [6]) (by kernel_rfl) (by simp) ?_
    refine AllReadyH.cons rfl (fun K hK => ?_) AllReadyH.nil
    go_simp
    have m1 : (wd.alloc (.cells #[] 86)).ownsRow w5.heap.size 86 1 (.slice (some ⟨wd.heap.size, 0, none⟩) 0 0) 0 [] := World.ownsRow_made _ #[] 0 HBD.out.size (Nat.zero_le _) rfl
    have m2 : Below wd.heap.size wd (wd.alloc (.cells #[] 86)) := (nw1 wd _).2.1
    have HO7 := Lib.hid m1
    have HBA := Lib.hid (HBD.out.trans (m2.mono HBD.out.size))
    have HBDS := Lib.hid HBD.out.size
    refine hK.out _ (wd.alloc (.cells #[] 86)) ⟨HMX.out _ (Mid.of_below HBA.out (by have := Q5.out; have := S12.out; omega)), Lib.hid (Mid.of_below HBA.out (by have := Q5.out; have := S12.out; omega))⟩ (fun hS => ?_)
    clear hK m1 m2 HBD
    obtain ⟨bd, hbd⟩ : ∃ bd, bd = wd.heap.size := ⟨_, rfl⟩
    rw [← hbd] at HO7 HBDS ⊢
    clear hbd
    generalize wd.alloc (.cells #[] 86) = wa at hS HO7 HBA ⊢
    try simp only [Act.put, List.setIfInBounds_toArray, List.set_cons_zero, List.set_cons_succ]
    refine wpAnyH_ready (rs := [8]) (by kernel_rfl) (by simp) ?_
    refine AllReadyH.cons rfl (fun K hK => ?_) AllReadyH.nil
    simp only [List.getElem_toArray, List.getElem_cons_zero, List.getElem_cons_succ]
    refine wp_append_own _ _ _ 24 rfl w5.heap.size 86 i0 (.int .i16 0) 1 2 Tryd.underlying24 hi hz0 hz1 hz2 rfl (by decide) _ 0 _ rfl HO7.out ⟨bR, oR, none⟩ nb cR2 (i16s (hdC lv).2) rfl (by rw [i16s_len]; have := HNB.out; omega) ?a1 ?a2 ?a3 ?a4 ?a5 ?_
    case a1 => exact (TR.out.below HBA.out).src
    case a2 => exact i16s_one _
    case a3 => unfold maxLen; omega
    case a4 => omega
    case a5 => exact HBA.out.size
    intro s' wy hown hgrow _
    have HBY := Lib.hid (HBA.out.grown hgrow HBA.out.size (fun k hk => (own_block HO7.out k hk).1))
    replace hown : wy.ownsRow w5.heap.size 86 1 s' nb (i16s (hdC lv).2) := by simpa using hown
    obtain ⟨AR, cR3, rfl, _, _⟩ := own_formu hown
    have P6 := Lib.hid (own_low hown Q5.out)
    refine hK.out _ wy ⟨HMX.out _ (Mid.of_below HBY.out (by have := Q5.out; have := S12.out; omega)), Lib.hid (Mid.of_below HBY.out (by have := Q5.out; have := S12.out; omega))⟩ (fun hS => ?_)
    clear hK hown hgrow
    try simp only [Act.put, List.setIfInBounds_toArray, List.set_cons_zero, List.set_cons_succ]
    refine takeHd (i := 9) (v := ?v9) rfl rfl (by kernel_rfl) (by kernel_rfl) (by kernel_rfl) (fun _ _ _ h => h) rfl ?hy9 hS ?rs9
    case hy9 => (intro wq hq; obtain ⟨hq1, hq2⟩ := hq; go_simp; try (with_reducible rfl))
    simp only [Act.put, List.setIfInBounds_toArray, List.set_cons_zero, List.set_cons_succ]
    refine wpAnyH_ready (rs := [10]) (by kernel_rfl) (by simp) ?_
    refine AllReadyH.cons rfl (fun K hK => ?_) AllReadyH.nil
    simp only [List.getElem_toArray, List.getElem_cons_zero, List.getElem_cons_succ]
    refine wp_store_mid 33 _ _ rfl (w.heap.size) 0 #[.int .i8 (m : Int), .slice AG na cG, .slice AR nb cR3] rfl rfl (M6.out.below HBY.out).there (by kernel_rfl) (three_one rfl rfl rfl) ?_
    refine hK.out _ (wy.setCells w.heap.size 0 [.int .i8 (m : Int), .slice AG na cG, .slice AR nb cR3]) ⟨HMX.out _ (mid_sets (Nat.le_refl _) S12.out _ 0 _ (Mid.of_below HBY.out (by have := Q5.out; have := S12.out; omega))), Lib.hid (mid_sets (Nat.le_refl _) S12.out _ 0 _ (Mid.of_below HBY.out (by have := Q5.out; have := S12.out; omega)))⟩ (fun hS => ?_)
    clear hK
    try simp only [Act.put, List.setIfInBounds_toArray, List.set_cons_zero, List.set_cons_succ]
    refine takeHd (i := 11) (v := .int .i64 0) rfl rfl (by kernel_rfl) (by kernel_rfl) (by kernel_rfl) (fun _ _ _ h => h) rfl ?hy11 hS ?rs11
    case hy11 => (intro wq hq; go_simp; try (with_reducible rfl))
    simp only [Act.put, List.setIfInBounds_toArray, List.set_cons_zero, List.set_cons_succ]
    refine wpAnyH_done (by kernel_rfl) ?_ _
    clear hS
    have TYP := Lib.hid (show ∀ k, (Value.slice AG na cG).ownBlock = some k → (Value.slice AR nb cR3).ownBlock ≠ some k from fun k hk hk2 => by
      obtain ⟨c1, h1⟩ := own_type (owb O6.out HBY.out) k hk
      obtain ⟨c2, h2⟩ := own_type P6.out k hk2
      rw [h1] at h2; cases h2)
    have B7 := Lib.hid (B6.out.trans (HBY.out.mono (by have := S12.out; have := Q5.out; omega)))
    have O7 := Lib.hid (owb O6.out HBY.out)
    go_wp2_with fail
    obtain ⟨t8, h8⟩ := (M6.out.below HBY.out).puts (.int .i8 (m : Int)) (.slice AG na cG) (.slice AR nb cR3)
    refine bodyPost_ret (v := .tuple #[.agg #[.int .i8 (m : Int), .slice AG na cG, .slice AR nb cR3], .int .i64 0]) ?_ rfl ⟨_, rfl, bsets (Nat.le_refl _) _ 0 wy B7.out, _, _, rfl, by have := HMI.out; omega, OKJ.out.1, OKJ.out.2.1, ?_, ?_, ?_, ?_, ?_⟩
    · exact results_cell_tmp rfl _ _ w.heap.size _ _ (0, 0) _ _ rfl rfl h8 Tryd.underlying33 rfl (by kernel_rfl)
    · rw [← HNA.out]; exact own_low (own_sets O7.out S12.out _ 0) (Nat.le_of_lt S12.out)
    · rw [← HNB.out]; exact own_low (own_sets P6.out S12.out _ 0) (Nat.le_of_lt S12.out)
    · intro k hk; exact (own_block (own_sets O7.out S12.out _ 0) k hk).2
    · intro k hk; exact (own_block (own_sets P6.out S12.out _ 0) k hk).2
    · exact TYP.out

end Go.Proofs.YtngaelifkhelbaaDoor
