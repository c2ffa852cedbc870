/-
  TimesCircuit.
-/
import Derived.Test.YtngaelifkhelbaaDoorDj
import Derived.Deep.RegionHeld
namespace Go.Proofs.YtngaelifkhelbaaDoor
set_option linter.unusedVariables false
set_option linter.unusedSimpArgs false
open Go.ChangeShapes Go.WideShapes Go.ChangeAt Go.RowKit Go.Deep

theorem implTimesJ (B gp : Nat) (PT : TypeId) (hP : PT ≠ 88) (hP2 : 86 ≠ PT) (v u : Value) (xs ys : List Int) (gs : List G3) (k : Nat) (hk : k ≤ 3) (hx : xs.length = 2 ^ k) (hy : ys.length = 2 ^ k) (hg : gs.length ≤ 16) (w : World) (h : ST B gp PT w gs) (h1 : TL w v xs) (h2 : TL w u ys) :
    Calls Tryd.prog 88 #[.pointer (some ⟨gp, 0, none⟩), v, u] w fun e w' => ∃ r, e = .returned r ∧ ST B gp PT w' (timesG k xs ys gs).1 ∧ w'.ownsRow w.heap.size 86 1 r (timesG k xs ys gs).2.length (i16s (timesG k xs ys gs).2) ∧ AD B gp PT w w' :=
  implTimes_any k B gp PT hP hP2 v u xs ys gs hk hx hy (by
    have : tcN k ≤ 157 := by
      have hc : k = 0 ∨ k = 1 ∨ k = 2 ∨ k = 3 := by omega
      rcases hc with rfl | rfl | rfl | rfl <;> decide
    omega) w h h1 h2
theorem specTimesJ (B gp : Nat) (PT : TypeId) (hP : PT ≠ 88) (hP2 : 86 ≠ PT) (v u : Value) (xs ys : List Int) (gs : List G3) (k : Nat) (hk : k ≤ 3) (hx : xs.length = 2 ^ k) (hy : ys.length = 2 ^ k) (hg : gs.length ≤ 16) (w : World) (h : ST B gp PT w gs) (h1 : TL w v xs) (h2 : TL w u ys) :
    Calls Tryd.prog 87 #[.pointer (some ⟨gp, 0, none⟩), v, u] w fun e w' => ∃ r, e = .returned r ∧ ST B gp PT w' (timesG k xs ys gs).1 ∧ w'.ownsRow w.heap.size 86 1 r (timesG k xs ys gs).2.length (i16s (timesG k xs ys gs).2) ∧ AD B gp PT w w' :=
  specTimes_any k B gp PT hP hP2 v u xs ys gs hk hx hy (by
    have : tcN k ≤ 157 := by
      have hc : k = 0 ∨ k = 1 ∨ k = 2 ∨ k = 3 := by omega
      rcases hc with rfl | rfl | rfl | rfl <;> decide
    omega) w h h1 h2

theorem okTimesCircuit : ∀ lv, lv ≤ 3 → okJ (mdC timesG lv) = true := fun lv h => by
  have hc : lv = 0 ∨ lv = 1 ∨ lv = 2 ∨ lv = 3 := by omega
  rcases hc with rfl | rfl | rfl | rfl
  · exact show okJ (mdC timesG 0) = true by kernel_rfl
  · exact show okJ (mdC timesG 1) = true by kernel_rfl
  · exact show okJ (mdC timesG 2) = true by kernel_rfl
  · exact show okJ (mdC timesG 3) = true by kernel_rfl

theorem lenTimesCircuit (level : Int) : (mdG timesG level).length + (mdO timesG level).length ≤ 1048576 := by
  unfold mdG mdO
  by_cases h : lvB level = true
  · obtain ⟨lv, rfl, hl⟩ := level_of h
    have := (okJ_of (okTimesCircuit lv hl)).2.2
    rw [if_pos h, if_pos h, show ((lv : Nat) : Int).toNat = lv from rfl]; omega
  · rw [if_neg h, if_neg h]; simp

set_option maxHeartbeats 4000000 in
set_option maxRecDepth 100000 in
theorem pair_TimesCircuit (level : Int) (w : World) (hE : ET w) :
    Calls Tryd.prog 85 #[.int .i64 level, .func (Fn.func 88) #[] #[]] w fun e w' => ∃ u, e = .returned (.tuple #[u, .int .i64 (mdK level)]) ∧ Below w.heap.size w w' ∧ CO w.heap.size w'.heap.size w' u (mdN level) (mdG timesG level) (mdO timesG level) := by
  have HE := Lib.hid hE
  clear hE
  obtain ⟨a1, hb1, s1⟩ := nw1 w (.cells #[.int .i8 0, .slice none 0 0, .slice none 0 0] 33)
  cases hb : lvB level with
  | false =>
    have hlv : level < 0 ∨ 3 < level := by have := of_decide_eq_false hb; omega
    have eN : mdN level = 0 := by unfold mdN; rw [hb]; rfl
    have eG : mdG timesG level = [] := by unfold mdG; rw [hb]; rfl
    have eO : mdO timesG level = [] := by unfold mdO; rw [hb]; rfl
    have eK : mdK level = 2 := by unfold mdK; rw [hb]; rfl
    rw [eN, eG, eO, eK]
    clear eN eG eO eK hb
    have HLV := Lib.hid hlv
    clear hlv
    go_enter Tryd.func85, Tryd.ntmps85
    go_wp2_with fail
    generalize World.alloc w _ = w1 at a1 hb1 s1 ⊢
    refine (wiringFor_bad level HLV.out 2 w1).mono ?_
    rintro e w2 ⟨rfl, hb2⟩
    have M2 : Hid (BX w2 w.heap.size (.int .i8 0) (.slice none 0 0) (.slice none 0 0)) := Lib.hid (BX.belowB ⟨_, a1⟩ hb2 (by omega))
    have HB2 := Lib.hid (hb1.trans (hb2.mono hb1.size))
    clear a1 hb1 s1 hb2
    have HB4 := Lib.hid (nw1 w2 (.cells #[.slice none 0 0, .int .i8 0, .slice none 0 0] 74)).2.1
    go_wp2_with fail
    refine (reasonOf_bad 2 _ (HE.out.below (HB2.out.trans (HB4.out.mono HB2.out.size)))).mono ?_
    rintro e w3 ⟨rfl, hb3⟩
    have m3 := (M2.out.below HB4.out).below hb3
    have HB3 := Lib.hid (HB2.out.trans ((HB4.out.trans (hb3.mono HB4.out.size)).mono HB2.out.size))
    have r3 := m3.there
    have M3 := Lib.hid m3
    clear m3 hb3
    go_wp2_with (guard_target =~ wpList _ _ _ (⟨_, Op.store 33 _ _, _, _, _, _⟩ :: _) _ _; refine wpList_store_mid rfl 33 _ _ rfl (w.heap.size) 0 #[.int .i8 0, .slice none 0 0, .slice none 0 0] rfl rfl r3 (by kernel_rfl) (three_one rfl rfl rfl) ?_)
    obtain ⟨t8, h8⟩ := M3.out.puts (.int .i8 0) (.slice none 0 0) (.slice none 0 0)
    refine bodyPost_ret (v := .tuple #[.agg #[.int .i8 0, .slice none 0 0, .slice none 0 0], .int .i64 2]) ?_ rfl ⟨_, rfl, bsets (Nat.le_refl _) _ 0 w3 HB3.out, ⟨.slice none 0 0, .slice none 0 0, rfl, by omega, by simp, by simp, World.ownsRow_nil _ _ _ _, World.ownsRow_nil _ _ _ _, by simp [Value.ownBlock], by simp [Value.ownBlock], by simp [Value.ownBlock]⟩⟩
    exact results_cell_tmp rfl _ _ w.heap.size _ _ (0, 0) _ _ rfl rfl h8 Tryd.underlying33 rfl (by kernel_rfl)
  | true =>
    obtain ⟨lv, rfl, hl⟩ := level_of hb
    obtain ⟨n, hn⟩ : ∃ n, n = 2 ^ lv := ⟨_, rfl⟩
    have hn1 : 1 ≤ n := by rw [hn]; exact Nat.one_le_two_pow
    have hn8 : n ≤ 8 := by rw [hn]; exact Nat.pow_le_pow_right (by omega) hl
    have eN : mdN (lv : Int) = (n : Int) + (n : Int) := by unfold mdN; rw [hb, hn]; exact Int.natCast_add _ _
    have eG : mdG timesG (lv : Int) = (mdC timesG lv).1 := by unfold mdG; rw [hb]; rfl
    have eO : mdO timesG (lv : Int) = (mdC timesG lv).2 := by unfold mdO; rw [hb]; rfl
    have eK : mdK (lv : Int) = 0 := by unfold mdK; rw [hb]; rfl
    have eC : mdC timesG lv = timesG lv ((outsL 0 (n + n)).take n) ((outsL 0 (n + n)).drop n) (inG (n + n)) := by unfold mdC; rw [hn]
    have OKJ := Lib.hid (okJ_of (okTimesCircuit lv hl))
    rw [eN, eG, eO, eK]
    have HEC := Lib.hid eC; have HN := Lib.hid hn; have HL := Lib.hid hl
    clear eN eG eO eK hb eC hn hl
    go_enter Tryd.func85, Tryd.ntmps85
    go_wp2_with fail
    generalize World.alloc w _ = w1 at a1 hb1 s1 ⊢
    refine (wiringFor_any lv 2 (n + n) HL.out (by omega) (by rw [HN.out]; omega) w1).mono ?_
    rintro e w2 ⟨v, r, rfl, hb2, hov, hor⟩
    obtain ⟨AV, cV, rfl, _, _⟩ := own_formu hov
    have htl : TL w2 r (outsL 0 (n + n)) := TL.of_own (by rw [outsL_len]; exact hor) (by rw [outsL_len]; omega) (outsL_w _ _ (by omega))
    obtain ⟨g, off, cR, rfl, hcl, hcm⟩ := htl.form
    rw [outsL_len] at hcl htl hor ⊢
    have HCL := Lib.hid hcl; have HCM := Lib.hid hcm
    have M1 : Hid (BX w2 w.heap.size (.int .i8 0) (.slice none 0 0) (.slice none 0 0)) := Lib.hid (BX.belowB ⟨_, a1⟩ hb2 (by omega))
    have HS1 := Lib.hid s1; have HB1 := Lib.hid hb1; have HB2 := Lib.hid hb2
    have HTL := Lib.hid htl; have HOV := Lib.hid hov
    clear a1 hb1 s1 hb2 hov hor htl hcl hcm
    go_upto_region 2 with fail
    obtain ⟨z1, z2, z3⟩ := nw1 w2 (.cells #[.slice AV (n + n) cV, .int .i8 ((n : Int) + (n : Int)), .slice none 0 0] 74)
    generalize World.alloc w2 _ = w3 at z1 z2 z3 ⊢
    obtain ⟨gp, hgp⟩ : ∃ gp, gp = w2.heap.size := ⟨_, rfl⟩
    rw [← hgp] at z1 ⊢
    have HGP := Lib.hid hgp
    have X3 : Hid (BX w3 gp (.slice AV (n + n) cV) (.int .i8 ((n : Int) + (n : Int))) (.slice none 0 0)) := Lib.hid ⟨_, z1⟩
    have HST : Hid (ST w1.heap.size gp 74 w3 (inG (n + n))) := Lib.hid ⟨by have := HB2.out.size; omega, ⟨_, z1, by simp⟩, _, X3.out.c0, by rw [inG_len]; exact owb HOV.out z2⟩
    have HTL3 := Lib.hid (HTL.out.below z2)
    have HZ2 := Lib.hid z2
    clear z1 z2 z3 hgp
    go_wp2_with fail
    refine (halves_any g off cR n hn1 HCL.out HCM.out w3).mono ?_
    rintro e w4 ⟨rfl, hb4⟩
    have HST4 := Lib.hid (HST.out.below hb4)
    have t4 := HTL3.out.below hb4
    have ta := t4.take n (by rw [outsL_len]; omega)
    have td := t4.drop n (by rw [outsL_len]; omega)
    rw [show n + n - n = n from by omega] at td
    have HTA := Lib.hid ta; have HTD := Lib.hid td
    have X4 := Lib.hid (X3.out.below hb4)
    have HB4 := Lib.hid hb4
    clear hb4 t4 ta td
    go_wp2_with fail
    have hj := implTimesJ w1.heap.size gp 74 (by decide) (by decide) _ _ _ _ (inG (n + n)) lv HL.out (by rw [List.length_take, outsL_len, ← HN.out]; omega) (by rw [List.length_drop, outsL_len, ← HN.out]; omega) (by rw [inG_len]; omega) w4 HST4.out HTA.out HTD.out
    rw [← HEC.out] at hj
    refine hj.mono ?_
    clear hj
    rintro e w5 ⟨rr, rfl, hst, hro, had⟩
    obtain ⟨AR, cR2, rfl, _, _⟩ := own_formu hro
    obtain ⟨_, ⟨cur, hcur, _⟩, v5, hv5, hov5⟩ := hst
    obtain ⟨AG, cG, rfl, _, _⟩ := own_formu hov5
    have k1 : w5.cell? ⟨gp, 1, none⟩ = some (.int .i8 ((n : Int) + (n : Int))) := (had.off 1 (by decide)).trans X4.out.c1
    have k2 : w5.cell? ⟨gp, 2, none⟩ = some (.slice none 0 0) := (had.off 2 (by decide)).trans X4.out.c2
    have k3 : w5.frozen? ⟨gp, 2, none⟩ = false := frozen_of_row _ _ _ _ _ hcur
    obtain ⟨q0, q1, q2⟩ := cells2 hcur hv5 k1 _ (.slice AR (mdC timesG lv).2.length cR2) k2
    obtain ⟨na, hna⟩ : ∃ na, na = (mdC timesG lv).1.length := ⟨_, rfl⟩
    obtain ⟨nb, hnb⟩ : ∃ nb, nb = (mdC timesG lv).2.length := ⟨_, rfl⟩
    have hgt := grown_putd w5 gp 2 (.slice AR (mdC timesG lv).2.length cR2)
    have o6 := own_grown hov5 hgt (fun k hk e => by
      obtain ⟨cr, h⟩ := own_type hov5 k hk
      cases e
      rw [hcur] at h; cases h)
    have p6 := own_grown hro hgt (fun k hk e => by
      obtain ⟨cr, h⟩ := own_type hro k hk
      cases e
      rw [hcur] at h; cases h)
    have s12 : w.heap.size < w1.heap.size := by have := HS1.out; omega
    have b15 : Below w1.heap.size w1 w5 := (HB2.out.trans (HZ2.out.mono HB2.out.size)).trans ((HB4.out.mono (by have := HB2.out.size; have := HZ2.out.size; omega)).trans had.toBelow)
    have b6 : Below w.heap.size w (w5.setCell ⟨gp, 2, none⟩ (.slice AR (mdC timesG lv).2.length cR2)) := (HB1.out.trans (b15.mono (by omega))).setCell (p := ⟨gp, 2, none⟩) (by show w.heap.size ≤ gp; have := HGP.out; have := HB2.out.size; omega) _
    have m6 := ((M1.out.below HZ2.out).below HB4.out).belowB had.toBelow s12
    have m6' := m6.other (k := gp) (o := 2) (by have := HGP.out; have := HB2.out.size; omega) (.slice AR (mdC timesG lv).2.length cR2)
    have h16 : w1.heap.size ≤ w4.heap.size := by have := HB2.out.size; have := HZ2.out.size; have := HB4.out.size; omega
    have TYP := Lib.hid (show ∀ k, (Value.slice AG (mdC timesG lv).1.length cG).ownBlock = some k → (Value.slice AR (mdC timesG lv).2.length cR2).ownBlock ≠ some k from fun k hk hk2 => by
      obtain ⟨c1, h1⟩ := own_type hov5 k hk
      obtain ⟨c2, h2⟩ := own_type hro k hk2
      rw [h1] at h2; cases h2)
    rw [← hna] at hv5 hov5 q0 o6 TYP
    rw [← hnb] at q0 q1 q2 o6 p6 b6 m6' TYP ⊢
    have O6 := Lib.hid o6; have P6 := Lib.hid (own_low p6 h16); have B6 := Lib.hid b6; have M6 := Lib.hid m6'
    have HNA := Lib.hid hna; have HNB := Lib.hid hnb; have S12 := Lib.hid s12
    clear hro had hcur hv5 hov5 hgt o6 p6 b15 b6 m6 m6' h16 s12 hna hnb
    generalize hw6 : w5.setCell ⟨gp, 2, none⟩ (.slice AR nb cR2) = w6 at q0 q1 q2 O6 P6 B6 M6
    go_wp2_with fail
    clear hw6 k1 k2 k3 q0 q1 q2
    refine (circuit_any _ _ _ _ _ _ _ _ _ rfl rfl w6).mono ?_
    rintro e w7 ⟨rfl, hb7⟩
    have m7 := M6.out.below hb7
    have r7 := m7.there
    have M7 := Lib.hid m7
    have B7 := Lib.hid (B6.out.trans (hb7.mono B6.out.size))
    have O7 := Lib.hid (owb O6.out hb7); have P7 := Lib.hid (owb P6.out hb7)
    clear m7 hb7
    go_wp2_with (guard_target =~ wpList _ _ _ (⟨_, Op.store 33 _ _, _, _, _, _⟩ :: _) _ _; refine wpList_store_mid rfl 33 _ _ rfl (w.heap.size) 0 #[.int .i8 ((n : Int) + (n : Int)), .slice AG na cG, .slice AR nb cR2] rfl rfl r7 (by kernel_rfl) (three_one rfl rfl rfl) ?_)
    obtain ⟨t8, h8⟩ := M7.out.puts (.int .i8 ((n : Int) + (n : Int))) (.slice AG na cG) (.slice AR nb cR2)
    refine bodyPost_ret (v := .tuple #[.agg #[.int .i8 ((n : Int) + (n : Int)), .slice AG na cG, .slice AR nb cR2], .int .i64 0]) ?_ rfl ⟨_, rfl, bsets (Nat.le_refl _) _ 0 w7 B7.out, _, _, rfl, by omega, OKJ.out.1, OKJ.out.2.1, ?_, ?_, ?_, ?_, ?_⟩
    · exact results_cell_tmp rfl _ _ w.heap.size _ _ (0, 0) _ _ rfl rfl h8 Tryd.underlying33 rfl (by kernel_rfl)
    · rw [← HNA.out]; exact own_low (own_sets O7.out S12.out _ 0) (Nat.le_of_lt S12.out)
    · rw [← HNB.out]; exact own_low (own_sets P7.out S12.out _ 0) (Nat.le_of_lt S12.out)
    · intro k hk; exact (own_block (own_sets O7.out S12.out _ 0) k hk).2
    · intro k hk; exact (own_block (own_sets P7.out S12.out _ 0) k hk).2
    · exact TYP.out
set_option maxHeartbeats 4000000 in
set_option maxRecDepth 100000 in
theorem impl_TimesCircuit (level : Int) (hbl : -9223372036854775808 ≤ level ∧ level ≤ 9223372036854775807) (w : World) (hE : ET w) :
    Calls Tryd.prog 46 #[.int .i64 level] w fun e w' => ∃ u, e = .returned (.tuple #[u, .int .i64 (mdK level)]) ∧ Below w.heap.size w w' ∧ CO w.heap.size w'.heap.size w' u (mdN level) (mdG timesG level) (mdO timesG level) := by
  have HE := Lib.hid hE
  clear hE hbl
  obtain ⟨a1, hb1, s1⟩ := nw1 w (.cells #[.int .i8 0, .slice none 0 0, .slice none 0 0] 33)
  go_enter Tryd.func46, Tryd.ntmps46
  go_wp2_with fail
  generalize World.alloc w _ = w1 at a1 hb1 s1 ⊢
  refine (pair_TimesCircuit level w1 (HE.out.below hb1)).mono ?_
  rintro e w2 ⟨u, rfl, hb2, G, O, rfl, hn, hgw, hiw, h1, h2, h3, h4, h5⟩
  obtain ⟨AG, cG, rfl, _, _⟩ := own_formu h1
  obtain ⟨AO, cO, rfl, _, _⟩ := own_formu h2
  have m2 : BX w2 w.heap.size (.int .i8 0) (.slice none 0 0) (.slice none 0 0) := BX.belowB ⟨_, a1⟩ hb2 (by omega)
  have r2 := m2.there
  have M2 := Lib.hid m2
  have B2 := Lib.hid (hb1.trans (hb2.mono hb1.size))
  have S12 : Hid (w.heap.size < w1.heap.size) := Lib.hid (by omega)
  have O1 := Lib.hid h1; have O2 := Lib.hid h2; have O5 := Lib.hid h5; have HGW := Lib.hid hgw; have HIW := Lib.hid hiw; have HNN := Lib.hid hn
  obtain ⟨mn, hmn⟩ : ∃ mn, mn = mdN level := ⟨_, rfl⟩
  obtain ⟨mk, hmk⟩ : ∃ mk, mk = mdK level := ⟨_, rfl⟩
  obtain ⟨na, hna⟩ : ∃ na, na = (mdG timesG level).length := ⟨_, rfl⟩
  obtain ⟨nb, hnb⟩ : ∃ nb, nb = (mdO timesG level).length := ⟨_, rfl⟩
  rw [← hmn, ← hmk, ← hna, ← hnb]
  rw [← hna] at O1 O5; rw [← hnb] at O2 O5
  have HMN := Lib.hid hmn; have HMK := Lib.hid hmk; have HNA := Lib.hid hna; have HNB := Lib.hid hnb
  clear a1 hb1 s1 hb2 hn hgw hiw h1 h2 h3 h4 h5 m2 hmn hmk hna hnb
  go_wp2_with (guard_target =~ wpList _ _ _ (⟨_, Op.store 33 _ _, _, _, _, _⟩ :: _) _ _; refine wpList_store_mid rfl 33 _ _ rfl (w.heap.size) 0 #[.int .i8 mn, .slice AG na cG, .slice AO nb cO] rfl rfl r2 (by kernel_rfl) (three_one rfl rfl rfl) ?_)
  obtain ⟨t8, h8⟩ := M2.out.puts (.int .i8 mn) (.slice AG na cG) (.slice AO nb cO)
  refine bodyPost_ret (v := .tuple #[.agg #[.int .i8 mn, .slice AG na cG, .slice AO nb cO], .int .i64 mk]) ?_ rfl ⟨_, by rw [← HMK.out], bsets (Nat.le_refl _) _ 0 w2 B2.out, _, _, by rw [← HMN.out], HNN.out, HGW.out, HIW.out, ?_, ?_, ?_, ?_, ?_⟩
  · exact results_cell_tmp rfl _ _ w.heap.size _ _ (0, 0) _ _ rfl rfl h8 Tryd.underlying33 rfl (by kernel_rfl)
  · rw [← HNA.out]; exact own_low (own_sets O1.out S12.out _ 0) (Nat.le_of_lt S12.out)
  · rw [← HNB.out]; exact own_low (own_sets O2.out S12.out _ 0) (Nat.le_of_lt S12.out)
  · intro k hk; exact (own_block (own_sets O1.out S12.out _ 0) k hk).2
  · intro k hk; exact (own_block (own_sets O2.out S12.out _ 0) k hk).2
  · exact O5.out

set_option maxHeartbeats 4000000 in
set_option maxRecDepth 100000 in
theorem spec_TimesCircuit (level : Int) (hbl : -9223372036854775808 ≤ level ∧ level ≤ 9223372036854775807) (w : World) :
    Calls Tryd.prog 45 #[.int .i64 level] w fun e w' => ∃ u, e = .returned (.tuple #[u, .int .i64 (mdK level)]) ∧ Below w.heap.size w w' ∧ CO w.heap.size w'.heap.size w' u (mdN level) (mdG timesG level) (mdO timesG level) := by
  clear hbl
  obtain ⟨a1, hb1, s1⟩ := nw1 w (.cells #[.int .i8 0, .slice none 0 0, .slice none 0 0] 33)
  cases hb : lvB level with
  | false =>
    have eN : mdN level = 0 := by unfold mdN; rw [hb]; rfl
    have eG : mdG timesG level = [] := by unfold mdG; rw [hb]; rfl
    have eO : mdO timesG level = [] := by unfold mdO; rw [hb]; rfl
    have eK : mdK level = 2 := by unfold mdK; rw [hb]; rfl
    rw [eN, eG, eO, eK]
    clear eN eG eO eK
    go_enter Tryd.func45, Tryd.ntmps45
    go_wp2_with fail
    generalize World.alloc w _ = w1 at a1 hb1 s1 ⊢
    refine (l07Level_any level w1).mono ?_
    rintro e w2 ⟨rfl, hww⟩
    subst hww
    rw [hb]
    have m2 : BX w2 w.heap.size (.int .i8 0) (.slice none 0 0) (.slice none 0 0) := ⟨_, a1⟩
    have r2 := m2.there
    have M2 := Lib.hid m2; have HB2 := Lib.hid hb1
    clear a1 hb1 s1 m2 hb
    go_wp2_with (guard_target =~ wpList _ _ _ (⟨_, Op.store 33 _ _, _, _, _, _⟩ :: _) _ _; refine wpList_store_mid rfl 33 _ _ rfl (w.heap.size) 0 #[.int .i8 0, .slice none 0 0, .slice none 0 0] rfl rfl r2 (by kernel_rfl) (three_one rfl rfl rfl) ?_)
    obtain ⟨t8, h8⟩ := M2.out.puts (.int .i8 0) (.slice none 0 0) (.slice none 0 0)
    refine bodyPost_ret (v := .tuple #[.agg #[.int .i8 0, .slice none 0 0, .slice none 0 0], .int .i64 2]) ?_ rfl ⟨_, rfl, bsets (Nat.le_refl _) _ 0 w2 HB2.out, ⟨.slice none 0 0, .slice none 0 0, rfl, by omega, by simp, by simp, World.ownsRow_nil _ _ _ _, World.ownsRow_nil _ _ _ _, by simp [Value.ownBlock], by simp [Value.ownBlock], by simp [Value.ownBlock]⟩⟩
    exact results_cell_tmp rfl _ _ w.heap.size _ _ (0, 0) _ _ rfl rfl h8 Tryd.underlying33 rfl (by kernel_rfl)
  | true =>
    obtain ⟨lv, rfl, hl⟩ := level_of hb
    obtain ⟨n, hn⟩ : ∃ n, n = 2 ^ lv := ⟨_, rfl⟩
    have hn1 : 1 ≤ n := by rw [hn]; exact Nat.one_le_two_pow
    have hn8 : n ≤ 8 := by rw [hn]; exact Nat.pow_le_pow_right (by omega) hl
    obtain ⟨m, hm⟩ : ∃ m, m = n + n := ⟨_, rfl⟩
    have eN : mdN (lv : Int) = (m : Int) := by unfold mdN; rw [hb, hm, hn]; rfl
    have eG : mdG timesG (lv : Int) = (mdC timesG lv).1 := by unfold mdG; rw [hb]; rfl
    have eO : mdO timesG (lv : Int) = (mdC timesG lv).2 := by unfold mdO; rw [hb]; rfl
    have eK : mdK (lv : Int) = 0 := by unfold mdK; rw [hb]; rfl
    have eC : mdC timesG lv = timesG lv ((outsL 0 m).take n) ((outsL 0 m).drop n) (inG m) := by unfold mdC; rw [hm, hn]
    have OKJ := Lib.hid (okJ_of (okTimesCircuit lv hl))
    rw [eN, eG, eO, eK]
    have HEC := Lib.hid eC; have HN := Lib.hid hn; have HL := Lib.hid hl; have HM := Lib.hid hm
    have e2 : 2 * (n : Int) = (m : Int) := by omega
    have e8 : IntKind.wrap .i8 (m : Int) = (m : Int) := by
      simp only [IntKind.wrap, show IntKind.i8.bits = 8 from rfl, show IntKind.i8.signed = true from rfl]
      simp
      omega
    have mn0 : m - n = n := by omega
    have mn1 : (n : Int) ≤ (m : Int) := by omega
    have HMI : Hid (m ≤ 16) := Lib.hid (by omega)
    clear eN eG eO eK eC hn hl hm
    go_enter Tryd.func45, Tryd.ntmps45
    go_wp2_with fail
    generalize World.alloc w _ = w1 at a1 hb1 s1 ⊢
    refine (l07Level_any lv w1).mono ?_
    rintro e w0 ⟨rfl, hww⟩
    subst hww
    rw [hb]
    clear hb
    go_wp2_with fail
    refine (l07Bits_any lv HL.out w0).mono ?_
    rintro e w2 ⟨rfl, hww⟩
    rw [← HN.out]
    subst hww
    have M1 : Hid (BX w2 w.heap.size (.int .i8 0) (.slice none 0 0) (.slice none 0 0)) := Lib.hid ⟨_, a1⟩
    have HS1 := Lib.hid s1; have HB1 := Lib.hid hb1
    clear a1 hb1 s1
    go_upto_region 5 with fail
    obtain ⟨z1, z2, z3⟩ := nw1 w2 (.cells #[.slice none 0 0] 107)
    generalize World.alloc w2 _ = w3 at z1 z2 z3 ⊢
    obtain ⟨gp, hgp⟩ : ∃ gp, gp = w2.heap.size := ⟨_, rfl⟩
    rw [← hgp] at z1 ⊢
    have HGP := Lib.hid hgp
    have hc0 : w3.cell? ⟨gp, 0, none⟩ = some (.slice none 0 0) := by simp [World.cell?, z1]
    have HST : Hid (ST w2.heap.size gp 107 w3 []) := Lib.hid ⟨by omega, ⟨_, z1, by simp⟩, _, hc0, World.ownsRow_nil _ _ _ _⟩
    have HZ2 := Lib.hid z2
    clear z1 z2 z3 hgp hc0
    go_wp2_with fail
    refine (specInputs_any w2.heap.size gp 107 (by decide) (by decide) m (by have := HMI.out; omega) w3 HST.out).mono ?_
    rintro e w4 ⟨r, rfl, hs4, hor, had⟩
    have htl : TL w4 r (outsL 0 m) := TL.of_own (by rw [outsL_len]; exact hor) (by rw [outsL_len]; omega) (outsL_w _ _ (by have := HMI.out; omega))
    obtain ⟨g, off, cR, rfl, hcl, hcm⟩ := htl.form
    rw [outsL_len] at hcl htl hor ⊢
    have ta := htl.take n (by rw [outsL_len]; omega)
    have td := htl.drop n (by rw [outsL_len]; omega)
    rw [mn0] at td
    have HTA := Lib.hid ta; have HTD := Lib.hid td
    have HST4 := Lib.hid hs4
    have M4 := Lib.hid ((M1.out.below HZ2.out).belowB had.toBelow (by have := HS1.out; omega))
    have HB4 := Lib.hid (HB1.out.trans ((HZ2.out.mono HB1.out.size).trans (had.toBelow.mono HB1.out.size)))
    have Q4 : Hid (w2.heap.size ≤ w4.heap.size) := Lib.hid (by have := HZ2.out.size; have := had.size; omega)
    have cc1 : (n : Int) ≤ (cR : Int) := by omega
    have cc2 : (m : Int) ≤ (cR : Int) := by omega
    have cc3 : cR ≤ 9223372036854775807 := by unfold maxLen at hcm; omega
    have cc4 : (cR = n) = False := by simp; omega
    clear hs4 hor had htl hcl hcm ta td
    go_upto_region 6 with fail
    refine wp_region_held_drew (S := fun _ => True) (by kernel_rfl) ?hS0 (fun hS => ?_)
    case hS0 => trivial
    refine takeHd (i := 0) (v := ?v0) rfl rfl (by kernel_rfl) (by kernel_rfl) (by kernel_rfl) (fun _ _ _ h => h) rfl ?hy0 hS ?rs0
    case hy0 => (intro wq hq; go_simp; try (with_reducible rfl))
    simp only [Act.put, List.setIfInBounds_toArray, List.set_cons_zero, List.set_cons_succ]
    refine takeHd (i := 1) (v := ?v1) rfl rfl (by kernel_rfl) (by kernel_rfl) (by kernel_rfl) (fun _ _ _ h => h) rfl ?hy1 hS ?rs1
    case hy1 => (intro wq hq; go_simp; try (with_reducible rfl))
    simp only [Act.put, List.setIfInBounds_toArray, List.set_cons_zero, List.set_cons_succ]
    refine takeHd (i := 2) (v := ?v2) rfl rfl (by kernel_rfl) (by kernel_rfl) (by kernel_rfl) (fun _ _ _ h => h) rfl ?hy2 hS ?rs2
    case hy2 => (intro wq hq; go_simp; try (with_reducible rfl))
    simp only [Act.put, List.setIfInBounds_toArray, List.set_cons_zero, List.set_cons_succ]
    refine takeHd (i := 3) (v := ?v3) rfl rfl (by kernel_rfl) (by kernel_rfl) (by kernel_rfl) (fun _ _ _ h => h) rfl ?hy3 hS ?rs3
    case hy3 => (intro wq hq; go_simp; try (with_reducible rfl))
    simp only [Act.put, List.setIfInBounds_toArray, List.set_cons_zero, List.set_cons_succ]
    refine takeHd (i := 4) (v := ?v4) rfl rfl (by kernel_rfl) (by kernel_rfl) (by kernel_rfl) (fun _ _ _ h => h) rfl ?hy4 hS ?rs4
    case hy4 => (intro wq hq; go_simp; try (with_reducible rfl))
    simp only [Act.put, List.setIfInBounds_toArray, List.set_cons_zero, List.set_cons_succ]
    refine takeHd (i := 5) (v := ?v5) rfl rfl (by kernel_rfl) (by kernel_rfl) (by kernel_rfl) (fun _ _ _ h => h) rfl ?hy5 hS ?rs5
    case hy5 => (intro wq hq; go_simp; try (with_reducible rfl))
    simp only [Act.put, List.setIfInBounds_toArray, List.set_cons_zero, List.set_cons_succ]
    refine takeHd (i := 6) (v := ?v6) rfl rfl (by kernel_rfl) (by kernel_rfl) (by kernel_rfl) (fun _ _ _ h => h) rfl ?hy6 hS ?rs6
    case hy6 => (intro wq hq; go_simp; try (with_reducible rfl))
    simp only [Act.put, List.setIfInBounds_toArray, List.set_cons_zero, List.set_cons_succ]
    refine wpAnyH_ready (rs := [7]) (by kernel_rfl) (by simp) ?_
    refine AllReadyH.cons rfl (fun K hK => ?_) AllReadyH.nil
    go_simp
    have hj := specTimesJ w2.heap.size gp 107 (by decide) (by decide) _ _ _ _ (inG m) lv HL.out (by rw [List.length_take, outsL_len, ← HN.out]; omega) (by rw [List.length_drop, outsL_len, ← HN.out]; omega) (by rw [inG_len]; exact HMI.out) w4.drew HST4.out HTA.out HTD.out
    rw [← HEC.out] at hj
    refine hj.mono ?_
    clear hj
    rintro e w5 ⟨rr, rfl, hst, hro, had⟩
    obtain ⟨AR, cR2, rfl, _, _⟩ := own_formu hro
    obtain ⟨_, ⟨cur, hcur, _⟩, v5, hv5, hov5⟩ := hst
    obtain ⟨AG, cG, rfl, _, _⟩ := own_formu hov5
    replace had := (AD.refl w2.heap.size gp 107 w4).drew.trans had
    obtain ⟨na, hna⟩ : ∃ na, na = (mdC timesG lv).1.length := ⟨_, rfl⟩
    obtain ⟨nb, hnb⟩ : ∃ nb, nb = (mdC timesG lv).2.length := ⟨_, rfl⟩
    have TYP := Lib.hid (show ∀ k, (Value.slice AG (mdC timesG lv).1.length cG).ownBlock = some k → (Value.slice AR (mdC timesG lv).2.length cR2).ownBlock ≠ some k from fun k hk hk2 => by
      obtain ⟨c1, h1⟩ := own_type hov5 k hk
      obtain ⟨c2, h2⟩ := own_type hro k hk2
      rw [h1] at h2; cases h2)
    have P6 := Lib.hid (own_low hro (show w2.heap.size ≤ w4.drew.heap.size from Q4.out)); have O6 := Lib.hid hov5
    have m6 := M4.out.belowB had.toBelow (by have := HS1.out; omega)
    have r6 := m6.there
    have M6 := Lib.hid m6
    have B6 := Lib.hid (HB4.out.trans (had.toBelow.mono HB1.out.size))
    have S12 : Hid (w.heap.size < w2.heap.size) := Lib.hid (by have := HS1.out; omega)
    refine hK.out _ w5 trivial (fun hS => ?_)
    clear hK
    rw [← hna] at hv5 O6 TYP
    rw [← hnb] at P6 TYP ⊢
    have HNA := Lib.hid hna; have HNB := Lib.hid hnb
    clear hna hnb hcur hov5 hro had m6
    try simp only [Act.put, List.setIfInBounds_toArray, List.set_cons_zero, List.set_cons_succ]
    refine takeHd (i := 8) (v := ?v8a) rfl rfl (by kernel_rfl) (by kernel_rfl) (by kernel_rfl) (fun _ _ _ h => h) rfl ?hy8a hS ?rs8a
    case hy8a => (intro wq hq; go_simp; try (with_reducible rfl))
    simp only [Act.put, List.setIfInBounds_toArray, List.set_cons_zero, List.set_cons_succ]
    refine wpAnyH_done (by kernel_rfl) ?_ _
    go_wp2_with (guard_target =~ wpList _ _ _ (⟨_, Op.store 33 _ _, _, _, _, _⟩ :: _) _ _; refine wpList_store_mid rfl 33 _ _ rfl (w.heap.size) 0 #[.int .i8 (m : Int), .slice AG na cG, .slice AR nb cR2] rfl rfl r6 (by kernel_rfl) (three_one rfl rfl rfl) ?_)
    obtain ⟨t8, h8⟩ := M6.out.puts (.int .i8 (m : Int)) (.slice AG na cG) (.slice AR nb cR2)
    refine bodyPost_ret (v := .tuple #[.agg #[.int .i8 (m : Int), .slice AG na cG, .slice AR nb cR2], .int .i64 0]) ?_ rfl ⟨_, rfl, bsets (Nat.le_refl _) _ 0 w5 B6.out, _, _, rfl, by have := HMI.out; omega, OKJ.out.1, OKJ.out.2.1, ?_, ?_, ?_, ?_, ?_⟩
    · exact results_cell_tmp rfl _ _ w.heap.size _ _ (0, 0) _ _ rfl rfl h8 Tryd.underlying33 rfl (by kernel_rfl)
    · rw [← HNA.out]; exact own_low (own_sets O6.out S12.out _ 0) (Nat.le_of_lt S12.out)
    · rw [← HNB.out]; exact own_low (own_sets P6.out S12.out _ 0) (Nat.le_of_lt S12.out)
    · intro k hk; exact (own_block (own_sets O6.out S12.out _ 0) k hk).2
    · intro k hk; exact (own_block (own_sets P6.out S12.out _ 0) k hk).2
    · exact TYP.out

end Go.Proofs.YtngaelifkhelbaaDoor
