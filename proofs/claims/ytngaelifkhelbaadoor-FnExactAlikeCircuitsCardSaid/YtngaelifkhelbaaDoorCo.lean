/-
  AlikeCircuits of the program and of the model.
-/
import Derived.Test.YtngaelifkhelbaaDoorCj
import Derived.Test.YtngaelifkhelbaaDoorCi
namespace Go.Proofs.YtngaelifkhelbaaDoor
set_option linter.unusedVariables false
set_option linter.unusedSimpArgs false
open Go.ChangeShapes Go.WideShapes Go.ChangeAt Go.RowKit Go.Deep

/-- the same outputs for some inputs -/
def sameAt (ga : List G3) (oa : List Int) (gb : List G3) (ob : List Int) (x : Nat) : Bool := decide (runTo (onL (x : Int) ga) oa oa.length = runTo (onL (x : Int) gb) ob ob.length)
def alkB (na : Int) (ga : List G3) (oa : List Int) (nb : Int) (gb : List G3) (ob : List Int) : Bool :=
  decide (na = nb ∧ oa.length = ob.length ∧ ∀ x : Nat, x < 2 ^ na.toNat → sameAt ga oa gb ob x = true)
theorem alk_no {na nb : Int} {ga gb : List G3} {oa ob : List Int} (h : ¬ (na = nb ∧ oa.length = ob.length)) : alkB na ga oa nb gb ob = false := decide_eq_false (fun q => h ⟨q.1, q.2.1⟩)
theorem alk_at {na nb : Int} {ga gb : List G3} {oa ob : List Int} {x : Nat} (hx : x < 2 ^ na.toNat) (h : sameAt ga oa gb ob x = false) : alkB na ga oa nb gb ob = false := decide_eq_false (fun q => by have := q.2.2 x hx; rw [h] at this; cases this)
theorem alk_yes {na nb : Int} {ga gb : List G3} {oa ob : List Int} (h1 : na = nb) (h2 : oa.length = ob.length) (h : ∀ x : Nat, x < 2 ^ na.toNat → sameAt ga oa gb ob x = true) : alkB na ga oa nb gb ob = true := decide_eq_true ⟨h1, h2, h⟩
theorem pow_small {n : Nat} (h : n ≤ 10) : 2 ^ n ≤ 1024 := Nat.le_trans (Nat.pow_le_pow_right (by omega) h) (by decide)
theorem wrap_pow {n : Nat} (h : n ≤ 10) : IntKind.wrap .u16 ((2 : Int) ^ n) = ((2 ^ n : Nat) : Int) := by
  have h1 := pow_small h
  rw [show ((2 : Int) ^ n) = ((2 ^ n : Nat) : Int) from by rw [Int.natCast_pow]; rfl]
  simp only [IntKind.wrap, show IntKind.u16.bits = 16 from rfl, show IntKind.u16.signed = false from rfl]
  generalize 2 ^ n = y at h1
  simp
  omega

set_option maxRecDepth 100000 in
set_option maxHeartbeats 8000000 in
theorem implAlike_any (na : Int) (Ga Oa : Value) (ga : List G3) (oa : List Int) (ha : circB na ga oa = true) (hna : na ≤ 10) (nb : Int) (Gb Ob : Value) (gb : List G3) (ob : List Int) (hb : circB nb gb ob = true) (w : World) (h1 : GL w Ga ga) (h2 : IL w Oa oa) (h3 : GL w Gb gb) (h4 : IL w Ob ob) :
    Calls Tryd.prog 79 #[.agg #[Ga, .int .i8 na, Oa], .agg #[Gb, .int .i8 nb, Ob]] w fun e w' => e = .returned (.bool (alkB na ga oa nb gb ob)) ∧ Below w.heap.size w w' := by
  have HG1 := Lib.hid h1; have HO1 := Lib.hid h2; have HG2 := Lib.hid h3; have HO2 := Lib.hid h4
  obtain ⟨A1, c1, rfl⟩ := h1.form
  obtain ⟨A2, c2, rfl⟩ := h2.form
  obtain ⟨A3, c3, rfl⟩ := h3.form
  obtain ⟨A4, c4, rfl⟩ := h4.form
  have hha := head_of ha
  have hhb := head_of hb
  have HA := Lib.hid ha; have HBv := Lib.hid hb
  clear h1 h2 h3 h4 ha hb
  obtain ⟨bv, hbv⟩ : ∃ bv, bv = alkB na ga oa nb gb ob := ⟨_, rfl⟩
  rw [← hbv]
  have HV := Lib.hid hbv
  clear hbv
  by_cases q1 : na = nb
  rotate_left
  · have T1 : (na != nb) = true := bne_iff_ne.2 q1
    have hF : bv = false := by rw [HV.out]; exact alk_no (fun h => q1 h.1)
    subst hF
    go_enter Tryd.func79, Tryd.ntmps79
    go_wp2_with fail
    go_ret
    exact ⟨rfl, (nw2 w _ _).2.2.1⟩
  subst q1
  have T1 : (na != na) = false := by simp
  by_cases q2 : oa.length = ob.length
  rotate_left
  · have T2 : ((oa.length : Int) != (ob.length : Int)) = true := by rw [bne_iff_ne]; omega
    have hF : bv = false := by rw [HV.out]; exact alk_no (fun h => q2 h.2)
    subst hF
    go_enter Tryd.func79, Tryd.ntmps79
    go_wp2_with fail
    go_ret
    exact ⟨rfl, (nw2 w _ _).2.2.1⟩
  have T2 : ((oa.length : Int) != (ob.length : Int)) = false := by rw [q2]; simp
  have HQ2 := Lib.hid q2
  clear q2
  obtain ⟨nn, rfl⟩ : ∃ nn : Nat, na = (nn : Int) := ⟨na.toNat, by omega⟩
  have hp := pow_small (n := nn) (by omega)
  have hpw := wrap_pow (n := nn) (by omega)
  go_enter Tryd.func79, Tryd.ntmps79
  go_wp2_with fail
  obtain ⟨M, hM⟩ : ∃ M : Nat, M = 2 ^ nn := ⟨_, rfl⟩
  rw [show ((2 : Int) ^ nn) = (M : Int) from by rw [hM, Int.natCast_pow]; rfl]
  rw [← hM] at hp
  have HM := Lib.hid hM
  clear hM hpw
  obtain ⟨a1, a2, hb1, s1⟩ := nw2 w (.cells #[.slice A1 ga.length c1, .int .i8 (nn : Int), .slice A2 oa.length c2] 74) (.cells #[.slice A3 gb.length c3, .int .i8 (nn : Int), .slice A4 ob.length c4] 74)
  generalize World.alloc (World.alloc w _) _ = w1 at a1 a2 hb1 s1 ⊢
  have HX1 : Hid (BX w1 w.heap.size (.slice A1 ga.length c1) (.int .i8 (nn : Int)) (.slice A2 oa.length c2)) := Lib.hid ⟨_, a1⟩
  have HX2 : Hid (BX w1 (w.heap.size + 1) (.slice A3 gb.length c3) (.int .i8 (nn : Int)) (.slice A4 ob.length c4)) := Lib.hid ⟨_, a2⟩
  have HW1 := Lib.hid hb1
  have HB0 := Lib.hid (Below.refl w1.heap.size w1)
  clear a1 a2 hb1 s1 T1 T2
  go_loopw [23] (fun y wr => ∃ x : Nat, y = .int .u16 (x : Int) ∧ x ≤ M ∧ Hid (∀ z, z < x → sameAt ga oa gb ob z = true) ∧ Hid (Below w1.heap.size w1 wr)) (fun y _ => M - (intOf y).toNat)
  case atStart => exact ⟨0, rfl, Nat.zero_le _, Lib.hid (fun z hz => absurd hz (by omega)), HB0⟩
  case round =>
    clear HB0
    obtain ⟨x, rfl, hx, HN, HB⟩ := hrel
    by_cases hlt : x < M
    · have T3 : decide ((x : Int) < (M : Int)) = true := by simp; omega
      have m1 := HX1.out.below HB.out
      have m2 := HX2.out.below HB.out
      have HW := Lib.hid (HW1.out.trans (HB.out.mono HW1.out.size))
      have HR1 := Lib.hid (fun (W : World) (hW : Below wr.heap.size wr W) => implRun_any (nn : Int) (.slice A1 ga.length c1) (.slice A2 oa.length c2) ga oa HA.out (x : Int) ⟨by omega, by omega⟩ W (HG1.out.below (HW.out.trans (hW.mono HW.out.size))) (HO1.out.below (HW.out.trans (hW.mono HW.out.size))))
      have HR2 := Lib.hid (fun (W : World) (hW : Below wr.heap.size wr W) => implRun_any (nn : Int) (.slice A3 gb.length c3) (.slice A4 ob.length c4) gb ob HBv.out (x : Int) ⟨by omega, by omega⟩ W (HG2.out.below (HW.out.trans (hW.mono HW.out.size))) (HO2.out.below (HW.out.trans (hW.mono HW.out.size))))
      have hsa : sameAt ga oa gb ob x = decide (runTo (onL (x : Int) ga) oa oa.length = runTo (onL (x : Int) gb) ob ob.length) := rfl
      obtain ⟨r1, hr1⟩ : ∃ r1, r1 = runTo (onL (x : Int) ga) oa oa.length := ⟨_, rfl⟩
      obtain ⟨r2, hr2⟩ : ∃ r2, r2 = runTo (onL (x : Int) gb) ob ob.length := ⟨_, rfl⟩
      rw [← hr1, ← hr2] at hsa
      rw [← hr1] at HR1
      rw [← hr2] at HR2
      have KX := Lib.hid (fun (W : World) (hW : Below wr.heap.size wr W) => And.intro (m1.below hW) (m2.below hW))
      have c10 := m1.c0; have c11 := m1.c1; have c12 := m1.c2
      have c20 := m2.c0; have c21 := m2.c1; have c22 := m2.c2
      have HSA := Lib.hid hsa
      clear hr1 hr2 hsa m1 m2
      have hbits : x + 1 ≤ 1024 := by omega
      go_upto_region 6 with fail
      go_region_held (fun W => W.cell? ⟨w.heap.size, 0, none⟩ = some (.slice A1 ga.length c1) ∧ W.cell? ⟨w.heap.size, 1, none⟩ = some (.int .i8 (nn : Int)) ∧ W.cell? ⟨w.heap.size, 2, none⟩ = some (.slice A2 oa.length c2) ∧ W.cell? ⟨w.heap.size + 1, 0, none⟩ = some (.slice A3 gb.length c3) ∧ W.cell? ⟨w.heap.size + 1, 1, none⟩ = some (.int .i8 (nn : Int)) ∧ W.cell? ⟨w.heap.size + 1, 2, none⟩ = some (.slice A4 ob.length c4) ∧ Hid (Below wr.heap.size wr W)) (first | exact keep6 (KX.out _ HKB.out).1 (KX.out _ HKB.out).2 HKB | exact keep6 (KX.out _ HKA.out).1 (KX.out _ HKA.out).2 HKA | exact keep6 (KX.out _ (bdrew1 wr)).1 (KX.out _ (bdrew1 wr)).2 (Lib.hid (bdrew1 wr))) (first | (go_at_call 59; have hka := HKA.out; refine (HR2.out _ hka).mono ?_; rintro e wB ⟨rfl, hbB⟩; have HKB := Lib.hid (hka.trans (hbB.mono hka.size)); clear hbB hka) | (go_at_call 59; refine (HR1.out _ (bdrew1 wr)).mono ?_; rintro e wA ⟨rfl, hbA⟩; have HKA := Lib.hid ((bdrew1 wr).trans (hbA.mono (Nat.le_refl _))); clear hbA))
      by_cases hrr : r1 = r2
      · have T4 : (r1 != r2) = false := by rw [hrr]; simp
        have HS := Lib.hid (show sameAt ga oa gb ob x = true from by rw [HSA.out]; exact decide_eq_true hrr)
        have HN2 := Lib.hid (fun z (hz : z < x + 1) => show sameAt ga oa gb ob z = true from by
          by_cases e : z = x
          · rw [e]; exact HS.out
          · exact HN.out z (by omega))
        have HB2 := Lib.hid (HB.out.trans (HKB.out.mono HB.out.size))
        clear hrr
        go_wp2_with fail
        exact ⟨⟨x + 1, by go_num, by omega, HN2, HB2⟩, by simp [intOf]; omega⟩
      · have T4 : (r1 != r2) = true := bne_iff_ne.2 hrr
        have hS : sameAt ga oa gb ob x = false := by rw [HSA.out]; exact decide_eq_false hrr
        have hF : bv = false := by rw [HV.out]; exact alk_at (x := x) (by rw [HM.out] at hlt; simpa using hlt) hS
        have HB2 := Lib.hid (HB.out.trans (HKB.out.mono HB.out.size))
        subst hF
        clear hrr
        go_wp2_with fail
        go_ret
        exact ⟨rfl, HW1.out.trans (HB2.out.mono HW1.out.size)⟩
    · obtain rfl : x = M := by omega
      have T3 : decide ((x : Int) < (x : Int)) = false := by simp
      have hF : bv = true := by rw [HV.out]; exact alk_yes rfl HQ2.out (fun z hz => HN.out z (by rw [HM.out]; simpa using hz))
      subst hF
      go_wp2_with fail
      go_ret
      exact ⟨rfl, HW1.out.trans (HB.out.mono HW1.out.size)⟩

def alkV (na : Int) (ga : List G3) (oa : List Int) (nb : Int) (gb : List G3) (ob : List Int) : Bool := if circB na ga oa then if circB nb gb ob then if na ≤ 10 then alkB na ga oa nb gb ob else false else false else false
def alkC (na : Int) (ga : List G3) (oa : List Int) (nb : Int) (gb : List G3) (ob : List Int) : Int := if circB na ga oa then if circB nb gb ob then if na ≤ 10 then 0 else 3 else 1 else 1

set_option maxRecDepth 100000 in
set_option maxHeartbeats 8000000 in
theorem impl_AlikeCircuits (v : Value) (na : Int) (ga : List G3) (oa : List Int) (u : Value) (nb : Int) (gb : List G3) (ob : List Int) (w : World) (h : CI w v na ga oa) (h' : CI w u nb gb ob) (hE : ET w) :
    Calls Tryd.prog 40 #[v, u] w fun e w' => e = .returned (.tuple #[.bool (alkV na ga oa nb gb ob), .int .i64 (alkC na ga oa nb gb ob)]) ∧ Below w.heap.size w w' := by
  have H1 := Lib.hid h
  have H2 := Lib.hid h'
  have HE := Lib.hid hE
  obtain ⟨G1, O1, rfl, hn1, hg1, ho1⟩ := h
  have HG1 := Lib.hid hg1; have HO1 := Lib.hid ho1
  obtain ⟨A1, c1, rfl⟩ := hg1.form
  obtain ⟨A2, c2, rfl⟩ := ho1.form
  obtain ⟨G2, O2, rfl, hn2, hg2, ho2⟩ := h'
  have HG2 := Lib.hid hg2; have HO2 := Lib.hid ho2
  obtain ⟨A3, c3, rfl⟩ := hg2.form
  obtain ⟨A4, c4, rfl⟩ := ho2.form
  clear hg1 ho1 hg2 ho2
  clear hE
  go_enter Tryd.func40, Tryd.ntmps40
  go_wp2_with fail
  obtain ⟨a1, a2, hb1, s1⟩ := nw2 w (.cells #[.int .i8 na, .slice A1 ga.length c1, .slice A2 oa.length c2] 33) (.cells #[.int .i8 nb, .slice A3 gb.length c3, .slice A4 ob.length c4] 33)
  generalize World.alloc (World.alloc w _) _ = w1 at a1 a2 hb1 s1 ⊢
  have HX2 : Hid (BX w1 (w.heap.size + 1) (.int .i8 nb) (.slice A3 gb.length c3) (.slice A4 ob.length c4)) := Lib.hid ⟨_, a2⟩
  refine (openCircuit_any na _ _ ga oa w1 (H1.out.below hb1)).mono ?_
  rintro e w2 ⟨rfl, hb⟩
  replace HX2 := Lib.hid (HX2.out.below hb)
  have HB := Lib.hid (bch2 hb1 hb hb1.size)
  clear hb hb1 a1 a2 s1
  cases hca : circB na ga oa with
  | false =>
    have HC := Lib.hid hca
    clear hca
    simp only [opW, Bool.false_eq_true, if_false]
    have HB4 := Lib.hid (HB.out.trans ((nw1 w2 (.cells #[.slice none 0 0, .int .i8 0, .slice none 0 0] 74)).2.1.mono HB.out.size))
    go_wp2_with fail
    refine (reasonOf_bad 1 _ (HE.out.below HB4.out)).mono ?_
    rintro e w3 ⟨rfl, hb3⟩
    have HB3 := Lib.hid (HB4.out.trans (hb3.mono HB4.out.size))
    clear hb3
    go_wp2_with fail
    go_ret2
    exact ⟨by unfold alkV alkC; rw [HC.out]; rfl, HB3.out⟩
  | true =>
    have HCA := Lib.hid hca
    simp only [opW, if_true]
    obtain ⟨b1, hbw, _⟩ := nw1 w2 (.cells #[.slice A1 ga.length c1, .int .i8 na, .slice A2 oa.length c2] 74)
    have hx := HX2.out.below hbw
    have k0 := hx.c0; have k1 := hx.c1; have k2 := hx.c2
    go_wp2_with fail
    clear k0 k1 k2
    generalize World.alloc w2 _ = wz at b1 hbw hx ⊢
    have HY : Hid (BX wz w2.heap.size (.slice A1 ga.length c1) (.int .i8 na) (.slice A2 oa.length c2)) := Lib.hid ⟨_, b1⟩
    have HBZ := Lib.hid (HB.out.trans (hbw.mono HB.out.size))
    clear b1 hbw hx HX2 hca
    refine (openCircuit_any nb _ _ gb ob wz (H2.out.below HBZ.out)).mono ?_
    rintro e w5 ⟨rfl, hb5⟩
    replace HY := Lib.hid (HY.out.below hb5)
    have HB5 := Lib.hid (HBZ.out.trans (hb5.mono HBZ.out.size))
    clear hb5 HBZ HB
    cases hcb : circB nb gb ob with
    | false =>
      have HC := Lib.hid hcb
      clear hcb
      simp only [opW, Bool.false_eq_true, if_false]
      have HB4 := Lib.hid (HB5.out.trans ((nw1 w5 (.cells #[.slice none 0 0, .int .i8 0, .slice none 0 0] 74)).2.1.mono HB5.out.size))
      go_wp2_with fail
      refine (reasonOf_bad 1 _ (HE.out.below HB4.out)).mono ?_
      rintro e w3 ⟨rfl, hb3⟩
      have HB3 := Lib.hid (HB4.out.trans (hb3.mono HB4.out.size))
      clear hb3
      go_wp2_with fail
      go_ret2
      exact ⟨by unfold alkV alkC; rw [HCA.out, HC.out]; rfl, HB3.out⟩
    | true =>
      have HCB := Lib.hid hcb
      simp only [opW, if_true]
      obtain ⟨b1, hbw, _⟩ := nw1 w5 (.cells #[.slice A3 gb.length c3, .int .i8 nb, .slice A4 ob.length c4] 74)
      have hy := HY.out.below hbw
      have k0 := hy.c0; have k1 := hy.c1; have k2 := hy.c2
      have HB6 := Lib.hid (HB5.out.trans (hbw.mono HB5.out.size))
      clear b1 hbw hy hcb
      by_cases h10 : na ≤ 10
      · have T : decide (10 < na) = false := by simp; omega
        go_wp2_with fail
        refine (implAlike_any na _ _ ga oa HCA.out h10 nb _ _ gb ob HCB.out _ (HG1.out.below HB6.out) (HO1.out.below HB6.out) (HG2.out.below HB6.out) (HO2.out.below HB6.out)).mono ?_
        rintro e w7 ⟨rfl, hb7⟩
        have HB7 := Lib.hid (HB6.out.trans (hb7.mono HB6.out.size))
        have H10 := Lib.hid h10
        clear hb7 h10
        go_wp2_with fail
        go_ret2
        exact ⟨by unfold alkV alkC; rw [HCA.out, HCB.out, if_pos rfl, if_pos rfl, if_pos H10.out, if_pos rfl, if_pos rfl, if_pos H10.out]; rfl, HB7.out⟩
      · have T : decide (10 < na) = true := by simp; omega
        have H10 := Lib.hid h10
        clear h10
        go_wp2_with fail
        go_ret2
        exact ⟨by unfold alkV alkC; rw [HCA.out, HCB.out, if_pos rfl, if_pos rfl, if_neg (by have := H10.out; omega), if_pos rfl, if_pos rfl, if_neg (by have := H10.out; omega)]; rfl, HB6.out⟩

set_option maxRecDepth 100000 in
set_option maxHeartbeats 8000000 in
theorem spec_AlikeCircuits (v : Value) (na : Int) (ga : List G3) (oa : List Int) (u : Value) (nb : Int) (gb : List G3) (ob : List Int) (w : World) (h : CI w v na ga oa) (h' : CI w u nb gb ob) :
    Calls Tryd.prog 39 #[v, u] w fun e w' => e = .returned (.tuple #[.bool (alkV na ga oa nb gb ob), .int .i64 (alkC na ga oa nb gb ob)]) ∧ Below w.heap.size w w' := by
  obtain ⟨G1, O1, rfl, hn1, hg1, ho1⟩ := h
  have HG1 := Lib.hid hg1; have HO1 := Lib.hid ho1
  obtain ⟨A1, c1, rfl⟩ := hg1.form
  obtain ⟨A2, c2, rfl⟩ := ho1.form
  obtain ⟨G2, O2, rfl, hn2, hg2, ho2⟩ := h'
  have HG2 := Lib.hid hg2; have HO2 := Lib.hid ho2
  obtain ⟨A3, c3, rfl⟩ := hg2.form
  obtain ⟨A4, c4, rfl⟩ := ho2.form
  clear hg1 ho1 hg2 ho2
  go_enter Tryd.func39, Tryd.ntmps39
  go_wp2_with fail
  obtain ⟨a1, a2, hb1, s1⟩ := nw2 w (.cells #[.int .i8 na, .slice A1 ga.length c1, .slice A2 oa.length c2] 33) (.cells #[.int .i8 nb, .slice A3 gb.length c3, .slice A4 ob.length c4] 33)
  generalize World.alloc (World.alloc w _) _ = w1 at a1 a2 hb1 s1 ⊢
  have HX1 : Hid (BX w1 w.heap.size (.int .i8 na) (.slice A1 ga.length c1) (.slice A2 oa.length c2)) := Lib.hid ⟨_, a1⟩
  have HX2 : Hid (BX w1 (w.heap.size + 1) (.int .i8 nb) (.slice A3 gb.length c3) (.slice A4 ob.length c4)) := Lib.hid ⟨_, a2⟩
  refine (l07Ok_any w.heap.size na _ _ ga oa w1 HX1.out hn1 (HG1.out.below hb1) (HO1.out.below hb1)).mono ?_
  rintro e w2 ⟨rfl, hb⟩
  replace HX1 := Lib.hid (HX1.out.below hb)
  replace HX2 := Lib.hid (HX2.out.below hb)
  have HB := Lib.hid (bch2 hb1 hb hb1.size)
  clear hb hb1 a1 a2 s1
  cases hca : circB na ga oa with
  | false =>
    have HC := Lib.hid hca
    clear hca
    go_wp2_with fail
    go_ret2
    exact ⟨by unfold alkV alkC; rw [HC.out]; rfl, HB.out⟩
  | true =>
    have HCA := Lib.hid hca
    have hha := head_of hca
    clear hca
    go_wp2_with fail
    refine (l07Ok_any (w.heap.size + 1) nb _ _ gb ob w2 HX2.out hn2 (HG2.out.below HB.out) (HO2.out.below HB.out)).mono ?_
    rintro e w3 ⟨rfl, hb⟩
    replace HX1 := Lib.hid (HX1.out.below hb)
    replace HX2 := Lib.hid (HX2.out.below hb)
    replace HB := Lib.hid (HB.out.trans (hb.mono HB.out.size))
    clear hb
    cases hcb : circB nb gb ob with
    | false =>
      have HC := Lib.hid hcb
      clear hcb
      go_wp2_with fail
      go_ret2
      exact ⟨by unfold alkV alkC; rw [HCA.out, HC.out]; rfl, HB.out⟩
    | true =>
      have HCB := Lib.hid hcb
      clear hcb
      have k10 := HX1.out.c0; have k12 := HX1.out.c2
      have k20 := HX2.out.c0; have k22 := HX2.out.c2
      by_cases h10 : na ≤ 10
      rotate_left
      · have T : decide (10 < na) = true := by simp; omega
        have H10 := Lib.hid h10
        clear h10
        go_wp2_with fail
        go_ret2
        exact ⟨by unfold alkV alkC; rw [HCA.out, HCB.out, if_pos rfl, if_pos rfl, if_neg (by have := H10.out; omega), if_pos rfl, if_pos rfl, if_neg (by have := H10.out; omega)]; rfl, HB.out⟩
      have T : decide (10 < na) = false := by simp; omega
      have HV : Hid (alkV na ga oa nb gb ob = alkB na ga oa nb gb ob) := Lib.hid (by unfold alkV; rw [HCA.out, HCB.out, if_pos rfl, if_pos rfl, if_pos h10])
      have HCD : Hid (alkC na ga oa nb gb ob = 0) := Lib.hid (by unfold alkC; rw [HCA.out, HCB.out, if_pos rfl, if_pos rfl, if_pos h10])
      by_cases q1 : na = nb
      rotate_left
      · have T1 : (na != nb) = true := bne_iff_ne.2 q1
        have HF := Lib.hid (show alkB na ga oa nb gb ob = false from alk_no (fun h => q1 h.1))
        clear q1
        go_wp2_with fail
        go_ret2
        exact ⟨by rw [HV.out, HCD.out, HF.out]; rfl, HB.out⟩
      subst q1
      have T1 : (na != na) = false := by simp
      by_cases q2 : oa.length = ob.length
      rotate_left
      · have T2 : ((oa.length : Int) != (ob.length : Int)) = true := by rw [bne_iff_ne]; omega
        have HF := Lib.hid (show alkB na ga oa na gb ob = false from alk_no (fun h => q2 h.2))
        clear q2
        go_wp2_with fail
        go_ret2
        exact ⟨by rw [HV.out, HCD.out, HF.out]; rfl, HB.out⟩
      have T2 : ((oa.length : Int) != (ob.length : Int)) = false := by rw [q2]; simp
      have HQ2 := Lib.hid q2
      clear q2
      obtain ⟨nn, rfl⟩ : ∃ nn : Nat, na = (nn : Int) := ⟨na.toNat, by omega⟩
      have hp := pow_small (n := nn) (by omega)
      have HB0 := Lib.hid (Below.refl w3.heap.size w3)
      have hM2 : ((2 : Int) ^ nn) = ((2 ^ nn : Nat) : Int) := by rw [Int.natCast_pow]; rfl
      obtain ⟨M, hM⟩ : ∃ M : Nat, M = 2 ^ nn := ⟨_, rfl⟩
      rw [← hM] at hM2 hp
      have HM := Lib.hid hM
      have hnn : nn ≤ 10 := by omega
      have W1 : wrap64 ((M : Nat) : Int) = (M : Int) := IntWalk.wrap64_in _ (by omega)
      clear hM k10 k12 k20 k22
      have k10 := HX1.out.c0; have k12 := HX1.out.c2
      have k20 := HX2.out.c0; have k22 := HX2.out.c2
      go_wp2_with fail
      clear k10 k12 k20 k22
      go_loopw [6] (fun y wr => ∃ x : Nat, y = .int .i64 (x : Int) ∧ x ≤ M ∧ Hid (∀ z, z < x → sameAt ga oa gb ob z = true) ∧ Hid (Below w3.heap.size w3 wr)) (fun y _ => M - (intOf y).toNat)
      case atStart => exact ⟨0, rfl, Nat.zero_le _, Lib.hid (fun z hz => absurd hz (by omega)), HB0⟩
      case round =>
        clear HB0
        obtain ⟨x, rfl, hx, HN, HBL⟩ := hrel
        have m1 := HX1.out.below HBL.out
        have m2 := HX2.out.below HBL.out
        have k10 := m1.c0
        have HY1 := Lib.hid m1; have HY2 := Lib.hid m2
        have HW := Lib.hid (HB.out.trans (HBL.out.mono HB.out.size))
        clear m1 m2
        by_cases hlt : x < M
        · have T3 : decide ((x : Int) < (M : Int)) = true := by simp; omega
          have hsa : sameAt ga oa gb ob x = decide (runTo (onL (x : Int) ga) oa oa.length = runTo (onL (x : Int) gb) ob ob.length) := rfl
          obtain ⟨r1, hr1⟩ : ∃ r1, r1 = runTo (onL (x : Int) ga) oa oa.length := ⟨_, rfl⟩
          obtain ⟨r2, hr2⟩ : ∃ r2, r2 = runTo (onL (x : Int) gb) ob ob.length := ⟨_, rfl⟩
          rw [← hr1, ← hr2] at hsa
          have HSA := Lib.hid hsa
          have HR1 := Lib.hid hr1; have HR2 := Lib.hid hr2
          clear hsa hr1 hr2
          go_wp2_with fail
          refine (specRun_any (nn : Int) w.heap.size _ _ ga oa HCA.out (x : Int) ⟨by omega, by omega⟩ _ HY1.out (HG1.out.below HW.out) (HO1.out.below HW.out)).mono ?_
          rintro e wa ⟨rfl, hba⟩
          rw [← HR1.out]
          have HY2' := Lib.hid (HY2.out.below hba)
          have HW' := Lib.hid (HW.out.trans (hba.mono HW.out.size))
          have HL' := Lib.hid (HBL.out.trans (hba.mono HBL.out.size))
          clear hba
          go_wp2_with fail
          refine (specRun_any (nn : Int) (w.heap.size + 1) _ _ gb ob HCB.out (x : Int) ⟨by omega, by omega⟩ _ HY2'.out (HG2.out.below HW'.out) (HO2.out.below HW'.out)).mono ?_
          rintro e wb ⟨rfl, hbb⟩
          rw [← HR2.out]
          have HW2 := Lib.hid (HW'.out.trans (hbb.mono HW'.out.size))
          have HL2 := Lib.hid (HL'.out.trans (hbb.mono HL'.out.size))
          clear hbb
          by_cases hrr : r1 = r2
          · have T4 : (r1 != r2) = false := by rw [hrr]; simp
            have HS := Lib.hid (show sameAt ga oa gb ob x = true from by rw [HSA.out]; exact decide_eq_true hrr)
            have HN2 := Lib.hid (fun z (hz : z < x + 1) => show sameAt ga oa gb ob z = true from by
              by_cases e : z = x
              · rw [e]; exact HS.out
              · exact HN.out z (by omega))
            clear hrr
            go_wp2_with fail
            exact ⟨⟨x + 1, by go_num, by omega, HN2, HL2⟩, by simp [intOf]; omega⟩
          · have T4 : (r1 != r2) = true := bne_iff_ne.2 hrr
            have hS : sameAt ga oa gb ob x = false := by rw [HSA.out]; exact decide_eq_false hrr
            have HF := Lib.hid (show alkB (nn : Int) ga oa (nn : Int) gb ob = false from alk_at (x := x) (by rw [HM.out] at hlt; simpa using hlt) hS)
            clear hrr hS
            go_wp2_with fail
            go_ret2
            exact ⟨by rw [HV.out, HCD.out, HF.out]; rfl, HW2.out⟩
        · obtain rfl : x = M := by omega
          have T3 : decide ((x : Int) < (x : Int)) = false := by simp
          have HF := Lib.hid (show alkB (nn : Int) ga oa (nn : Int) gb ob = true from alk_yes rfl HQ2.out (fun z hz => HN.out z (by rw [HM.out]; simpa using hz)))
          go_wp2_with fail
          go_ret2
          exact ⟨by rw [HV.out, HCD.out, HF.out]; rfl, HW.out⟩

end Go.Proofs.YtngaelifkhelbaaDoor
