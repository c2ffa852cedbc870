/-
  The least number of nimbers in which two words of a list differ: LeastApartOf.
-/
import Derived.Test.YthhjhfkcgokffaaYc
namespace Go.Proofs.Ythhjhfkcgokffaa
set_option linter.unusedVariables false
set_option linter.unusedSimpArgs false
open Go.ChangeShapes Go.WideShapes Go.ChangeAt Go.RowKit


/-- a list of words that has room for itself -/
def WC (w : World) (v : Value) (gs : List (List Int)) : Prop := ∃ A c, v = .slice A gs.length c ∧ gs.length ≤ c ∧ c ≤ maxLen ∧ WS w v gs
theorem WC.below {w w' : World} {v : Value} {gs : List (List Int)} (h : WC w v gs) (hb : Below w.heap.size w w') : WC w' v gs := by
  obtain ⟨A, c, e, h1, h2, h3⟩ := h
  exact ⟨A, c, e, h1, h2, h3.below hb⟩
theorem WC.ws {w : World} {v : Value} {gs : List (List Int)} (h : WC w v gs) : WS w v gs := by
  obtain ⟨A, c, e, h1, h2, h3⟩ := h
  exact h3
theorem WO.wc {w : World} {B T : Nat} {v : Value} {gs : List (List Int)} (h : WO w B T v gs) : WC w v gs := by
  have hw := h.ws
  obtain ⟨A, c, us, e, h1, h2, _⟩ := h
  exact ⟨A, c, e, h1, h2, hw⟩
theorem ws_len {n : Int} {gs : List (List Int)} (h : wsB n gs = true) {i : Nat} (hi : i < gs.length) : (gs.getD i []).length = (gs.getD 0 []).length ∧ (gs.getD i []).length ≤ 7 ∧ 1 ≤ (gs.getD i []).length := by
  have h1 := wsB_at h i hi
  exact ⟨h1.2, (wdB_len h1.1).2, (wdB_len h1.1).1⟩
/-- in how many nimbers two words of a list differ; the least of these numbers -/
def apG (gs : List (List Int)) (i k : Nat) : Nat := apN (gs.getD i []) (gs.getD k [])
def mrow (m : Nat) (gs : List (List Int)) (i : Nat) : Nat → Nat
  | 0 => m
  | k + 1 => min (mrow m gs i k) (apG gs i k)
def mall (m : Nat) (gs : List (List Int)) : Nat → Nat
  | 0 => m
  | i + 1 => mrow (mall m gs i) gs i i
theorem mrow_le (m : Nat) (gs : List (List Int)) (i : Nat) : ∀ k, mrow m gs i k ≤ m
  | 0 => Nat.le_refl _
  | k + 1 => Nat.le_trans (Nat.min_le_left _ _) (mrow_le m gs i k)
theorem mall_le (m : Nat) (gs : List (List Int)) : ∀ i, mall m gs i ≤ m
  | 0 => Nat.le_refl _
  | i + 1 => Nat.le_trans (mrow_le _ gs i i) (mall_le m gs i)
theorem mall_from {m m' : Nat} {gs : List (List Int)} (h : mall m gs 2 = mall m' gs 2) : ∀ j, mall m gs (j + 2) = mall m' gs (j + 2)
  | 0 => h
  | j + 1 => by
    show mrow (mall m gs (j + 2)) gs (j + 2) (j + 2) = mrow (mall m' gs (j + 2)) gs (j + 2) (j + 2)
    rw [mall_from h j]
theorem apG_b {n : Int} {gs : List (List Int)} (h : wsB n gs = true) {i : Nat} (hi : i < gs.length) (k : Nat) : apG gs i k ≤ 7 := Nat.le_trans (apN_le _ _) (ws_len h hi).2.1
theorem mall_first {n : Int} {gs : List (List Int)} (h : wsB n gs = true) (h2 : 2 ≤ gs.length) : mall (apG gs 0 1) gs gs.length = mall 7 gs gs.length := by
  have e : mall (apG gs 0 1) gs 2 = mall 7 gs 2 := by
    show min (apG gs 0 1) (apG gs 1 0) = min 7 (apG gs 1 0)
    have e1 : apG gs 0 1 = apG gs 1 0 := apN_comm (by rw [(ws_len h (i := 1) (by omega)).1])
    have := apG_b h (i := 1) (by omega) 0
    rw [e1]; omega
  obtain ⟨j, hj⟩ : ∃ j, gs.length = j + 2 := ⟨gs.length - 2, by omega⟩
  rw [hj]
  exact mall_from e j
def laC (n : Int) (gs : List (List Int)) : Int := if lsC n gs [] = 0 then (if gs.length < 2 then 6 else 0) else lsC n gs []
def laV (n : Int) (gs : List (List Int)) : Int := if laC n gs = 0 then (mall 7 gs gs.length : Int) else 0
theorem la_no {n : Int} {gs : List (List Int)} (h : ¬ lsC n gs [] = 0) : laC n gs = lsC n gs [] ∧ laV n gs = 0 := by
  have e : laC n gs = lsC n gs [] := by unfold laC; rw [if_neg h]
  exact ⟨e, by unfold laV; rw [e, if_neg h]⟩
theorem la_few {n : Int} {gs : List (List Int)} (h : lsC n gs [] = 0) (h2 : gs.length < 2) : laC n gs = 6 ∧ laV n gs = 0 := by
  have e : laC n gs = 6 := by unfold laC; rw [if_pos h, if_pos h2]
  exact ⟨e, by unfold laV; rw [e, if_neg (by decide)]⟩
theorem la_ok {n : Int} {gs : List (List Int)} (h : lsC n gs [] = 0) (h2 : ¬ gs.length < 2) : laC n gs = 0 ∧ laV n gs = (mall 7 gs gs.length : Int) := by
  have e : laC n gs = 0 := by unfold laC; rw [if_pos h, if_neg h2]
  exact ⟨e, by unfold laV; rw [e, if_pos rfl]⟩
theorem lmin_any (a b : Nat) (w : World) : Calls Try.prog 109 #[.int .i64 (a : Int), .int .i64 (b : Int)] w fun e w' => e = .returned (.int .i64 ((min a b : Nat) : Int)) ∧ w = w' := by
  by_cases h : a < b
  · have T1 : decide ((a : Int) < (b : Int)) = true := by simp; omega
    rw [show min a b = a from by omega]
    go_enter Try.func109, Try.ntmps109
    go_wp2_with fail
    go_ret
    exact ⟨rfl, rfl⟩
  · have T1 : decide ((a : Int) < (b : Int)) = false := by simp; omega
    rw [show min a b = b from by omega]
    go_enter Try.func109, Try.ntmps109
    go_wp2_with fail
    go_ret
    exact ⟨rfl, rfl⟩
set_option maxHeartbeats 4000000 in
theorem spec_LeastApartOf (n : Int) (v : Value) (gs : List (List Int)) (hb : -9223372036854775808 ≤ n ∧ n ≤ 9223372036854775807) (hn : gs.length ≤ 1048576) (hm : ∀ i, i < gs.length → (gs.getD i []).length ≤ 1048576) (w : World) (h : WS w v gs) :
    Calls Try.prog 58 #[.int .i64 n, v] w fun e w' => e = .returned (.tuple #[.int .i64 (laV n gs), .int .i64 (laC n gs)]) ∧ Below w.heap.size w w' := by
  have HWS := Lib.hid h
  obtain ⟨A, c, us, rfl, hc, hu⟩ := h.open
  have HM := Lib.hid hm
  have HB := Lib.hid hb
  have HC := Lib.hid hc
  have HU := Lib.hid hu
  clear h hc hu hm hb
  by_cases h0 : lsC n gs [] = 0
  · by_cases h2 : gs.length < 2
    · rw [(la_few h0 h2).1, (la_few h0 h2).2]
      have H0 := Lib.hid h0
      have T1 : decide ((gs.length : Int) < 2) = true := by simp; omega
      clear h0
      go_enter Try.func58, Try.ntmps58
      go_wp2_with fail
      refine (l06Listed_any n _ gs hn HM.out HB.out _ HWS.out).mono ?_
      rintro e w' ⟨rfl, m, rfl⟩
      rw [H0.out]
      go_wp2_with fail
      go_ret2
      exact ⟨rfl, bdrewN (Below.refl _ w) m⟩
    · rw [(la_ok h0 h2).1, (la_ok h0 h2).2]
      obtain ⟨_, hws, h300⟩ := lsC_ok h0
      rw [List.append_nil] at hws
      have HW := Lib.hid hws
      have H0 := Lib.hid h0
      obtain ⟨t, ht⟩ : ∃ t, t = mall 7 gs gs.length := ⟨_, rfl⟩
      rw [← ht]
      have HT := Lib.hid ht
      have T1 : decide ((gs.length : Int) < 2) = false := by simp; omega
      clear h0 hws ht
      go_enter Try.func58, Try.ntmps58
      go_wp2_with fail
      refine (l06Listed_any n _ gs hn HM.out HB.out _ HWS.out).mono ?_
      rintro e w' ⟨rfl, m0, rfl⟩
      rw [H0.out]
      go_wp2_with fail
      go_loopw [8, 7] (fun y o wr => ∃ i m x : Nat, y = .int .i64 (i : Int) ∧ i ≤ gs.length ∧ o = .int .i64 (x : Int) ∧ Hid (x = mall 7 gs i) ∧ wr = w.drewN m) (fun y _ _ => gs.length - (intOf y).toNat)
      case atStart => exact ⟨0, m0, 7, rfl, Nat.zero_le _, rfl, Lib.hid rfl, rfl⟩
      case round =>
        obtain ⟨i, m, x, rfl, hi, rfl, HX, rfl⟩ := hrel
        by_cases hlt : i < gs.length
        · have i1 : (i : Int) < (gs.length : Int) := by omega
          go_wp2_with fail
          go_loopw [9, 7] (fun y o wr => ∃ k m x : Nat, y = .int .i64 (k : Int) ∧ k ≤ i ∧ o = .int .i64 (x : Int) ∧ Hid (x = mrow (mall 7 gs i) gs i k) ∧ wr = w.drewN m) (fun y _ _ => i - (intOf y).toNat)
          case atStart => exact ⟨0, m, x, rfl, Nat.zero_le _, rfl, HX, rfl⟩
          case round =>
            obtain ⟨k, m2, x2, rfl, hk, rfl, HX2, rfl⟩ := hrel
            by_cases hlt2 : k < i
            · obtain ⟨b, off, rfl, hlb, hcell⟩ := HC.out (by omega)
              have i2 : (k : Int) < (i : Int) := by omega
              have i3 : (k : Int) < (gs.length : Int) := by omega
              have q1 : w.cell? ⟨b, off + i, none⟩ = some (us i) := hcell i hlt
              have q2 : w.cell? ⟨b, off + k, none⟩ = some (us k) := hcell k (by omega)
              have n1 := HU.out i hlt
              have n2 := HU.out k (by omega)
              have l1 := ws_len HW.out hlt
              have l2 := ws_len HW.out (i := k) (by omega)
              have hea : ∀ z, Calls Try.prog 80 #[us i, us k] (w.drewN (m2 + z)) fun e w'' => e = .returned (.int .i64 (apG gs i k : Int)) ∧ ∃ n, w'' = w.drewN (m2 + n) :=
                fun z => quiet_at (l06Apart_any (us i) (us k) (gs.getD i []) (gs.getD k []) (by omega) (by omega) (w.drewN (m2 + z)) (n1.below (bdrewN (Below.refl _ w) (m2 + z))) (n2.below (bdrewN (Below.refl _ w) (m2 + z))))
              have hmn : ∀ z, Calls Try.prog 109 #[.int .i64 (x2 : Int), .int .i64 (apG gs i k : Int)] (w.drewN (m2 + z)) fun e w'' => e = .returned (.int .i64 ((min x2 (apG gs i k) : Nat) : Int)) ∧ ∃ n, w'' = w.drewN (m2 + n) :=
                fun z => quiet_w (lmin_any x2 (apG gs i k) (w.drewN (m2 + z)))
              have hst : min x2 (apG gs i k) = mrow (mall 7 gs i) gs i (k + 1) := by rw [HX2.out]; rfl
              obtain ⟨ux, hux⟩ : ∃ u, u = us i := ⟨_, rfl⟩
              obtain ⟨uy, huy⟩ : ∃ u, u = us k := ⟨_, rfl⟩
              obtain ⟨a, ha⟩ : ∃ a, a = apG gs i k := ⟨_, rfl⟩
              obtain ⟨mv, hmv⟩ : ∃ mv, mv = min x2 a := ⟨_, rfl⟩
              rw [← ha] at hea hmn hst
              rw [← hmv] at hmn hst
              rw [← hux] at q1 hea
              rw [← huy] at q2 hea
              have HE := Lib.hid hea
              have HMN := Lib.hid hmn
              have HST := Lib.hid hst
              have HCL := Lib.hid hcell
              clear hcell n1 n2 hux huy ha hmv hea hmn hst l1 l2
              go_wp2_with fail
              go_quiet ((first | (with_reducible exact HE.out _) | (with_reducible exact HMN.out _)))
              go_wp2_with fail
              exact ⟨⟨k + 1, m2 + nq, mv, by go_num, by omega, rfl, HST, rfl⟩, by simp [intOf]; omega⟩
            · obtain rfl : k = i := by omega
              have T2 : decide ((k : Int) < (k : Int)) = false := by simp
              go_wp2_with fail
              exact ⟨⟨k + 1, m2, x2, by go_num, by omega, rfl, Lib.hid HX2.out, rfl⟩, by simp [intOf]; omega⟩
        · obtain rfl : i = gs.length := by omega
          have T2 : decide ((gs.length : Int) < (gs.length : Int)) = false := by simp
          go_wp2_with fail
          go_ret2
          exact ⟨by rw [HT.out, ← HX.out]; rfl, bdrewN (Below.refl _ w) m⟩
  · rw [(la_no h0).1, (la_no h0).2]
    obtain ⟨cd, hcd⟩ : ∃ cd, cd = lsC n gs [] := ⟨_, rfl⟩
    rw [← hcd] at h0 ⊢
    have HCD := Lib.hid hcd
    have T1 : (cd != 0) = true := by rw [bne_iff_ne]; exact h0
    clear hcd h0
    go_enter Try.func58, Try.ntmps58
    go_wp2_with fail
    refine (l06Listed_any n _ gs hn HM.out HB.out _ HWS.out).mono ?_
    rintro e w' ⟨rfl, m0, rfl⟩
    rw [← HCD.out]
    go_wp2_with fail
    go_ret2
    exact ⟨rfl, bdrewN (Below.refl _ w) m0⟩
set_option maxHeartbeats 4000000 in
theorem impl_LeastApartOf (n : Int) (v : Value) (gs : List (List Int)) (hb : -9223372036854775808 ≤ n ∧ n ≤ 9223372036854775807) (hn : gs.length ≤ 1048576) (hm : ∀ i, i < gs.length → (gs.getD i []).length ≤ 1048576) (w : World) (h : WC w v gs) :
    Calls Try.prog 59 #[.int .i64 n, v] w fun e w' => e = .returned (.tuple #[.int .i64 (laV n gs), .int .i64 (laC n gs)]) ∧ Below w.heap.size w w' := by
  have HWS := Lib.hid h.ws
  obtain ⟨A, c, rfl, hc1, hc2, hws0⟩ := h
  obtain ⟨A', c', us, e, hc, hu⟩ := hws0.open
  cases e
  have HOL := Lib.hid (openList_any n _ _ gs [] hn (by simp) (by simpa using hm) hb w HWS.out (WS.nil w none 0))
  have HM := Lib.hid hm
  have HC := Lib.hid hc
  have HU := Lib.hid hu
  clear hc hu hm hb hws0
  have hc2' : c ≤ 9223372036854775807 := by unfold maxLen at hc2; omega
  have HCC := Lib.hid hc2
  clear hc2
  obtain ⟨cb, hcb⟩ : ∃ cb, cb = lsB n gs [] := ⟨_, rfl⟩
  rw [← hcb] at HOL
  clear hcb
  by_cases h0 : lsC n gs [] = 0
  · by_cases h2 : gs.length < 2
    · rw [(la_few h0 h2).1, (la_few h0 h2).2]
      rw [h0] at HOL
      have T1 : decide ((gs.length : Int) < 2) = true := by simp; omega
      clear h0
      go_enter Try.func59, Try.ntmps59
      go_wp2_with fail
      refine HOL.out.mono ?_
      rintro e w' ⟨rfl, hb1⟩
      have HB1 := Lib.hid hb1
      clear hb1
      go_wp2_with fail
      go_ret2
      exact ⟨rfl, HB1.out⟩
    · rw [(la_ok h0 h2).1, (la_ok h0 h2).2]
      obtain ⟨_, hws, h300⟩ := lsC_ok h0
      rw [List.append_nil] at hws
      have HW := Lib.hid hws
      rw [h0] at HOL
      obtain ⟨t, ht⟩ : ∃ t, t = mall (apG gs 0 1) gs gs.length := ⟨_, rfl⟩
      rw [← mall_first hws (by omega), ← ht]
      have HT := Lib.hid ht
      have T1 : decide ((gs.length : Int) < 2) = false := by simp; omega
      obtain ⟨b, off, rfl, hlb, hcell⟩ := HC.out (by omega)
      clear h0 hws ht
      have HCL := Lib.hid hcell
      have k0 := hcell 0 (by omega)
      have k1 := hcell 1 (by omega)
      have n0 := Lib.hid (HU.out 0 (by omega))
      have n1 := Lib.hid (HU.out 1 (by omega))
      have K0 := Lib.hid k0
      have K1 := Lib.hid k1
      have j0 : (0 : Int) < (gs.length : Int) := by omega
      have j1 : (1 : Int) < (gs.length : Int) := by omega
      clear hcell k0 k1
      go_enter Try.func59, Try.ntmps59
      go_wp2_with fail
      refine HOL.out.mono ?_
      rintro e w1 ⟨rfl, hb1⟩
      have HB1 := Lib.hid hb1
      have q0 : w1.cell? ⟨b, off, none⟩ = some (us 0) := (hb1.cell (p := ⟨b, off, none⟩) hlb).trans K0.out
      have q1 : w1.cell? ⟨b, off + 1, none⟩ = some (us 1) := (hb1.cell (p := ⟨b, off + 1, none⟩) hlb).trans K1.out
      have hea : ∀ z, Calls Try.prog 82 #[us 0, us 1] (w1.drewN z) fun e w'' => e = .returned (.int .i64 (apG gs 0 1 : Int)) ∧ ∃ n, w'' = w1.drewN n :=
        fun z => (apart_any (us 0) (us 1) (gs.getD 0 []) (gs.getD 1 []) (by have := ws_len HW.out (i := 0) (by omega); omega) (by rw [(ws_len HW.out (i := 1) (by omega)).1]) (w1.drewN z) ((n0.out.below hb1).below (bdrewN (Below.refl _ w1) z)) ((n1.out.below hb1).below (bdrewN (Below.refl _ w1) z))).mono (by rintro e w' ⟨rfl, m, rfl⟩; exact ⟨rfl, z + m, by simp⟩)
      obtain ⟨ux, hux⟩ : ∃ u, u = us 0 := ⟨_, rfl⟩
      obtain ⟨uy, huy⟩ : ∃ u, u = us 1 := ⟨_, rfl⟩
      obtain ⟨a0, ha0⟩ : ∃ a, a = apG gs 0 1 := ⟨_, rfl⟩
      have ha7 : a0 ≤ 7 := by rw [ha0]; exact apG_b HW.out (by omega) 1
      rw [← hux] at q0 hea
      rw [← huy] at q1 hea
      rw [← ha0] at hea HT
      have HE := Lib.hid hea
      clear hea hux huy hb1 ha0
      go_wp2_with fail
      go_quiet ((with_reducible exact HE.out _))
      have HE2 := HE
      clear HE q0 q1
      go_wp2_with fail
      go_loopw [34, 8] (fun y o wr => ∃ i m x : Nat, y = .int .i64 (i : Int) ∧ i ≤ gs.length ∧ o = .int .i64 (x : Int) ∧ x ≤ 7 ∧ Hid (x = mall a0 gs i) ∧ wr = w1.drewN m) (fun y _ _ => gs.length - (intOf y).toNat)
      case atStart => exact ⟨0, nq, a0, rfl, Nat.zero_le _, rfl, ha7, Lib.hid rfl, rfl⟩
      case round =>
        clear HE2
        obtain ⟨i, m, x, rfl, hi, rfl, hx7, HX, rfl⟩ := hrel
        by_cases hlt : i < gs.length
        · have i1 : (i : Int) < (gs.length : Int) := by omega
          have i4 : (i : Int) ≤ (c : Int) := by omega
          have q1 : (w1.drewN m).cell? ⟨b, off + i, none⟩ = some (us i) := (HB1.out.cell (p := ⟨b, off + i, none⟩) hlb).trans (HCL.out i hlt)
          obtain ⟨ux, hux⟩ : ∃ u, u = us i := ⟨_, rfl⟩
          rw [← hux] at q1
          have HUX := Lib.hid hux
          clear hux
          go_wp2_with fail
          go_loopw [43, 8] (fun y o wr => ∃ k m x : Nat, y = .int .i64 (k : Int) ∧ k ≤ i ∧ o = .int .i64 (x : Int) ∧ x ≤ 7 ∧ Hid (x = mrow (mall a0 gs i) gs i k) ∧ wr = w1.drewN m) (fun y _ _ => i - (intOf y).toNat)
          case atStart => exact ⟨0, m, x, rfl, Nat.zero_le _, rfl, hx7, HX, rfl⟩
          case round =>
            clear q1
            obtain ⟨k, m2, x2, rfl, hk, rfl, hx27, HX2, rfl⟩ := hrel
            by_cases hlt2 : k < i
            · have i2 : (k : Int) < (i : Int) := by omega
              have q2 : (w1.drewN m2).cell? ⟨b, off + k, none⟩ = some (us k) := (HB1.out.cell (p := ⟨b, off + k, none⟩) hlb).trans (HCL.out k (by omega))
              have n1 := (HU.out i hlt).below HB1.out
              have n2 := (HU.out k (by omega)).below HB1.out
              have l1 := ws_len HW.out hlt
              have l2 := ws_len HW.out (i := k) (by omega)
              have hea := apart_any (us i) (us k) (gs.getD i []) (gs.getD k []) (by omega) (by omega) (w1.drewN m2) (n1.below (bdrewN (Below.refl _ w1) m2)) (n2.below (bdrewN (Below.refl _ w1) m2))
              have hst : min x2 (apG gs i k) = mrow (mall a0 gs i) gs i (k + 1) := by rw [HX2.out]; rfl
              have ha2 : apG gs i k ≤ 7 := apG_b HW.out hlt k
              rw [show apN (gs.getD i []) (gs.getD k []) = apG gs i k from rfl] at hea
              obtain ⟨uy, huy⟩ : ∃ u, u = us k := ⟨_, rfl⟩
              obtain ⟨a, ha⟩ : ∃ a, a = apG gs i k := ⟨_, rfl⟩
              rw [← ha] at hea hst ha2
              rw [← HUX.out] at hea
              rw [← huy] at q2 hea
              have HE := Lib.hid hea
              have HST := Lib.hid hst
              clear n1 n2 huy ha hea hst l1 l2
              go_wp2_with fail
              refine HE.out.mono ?_
              rintro e w' ⟨rfl, m3, rfl⟩
              go_wp2_with fail
              exact ⟨⟨k + 1, m2 + m3, min x2 a, by go_num, by omega, by first | rfl | (simp <;> omega), by omega, HST, by simp⟩, by simp [intOf]; omega⟩
            · obtain rfl : k = i := by omega
              have T2 : decide ((k : Int) < (k : Int)) = false := by simp
              go_wp2_with fail
              exact ⟨⟨k + 1, m2, x2, by go_num, by omega, rfl, hx27, Lib.hid HX2.out, rfl⟩, by simp [intOf]; omega⟩
        · obtain rfl : i = gs.length := by omega
          have T2 : decide ((gs.length : Int) < (gs.length : Int)) = false := by simp
          go_wp2_with fail
          go_ret2
          exact ⟨by rw [HT.out, ← HX.out]; rfl, bdrewN HB1.out m⟩
  · rw [(la_no h0).1, (la_no h0).2]
    obtain ⟨cd, hcd⟩ : ∃ cd, cd = lsC n gs [] := ⟨_, rfl⟩
    rw [← hcd] at h0 HOL ⊢
    have T1 : (cd != 0) = true := by rw [bne_iff_ne]; exact h0
    clear hcd h0
    go_enter Try.func59, Try.ntmps59
    go_wp2_with fail
    refine HOL.out.mono ?_
    rintro e w' ⟨rfl, hb1⟩
    have HB1 := Lib.hid hb1
    clear hb1
    go_wp2_with fail
    go_ret2
    exact ⟨rfl, HB1.out⟩
end Go.Proofs.Ythhjhfkcgokffaa
