/-
  The text of a game: both sides.
-/
import Derived.Test.YtklddmmbbaaliaaDoorNims
import Derived.Test.YtklddmmbbaaliaaDoorMTxt
import Derived.Test.YtklddmmbbaaliaaDoorValid
namespace Go.Proofs.YtklddmmbbaaliaaDoor
set_option linter.unusedVariables false
set_option linter.unusedSimpArgs false
open Go.ChangeShapes Go.WideShapes Go.ChangeAt Go.RowKit
/-- the text of a number of a list -/
def nT (zs : List Int) (q : Nat) : List UInt8 := Lib.decDigits (zs.getD q 0).toNat
/-- the text of a place -/
def mvT (zs : List Int) : List UInt8 := if zs = [] then [45] else jt 44 (nT zs) zs.length
def plT (gs : List (List Int)) (i : Nat) : List UInt8 := mvT (gs.getD i [])
def small (zs : List Int) : Prop := ∀ q, q < zs.length → 0 ≤ zs.getD q 0 ∧ zs.getD q 0 < 100
theorem row_small {i : Nat} (hi : i ≤ 60) {zs : List Int} (h : rowOk i zs) : small zs := by
  intro q
  induction q with
  | zero =>
    intro hq
    have := h 0 hq
    unfold cellOk at this
    rw [show lastOf zs 0 = -1 from rfl] at this
    omega
  | succ q ih =>
    intro hq
    have h1 := h (q + 1) hq
    have h2 := ih (by omega)
    unfold cellOk at h1
    rw [show lastOf zs (q + 1) = zs.getD q 0 from rfl] at h1
    omega
theorem game_small {gs : List (List Int)} (h : validB gs = true) : gs.length ≤ 60 ∧ ∀ i, i < gs.length → small (gs.getD i []) := by
  have h' : validP gs := of_decide_eq_true h
  exact ⟨h'.1.2, fun i hi => row_small (by have := h'.1.2; omega) (h'.2 i hi)⟩
theorem nT_len {zs : List Int} (h : small zs) (q : Nat) (hq : q < zs.length) : (nT zs q).length ≤ 20 := by
  have := h q hq
  exact dd_le _ (by omega)
theorem mvT_len {zs : List Int} (h : small zs) : (mvT zs).length ≤ 21 * zs.length + 1 := by
  unfold mvT
  by_cases e : zs = []
  · rw [if_pos e]; simp
  · rw [if_neg e]
    have := jt_len 44 (nT zs) 20 zs.length (fun q hq => nT_len h q hq)
    omega
set_option maxRecDepth 100000 in
set_option maxHeartbeats 8000000 in
theorem l03Text_any (v : Value) (gs : List (List Int)) (hn : total gs ≤ 1048576) (hv : validB gs = true) (B : Nat) (w : World) (h : GS B w v gs) :
    Calls Tryd.prog 107 #[v] w fun e w' => e = .returned (.string ⟨(jt 32 (plT gs) gs.length).toArray⟩) ∧ Below w.heap.size w w' := by
  obtain ⟨h60, hsm⟩ := game_small hv
  have h := h.low (Nat.zero_le B)
  have HTR := Lib.hid (fun i hi => Nat.le_trans (total_row gs i hi) hn)
  obtain ⟨A, c, rfl, _, _, hc⟩ := h
  have HC := Lib.hid hc; clear hc
  have HSM := Lib.hid hsm
  clear hsm hv hn
  go_enter Tryd.func107, Tryd.ntmps107
  go_wp2_with fail
  go_loopw [3, 4] (fun o i wr => ∃ (k : Nat) (s : ByteArray), i = .int .i64 k ∧ k ≤ gs.length ∧ o = .string s ∧ s.size ≤ 22021000 * k ∧ Hid (s.data.toList = jt 32 (plT gs) k) ∧ Hid (Below w.heap.size w wr)) (fun _ i _ => gs.length - (intOf i).toNat)
  case atStart => exact ⟨0, ⟨#[]⟩, rfl, Nat.zero_le _, rfl, by decide, Lib.hid rfl, Lib.hid (Below.refl _ _)⟩
  case round =>
    obtain ⟨k, s, rfl, hk, rfl, hsz, HS, HB⟩ := hrel
    by_cases hlt : k < gs.length
    · obtain ⟨b, off, rfl, _, hlb, hcell⟩ := HC.out (by omega)
      obtain ⟨u, h1, hu⟩ := hcell k hlt
      have hlz : (gs.getD k []).length ≤ 1048576 := HTR.out k hlt
      have hsmk := HSM.out k hlt
      obtain ⟨zs, hzs⟩ : ∃ zs, zs = gs.getD k [] := ⟨_, rfl⟩
      rw [← hzs] at hu hlz hsmk
      have HZ := Lib.hid hzs; clear hzs
      have HSMALL := Lib.hid hsmk
      obtain ⟨A2, c2, rfl, _, hc2⟩ := hu
      have HC2 := Lib.hid hc2; clear hc2
      have H1 := Lib.hid h1
      have HLB := Lib.hid hlb
      have HCL := Lib.hid hcell
      have h1 : wr.cell? ⟨b, off + k, none⟩ = some (.slice A2 zs.length c2) := (HB.out.cell (p := ⟨b, off + k, none⟩) hlb).trans H1.out
      clear hcell hsmk
      have hlt' : (k : Int) < (gs.length : Int) := by omega
      by_cases hk0 : k = 0
      · have HK0 := Lib.hid hk0
        have T1 : decide ((0 : Int) < (k : Int)) = false := by simp; omega
        have T1' : decide (0 < k) = false := by simp; omega
        clear hk0
        by_cases hze : zs = []
        · have TE : ((zs.length : Int) == 0) = true := by rw [hze]; rfl
          obtain ⟨P, hP⟩ : ∃ P : List UInt8, P = (s ++ ⟨#[45]⟩ : ByteArray).data.toList := ⟨_, rfl⟩
          have hpe : P ++ jt 44 (nT zs) zs.length = jt 32 (plT gs) (k + 1) := by
            have e1 : plT gs k = [45] := by unfold plT mvT; rw [← HZ.out, if_pos hze]
            have e2 : jt 44 (nT zs) zs.length = [] := by rw [hze]; rfl
            have e3 : jt 32 (plT gs) (k + 1) = plT gs k := by rw [HK0.out]; exact jt_one _ _
            have e4 : s.data.toList = [] := by rw [HS.out, HK0.out]; rfl
            rw [hP, e3, e1, e2, bdata, e4]; rfl
          have HP2 := Lib.hid hP.symm
          have HPE := Lib.hid hpe
          have hss : (s ++ ⟨#[45]⟩ : ByteArray).size ≤ 22021000 * k + 2 := by
            simp only [ByteArray.size_append, show (⟨#[32]⟩ : ByteArray).size = 1 from rfl, show (⟨#[45]⟩ : ByteArray).size = 1 from rfl]; omega
          have gg0 : s.size + 1 ≤ 9223372036854775807 := by omega
          have gn0 : ¬ 9223372036854775807 < s.size + 1 := by omega
          clear hpe hP hze
          go_wp2_with fail
          obtain ⟨s2, hs2⟩ : ∃ s2 : ByteArray, s2 = s ++ ⟨#[45]⟩ := ⟨_, rfl⟩
          rw [← hs2] at HP2 hss ⊢
          clear hs2
          go_loopw [5, 3] (fun i o wr => ∃ (q : Nat) (t : ByteArray), i = .int .i64 q ∧ q ≤ zs.length ∧ o = .string t ∧ t.size ≤ (22021000 * k + 2) + 21 * q ∧ Hid (t.data.toList = P ++ jt 44 (nT zs) q) ∧ Hid (Below w.heap.size w wr)) (fun i _ _ => zs.length - (intOf i).toNat)
          case atStart => exact ⟨0, _, rfl, Nat.zero_le _, rfl, by omega, Lib.hid (by rw [jt_zero, List.append_nil]; exact HP2.out), HB⟩
          case round =>
            clear HB h1
            obtain ⟨q, t, rfl, hq, rfl, htz, HT2, HB⟩ := hrel
            have h1 : wr.cell? ⟨b, off + k, none⟩ = some (.slice A2 zs.length c2) := (HB.out.cell (p := ⟨b, off + k, none⟩) HLB.out).trans H1.out
            by_cases hlq : q < zs.length
            · obtain ⟨b2, off2, rfl, _, hlb2, hcell2⟩ := HC2.out (by omega)
              have h2 : wr.cell? ⟨b2, off2 + q, none⟩ = some (.int .i8 (zs.getD q 0)) := (HB.out.cell (p := ⟨b2, off2 + q, none⟩) hlb2).trans (hcell2 q hlq)
              have HCL2 := Lib.hid hcell2
              clear hcell2
              have hlq' : (q : Int) < (zs.length : Int) := by omega
              have hsm := HSMALL.out q hlq
              obtain ⟨n, hn⟩ : ∃ n : Nat, zs.getD q 0 = n := ⟨(zs.getD q 0).toNat, by omega⟩
              have htx : nT zs q = Lib.decDigits n := by unfold nT; rw [hn, Int.toNat_natCast]
              have hst := jt_step 44 (nT zs) q
              have hon : q = 0 → jt 44 (nT zs) (q + 1) = nT zs q := fun e => by subst e; exact jt_one _ _
              rw [hn] at h2 hsm
              have hnb : n < 100 := by omega
              obtain ⟨x, hx⟩ : ∃ x : ByteArray, x = ⟨(Lib.decDigits n).toArray⟩ := ⟨_, rfl⟩
              have hxl : x.data.toList = nT zs q := by rw [hx, htx]
              have hxs : x.size ≤ 20 := by rw [hx, bsize]; exact dd_le n (by omega)
              have HX := Lib.hid hx
              have HXL := Lib.hid hxl
              have HST := Lib.hid hst
              have HON := Lib.hid hon
              have HN := Lib.hid hn
              clear hx hxl hst hon hn htx hsm
              by_cases hq0 : q = 0
              · have HQ0 := Lib.hid hq0
                have U1 : decide ((0 : Int) < (q : Int)) = false := by simp; omega
                have U1' : decide (0 < q) = false := by simp; omega
                have g1 : t.size + x.size ≤ 9223372036854775807 := by omega
                have g2 : ¬ 9223372036854775807 < t.size + x.size := by omega
                clear hq0
                go_wp2_with fail
                refine (Decimal_any n (by omega) _).mono ?_
                rintro e w2 ⟨rfl, hb2⟩
                rw [← HX.out]
                have HB2 := Lib.hid (HB.out.trans (hb2.mono HB.out.size))
                clear hb2
                go_wp2_with fail
                refine ⟨⟨q + 1, t ++ x, by go_num, by omega, rfl, by rw [ByteArray.size_append]; omega, Lib.hid ?_, HB2⟩, by simp [intOf]; omega⟩
                rw [bdata, HXL.out, HON.out HQ0.out, HT2.out, HQ0.out, jt_zero, List.append_nil]
              · have HQ0 : Hid (0 < q) := Lib.hid (by omega)
                have U1 : decide ((0 : Int) < (q : Int)) = true := by simp; omega
                have U1' : decide (0 < q) = true := by simp; omega
                have g1 : t.size + 1 ≤ 9223372036854775807 := by omega
                have g2 : ¬ 9223372036854775807 < t.size + 1 := by omega
                have g3 : t.size + 1 + x.size ≤ 9223372036854775807 := by omega
                have g4 : ¬ 9223372036854775807 < t.size + 1 + x.size := by omega
                clear hq0
                go_wp2_with fail
                refine (Decimal_any n (by omega) _).mono ?_
                rintro e w2 ⟨rfl, hb2⟩
                rw [← HX.out]
                have HB2 := Lib.hid (HB.out.trans (hb2.mono HB.out.size))
                clear hb2
                go_wp2_with fail
                refine ⟨⟨q + 1, t ++ ⟨#[44]⟩ ++ x, by go_num, by omega, rfl, by rw [ByteArray.size_append, ByteArray.size_append]; have : (⟨#[44]⟩ : ByteArray).size = 1 := rfl; omega, Lib.hid ?_, HB2⟩, by simp [intOf]; omega⟩
                rw [bdata, bdata, HXL.out, HT2.out, HST.out HQ0.out]
                simp [List.append_assoc]
            · obtain rfl : zs.length = q := by omega
              have hlq' : decide ((zs.length : Int) < (zs.length : Int)) = false := by simp
              have HE2 : Hid (t.data.toList = jt 32 (plT gs) (k + 1)) := Lib.hid (by rw [HT2.out, HPE.out])
              go_wp2_with fail
              exact ⟨⟨k + 1, t, by go_num, by omega, rfl, by omega, HE2, HB⟩, by simp [intOf]; omega⟩
        · have TE : ((zs.length : Int) == 0) = false := by
            have : zs.length ≠ 0 := fun e => hze (List.length_eq_zero_iff.1 e)
            simp; omega
          obtain ⟨P, hP⟩ : ∃ P : List UInt8, P = (s : ByteArray).data.toList := ⟨_, rfl⟩
          have hpe : P ++ jt 44 (nT zs) zs.length = jt 32 (plT gs) (k + 1) := by
            have e1 : plT gs k = jt 44 (nT zs) zs.length := by unfold plT mvT; rw [← HZ.out, if_neg hze]
            have e3 : jt 32 (plT gs) (k + 1) = plT gs k := by rw [HK0.out]; exact jt_one _ _
            have e4 : s.data.toList = [] := by rw [HS.out, HK0.out]; rfl
            rw [hP, e3, e1, e4]; rfl
          have HP2 := Lib.hid hP.symm
          have HPE := Lib.hid hpe
          have hss : (s : ByteArray).size ≤ 22021000 * k + 2 := by
            omega
          clear hpe hP hze
          go_wp2_with fail
          go_loopw [5, 3] (fun i o wr => ∃ (q : Nat) (t : ByteArray), i = .int .i64 q ∧ q ≤ zs.length ∧ o = .string t ∧ t.size ≤ (22021000 * k + 2) + 21 * q ∧ Hid (t.data.toList = P ++ jt 44 (nT zs) q) ∧ Hid (Below w.heap.size w wr)) (fun i _ _ => zs.length - (intOf i).toNat)
          case atStart => exact ⟨0, _, rfl, Nat.zero_le _, rfl, by omega, Lib.hid (by rw [jt_zero, List.append_nil]; exact HP2.out), HB⟩
          case round =>
            clear HB h1
            obtain ⟨q, t, rfl, hq, rfl, htz, HT2, HB⟩ := hrel
            have h1 : wr.cell? ⟨b, off + k, none⟩ = some (.slice A2 zs.length c2) := (HB.out.cell (p := ⟨b, off + k, none⟩) HLB.out).trans H1.out
            by_cases hlq : q < zs.length
            · obtain ⟨b2, off2, rfl, _, hlb2, hcell2⟩ := HC2.out (by omega)
              have h2 : wr.cell? ⟨b2, off2 + q, none⟩ = some (.int .i8 (zs.getD q 0)) := (HB.out.cell (p := ⟨b2, off2 + q, none⟩) hlb2).trans (hcell2 q hlq)
              have HCL2 := Lib.hid hcell2
              clear hcell2
              have hlq' : (q : Int) < (zs.length : Int) := by omega
              have hsm := HSMALL.out q hlq
              obtain ⟨n, hn⟩ : ∃ n : Nat, zs.getD q 0 = n := ⟨(zs.getD q 0).toNat, by omega⟩
              have htx : nT zs q = Lib.decDigits n := by unfold nT; rw [hn, Int.toNat_natCast]
              have hst := jt_step 44 (nT zs) q
              have hon : q = 0 → jt 44 (nT zs) (q + 1) = nT zs q := fun e => by subst e; exact jt_one _ _
              rw [hn] at h2 hsm
              have hnb : n < 100 := by omega
              obtain ⟨x, hx⟩ : ∃ x : ByteArray, x = ⟨(Lib.decDigits n).toArray⟩ := ⟨_, rfl⟩
              have hxl : x.data.toList = nT zs q := by rw [hx, htx]
              have hxs : x.size ≤ 20 := by rw [hx, bsize]; exact dd_le n (by omega)
              have HX := Lib.hid hx
              have HXL := Lib.hid hxl
              have HST := Lib.hid hst
              have HON := Lib.hid hon
              have HN := Lib.hid hn
              clear hx hxl hst hon hn htx hsm
              by_cases hq0 : q = 0
              · have HQ0 := Lib.hid hq0
                have U1 : decide ((0 : Int) < (q : Int)) = false := by simp; omega
                have U1' : decide (0 < q) = false := by simp; omega
                have g1 : t.size + x.size ≤ 9223372036854775807 := by omega
                have g2 : ¬ 9223372036854775807 < t.size + x.size := by omega
                clear hq0
                go_wp2_with fail
                refine (Decimal_any n (by omega) _).mono ?_
                rintro e w2 ⟨rfl, hb2⟩
                rw [← HX.out]
                have HB2 := Lib.hid (HB.out.trans (hb2.mono HB.out.size))
                clear hb2
                go_wp2_with fail
                refine ⟨⟨q + 1, t ++ x, by go_num, by omega, rfl, by rw [ByteArray.size_append]; omega, Lib.hid ?_, HB2⟩, by simp [intOf]; omega⟩
                rw [bdata, HXL.out, HON.out HQ0.out, HT2.out, HQ0.out, jt_zero, List.append_nil]
              · have HQ0 : Hid (0 < q) := Lib.hid (by omega)
                have U1 : decide ((0 : Int) < (q : Int)) = true := by simp; omega
                have U1' : decide (0 < q) = true := by simp; omega
                have g1 : t.size + 1 ≤ 9223372036854775807 := by omega
                have g2 : ¬ 9223372036854775807 < t.size + 1 := by omega
                have g3 : t.size + 1 + x.size ≤ 9223372036854775807 := by omega
                have g4 : ¬ 9223372036854775807 < t.size + 1 + x.size := by omega
                clear hq0
                go_wp2_with fail
                refine (Decimal_any n (by omega) _).mono ?_
                rintro e w2 ⟨rfl, hb2⟩
                rw [← HX.out]
                have HB2 := Lib.hid (HB.out.trans (hb2.mono HB.out.size))
                clear hb2
                go_wp2_with fail
                refine ⟨⟨q + 1, t ++ ⟨#[44]⟩ ++ x, by go_num, by omega, rfl, by rw [ByteArray.size_append, ByteArray.size_append]; have : (⟨#[44]⟩ : ByteArray).size = 1 := rfl; omega, Lib.hid ?_, HB2⟩, by simp [intOf]; omega⟩
                rw [bdata, bdata, HXL.out, HT2.out, HST.out HQ0.out]
                simp [List.append_assoc]
            · obtain rfl : zs.length = q := by omega
              have hlq' : decide ((zs.length : Int) < (zs.length : Int)) = false := by simp
              have HE2 : Hid (t.data.toList = jt 32 (plT gs) (k + 1)) := Lib.hid (by rw [HT2.out, HPE.out])
              go_wp2_with fail
              exact ⟨⟨k + 1, t, by go_num, by omega, rfl, by omega, HE2, HB⟩, by simp [intOf]; omega⟩
      · have HK0 : Hid (0 < k) := Lib.hid (by omega)
        have T1 : decide ((0 : Int) < (k : Int)) = true := by simp; omega
        have T1' : decide (0 < k) = true := by simp; omega
        clear hk0
        by_cases hze : zs = []
        · have TE : ((zs.length : Int) == 0) = true := by rw [hze]; rfl
          obtain ⟨P, hP⟩ : ∃ P : List UInt8, P = (s ++ ⟨#[32]⟩ ++ ⟨#[45]⟩ : ByteArray).data.toList := ⟨_, rfl⟩
          have hpe : P ++ jt 44 (nT zs) zs.length = jt 32 (plT gs) (k + 1) := by
            have e1 : plT gs k = [45] := by unfold plT mvT; rw [← HZ.out, if_pos hze]
            have e2 : jt 44 (nT zs) zs.length = [] := by rw [hze]; rfl
            have e3 := jt_step 32 (plT gs) k HK0.out
            rw [hP, e3, e1, e2, bdata, bdata, HS.out, List.append_nil]
          have HP2 := Lib.hid hP.symm
          have HPE := Lib.hid hpe
          have hss : (s ++ ⟨#[32]⟩ ++ ⟨#[45]⟩ : ByteArray).size ≤ 22021000 * k + 2 := by
            simp only [ByteArray.size_append, show (⟨#[32]⟩ : ByteArray).size = 1 from rfl, show (⟨#[45]⟩ : ByteArray).size = 1 from rfl]; omega
          have gg0 : s.size + 1 ≤ 9223372036854775807 := by omega
          have gn0 : ¬ 9223372036854775807 < s.size + 1 := by omega
          have gg1 : s.size + 1 + 1 ≤ 9223372036854775807 := by omega
          have gn1 : ¬ 9223372036854775807 < s.size + 1 + 1 := by omega
          clear hpe hP hze
          go_wp2_with fail
          obtain ⟨s2, hs2⟩ : ∃ s2 : ByteArray, s2 = s ++ ⟨#[32]⟩ ++ ⟨#[45]⟩ := ⟨_, rfl⟩
          rw [← hs2] at HP2 hss ⊢
          clear hs2
          go_loopw [5, 3] (fun i o wr => ∃ (q : Nat) (t : ByteArray), i = .int .i64 q ∧ q ≤ zs.length ∧ o = .string t ∧ t.size ≤ (22021000 * k + 2) + 21 * q ∧ Hid (t.data.toList = P ++ jt 44 (nT zs) q) ∧ Hid (Below w.heap.size w wr)) (fun i _ _ => zs.length - (intOf i).toNat)
          case atStart => exact ⟨0, _, rfl, Nat.zero_le _, rfl, by omega, Lib.hid (by rw [jt_zero, List.append_nil]; exact HP2.out), HB⟩
          case round =>
            clear HB h1
            obtain ⟨q, t, rfl, hq, rfl, htz, HT2, HB⟩ := hrel
            have h1 : wr.cell? ⟨b, off + k, none⟩ = some (.slice A2 zs.length c2) := (HB.out.cell (p := ⟨b, off + k, none⟩) HLB.out).trans H1.out
            by_cases hlq : q < zs.length
            · obtain ⟨b2, off2, rfl, _, hlb2, hcell2⟩ := HC2.out (by omega)
              have h2 : wr.cell? ⟨b2, off2 + q, none⟩ = some (.int .i8 (zs.getD q 0)) := (HB.out.cell (p := ⟨b2, off2 + q, none⟩) hlb2).trans (hcell2 q hlq)
              have HCL2 := Lib.hid hcell2
              clear hcell2
              have hlq' : (q : Int) < (zs.length : Int) := by omega
              have hsm := HSMALL.out q hlq
              obtain ⟨n, hn⟩ : ∃ n : Nat, zs.getD q 0 = n := ⟨(zs.getD q 0).toNat, by omega⟩
              have htx : nT zs q = Lib.decDigits n := by unfold nT; rw [hn, Int.toNat_natCast]
              have hst := jt_step 44 (nT zs) q
              have hon : q = 0 → jt 44 (nT zs) (q + 1) = nT zs q := fun e => by subst e; exact jt_one _ _
              rw [hn] at h2 hsm
              have hnb : n < 100 := by omega
              obtain ⟨x, hx⟩ : ∃ x : ByteArray, x = ⟨(Lib.decDigits n).toArray⟩ := ⟨_, rfl⟩
              have hxl : x.data.toList = nT zs q := by rw [hx, htx]
              have hxs : x.size ≤ 20 := by rw [hx, bsize]; exact dd_le n (by omega)
              have HX := Lib.hid hx
              have HXL := Lib.hid hxl
              have HST := Lib.hid hst
              have HON := Lib.hid hon
              have HN := Lib.hid hn
              clear hx hxl hst hon hn htx hsm
              by_cases hq0 : q = 0
              · have HQ0 := Lib.hid hq0
                have U1 : decide ((0 : Int) < (q : Int)) = false := by simp; omega
                have U1' : decide (0 < q) = false := by simp; omega
                have g1 : t.size + x.size ≤ 9223372036854775807 := by omega
                have g2 : ¬ 9223372036854775807 < t.size + x.size := by omega
                clear hq0
                go_wp2_with fail
                refine (Decimal_any n (by omega) _).mono ?_
                rintro e w2 ⟨rfl, hb2⟩
                rw [← HX.out]
                have HB2 := Lib.hid (HB.out.trans (hb2.mono HB.out.size))
                clear hb2
                go_wp2_with fail
                refine ⟨⟨q + 1, t ++ x, by go_num, by omega, rfl, by rw [ByteArray.size_append]; omega, Lib.hid ?_, HB2⟩, by simp [intOf]; omega⟩
                rw [bdata, HXL.out, HON.out HQ0.out, HT2.out, HQ0.out, jt_zero, List.append_nil]
              · have HQ0 : Hid (0 < q) := Lib.hid (by omega)
                have U1 : decide ((0 : Int) < (q : Int)) = true := by simp; omega
                have U1' : decide (0 < q) = true := by simp; omega
                have g1 : t.size + 1 ≤ 9223372036854775807 := by omega
                have g2 : ¬ 9223372036854775807 < t.size + 1 := by omega
                have g3 : t.size + 1 + x.size ≤ 9223372036854775807 := by omega
                have g4 : ¬ 9223372036854775807 < t.size + 1 + x.size := by omega
                clear hq0
                go_wp2_with fail
                refine (Decimal_any n (by omega) _).mono ?_
                rintro e w2 ⟨rfl, hb2⟩
                rw [← HX.out]
                have HB2 := Lib.hid (HB.out.trans (hb2.mono HB.out.size))
                clear hb2
                go_wp2_with fail
                refine ⟨⟨q + 1, t ++ ⟨#[44]⟩ ++ x, by go_num, by omega, rfl, by rw [ByteArray.size_append, ByteArray.size_append]; have : (⟨#[44]⟩ : ByteArray).size = 1 := rfl; omega, Lib.hid ?_, HB2⟩, by simp [intOf]; omega⟩
                rw [bdata, bdata, HXL.out, HT2.out, HST.out HQ0.out]
                simp [List.append_assoc]
            · obtain rfl : zs.length = q := by omega
              have hlq' : decide ((zs.length : Int) < (zs.length : Int)) = false := by simp
              have HE2 : Hid (t.data.toList = jt 32 (plT gs) (k + 1)) := Lib.hid (by rw [HT2.out, HPE.out])
              go_wp2_with fail
              exact ⟨⟨k + 1, t, by go_num, by omega, rfl, by omega, HE2, HB⟩, by simp [intOf]; omega⟩
        · have TE : ((zs.length : Int) == 0) = false := by
            have : zs.length ≠ 0 := fun e => hze (List.length_eq_zero_iff.1 e)
            simp; omega
          obtain ⟨P, hP⟩ : ∃ P : List UInt8, P = (s ++ ⟨#[32]⟩ : ByteArray).data.toList := ⟨_, rfl⟩
          have hpe : P ++ jt 44 (nT zs) zs.length = jt 32 (plT gs) (k + 1) := by
            have e1 : plT gs k = jt 44 (nT zs) zs.length := by unfold plT mvT; rw [← HZ.out, if_neg hze]
            have e3 := jt_step 32 (plT gs) k HK0.out
            rw [hP, e3, e1, bdata, HS.out]
          have HP2 := Lib.hid hP.symm
          have HPE := Lib.hid hpe
          have hss : (s ++ ⟨#[32]⟩ : ByteArray).size ≤ 22021000 * k + 2 := by
            simp only [ByteArray.size_append, show (⟨#[32]⟩ : ByteArray).size = 1 from rfl, show (⟨#[45]⟩ : ByteArray).size = 1 from rfl]; omega
          have gg0 : s.size + 1 ≤ 9223372036854775807 := by omega
          have gn0 : ¬ 9223372036854775807 < s.size + 1 := by omega
          clear hpe hP hze
          go_wp2_with fail
          obtain ⟨s2, hs2⟩ : ∃ s2 : ByteArray, s2 = s ++ ⟨#[32]⟩ := ⟨_, rfl⟩
          rw [← hs2] at HP2 hss ⊢
          clear hs2
          go_loopw [5, 3] (fun i o wr => ∃ (q : Nat) (t : ByteArray), i = .int .i64 q ∧ q ≤ zs.length ∧ o = .string t ∧ t.size ≤ (22021000 * k + 2) + 21 * q ∧ Hid (t.data.toList = P ++ jt 44 (nT zs) q) ∧ Hid (Below w.heap.size w wr)) (fun i _ _ => zs.length - (intOf i).toNat)
          case atStart => exact ⟨0, _, rfl, Nat.zero_le _, rfl, by omega, Lib.hid (by rw [jt_zero, List.append_nil]; exact HP2.out), HB⟩
          case round =>
            clear HB h1
            obtain ⟨q, t, rfl, hq, rfl, htz, HT2, HB⟩ := hrel
            have h1 : wr.cell? ⟨b, off + k, none⟩ = some (.slice A2 zs.length c2) := (HB.out.cell (p := ⟨b, off + k, none⟩) HLB.out).trans H1.out
            by_cases hlq : q < zs.length
            · obtain ⟨b2, off2, rfl, _, hlb2, hcell2⟩ := HC2.out (by omega)
              have h2 : wr.cell? ⟨b2, off2 + q, none⟩ = some (.int .i8 (zs.getD q 0)) := (HB.out.cell (p := ⟨b2, off2 + q, none⟩) hlb2).trans (hcell2 q hlq)
              have HCL2 := Lib.hid hcell2
              clear hcell2
              have hlq' : (q : Int) < (zs.length : Int) := by omega
              have hsm := HSMALL.out q hlq
              obtain ⟨n, hn⟩ : ∃ n : Nat, zs.getD q 0 = n := ⟨(zs.getD q 0).toNat, by omega⟩
              have htx : nT zs q = Lib.decDigits n := by unfold nT; rw [hn, Int.toNat_natCast]
              have hst := jt_step 44 (nT zs) q
              have hon : q = 0 → jt 44 (nT zs) (q + 1) = nT zs q := fun e => by subst e; exact jt_one _ _
              rw [hn] at h2 hsm
              have hnb : n < 100 := by omega
              obtain ⟨x, hx⟩ : ∃ x : ByteArray, x = ⟨(Lib.decDigits n).toArray⟩ := ⟨_, rfl⟩
              have hxl : x.data.toList = nT zs q := by rw [hx, htx]
              have hxs : x.size ≤ 20 := by rw [hx, bsize]; exact dd_le n (by omega)
              have HX := Lib.hid hx
              have HXL := Lib.hid hxl
              have HST := Lib.hid hst
              have HON := Lib.hid hon
              have HN := Lib.hid hn
              clear hx hxl hst hon hn htx hsm
              by_cases hq0 : q = 0
              · have HQ0 := Lib.hid hq0
                have U1 : decide ((0 : Int) < (q : Int)) = false := by simp; omega
                have U1' : decide (0 < q) = false := by simp; omega
                have g1 : t.size + x.size ≤ 9223372036854775807 := by omega
                have g2 : ¬ 9223372036854775807 < t.size + x.size := by omega
                clear hq0
                go_wp2_with fail
                refine (Decimal_any n (by omega) _).mono ?_
                rintro e w2 ⟨rfl, hb2⟩
                rw [← HX.out]
                have HB2 := Lib.hid (HB.out.trans (hb2.mono HB.out.size))
                clear hb2
                go_wp2_with fail
                refine ⟨⟨q + 1, t ++ x, by go_num, by omega, rfl, by rw [ByteArray.size_append]; omega, Lib.hid ?_, HB2⟩, by simp [intOf]; omega⟩
                rw [bdata, HXL.out, HON.out HQ0.out, HT2.out, HQ0.out, jt_zero, List.append_nil]
              · have HQ0 : Hid (0 < q) := Lib.hid (by omega)
                have U1 : decide ((0 : Int) < (q : Int)) = true := by simp; omega
                have U1' : decide (0 < q) = true := by simp; omega
                have g1 : t.size + 1 ≤ 9223372036854775807 := by omega
                have g2 : ¬ 9223372036854775807 < t.size + 1 := by omega
                have g3 : t.size + 1 + x.size ≤ 9223372036854775807 := by omega
                have g4 : ¬ 9223372036854775807 < t.size + 1 + x.size := by omega
                clear hq0
                go_wp2_with fail
                refine (Decimal_any n (by omega) _).mono ?_
                rintro e w2 ⟨rfl, hb2⟩
                rw [← HX.out]
                have HB2 := Lib.hid (HB.out.trans (hb2.mono HB.out.size))
                clear hb2
                go_wp2_with fail
                refine ⟨⟨q + 1, t ++ ⟨#[44]⟩ ++ x, by go_num, by omega, rfl, by rw [ByteArray.size_append, ByteArray.size_append]; have : (⟨#[44]⟩ : ByteArray).size = 1 := rfl; omega, Lib.hid ?_, HB2⟩, by simp [intOf]; omega⟩
                rw [bdata, bdata, HXL.out, HT2.out, HST.out HQ0.out]
                simp [List.append_assoc]
            · obtain rfl : zs.length = q := by omega
              have hlq' : decide ((zs.length : Int) < (zs.length : Int)) = false := by simp
              have HE2 : Hid (t.data.toList = jt 32 (plT gs) (k + 1)) := Lib.hid (by rw [HT2.out, HPE.out])
              go_wp2_with fail
              exact ⟨⟨k + 1, t, by go_num, by omega, rfl, by omega, HE2, HB⟩, by simp [intOf]; omega⟩
    · obtain rfl : gs.length = k := by omega
      have hv := beq_of HS.out
      have HV := Lib.hid hv
      clear hv
      have hlt' : decide ((gs.length : Int) < (gs.length : Int)) = false := by simp
      go_wp2_with fail
      go_ret
      exact ⟨congrArg (fun x => Ending.returned (.string x)) HV.out, HB.out⟩
/-- the text of a game -/
def gtx (gs : List (List Int)) : List UInt8 := if validB gs = true then jt 32 (plT gs) gs.length else []
theorem spec_GameText (v : Value) (gs : List (List Int)) (hn : total gs ≤ 1048576) (B : Nat) (w : World) (h : GS B w v gs) :
    Calls Tryd.prog 58 #[v] w fun e w' => e = .returned (.string ⟨(gtx gs).toArray⟩) ∧ Below w.heap.size w w' := by
  go_enter Tryd.func58, Tryd.ntmps58
  go_wp2_with fail
  refine (spec_ok v gs hn B w h).mono ?_
  rintro e w' ⟨rfl, rfl⟩
  by_cases hv : validB gs = true
  · have hE : gtx gs = jt 32 (plT gs) gs.length := by unfold gtx; rw [if_pos hv]
    have HE := Lib.hid hE
    have HV := Lib.hid hv
    rw [hv]
    clear hE hv
    go_wp2_with fail
    refine (l03Text_any v gs hn HV.out B _ h).mono ?_
    rintro e w2 ⟨rfl, hb⟩
    have HB := Lib.hid hb
    clear hb
    go_wp2_with fail
    go_ret
    exact ⟨by rw [HE.out]; rfl, HB.out⟩
  · have hE : gtx gs = [] := by unfold gtx; rw [if_neg hv]
    have hv' : validB gs = false := by simpa using hv
    have HE := Lib.hid hE
    rw [hv']
    clear hE hv hv'
    go_wp2_with fail
    go_ret
    exact ⟨by rw [HE.out]; rfl, Below.refl _ _⟩
set_option maxRecDepth 100000 in
set_option maxHeartbeats 2000000 in
theorem movesText_any (v : Value) (zs : List Int) (hn : zs.length ≤ 1048576) (hsm : small zs) (w : World) (h : R8 0 w v zs) :
    Calls Tryd.prog 110 #[v] w fun e w' => e = .returned (.string ⟨(mvT zs).toArray⟩) ∧ Below w.heap.size w w' := by
  obtain ⟨i0, hi, hz0, hz1, hz2⟩ := info_parts infoStr
  obtain ⟨A, c, rfl, _, hc⟩ := h
  have HC := Lib.hid hc; clear hc
  have HSM := Lib.hid hsm; clear hsm
  by_cases hze : zs = []
  · have hE : mvT zs = [45] := by unfold mvT; rw [if_pos hze]
    have HE := Lib.hid hE
    have TE : ((zs.length : Int) == 0) = true := by rw [hze]; rfl
    clear hE hze
    go_enter Tryd.func110, Tryd.ntmps110
    go_wp2_with fail
    go_ret
    exact ⟨by rw [HE.out]; rfl, Below.refl _ _⟩
  have hE : mvT zs = jt 44 (nT zs) zs.length := by unfold mvT; rw [if_neg hze]
  have HE := Lib.hid hE
  have TE : ((zs.length : Int) == 0) = false := by
    have : zs.length ≠ 0 := fun e => hze (List.length_eq_zero_iff.1 e)
    simp; omega
  clear hE hze
  go_enter Tryd.func110, Tryd.ntmps110
  go_wp2_with (at_make; refine wpList_make_full _ rfl _ _ 91 rfl w.heap.size 9 i0 (.string ⟨#[]⟩) 1 Tryd.underlying91 hi hz0 hz1 _ _ _ _ zs.length rfl rfl rfl rfl (by rw [hz2]; omega) (by unfold maxLen; omega) (Nat.le_refl _) ?_)
  intro w1 hown hgrow
  have hb1 : Below w.heap.size w w1 := (Below.refl _ w).grown hgrow (Nat.le_refl _) (fun k hk => by cases hk)
  obtain ⟨g, hg⟩ : ∃ g, g = w.heap.size := ⟨_, rfl⟩
  rw [← hg] at hown hb1 ⊢
  have hsz : g ≤ w1.heap.size := by rw [hg]; exact hb1.size
  have hown1 : w1.ownsRow g 9 1 (.slice (some ⟨g, 0, none⟩) zs.length zs.length) zs.length ((bS (nT zs) zs.length 0).map Value.string) := by
    rw [← bS_zero]; exact hown
  have HG := Lib.hid hg; clear hg
  have HO := Lib.hid hown1
  have HB := Lib.hid hb1
  have HS := Lib.hid hsz
  clear hown hgrow hown1 hb1 hsz
  go_wp2_with fail
  go_loopw [14] (fun i wr => ∃ k : Nat, i = .int .i64 k ∧ k ≤ zs.length ∧ Hid (wr.ownsRow g 9 1 (.slice (some ⟨g, 0, none⟩) zs.length zs.length) zs.length ((bS (nT zs) zs.length k).map Value.string)) ∧ Hid (Below g w wr) ∧ Hid (g ≤ wr.heap.size)) (fun i _ => zs.length - (intOf i).toNat)
  case atStart => exact ⟨0, rfl, Nat.zero_le _, HO, HB, HS⟩
  case round =>
    clear HO HB HS
    obtain ⟨k, rfl, hk, HO, HB, HS⟩ := hrel
    by_cases hlt : k < zs.length
    · obtain ⟨b, off, rfl, _, hlb, hcell⟩ := HC.out (by omega)
      have h1 : wr.cell? ⟨b, off + k, none⟩ = some (.int .i8 (zs.getD k 0)) := (HB.out.cell (p := ⟨b, off + k, none⟩) (by rw [HG.out]; exact hlb)).trans (hcell k hlt)
      have hsmk := HSM.out k hlt
      obtain ⟨n, hnn⟩ : ∃ n : Nat, zs.getD k 0 = n := ⟨(zs.getD k 0).toNat, by omega⟩
      have hset := bS_set (nT zs) zs.length k hlt
      rw [show nT zs k = Lib.decDigits n from by unfold nT; rw [hnn, Int.toNat_natCast]] at hset
      rw [hnn] at h1 hsmk
      have hnb : n < 100 := by omega
      have hi1 : (k : Int) < (zs.length : Int) := by omega
      obtain ⟨x, hx⟩ : ∃ x : ByteArray, x = ⟨(Lib.decDigits n).toArray⟩ := ⟨_, rfl⟩
      rw [← hx] at hset
      have HX := Lib.hid hx
      have HSET := Lib.hid hset
      have HN := Lib.hid hnn
      have HCL := Lib.hid hcell
      clear hx hset hnn hcell hsmk
      go_wp2_with fail
      refine (Tryd.strconv_Itoa_small n hnb _).mono ?_
      rintro e w2 ⟨rfl, hw2⟩
      rw [← HX.out]
      subst hw2
      have ho2 := HO.out
      have q1 : ∃ y, w2.cell? ⟨g, k, none⟩ = some y := by
        rw [ho2.cellAt k (by omega), List.getElem?_map, bS_at _ _ k k hlt]
        exact ⟨_, rfl⟩
      obtain ⟨y, q1⟩ := q1
      have q2 : w2.frozen? ⟨g, k, none⟩ = false := ho2.frozenAt k
      have q3 := (ho2.stored k (.string x)).1
      rw [HSET.out] at q3
      have HB2 := Lib.hid (HB.out.setCell (p := ⟨g, k, none⟩) (Nat.le_refl _) (.string x))
      have HS2 : Hid (g ≤ (w2.setCell ⟨g, k, none⟩ (.string x)).heap.size) := Lib.hid (by have := HS.out; simp [World.setCell]; omega)
      have HO2 := Lib.hid q3
      clear ho2 q3 HO HB HS
      go_wp2_with fail
      go_roundw
      case rel => exact ⟨k + 1, by go_num, by omega, HO2, HB2, HS2⟩
      case measure => simp [intOf]; omega
    · obtain rfl : zs.length = k := by omega
      have hb : Below w.heap.size w wr := by have := HB.out; rw [HG.out] at this; exact this
      have HBB := Lib.hid hb
      have hj := Tryd.strings_Join g 0 zs.length (bS (nT zs) zs.length zs.length) ⟨#[44]⟩ wr (fun j x hx => by
        have hj : j < zs.length := by
          have := (List.getElem?_eq_some_iff.1 hx).1
          rwa [bS_len] at this
        rw [Nat.zero_add, HO.out.cellAt j (by omega), List.getElem?_map, hx]; rfl) (HO.out.lt g rfl).2 (by rw [bS_len]; omega) (by rw [bS_len]; exact Nat.le_refl _) (by
        rw [bS_end, show (⟨#[44]⟩ : ByteArray).data.toList = [44] from rfl]
        have := jt_len 44 (nT zs) 20 zs.length (fun i hi => nT_len HSM.out i hi)
        unfold jt at this
        omega)
      rw [bS_len, bS_end, show (⟨#[44]⟩ : ByteArray).data.toList = [44] from rfl] at hj
      have HJ := Lib.hid hj
      clear hj hb
      go_wp2_with fail
      refine HJ.out.mono ?_
      rintro e w3 ⟨rfl, hb3⟩
      have HB3 := Lib.hid (bchain HBB.out hb3)
      clear hb3
      go_wp2_with fail
      go_ret
      exact ⟨by rw [HE.out]; rfl, HB3.out⟩
set_option maxRecDepth 100000 in
set_option maxHeartbeats 2000000 in
theorem impl_GameText (v : Value) (gs : List (List Int)) (hn : total gs ≤ 1048576) (B : Nat) (w : World) (h : GS B w v gs) :
    Calls Tryd.prog 60 #[v] w fun e w' => e = .returned (.string ⟨(gtx gs).toArray⟩) ∧ Below w.heap.size w w' := by
  have h := h.low (Nat.zero_le B)
  obtain ⟨i0, hi, hz0, hz1, hz2⟩ := info_parts infoStr
  have HGS := Lib.hid h
  have HTR := Lib.hid (fun i hi => Nat.le_trans (total_row gs i hi) hn)
  obtain ⟨A, c, rfl, _, _, hc⟩ := h
  have HC := Lib.hid hc; clear hc
  go_enter Tryd.func60, Tryd.ntmps60
  go_wp2_with fail
  refine (impl_ValidGame _ gs hn 0 w HGS.out).mono ?_
  rintro e w' ⟨rfl, hww⟩
  subst hww
  by_cases hv : validB gs = true
  · obtain ⟨h60, hsm⟩ := game_small hv
    have hE : gtx gs = jt 32 (plT gs) gs.length := by unfold gtx; rw [if_pos hv]
    have HE := Lib.hid hE
    have HV := Lib.hid hv
    have HSM := Lib.hid hsm
    rw [hv]
    clear hE hv hsm
    obtain ⟨w, hw⟩ : ∃ u, u = w' := ⟨_, rfl⟩
    subst hw
    go_wp2_with (at_make; refine wpList_make_full _ rfl _ _ 91 rfl w.heap.size 9 i0 (.string ⟨#[]⟩) 1 Tryd.underlying91 hi hz0 hz1 _ _ _ _ gs.length rfl rfl rfl rfl (by rw [hz2]; omega) (by unfold maxLen; omega) (Nat.le_refl _) ?_)
    intro w1 hown hgrow
    have hb1 : Below w.heap.size w w1 := (Below.refl _ w).grown hgrow (Nat.le_refl _) (fun k hk => by cases hk)
    obtain ⟨g, hg⟩ : ∃ g, g = w.heap.size := ⟨_, rfl⟩
    rw [← hg] at hown hb1 ⊢
    have hsz : g ≤ w1.heap.size := by rw [hg]; exact hb1.size
    have hown1 : w1.ownsRow g 9 1 (.slice (some ⟨g, 0, none⟩) gs.length gs.length) gs.length ((bS (plT gs) gs.length 0).map Value.string) := by
      rw [← bS_zero]; exact hown
    have HG := Lib.hid hg; clear hg
    have HO := Lib.hid hown1
    have HB := Lib.hid hb1
    have HS := Lib.hid hsz
    clear hown hgrow hown1 hb1 hsz
    go_wp2_with fail
    go_loopw [14] (fun i wr => ∃ k : Nat, i = .int .i64 k ∧ k ≤ gs.length ∧ Hid (wr.ownsRow g 9 1 (.slice (some ⟨g, 0, none⟩) gs.length gs.length) gs.length ((bS (plT gs) gs.length k).map Value.string)) ∧ Hid (Below g w wr) ∧ Hid (g ≤ wr.heap.size)) (fun i _ => gs.length - (intOf i).toNat)
    case atStart => exact ⟨0, rfl, Nat.zero_le _, HO, HB, HS⟩
    case round =>
      clear HO HB HS
      obtain ⟨k, rfl, hk, HO, HB, HS⟩ := hrel
      have HBW : Hid (Below w.heap.size w wr) := Lib.hid (by have := HB.out; rw [HG.out] at this; exact this)
      by_cases hlt : k < gs.length
      · obtain ⟨b, off, rfl, _, hlb, hcell⟩ := HC.out (by omega)
        obtain ⟨u, h1, hu⟩ := hcell k hlt
        have h1 : wr.cell? ⟨b, off + k, none⟩ = some u := (HBW.out.cell (p := ⟨b, off + k, none⟩) hlb).trans h1
        have hzl := HTR.out k hlt
        have hzm := HSM.out k hlt
        have hpl : plT gs k = mvT (gs.getD k []) := rfl
        obtain ⟨zs, hzs⟩ : ∃ zs, zs = gs.getD k [] := ⟨_, rfl⟩
        rw [← hzs] at hu hzl hzm hpl
        have HZL := Lib.hid hzl
        have HZM := Lib.hid hzm
        have HZS := Lib.hid hzs
        have HU := Lib.hid (hu.below HBW.out)
        have hset := bS_set (plT gs) gs.length k hlt
        have hi1 : (k : Int) < (gs.length : Int) := by omega
        obtain ⟨x, hx⟩ : ∃ x : ByteArray, x = ⟨(plT gs k).toArray⟩ := ⟨_, rfl⟩
        rw [← hx] at hset
        have HX := Lib.hid hx
        have HSET := Lib.hid hset
        have HCL := Lib.hid hcell
        obtain ⟨A2, c2, hu2, _, _⟩ := hu
        subst hu2
        have HXM : Hid (x = ⟨(mvT zs).toArray⟩) := Lib.hid (by rw [hx, hpl])
        clear hx hset hcell hzl hzm hzs hpl
        go_wp2_with fail
        refine (movesText_any _ zs HZL.out HZM.out _ HU.out).mono ?_
        rintro e w2 ⟨rfl, hb2⟩
        rw [← HXM.out]
        have ho2 := own_below HO.out hb2
        have q1 : ∃ y, w2.cell? ⟨g, k, none⟩ = some y := by
          rw [ho2.cellAt k (by omega), List.getElem?_map, bS_at _ _ k k hlt]
          exact ⟨_, rfl⟩
        obtain ⟨y, q1⟩ := q1
        have q2 : w2.frozen? ⟨g, k, none⟩ = false := ho2.frozenAt k
        have q3 := (ho2.stored k (.string x)).1
        rw [HSET.out] at q3
        have HB2 := Lib.hid ((HB.out.trans (hb2.mono HS.out)).setCell (p := ⟨g, k, none⟩) (Nat.le_refl _) (.string x))
        have HS2 : Hid (g ≤ (w2.setCell ⟨g, k, none⟩ (.string x)).heap.size) := Lib.hid (by have := hb2.size; have := HS.out; simp [World.setCell]; omega)
        have HO2 := Lib.hid q3
        clear hb2 ho2 q3 HO HB HS
        go_wp2_with fail
        go_roundw
        case rel => exact ⟨k + 1, by go_num, by omega, HO2, HB2, HS2⟩
        case measure => simp [intOf]; omega
      · obtain rfl : gs.length = k := by omega
        have hj := Tryd.strings_Join g 0 gs.length (bS (plT gs) gs.length gs.length) ⟨#[32]⟩ wr (fun j x hx => by
          have hj : j < gs.length := by
            have := (List.getElem?_eq_some_iff.1 hx).1
            rwa [bS_len] at this
          rw [Nat.zero_add, HO.out.cellAt j (by omega), List.getElem?_map, hx]; rfl) (HO.out.lt g rfl).2 (by rw [bS_len]; omega) (by rw [bS_len]; exact Nat.le_refl _) (by
          rw [bS_end, show (⟨#[32]⟩ : ByteArray).data.toList = [32] from rfl]
          have := jt_len 32 (plT gs) 22020097 gs.length (fun i hi => by
            have e1 := mvT_len (HSM.out i hi)
            have e2 := HTR.out i hi
            unfold plT
            omega)
          unfold jt at this
          omega)
        rw [bS_len, bS_end, show (⟨#[32]⟩ : ByteArray).data.toList = [32] from rfl] at hj
        have HJ := Lib.hid hj
        clear hj
        go_wp2_with fail
        refine HJ.out.mono ?_
        rintro e w3 ⟨rfl, hb3⟩
        have HB3 := Lib.hid (bchain HBW.out hb3)
        clear hb3
        go_wp2_with fail
        go_ret
        exact ⟨by rw [HE.out]; rfl, HB3.out⟩
  · have hE : gtx gs = [] := by unfold gtx; rw [if_neg hv]
    have hv' : validB gs = false := by simpa using hv
    have HE := Lib.hid hE
    rw [hv']
    clear hE hv hv'
    go_wp2_with fail
    go_ret
    exact ⟨by rw [HE.out]; rfl, Below.refl _ _⟩
end Go.Proofs.YtklddmmbbaaliaaDoor
