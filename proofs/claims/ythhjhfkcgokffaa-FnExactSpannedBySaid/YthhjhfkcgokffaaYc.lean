/-
  The model's checks of a list of words, and of another word.
-/
import Derived.Test.YthhjhfkcgokffaaYb
namespace Go.Proofs.Ythhjhfkcgokffaa
set_option linter.unusedVariables false
set_option linter.unusedSimpArgs false
open Go.ChangeShapes Go.WideShapes Go.ChangeAt Go.RowKit

theorem wsB_bad {n : Int} {gs : List (List Int)} {k : Nat} (hk : k < gs.length) (h : wdB n (gs.getD k []) = false) : wsB n gs = false := by
  unfold wsB
  have : gs.all (wdB n) = false := by
    rw [List.all_eq_false]
    refine ⟨gs[k], List.getElem_mem hk, ?_⟩
    have e : gs.getD k [] = gs[k] := by simp [List.getD, hk]
    rw [e] at h; rw [h]; decide
  rw [this]; rfl
theorem wsB_len {n : Int} {gs : List (List Int)} {k : Nat} (hk : k < gs.length) (h : (gs.getD k []).length ≠ (gs.getD 0 []).length) : wsB n gs = false := by
  unfold wsB
  have : lnB gs = false := by
    unfold lnB
    rw [List.all_eq_false]
    refine ⟨gs[k], List.getElem_mem hk, ?_⟩
    have e : gs.getD k [] = gs[k] := by simp [List.getD, hk]
    rw [e] at h
    simpa using h
  rw [this]; simp
theorem wsB_all {n : Int} {gs : List (List Int)} (h : ∀ i, i < gs.length → wdB n (gs.getD i []) = true ∧ (gs.getD i []).length = (gs.getD 0 []).length) : wsB n gs = true := by
  unfold wsB lnB
  rw [Bool.and_eq_true]
  constructor
  · rw [List.all_eq_true]
    intro z hz
    obtain ⟨i, hi, rfl⟩ := List.mem_iff_getElem.1 hz
    have := (h i hi).1
    rwa [show gs.getD i [] = gs[i] from by simp [List.getD, hi]] at this
  · rw [List.all_eq_true]
    intro z hz
    obtain ⟨i, hi, rfl⟩ := List.mem_iff_getElem.1 hz
    have := (h i hi).2
    rw [show gs.getD i [] = gs[i] from by simp [List.getD, hi]] at this
    simpa using this
theorem wsB_at {n : Int} {gs : List (List Int)} (h : wsB n gs = true) : ∀ i, i < gs.length → wdB n (gs.getD i []) = true ∧ (gs.getD i []).length = (gs.getD 0 []).length := by
  intro i hi
  unfold wsB lnB at h
  rw [Bool.and_eq_true, List.all_eq_true, List.all_eq_true] at h
  have e : gs.getD i [] = gs[i] := by simp [List.getD, hi]
  rw [e]
  exact ⟨h.1 _ (List.getElem_mem hi), by simpa using h.2 _ (List.getElem_mem hi)⟩
theorem getD_app {gs : List (List Int)} (z : List Int) {i : Nat} (hi : i < gs.length) : (gs ++ [z]).getD i [] = gs.getD i [] := by simp [List.getD, List.getElem?_append_left hi]
theorem getD_last (gs : List (List Int)) (z : List Int) : (gs ++ [z]).getD gs.length [] = z := by simp [List.getD]
theorem wsB_snoc_bad {n : Int} {gs : List (List Int)} {z : List Int} (h : wdB n z = false) : wsB n (gs ++ [z]) = false :=
  wsB_bad (k := gs.length) (by simp) (by rw [getD_last]; exact h)
theorem wsB_snoc_len {n : Int} {gs : List (List Int)} {z : List Int} (h0 : 0 < gs.length) (h : (gs.getD 0 []).length ≠ z.length) : wsB n (gs ++ [z]) = false :=
  wsB_len (k := gs.length) (by simp) (by rw [getD_last, getD_app z h0]; exact fun e => h e.symm)
theorem wsB_snoc {n : Int} {gs : List (List Int)} {z : List Int} (h : wdB n z = true) (h2 : 0 < gs.length → (gs.getD 0 []).length = z.length) : wsB n (gs ++ [z]) = wsB n gs := by
  by_cases e : wsB n gs = true
  · rw [e]
    have ha := wsB_at e
    refine wsB_all fun i hi => ?_
    rw [List.length_append] at hi
    by_cases hl : i < gs.length
    · rw [getD_app z hl, getD_app z (i := 0) (by omega)]
      exact ha i hl
    · obtain rfl : i = gs.length := by simp at hi; omega
      rw [getD_last]
      refine ⟨h, ?_⟩
      by_cases h0 : 0 < gs.length
      · rw [getD_app z h0]; exact (h2 h0).symm
      · have : gs = [] := List.length_eq_zero_iff.1 (by omega)
        subst this
        rfl
  · have e' : wsB n gs = false := by simpa using e
    rw [e']
    by_cases q : wsB n (gs ++ [z]) = true
    · exfalso
      apply e
      have ha := wsB_at q
      refine wsB_all fun i hi => ?_
      have := ha i (by rw [List.length_append]; omega)
      rwa [getD_app z hi, getD_app z (i := 0) (by omega)] at this
    · simpa using q
theorem lsC_base {n : Int} {gs os : List (List Int)} (h : baB n = false) : lsC n gs os = 2 := by
  have e := (opC_base (gs := gs ++ os) h).1
  rw [lsC_no (by rw [e]; decide), e]
theorem lsC_bad {n : Int} {gs os : List (List Int)} (h : baB n = true) (h2 : wsB n (gs ++ os) = false) : lsC n gs os = 1 := by
  have e := (opC_inv h h2).1
  rw [lsC_no (by rw [e]; decide), e]
theorem lsC_good {n : Int} {gs os : List (List Int)} (h : baB n = true) (h2 : wsB n (gs ++ os) = true) : lsC n gs os = if gs.length ≤ 300 then 0 else 3 := by
  unfold lsC
  rw [if_pos (opC_good h h2).1]
theorem lsC_ask {n : Int} {gs : List (List Int)} {z : List Int} (h : wdB n z = true) (h2 : 0 < gs.length → (gs.getD 0 []).length = z.length) : lsC n gs [z] = lsC n gs [] := by
  unfold lsC opC
  rw [wsB_snoc h h2, List.append_nil]
theorem lsC_ok {n : Int} {gs os : List (List Int)} (h : lsC n gs os = 0) : baB n = true ∧ wsB n (gs ++ os) = true ∧ gs.length ≤ 300 := by
  obtain ⟨h1, h2⟩ := lsC_zero h
  obtain ⟨q1, q2, q3⟩ := opC_zero h1
  refine ⟨q1, ?_, h2⟩
  unfold wsB; rw [q2, q3]; rfl
theorem quiet_w {P : Program} {f : FuncId} {args : Array Value} {w : World} {m n : Nat} {v : Value} (h : Calls P f args (w.drewN (m + n)) fun e w' => e = .returned v ∧ w.drewN (m + n) = w') :
    Calls P f args (w.drewN (m + n)) fun e w'' => e = .returned v ∧ ∃ n, w'' = w.drewN (m + n) :=
  h.mono fun _ _ ⟨he, hk⟩ => ⟨he, n, hk.symm⟩
theorem quiet_w0 {P : Program} {f : FuncId} {args : Array Value} {w : World} {n : Nat} {v : Value} (h : Calls P f args (w.drewN n) fun e w' => e = .returned v ∧ w.drewN n = w') :
    Calls P f args (w.drewN n) fun e w'' => e = .returned v ∧ ∃ m, w'' = w.drewN m :=
  h.mono fun _ _ ⟨he, hk⟩ => ⟨he, n, hk.symm⟩
set_option maxHeartbeats 4000000 in
theorem l06Listed_any (n : Int) (v : Value) (gs : List (List Int)) (hn : gs.length ≤ 1048576) (hm : ∀ i, i < gs.length → (gs.getD i []).length ≤ 1048576) (hb : -9223372036854775808 ≤ n ∧ n ≤ 9223372036854775807) (w : World) (h : WS w v gs) :
    Calls Try.prog 101 #[.int .i64 n, v] w fun e w' => e = .returned (.int .i64 (lsC n gs [])) ∧ ∃ m, w' = w.drewN m := by
  obtain ⟨A, c, us, rfl, hc, hu⟩ := h.open
  obtain ⟨b0, b1⟩ := hb
  obtain ⟨cd, hcd⟩ : ∃ cd, cd = lsC n gs [] := ⟨_, rfl⟩
  rw [← hcd]
  have HCD := Lib.hid hcd
  clear hcd
  by_cases hbb : baB n = true
  · have HB := Lib.hid hbb
    have HM := Lib.hid hm
    have HU := Lib.hid hu
    have HC := Lib.hid hc
    clear hbb hm hu hc h
    go_enter Try.func101, Try.ntmps101
    go_wp2_with fail
    refine (l06Base_any n _).mono ?_
    rintro e w' ⟨rfl, rfl⟩
    rw [HB.out]
    go_wp2_with fail
    go_loopw [5] (fun y wr => ∃ k m : Nat, y = .int .i64 (k : Int) ∧ k ≤ gs.length ∧ wr = w.drewN m ∧ Hid (∀ i, i < k → wdB n (gs.getD i []) = true ∧ (gs.getD i []).length = (gs.getD 0 []).length)) (fun y _ => gs.length - (intOf y).toNat)
    case atStart => exact ⟨0, 0, rfl, Nat.zero_le _, rfl, Lib.hid (fun i hi => absurd hi (by omega))⟩
    case round =>
      obtain ⟨k, m, rfl, hk, rfl, HK⟩ := hrel
      by_cases hlt : k < gs.length
      · obtain ⟨b, off, rfl, hlb, hcell⟩ := HC.out (by omega)
        have i1 : (k : Int) < (gs.length : Int) := by omega
        have i0 : (0 : Int) < (gs.length : Int) := by omega
        have q1 : w.cell? ⟨b, off + k, none⟩ = some (us k) := hcell k hlt
        have q0 : w.cell? ⟨b, off, none⟩ = some (us 0) := hcell 0 (by omega)
        have hns := HU.out k hlt
        have hlk := HM.out k hlt
        have hl0 := HM.out 0 (by omega)
        obtain ⟨Ak, ck, ek⟩ := (HU.out k hlt).form
        obtain ⟨A0, c0, e0⟩ := (HU.out 0 (by omega)).form
        rw [ek] at q1 hns
        rw [e0] at q0
        have HE := Lib.hid (fun x => quiet_w (l06Word_any n b0 b1 _ (gs.getD k []) hlk (w.drewN (m + x)) (hns.below (bdrewN (Below.refl _ w) (m + x)))))
        obtain ⟨lk, hlk2⟩ : ∃ lk, lk = (gs.getD k []).length := ⟨_, rfl⟩
        obtain ⟨l0, hl02⟩ : ∃ l0, l0 = (gs.getD 0 []).length := ⟨_, rfl⟩
        rw [← hlk2] at q1 HE hlk
        rw [← hl02] at q0 hl0
        have HL := Lib.hid hlk2
        have HL0 := Lib.hid hl02
        have HCL := Lib.hid hcell
        clear hcell hlk2 hl02 hns ek e0
        by_cases hw : wdB n (gs.getD k []) = true
        · rw [hw] at HE
          have HW := Lib.hid hw
          clear hw
          by_cases hl : lk = l0
          · have T1 : ((lk : Int) != (l0 : Int)) = false := by rw [hl]; simp
            have HS := Lib.hid (show ∀ i, i < k + 1 → wdB n (gs.getD i []) = true ∧ (gs.getD i []).length = (gs.getD 0 []).length from fun i hi => by
              by_cases e : i = k
              · subst e; exact ⟨HW.out, by rw [← HL.out, ← HL0.out]; exact hl⟩
              · exact HK.out i (by omega))
            clear hl
            go_wp2_with fail
            go_quiet ((exact HE.out _))
            go_wp2_with fail
            exact ⟨⟨k + 1, m + nq, by go_num, by omega, rfl, HS⟩, by simp [intOf]; omega⟩
          · have T1 : ((lk : Int) != (l0 : Int)) = true := by rw [bne_iff_ne]; omega
            have HS := Lib.hid (lsC_bad (os := []) HB.out (by rw [List.append_nil]; exact wsB_len hlt (by rw [← HL.out, ← HL0.out]; exact hl)))
            clear hl
            go_wp2_with fail
            go_quiet ((exact HE.out _))
            go_wp2_with fail
            go_ret
            exact ⟨by rw [HCD.out, HS.out]; rfl, m + nq, by simp⟩
        · have hw' : wdB n (gs.getD k []) = false := by simpa using hw
          rw [hw'] at HE
          have HS := Lib.hid (lsC_bad (os := []) HB.out (by rw [List.append_nil]; exact wsB_bad hlt hw'))
          clear hw hw'
          go_wp2_with fail
          go_quiet ((exact HE.out _))
          go_wp2_with fail
          go_ret
          exact ⟨by rw [HCD.out, HS.out]; rfl, m + nq, by simp⟩
      · obtain rfl : k = gs.length := by omega
        have T1 : decide ((gs.length : Int) < (gs.length : Int)) = false := by simp
        have HS := Lib.hid (lsC_good (os := []) HB.out (by rw [List.append_nil]; exact wsB_all HK.out))
        by_cases h3 : gs.length ≤ 300
        · have T2 : decide ((300 : Int) < (gs.length : Int)) = false := by simp; omega
          have H3 := Lib.hid h3
          go_wp2_with fail
          go_ret
          exact ⟨by rw [HCD.out, HS.out, if_pos H3.out]; rfl, _, rfl⟩
        · have T2 : decide ((300 : Int) < (gs.length : Int)) = true := by simp; omega
          have H3 := Lib.hid h3
          go_wp2_with fail
          go_ret
          exact ⟨by rw [HCD.out, HS.out, if_neg H3.out]; rfl, _, rfl⟩
  · have hb' : baB n = false := by simpa using hbb
    have HS := Lib.hid (lsC_base (gs := gs) (os := []) hb')
    have HB := Lib.hid hb'
    clear hbb hb' hm hu hc h
    go_enter Try.func101, Try.ntmps101
    go_wp2_with fail
    refine (l06Base_any n _).mono ?_
    rintro e w' ⟨rfl, rfl⟩
    rw [HB.out]
    go_wp2_with fail
    go_ret
    exact ⟨by rw [HCD.out, HS.out]; rfl, 0, rfl⟩
set_option maxHeartbeats 4000000 in
theorem l06Asked_any (n : Int) (v u : Value) (gs : List (List Int)) (z : List Int) (hn : gs.length ≤ 1048576) (hm : ∀ i, i < gs.length → (gs.getD i []).length ≤ 1048576) (hz : z.length ≤ 1048576) (hb : -9223372036854775808 ≤ n ∧ n ≤ 9223372036854775807) (w : World) (h : WS w v gs) (h' : NS w u z) :
    Calls Try.prog 110 #[.int .i64 n, v, u] w fun e w' => e = .returned (.int .i64 (lsC n gs [z])) ∧ ∃ m, w' = w.drewN m := by
  have HWS := Lib.hid h
  obtain ⟨A, c, us, rfl, hc, hu⟩ := h.open
  have HM := Lib.hid hm
  have HB := Lib.hid hb
  obtain ⟨b0, b1⟩ := hb
  obtain ⟨cd, hcd⟩ : ∃ cd, cd = lsC n gs [z] := ⟨_, rfl⟩
  rw [← hcd]
  have HCD := Lib.hid hcd
  have hns := h'
  obtain ⟨A', c', rfl⟩ := h'.form
  obtain ⟨lz, hlz⟩ : ∃ lz, lz = z.length := ⟨_, rfl⟩
  have hlz1 : lz ≤ 1048576 := by omega
  rw [← hlz] at hns ⊢
  have HNS := Lib.hid hns
  have hzl : z.length ≤ 1048576 := hz
  have HLZ := Lib.hid hlz
  clear hcd hns h' h hlz hz
  by_cases hbb : baB n = true
  · skip
    have HBB := Lib.hid hbb
    clear hbb
    by_cases hw : wdB n z = true
    · skip
      have HW := Lib.hid hw
      clear hw
      by_cases h0 : 0 < gs.length
      · obtain ⟨b, off, rfl, hlb, hcell⟩ := hc h0
        have q0 : w.cell? ⟨b, off, none⟩ = some (us 0) := hcell 0 h0
        obtain ⟨A0, c0, e0⟩ := (hu 0 h0).form
        rw [e0] at q0
        obtain ⟨l0, hl0⟩ : ∃ l0, l0 = (gs.getD 0 []).length := ⟨_, rfl⟩
        have hl01 : l0 ≤ 1048576 := by rw [hl0]; exact HM.out 0 h0
        rw [← hl0] at q0
        have HL0 := Lib.hid hl0
        have i0 : (0 : Int) < (gs.length : Int) := by omega
        have T2 : decide ((0 : Int) < (gs.length : Int)) = true := by simp; omega
        clear hcell hl0 e0 hc hu hm
        by_cases hl : l0 = lz
        · have T1 : ((l0 : Int) != (lz : Int)) = false := by rw [hl]; simp
          have HS := Lib.hid (lsC_ask (n := n) (gs := gs) (z := z) HW.out (fun _ => by rw [← HL0.out, ← HLZ.out]; exact hl))
          clear hl
          go_enter Try.func110, Try.ntmps110
          go_wp2_with fail
          refine (l06Base_any n _).mono ?_
          rintro e w' ⟨rfl, rfl⟩
          rw [HBB.out]
          go_wp2_with fail
          refine (l06Word_any n b0 b1 _ z hzl _ HNS.out).mono ?_
          rintro e w' ⟨rfl, rfl⟩
          rw [HW.out]
          go_wp2_with fail
          refine (l06Listed_any n _ gs hn HM.out HB.out _ HWS.out).mono ?_
          rintro e w' ⟨rfl, m2, rfl⟩
          rw [← HS.out, ← HCD.out]
          go_wp2_with fail
          go_ret
          exact ⟨rfl, m2, rfl⟩
        · have T1 : ((l0 : Int) != (lz : Int)) = true := by rw [bne_iff_ne]; omega
          have HS := Lib.hid (lsC_bad (gs := gs) (os := [z]) HBB.out (wsB_snoc_len h0 (by rw [← HL0.out, ← HLZ.out]; exact hl)))
          clear hl
          go_enter Try.func110, Try.ntmps110
          go_wp2_with fail
          refine (l06Base_any n _).mono ?_
          rintro e w' ⟨rfl, rfl⟩
          rw [HBB.out]
          go_wp2_with fail
          refine (l06Word_any n b0 b1 _ z hzl _ HNS.out).mono ?_
          rintro e w' ⟨rfl, rfl⟩
          rw [HW.out]
          go_wp2_with fail
          go_ret
          exact ⟨by rw [HCD.out, HS.out]; rfl, 0, rfl⟩
      · have T2 : decide ((0 : Int) < (gs.length : Int)) = false := by rw [decide_eq_false_iff_not]; omega
        have HS := Lib.hid (lsC_ask (n := n) (gs := gs) (z := z) HW.out (fun e => absurd e h0))
        clear hc hu hm
        go_enter Try.func110, Try.ntmps110
        go_wp2_with fail
        refine (l06Base_any n _).mono ?_
        rintro e w' ⟨rfl, rfl⟩
        rw [HBB.out]
        go_wp2_with fail
        refine (l06Word_any n b0 b1 _ z hzl _ HNS.out).mono ?_
        rintro e w' ⟨rfl, rfl⟩
        rw [HW.out]
        go_wp2_with fail
        refine (l06Listed_any n _ gs hn HM.out HB.out _ HWS.out).mono ?_
        rintro e w' ⟨rfl, m2, rfl⟩
        rw [← HS.out, ← HCD.out]
        go_wp2_with fail
        go_ret
        exact ⟨rfl, m2, rfl⟩
    · have hw' : wdB n z = false := by simpa using hw
      skip
      have HWF := Lib.hid hw'
      have HS := Lib.hid (lsC_bad (gs := gs) (os := [z]) HBB.out (wsB_snoc_bad hw'))
      clear hw hw' hc hu hm
      go_enter Try.func110, Try.ntmps110
      go_wp2_with fail
      refine (l06Base_any n _).mono ?_
      rintro e w' ⟨rfl, rfl⟩
      rw [HBB.out]
      go_wp2_with fail
      refine (l06Word_any n b0 b1 _ z hzl _ HNS.out).mono ?_
      rintro e w' ⟨rfl, rfl⟩
      rw [HWF.out]
      go_wp2_with fail
      go_ret
      exact ⟨by rw [HCD.out, HS.out]; rfl, 0, rfl⟩
  · have hb' : baB n = false := by simpa using hbb
    skip
    have HBF := Lib.hid hb'
    have HS := Lib.hid (lsC_base (gs := gs) (os := [z]) hb')
    have HS2 := Lib.hid (lsC_base (gs := gs) (os := []) hb')
    clear hbb hb' hc hu hm
    go_enter Try.func110, Try.ntmps110
    go_wp2_with fail
    refine (l06Base_any n _).mono ?_
    rintro e w' ⟨rfl, rfl⟩
    rw [HBF.out]
    go_wp2_with fail
    refine (l06Listed_any n _ gs hn HM.out HB.out _ HWS.out).mono ?_
    rintro e w' ⟨rfl, m2, rfl⟩
    rw [HS2.out]
    go_wp2_with fail
    go_ret
    exact ⟨by rw [HCD.out, HS.out]; rfl, m2, rfl⟩
end Go.Proofs.Ythhjhfkcgokffaa
