/-
  Which words are valid (of the model); places of words; ValidWord, PlaceOfWord.
-/
import Derived.Test.YthhjhfkcgokffaaWg
namespace Go.Proofs.Ythhjhfkcgokffaa
set_option linter.unusedVariables false
set_option linter.unusedSimpArgs false
open Go.ChangeShapes Go.WideShapes Go.ChangeAt Go.RowKit

theorem l06Base_any (n : Int) (w : World) :
    Calls Try.prog 73 #[.int .i64 n] w fun e w' => e = .returned (.bool (baB n)) ∧ w = w' := by
  by_cases h : baB n = true
  · rw [h]
    rcases baB_cases h with rfl | rfl | rfl | rfl
    all_goals
      clear h
      go_enter Try.func73, Try.ntmps73
      go_wp2_with fail
      go_ret
      exact ⟨rfl, rfl⟩
  · have h' : baB n = false := by simpa using h
    rw [h']
    obtain ⟨h1, h2, h3, h4⟩ := baB_no h'
    have T1 : (n == 2) = false := beq_eq_false_iff_ne.2 h1
    have T2 : (n == 4) = false := beq_eq_false_iff_ne.2 h2
    have T3 : (n == 16) = false := beq_eq_false_iff_ne.2 h3
    have T4 : (n == 256) = false := beq_eq_false_iff_ne.2 h4
    clear h1 h2 h3 h4 h h'
    go_enter Try.func73, Try.ntmps73
    go_wp2_with fail
    go_ret
    exact ⟨rfl, rfl⟩
theorem wdB_no {n : Int} {zs : List Int} {k : Nat} (hk : k < zs.length) (h : n ≤ zs.getD k 0) : wdB n zs = false := by
  unfold wdB
  rw [ltAll_no hk (by omega)]; simp
theorem wdB_in {n : Int} {zs : List Int} (h : ∀ i, i < zs.length → zs.getD i 0 < n) : inB (zs.length : Int) 1 7 = wdB n zs := by
  unfold wdB inB
  rw [ltAll_iff.2 h, Bool.and_true, Bool.eq_iff_iff, Bool.and_eq_true, decide_eq_true_iff, decide_eq_true_iff, decide_eq_true_iff]
  omega
set_option maxHeartbeats 1000000 in
theorem l06Word_any (n : Int) (n0 : -9223372036854775808 ≤ n) (n1 : n ≤ 9223372036854775807) (v : Value) (zs : List Int) (hn : zs.length ≤ 1048576) (w : World) (h : NS w v zs) :
    Calls Try.prog 74 #[.int .i64 n, v] w fun e w' => e = .returned (.bool (wdB n zs)) ∧ w = w' := by
  have HU := Lib.hid (inU_of h)
  obtain ⟨A, c, rfl, _, hc⟩ := h
  have HC := Lib.hid hc; clear hc
  obtain ⟨bv, hbv⟩ : ∃ bv, bv = wdB n zs := ⟨_, rfl⟩
  rw [← hbv]
  have HBV := Lib.hid hbv
  clear hbv
  go_enter Try.func74, Try.ntmps74
  go_wp2_with fail
  go_loop [5] (fun y => ∃ k : Nat, y = .int .i64 (k : Int) ∧ k ≤ zs.length ∧ Hid (∀ i, i < k → zs.getD i 0 < n)) (fun y => zs.length - (intOf y).toNat)
  case atStart => exact ⟨0, rfl, Nat.zero_le _, Lib.hid (fun i hi => absurd hi (by omega))⟩
  case round =>
    obtain ⟨k, rfl, hk, HK⟩ := hrel
    by_cases hlt : k < zs.length
    · obtain ⟨b, off, rfl, hlb, hcell⟩ := HC.out (by omega)
      have i1 : (k : Int) < (zs.length : Int) := by omega
      have q1 := hcell k hlt
      have r1 := HU.out.at k
      obtain ⟨x, hx⟩ : ∃ x, x = zs.getD k 0 := ⟨_, rfl⟩
      rw [← hx] at q1 r1
      obtain ⟨r10, r11⟩ := r1
      have HCL := Lib.hid hcell
      have HX := Lib.hid hx
      clear hcell hx
      by_cases h0 : n ≤ x
      · have HE := Lib.hid (wdB_no (n := n) hlt (by rw [← HX.out]; exact h0))
        go_wp2_with fail
        go_ret
        exact ⟨by rw [HBV.out, HE.out]; rfl, rfl⟩
      · have h0' : x < n := by omega
        have HS := Lib.hid (show ∀ i, i < k + 1 → zs.getD i 0 < n from fun i hi => by
          by_cases e : i = k
          · subst e; rw [← HX.out]; exact h0'
          · exact HK.out i (by omega))
        clear h0
        go_wp2_with fail
        exact ⟨⟨k + 1, by go_num, by omega, HS⟩, by simp [intOf]; omega⟩
    · obtain rfl : k = zs.length := by omega
      have T1 : decide ((zs.length : Int) < (zs.length : Int)) = false := by simp
      have HE := Lib.hid (wdB_in HK.out)
      go_wp2_with fail
      refine (l00In_any (zs.length : Int) 1 7 _).mono ?_
      rintro e w' ⟨rfl, rfl⟩
      rw [HE.out, ← HBV.out]
      go_wp2_with fail
      go_ret
      exact ⟨rfl, rfl⟩
theorem spec_ValidWord (v : Value) (zs : List Int) (n : Int) (hn : zs.length ≤ 1048576) (b : -9223372036854775808 ≤ n ∧ n ≤ 9223372036854775807) (w : World) (h : NS w v zs) :
    Calls Try.prog 23 #[.int .i64 n, v] w fun e w' => e = .returned (.bool (baB n && wdB n zs)) ∧ Below w.heap.size w w' := by
  have HN := Lib.hid h
  obtain ⟨A, c, rfl⟩ := h.form
  obtain ⟨b0, b1⟩ := b
  clear h
  obtain ⟨bb, hbb⟩ : ∃ bb, bb = baB n := ⟨_, rfl⟩
  obtain ⟨bv, hbv⟩ : ∃ bv, bv = wdB n zs := ⟨_, rfl⟩
  rw [← hbb, ← hbv]
  have HBB := Lib.hid hbb
  have HBV := Lib.hid hbv
  clear hbb hbv
  cases bb with
  | true =>
    go_enter Try.func23, Try.ntmps23
    go_wp2_with fail
    refine (l06Base_any n _).mono ?_
    rintro e w' ⟨rfl, rfl⟩
    rw [← HBB.out]
    go_wp2_with fail
    refine (l06Word_any n b0 b1 _ zs hn _ HN.out).mono ?_
    rintro e w' ⟨rfl, rfl⟩
    rw [← HBV.out]
    go_wp2_with fail
    go_ret
    exact ⟨rfl, Below.refl _ _⟩
  | false =>
    go_enter Try.func23, Try.ntmps23
    go_wp2_with fail
    refine (l06Base_any n _).mono ?_
    rintro e w' ⟨rfl, rfl⟩
    rw [← HBB.out]
    go_wp2_with fail
    go_ret
    exact ⟨rfl, Below.refl _ _⟩
theorem op1_valid (n : Int) (zs : List Int) : (op1 n zs == 0) = (baB n && wdB n zs) := by
  unfold op1
  by_cases h : baB n = true
  · rw [if_pos h, h]
    by_cases h2 : wdB n zs = true
    · rw [if_pos h2, h2]; rfl
    · rw [if_neg h2, show wdB n zs = false from by simpa using h2]; rfl
  · rw [if_neg h, show baB n = false from by simpa using h]; rfl
theorem impl_ValidWord (v : Value) (zs : List Int) (n : Int) (hn : zs.length ≤ 1048576) (b : -9223372036854775808 ≤ n ∧ n ≤ 9223372036854775807) (w : World) (h : NS w v zs) :
    Calls Try.prog 25 #[.int .i64 n, v] w fun e w' => e = .returned (.bool (baB n && wdB n zs)) ∧ Below w.heap.size w w' := by
  have HO := Lib.hid (openBase_one n v zs hn w h)
  obtain ⟨A, c, rfl⟩ := h.form
  obtain ⟨b0, b1⟩ := b
  clear h
  obtain ⟨cv, hcv⟩ : ∃ cv, cv = op1B n zs := ⟨_, rfl⟩
  obtain ⟨cd, hcd⟩ : ∃ cd, cd = op1 n zs := ⟨_, rfl⟩
  rw [← op1_valid, ← hcd]
  rw [← hcv, ← hcd] at HO
  clear hcv hcd
  go_enter Try.func25, Try.ntmps25
  go_wp2_with fail
  refine HO.out.mono ?_
  rintro e w1 ⟨rfl, hb⟩
  have HB := Lib.hid hb
  clear hb
  go_wp2_with fail
  go_ret
  exact ⟨rfl, HB.out⟩
/-- the place of a word: its first k nimbers -/
def plI (b : Int) (zs : List Int) : Nat → Int
  | 0 => 0
  | k + 1 => plI b zs k * b + zs.getD k 0
theorem plI_b {b : Int} {zs : List Int} (hb0 : 0 ≤ b) (hb : b ≤ 256) (hu : inU zs) (hz : ∀ i, i < zs.length → zs.getD i 0 < b) : ∀ k, k ≤ zs.length → 0 ≤ plI b zs k ∧ plI b zs k + 1 ≤ (256 : Int) ^ k
  | 0, _ => by unfold plI; simp
  | k + 1, hk => by
    obtain ⟨h1, h2⟩ := plI_b hb0 hb hu hz k (by omega)
    have h3 := hz k (by omega)
    have h4 := (hu.at k).1
    have e : plI b zs (k + 1) = plI b zs k * b + zs.getD k 0 := rfl
    rw [e, Int.pow_succ]
    have h5 : 0 ≤ plI b zs k * b := Int.mul_nonneg h1 hb0
    have h6 : (plI b zs k + 1) * b ≤ (256 : Int) ^ k * 256 := Int.mul_le_mul h2 hb hb0 (by omega)
    rw [Int.add_mul, Int.one_mul] at h6
    exact ⟨by omega, by omega⟩
theorem plI_bd {b : Int} {zs : List Int} (hb : baB b = true) (hu : inU zs) (hw : wdB b zs = true) (k : Nat) (hk : k ≤ zs.length) : 0 ≤ plI b zs k ∧ plI b zs k < 72057594037927936 ∧ (k < zs.length → plI b zs k < 281474976710656) := by
  have hl := wdB_len hw
  have h := plI_b (b := b) (by rcases baB_cases hb with rfl | rfl | rfl | rfl <;> omega) (by rcases baB_cases hb with rfl | rfl | rfl | rfl <;> omega) hu (ltAll_iff.1 (wdB_all hw)) k hk
  have hk7 : k = 0 ∨ k = 1 ∨ k = 2 ∨ k = 3 ∨ k = 4 ∨ k = 5 ∨ k = 6 ∨ (k = 7 ∧ zs.length = 7) := by omega
  obtain ⟨h1, h2⟩ := h
  rcases hk7 with e | e | e | e | e | e | e | ⟨e, e2⟩
  all_goals
    rw [e] at h1 h2 ⊢
    simp only [Int.reducePow] at h2
    omega
set_option maxHeartbeats 4000000 in
theorem l06Place_any (b : Int) (hb : baB b = true) (v : Value) (zs : List Int) (hw : wdB b zs = true) (w : World) (h : NS w v zs) :
    Calls Try.prog 87 #[.int .i64 b, v] w fun e w' => e = .returned (.int .i64 (plI b zs zs.length)) ∧ w = w' := by
  have HU := Lib.hid (inU_of h)
  have hn : zs.length ≤ 7 := (wdB_len hw).2
  have HP := Lib.hid (fun k hk => plI_bd hb (inU_of h) hw k hk)
  have HSTEP : Hid (∀ k, plI b zs (k + 1) = plI b zs k * b + zs.getD k 0) := Lib.hid (fun k => rfl)
  obtain ⟨A, c, rfl, _, hc⟩ := h
  have HC := Lib.hid hc; clear hc
  obtain ⟨t, ht⟩ : ∃ t, t = plI b zs zs.length := ⟨_, rfl⟩
  rw [← ht]
  have HT := Lib.hid ht
  clear ht hw
  rcases baB_cases hb with rfl | rfl | rfl | rfl
  all_goals
    clear hb
    go_enter Try.func87, Try.ntmps87
    go_wp2_with fail
    go_loop [6, 5] (fun y o => ∃ (k : Nat) (p : Int), y = .int .i64 (k : Int) ∧ k ≤ zs.length ∧ o = .int .i64 p ∧ Hid (p = plI _ zs k)) (fun y _ => zs.length - (intOf y).toNat)
    case atStart => exact ⟨0, 0, rfl, Nat.zero_le _, rfl, Lib.hid rfl⟩
    case round =>
      obtain ⟨k, p, rfl, hk, rfl, HK⟩ := hrel
      have hp := HP.out k hk
      rw [← HK.out] at hp
      obtain ⟨p0, p1, p2⟩ := hp
      by_cases hlt : k < zs.length
      · have p3 := p2 hlt
        obtain ⟨b, off, rfl, hlb, hcell⟩ := HC.out (by omega)
        have i1 : (k : Int) < (zs.length : Int) := by omega
        have q1 := hcell k hlt
        have r1 := HU.out.at k
        have hs := HSTEP.out k
        obtain ⟨x, hx⟩ : ∃ x, x = zs.getD k 0 := ⟨_, rfl⟩
        rw [← hx] at q1 r1 hs
        rw [← HK.out] at hs
        have HS := Lib.hid hs
        obtain ⟨r10, r11⟩ := r1
        have HCL := Lib.hid hcell
        clear hcell hx p2 hs
        go_wp2_with fail
        exact ⟨⟨k + 1, _, by go_num, by omega, rfl, Lib.hid HS.out.symm⟩, by simp [intOf]; omega⟩
      · obtain rfl : k = zs.length := by omega
        have T1 : decide ((zs.length : Int) < (zs.length : Int)) = false := by simp
        clear p2
        go_wp2_with fail
        go_ret
        exact ⟨by rw [HT.out, HK.out]; rfl, rfl⟩
set_option maxHeartbeats 4000000 in
theorem placeOf_any (b : Int) (hb : baB b = true) (v : Value) (zs : List Int) (hw : wdB b zs = true) (w : World) (h : NS w v zs) :
    Calls Try.prog 88 #[.int .i64 b, v] w fun e w' => e = .returned (.int .i64 (plI b zs zs.length)) ∧ w = w' := by
  have HU := Lib.hid (inU_of h)
  have hn : zs.length ≤ 7 := (wdB_len hw).2
  have HP := Lib.hid (fun k hk => plI_bd hb (inU_of h) hw k hk)
  have HSTEP : Hid (∀ k, plI b zs (k + 1) = plI b zs k * b + zs.getD k 0) := Lib.hid (fun k => rfl)
  obtain ⟨A, c, rfl, _, hc⟩ := h
  have HC := Lib.hid hc; clear hc
  obtain ⟨t, ht⟩ : ∃ t, t = plI b zs zs.length := ⟨_, rfl⟩
  rw [← ht]
  have HT := Lib.hid ht
  clear ht hw
  rcases baB_cases hb with rfl | rfl | rfl | rfl
  all_goals
    clear hb
    go_enter Try.func88, Try.ntmps88
    go_wp2_with fail
    go_loop [10, 5] (fun y o => ∃ (k : Nat) (p : Int), y = .int .i64 (k : Int) ∧ k ≤ zs.length ∧ o = .int .i64 p ∧ Hid (p = plI _ zs k)) (fun y _ => zs.length - (intOf y).toNat)
    case atStart => exact ⟨0, 0, rfl, Nat.zero_le _, rfl, Lib.hid rfl⟩
    case round =>
      obtain ⟨k, p, rfl, hk, rfl, HK⟩ := hrel
      have hp := HP.out k hk
      rw [← HK.out] at hp
      obtain ⟨p0, p1, p2⟩ := hp
      by_cases hlt : k < zs.length
      · have p3 := p2 hlt
        obtain ⟨b, off, rfl, hlb, hcell⟩ := HC.out (by omega)
        have i1 : (k : Int) < (zs.length : Int) := by omega
        have q1 := hcell k hlt
        have r1 := HU.out.at k
        have hs := HSTEP.out k
        obtain ⟨x, hx⟩ : ∃ x, x = zs.getD k 0 := ⟨_, rfl⟩
        rw [← hx] at q1 r1 hs
        rw [← HK.out] at hs
        have HS := Lib.hid hs
        obtain ⟨r10, r11⟩ := r1
        have HCL := Lib.hid hcell
        clear hcell hx p2 hs
        go_wp2_with fail
        exact ⟨⟨k + 1, _, by go_num, by omega, rfl, Lib.hid HS.out.symm⟩, by simp [intOf]; omega⟩
      · obtain rfl : k = zs.length := by omega
        have T1 : decide ((zs.length : Int) < (zs.length : Int)) = false := by simp
        clear p2
        go_wp2_with fail
        go_ret
        exact ⟨by rw [HT.out, HK.out]; rfl, rfl⟩
def plcA (n : Int) (zs : List Int) : Int := if op1 n zs = 0 then plI n zs zs.length else 0
theorem plcA_yes {n : Int} {zs : List Int} (h : op1 n zs = 0) : plcA n zs = plI n zs zs.length := by unfold plcA; rw [if_pos h]
theorem plcA_no {n : Int} {zs : List Int} (h : ¬ op1 n zs = 0) : plcA n zs = 0 := by unfold plcA; rw [if_neg h]
theorem op1B_yes {n : Int} {zs : List Int} (h : op1 n zs = 0) : op1B n zs = n := by unfold op1B; rw [if_pos h]
set_option maxHeartbeats 1000000 in
theorem spec_PlaceOfWord (v : Value) (zs : List Int) (n : Int) (hn : zs.length ≤ 1048576) (b : -9223372036854775808 ≤ n ∧ n ≤ 9223372036854775807) (w : World) (h : NS w v zs) :
    Calls Try.prog 39 #[.int .i64 n, v] w fun e w' => e = .returned (.tuple #[.int .i64 (plcA n zs), .int .i64 (op1 n zs)]) ∧ Below w.heap.size w w' := by
  have HN := Lib.hid h
  obtain ⟨A, c, rfl⟩ := h.form
  obtain ⟨b0, b1⟩ := b
  clear h
  by_cases hb : baB n = true
  · have HB := Lib.hid hb
    by_cases hw : wdB n zs = true
    · have h1 := op1_ok hb hw
      rw [plcA_yes h1, h1]
      have HW := Lib.hid hw
      obtain ⟨t, ht⟩ : ∃ t, t = plI n zs zs.length := ⟨_, rfl⟩
      rw [← ht]
      have HT := Lib.hid ht
      clear hb hw h1 ht
      go_enter Try.func39, Try.ntmps39
      go_wp2_with fail
      refine (l06Base_any n _).mono ?_
      rintro e w' ⟨rfl, rfl⟩
      rw [HB.out]
      go_wp2_with fail
      refine (l06Word_any n b0 b1 _ zs hn _ HN.out).mono ?_
      rintro e w' ⟨rfl, rfl⟩
      rw [HW.out]
      go_wp2_with fail
      refine (l06Place_any n HB.out _ zs HW.out _ HN.out).mono ?_
      rintro e w' ⟨rfl, rfl⟩
      rw [← HT.out]
      go_wp2_with fail
      go_ret2
      exact ⟨rfl, Below.refl _ _⟩
    · have hw' : wdB n zs = false := by simpa using hw
      have h1 := op1_bad hb hw'
      rw [plcA_no (by rw [h1]; decide), h1]
      have HW := Lib.hid hw'
      clear hb hw hw' h1
      go_enter Try.func39, Try.ntmps39
      go_wp2_with fail
      refine (l06Base_any n _).mono ?_
      rintro e w' ⟨rfl, rfl⟩
      rw [HB.out]
      go_wp2_with fail
      refine (l06Word_any n b0 b1 _ zs hn _ HN.out).mono ?_
      rintro e w' ⟨rfl, rfl⟩
      rw [HW.out]
      go_wp2_with fail
      go_ret2
      exact ⟨rfl, Below.refl _ _⟩
  · have hb' : baB n = false := by simpa using hb
    have h1 := op1_base (zs := zs) hb'
    rw [plcA_no (by rw [h1]; decide), h1]
    have HB := Lib.hid hb'
    clear hb hb' h1
    go_enter Try.func39, Try.ntmps39
    go_wp2_with fail
    refine (l06Base_any n _).mono ?_
    rintro e w' ⟨rfl, rfl⟩
    rw [HB.out]
    go_wp2_with fail
    go_ret2
    exact ⟨rfl, Below.refl _ _⟩
set_option maxHeartbeats 1000000 in
theorem impl_PlaceOfWord (v : Value) (zs : List Int) (n : Int) (hn : zs.length ≤ 1048576) (b : -9223372036854775808 ≤ n ∧ n ≤ 9223372036854775807) (w : World) (h : NS w v zs) :
    Calls Try.prog 40 #[.int .i64 n, v] w fun e w' => e = .returned (.tuple #[.int .i64 (plcA n zs), .int .i64 (op1 n zs)]) ∧ Below w.heap.size w w' := by
  have hO := openBase_one n v zs hn w h
  have HN := Lib.hid h
  obtain ⟨A, c, rfl⟩ := h.form
  obtain ⟨b0, b1⟩ := b
  clear h
  by_cases h1 : op1 n zs = 0
  · obtain ⟨hb, hw⟩ := op1_zero h1
    rw [plcA_yes h1, h1]
    rw [op1B_yes h1, h1] at hO
    obtain ⟨t, ht⟩ : ∃ t, t = plI n zs zs.length := ⟨_, rfl⟩
    rw [← ht]
    have HT := Lib.hid ht
    have HO := Lib.hid hO
    have HB := Lib.hid hb
    have HW := Lib.hid hw
    clear hb hw h1 ht hO
    go_enter Try.func40, Try.ntmps40
    go_wp2_with fail
    refine HO.out.mono ?_
    rintro e w1 ⟨rfl, hb⟩
    have HB1 := Lib.hid hb
    clear hb
    go_wp2_with fail
    refine (placeOf_any n HB.out _ zs HW.out _ (HN.out.below HB1.out)).mono ?_
    rintro e w' ⟨rfl, rfl⟩
    rw [← HT.out]
    go_wp2_with fail
    go_ret2
    exact ⟨rfl, HB1.out⟩
  · rw [plcA_no h1]
    obtain ⟨cv, hcv⟩ : ∃ cv, cv = op1B n zs := ⟨_, rfl⟩
    obtain ⟨cd, hcd⟩ : ∃ cd, cd = op1 n zs := ⟨_, rfl⟩
    rw [← hcv, ← hcd] at hO
    rw [← hcd] at h1 ⊢
    have T1 : (cd != 0) = true := by rw [bne_iff_ne]; exact h1
    have HO := Lib.hid hO
    clear h1 hO hcv hcd
    go_enter Try.func40, Try.ntmps40
    go_wp2_with fail
    refine HO.out.mono ?_
    rintro e w1 ⟨rfl, hb⟩
    have HB1 := Lib.hid hb
    clear hb
    go_wp2_with fail
    go_ret2
    exact ⟨rfl, HB1.out⟩
end Go.Proofs.Ythhjhfkcgokffaa
