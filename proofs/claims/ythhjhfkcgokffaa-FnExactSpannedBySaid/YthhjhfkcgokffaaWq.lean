/-
  How many words of a length there are; the word at a place, of the model.
-/
import Derived.Test.YthhjhfkcgokffaaWh
import Derived.Test.YthhjhfkcgokffaaWd
namespace Go.Proofs.Ythhjhfkcgokffaa
set_option linter.unusedVariables false
set_option linter.unusedSimpArgs false
open Go.ChangeShapes Go.WideShapes Go.ChangeAt Go.RowKit

theorem pw_b {b : Int} (hb : baB b = true) (j : Nat) (hj : j ≤ 7) : 1 ≤ b ^ j ∧ b ^ j ≤ 72057594037927936 ∧ (j < 7 → b ^ j ≤ 281474976710656) := by
  have hk7 : j = 0 ∨ j = 1 ∨ j = 2 ∨ j = 3 ∨ j = 4 ∨ j = 5 ∨ j = 6 ∨ j = 7 := by omega
  rcases baB_cases hb with rfl | rfl | rfl | rfl
  all_goals
    rcases hk7 with e | e | e | e | e | e | e | e
    all_goals
      rw [e]
      simp
set_option maxHeartbeats 4000000 in
theorem l06All_any (b : Int) (hb : baB b = true) (N : Nat) (hN : N ≤ 7) (w : World) :
    Calls Try.prog 90 #[.int .i64 b, .int .i64 (N : Int)] w fun e w' => e = .returned (.int .i64 (b ^ N)) ∧ w = w' := by
  have HP := Lib.hid (pw_b hb)
  have HS : Hid (∀ j : Nat, b ^ (j + 1) = b ^ j * b) := Lib.hid (fun j => Int.pow_succ b j)
  obtain ⟨t, ht⟩ : ∃ t, t = b ^ N := ⟨_, rfl⟩
  rw [← ht]
  have HT := Lib.hid ht
  clear ht
  rcases baB_cases hb with rfl | rfl | rfl | rfl
  all_goals
    clear hb
    go_enter Try.func90, Try.ntmps90
    go_wp2_with fail
    go_loop [1, 5] (fun y o => ∃ (k j : Nat) (p : Int), y = .int .i64 (k : Int) ∧ Hid (k + j = N) ∧ o = .int .i64 p ∧ Hid (p = _ ^ j)) (fun y _ => (intOf y).toNat)
    case atStart => exact ⟨N, 0, 1, rfl, Lib.hid (by omega), rfl, Lib.hid (by simp)⟩
    case round =>
      obtain ⟨k, j, p, rfl, HJ, rfl, HK⟩ := hrel
      have hj7 : k + j = N := HJ.out
      by_cases hlt : 0 < k
      · have hp := HP.out j (by omega)
        have hs := HS.out j
        rw [← HK.out] at hp hs
        obtain ⟨p0, p1, p2⟩ := hp
        have p3 := p2 (by omega)
        have T1 : decide ((0 : Int) < (k : Int)) = true := by simp; omega
        obtain ⟨m, rfl⟩ : ∃ m, k = m + 1 := ⟨k - 1, by omega⟩
        have e1 : ((m + 1 : Nat) : Int) - 1 = (m : Int) := by omega
        have HSS := Lib.hid hs
        clear p2 hs
        go_wp2_with fail
        exact ⟨⟨m, j + 1, _, by first | rfl | go_num, Lib.hid (by omega), rfl, Lib.hid HSS.out.symm⟩, by simp [intOf]⟩
      · obtain rfl : k = 0 := by omega
        have hjN : j = N := by omega
        have T1 : decide ((0 : Int) < ((0 : Nat) : Int)) = false := by simp
        go_wp2_with fail
        go_ret
        exact ⟨by rw [HT.out, HK.out, hjN]; rfl, rfl⟩
set_option maxHeartbeats 4000000 in
theorem count_any (b : Int) (hb : baB b = true) (N : Nat) (hN : N ≤ 7) (w : World) :
    Calls Try.prog 93 #[.int .i64 b, .int .i64 (N : Int)] w fun e w' => e = .returned (.int .i64 (b ^ N)) ∧ w = w' := by
  have HP := Lib.hid (pw_b hb)
  have HS : Hid (∀ j : Nat, b ^ (j + 1) = b ^ j * b) := Lib.hid (fun j => Int.pow_succ b j)
  obtain ⟨t, ht⟩ : ∃ t, t = b ^ N := ⟨_, rfl⟩
  rw [← ht]
  have HT := Lib.hid ht
  clear ht
  rcases baB_cases hb with rfl | rfl | rfl | rfl
  all_goals
    clear hb
    go_enter Try.func93, Try.ntmps93
    go_wp2_with fail
    go_loop [7, 5] (fun y o => ∃ (j : Nat) (p : Int), y = .int .i64 (j : Int) ∧ j ≤ N ∧ o = .int .i64 p ∧ Hid (p = _ ^ j)) (fun y _ => N - (intOf y).toNat)
    case atStart => exact ⟨0, 1, rfl, Nat.zero_le _, rfl, Lib.hid (by simp)⟩
    case round =>
      obtain ⟨j, p, rfl, hj, rfl, HK⟩ := hrel
      by_cases hlt : j < N
      · have hp := HP.out j (by omega)
        have hs := HS.out j
        rw [← HK.out] at hp hs
        obtain ⟨p0, p1, p2⟩ := hp
        have p3 := p2 (by omega)
        have i1 : (j : Int) < (N : Int) := by omega
        have HSS := Lib.hid hs
        clear p2 hs
        go_wp2_with fail
        exact ⟨⟨j + 1, _, by go_num, by omega, rfl, Lib.hid HSS.out.symm⟩, by simp [intOf]; omega⟩
      · obtain rfl : j = N := by omega
        have T1 : decide ((j : Int) < (j : Int)) = false := by simp
        go_wp2_with fail
        go_ret
        exact ⟨by rw [HT.out, HK.out]; rfl, rfl⟩
/-- what is left of a place after k quotients -/
def pd (b p : Int) : Nat → Int
  | 0 => p
  | k + 1 => pd b p k / b
theorem pd_b {b p : Int} (hb : baB b = true) (h0 : 0 ≤ p) (h1 : p ≤ 9223372036854775807) : ∀ k, 0 ≤ pd b p k ∧ pd b p k ≤ 9223372036854775807
  | 0 => ⟨h0, h1⟩
  | k + 1 => by
    have h := pd_b hb h0 h1 k
    have e : pd b p (k + 1) = pd b p k / b := rfl
    rw [e]
    rcases baB_cases hb with rfl | rfl | rfl | rfl <;> omega
/-- the nimbers of the word at a place -/
def waF (b p : Int) (N i : Nat) : Int := pd b p (N - 1 - i) % b
def waK (b p : Int) (N k i : Nat) : Int := if N ≤ i + k then waF b p N i else 0
def waL (b p : Int) (N : Nat) : List Int := tab N (waF b p N)
theorem waK_zero (b p : Int) (N : Nat) : tab N (waK b p N 0) = tab N (fun _ => 0) := tab_ext fun i hi => by unfold waK; rw [if_neg (by omega)]
theorem waK_end (b p : Int) (N : Nat) : tab N (waK b p N N) = waL b p N := tab_ext fun i hi => by unfold waK; rw [if_pos (by omega)]
theorem waK_set (b p : Int) (N k m : Nat) (h : m + 1 + k = N) : (tab N (waK b p N k)).set m (pd b p k % b) = tab N (waK b p N (k + 1)) := by
  rw [tab_set]
  refine tab_ext fun i hi => ?_
  unfold put waK
  by_cases e : i = m
  · rw [if_pos e, if_pos (by omega), e]; unfold waF; rw [show N - 1 - m = k from by omega]
  · rw [if_neg e]
    by_cases h1 : N ≤ i + k
    · rw [if_pos h1, if_pos (by omega)]
    · rw [if_neg h1, if_neg (by omega)]
theorem waF_u {b p : Int} (hb : baB b = true) (N i : Nat) : 0 ≤ waF b p N i ∧ waF b p N i < 65536 := by
  unfold waF
  rcases baB_cases hb with rfl | rfl | rfl | rfl <;> omega
theorem waL_in {b p : Int} (hb : baB b = true) (N : Nat) : inU (waL b p N) := tab_in fun i _ => waF_u hb N i
theorem waL_len (b p : Int) (N : Nat) : (waL b p N).length = N := tab_len _ _
set_option maxHeartbeats 4000000 in
set_option maxRecDepth 100000 in
theorem l06At_any (b : Int) (hb : baB b = true) (N : Nat) (hN : N ≤ 7) (p : Int) (p0 : 0 ≤ p) (p1 : p ≤ 9223372036854775807) (w : World) :
    Calls Try.prog 91 #[.int .i64 b, .int .i64 (N : Int), .int .i64 p] w fun e w' => ∃ r, e = .returned r ∧ PO w' w.heap.size r (waL b p N) ∧ Below w.heap.size w w' := by
  obtain ⟨i0, hi, hz0, hz1, hz2⟩ := info_parts info25
  have HP := Lib.hid (pd_b hb p0 p1)
  have HS : Hid (∀ k, pd b p (k + 1) = pd b p k / b) := Lib.hid (fun k => rfl)
  have HSET : Hid (∀ k m, m + 1 + k = N → (tab N (waK b p N k)).set m (pd b p k % b) = tab N (waK b p N (k + 1))) := Lib.hid (fun k m h => waK_set b p N k m h)
  have HIN := Lib.hid (waL_in (p := p) hb N)
  have H0 := Lib.hid (waK_zero b p N)
  have H9 := Lib.hid (waK_end b p N)
  have HL := Lib.hid (waL_len b p N)
  have hpz : Hid (pd b p 0 = p) := Lib.hid rfl
  rcases baB_cases hb with rfl | rfl | rfl | rfl
  · clear hb
    go_enter Try.func91, Try.ntmps91
    go_wp2_with (at_make; refine wpList_make_full _ rfl _ _ 25 rfl w.heap.size 39 i0 (.int .u16 0) 1 Try.underlying25 hi hz0 hz1 _ _ _ _ N rfl rfl rfl rfl (by rw [hz2]; omega) (by unfold maxLen; omega) (Nat.le_refl _) ?_)
    intro w1 hown hgrow
    have hb1 : Below w.heap.size w w1 := (Below.refl _ w).grown hgrow (Nat.le_refl _) (fun k hk => by cases hk)
    obtain ⟨g, hgg⟩ : ∃ g, g = w.heap.size := ⟨_, rfl⟩
    rw [← hgg] at hown hb1 ⊢
    rw [made_tab, ← H0.out] at hown
    have HRW := Lib.hid (RW.of_own hown)
    have HB1 := Lib.hid hb1
    have HG := Lib.hid hgg
    clear hown hgrow hb1 hgg
    go_wp2_with fail
    go_loopw [8, 2] (fun y o wr => ∃ (k : Nat) (x : Int), y = .int .i64 ((N : Int) - 1 - (k : Int)) ∧ k ≤ N ∧ o = .int .i64 x ∧ Hid (x = pd _ p k) ∧ Hid (RW wr g (tab N (waK _ p N k))) ∧ Hid (Below g w wr)) (fun y _ _ => (intOf y + 1).toNat)
    case atStart => exact ⟨0, p, by first | rfl | simp, Nat.zero_le _, rfl, Lib.hid hpz.out.symm, HRW, HB1⟩
    case round =>
      clear HRW HB1
      obtain ⟨k, x, rfl, hk, rfl, HX, HR, HB⟩ := hrel
      by_cases hlt : k < N
      · obtain ⟨m, hm⟩ : ∃ m, m + 1 + k = N := ⟨N - 1 - k, by omega⟩
        have hmi : (N : Int) - 1 - (k : Int) = (m : Int) := by omega
        rw [hmi]
        have i1 : (m : Int) < (N : Int) := by omega
        have T1 : decide (0 ≤ (m : Int)) = true := by simp
        have q3 := HR.out.tabcell2 m (by omega)
        have q4 := HR.out.free m
        have hp := HP.out k
        have hs := HS.out k
        have hset := HSET.out k m hm
        rw [← HX.out] at hp hs hset
        obtain ⟨x0, x1⟩ := hp
        obtain ⟨z0, hz0'⟩ : ∃ z, z = (tab N (waK 2 p N k)).getD m 0 := ⟨_, rfl⟩
        rw [← hz0'] at q3
        have hrem : ∀ q : Int, 2 ≤ q → x.tmod q = x % q := fun q _ => Int.tmod_eq_emod_of_nonneg x0
        have hquo : ∀ q : Int, 2 ≤ q → x.tdiv q = x / q := fun q _ => Int.tdiv_eq_ediv_of_nonneg x0
        have r1 := hrem _ (by decide : (2 : Int) ≤ 2)
        have r2 := hquo _ (by decide : (2 : Int) ≤ 2)
        obtain ⟨z, hz⟩ : ∃ z, z = x % 2 := ⟨_, rfl⟩
        obtain ⟨x2, hx2⟩ : ∃ x2, x2 = x / 2 := ⟨_, rfl⟩
        have z1 : 0 ≤ z ∧ z < 65536 := by omega
        obtain ⟨z10, z11⟩ := z1
        have y1 : 0 ≤ x2 ∧ x2 ≤ 9223372036854775807 := by omega
        obtain ⟨y10, y11⟩ := y1
        rw [← hz] at r1 hset
        rw [← hx2] at r2 hs
        have hrw := HR.out.set m z
        rw [hset] at hrw
        have HQ := Lib.hid hrw
        have HB3 := Lib.hid (HB.out.setCell (p := ⟨g, m, none⟩) (Nat.le_refl _) (.int .u16 z))
        have HSS := Lib.hid hs
        have hnx : (m : Int) - 1 = (N : Int) - 1 - ((k + 1 : Nat) : Int) := by omega
        have HNX := Lib.hid hnx
        have hmk : m ≤ 7 := by omega
        clear hset hrw hs hz hx2 hrem hquo hz0' hm hmi hnx HR HB
        go_wp2_with fail
        go_roundw
        case rel => exact ⟨k + 1, _, by rw [← HNX.out], by omega, rfl, Lib.hid HSS.out.symm, HQ, HB3⟩
        case measure => first | (simp [intOf]; done) | (simp [intOf]; omega)
      · obtain rfl : k = N := by omega
        have T1 : decide (0 ≤ (k : Int) - 1 - (k : Int)) = false := by simp; omega
        have hr := HR.out
        rw [H9.out] at hr
        have hpo := hr.po HIN.out (Nat.le_of_eq HG.out.symm) (by rw [HL.out]; unfold maxLen; omega)
        rw [HL.out] at hpo
        have HPO := Lib.hid hpo
        clear hr hpo
        go_wp2_with fail
        go_ret
        exact ⟨_, rfl, HPO.out, by rw [← HG.out]; exact HB.out⟩
  · clear hb
    go_enter Try.func91, Try.ntmps91
    go_wp2_with (at_make; refine wpList_make_full _ rfl _ _ 25 rfl w.heap.size 39 i0 (.int .u16 0) 1 Try.underlying25 hi hz0 hz1 _ _ _ _ N rfl rfl rfl rfl (by rw [hz2]; omega) (by unfold maxLen; omega) (Nat.le_refl _) ?_)
    intro w1 hown hgrow
    have hb1 : Below w.heap.size w w1 := (Below.refl _ w).grown hgrow (Nat.le_refl _) (fun k hk => by cases hk)
    obtain ⟨g, hgg⟩ : ∃ g, g = w.heap.size := ⟨_, rfl⟩
    rw [← hgg] at hown hb1 ⊢
    rw [made_tab, ← H0.out] at hown
    have HRW := Lib.hid (RW.of_own hown)
    have HB1 := Lib.hid hb1
    have HG := Lib.hid hgg
    clear hown hgrow hb1 hgg
    go_wp2_with fail
    go_loopw [8, 2] (fun y o wr => ∃ (k : Nat) (x : Int), y = .int .i64 ((N : Int) - 1 - (k : Int)) ∧ k ≤ N ∧ o = .int .i64 x ∧ Hid (x = pd _ p k) ∧ Hid (RW wr g (tab N (waK _ p N k))) ∧ Hid (Below g w wr)) (fun y _ _ => (intOf y + 1).toNat)
    case atStart => exact ⟨0, p, by first | rfl | simp, Nat.zero_le _, rfl, Lib.hid hpz.out.symm, HRW, HB1⟩
    case round =>
      clear HRW HB1
      obtain ⟨k, x, rfl, hk, rfl, HX, HR, HB⟩ := hrel
      by_cases hlt : k < N
      · obtain ⟨m, hm⟩ : ∃ m, m + 1 + k = N := ⟨N - 1 - k, by omega⟩
        have hmi : (N : Int) - 1 - (k : Int) = (m : Int) := by omega
        rw [hmi]
        have i1 : (m : Int) < (N : Int) := by omega
        have T1 : decide (0 ≤ (m : Int)) = true := by simp
        have q3 := HR.out.tabcell2 m (by omega)
        have q4 := HR.out.free m
        have hp := HP.out k
        have hs := HS.out k
        have hset := HSET.out k m hm
        rw [← HX.out] at hp hs hset
        obtain ⟨x0, x1⟩ := hp
        obtain ⟨z0, hz0'⟩ : ∃ z, z = (tab N (waK 4 p N k)).getD m 0 := ⟨_, rfl⟩
        rw [← hz0'] at q3
        have hrem : ∀ q : Int, 2 ≤ q → x.tmod q = x % q := fun q _ => Int.tmod_eq_emod_of_nonneg x0
        have hquo : ∀ q : Int, 2 ≤ q → x.tdiv q = x / q := fun q _ => Int.tdiv_eq_ediv_of_nonneg x0
        have r1 := hrem _ (by decide : (2 : Int) ≤ 4)
        have r2 := hquo _ (by decide : (2 : Int) ≤ 4)
        obtain ⟨z, hz⟩ : ∃ z, z = x % 4 := ⟨_, rfl⟩
        obtain ⟨x2, hx2⟩ : ∃ x2, x2 = x / 4 := ⟨_, rfl⟩
        have z1 : 0 ≤ z ∧ z < 65536 := by omega
        obtain ⟨z10, z11⟩ := z1
        have y1 : 0 ≤ x2 ∧ x2 ≤ 9223372036854775807 := by omega
        obtain ⟨y10, y11⟩ := y1
        rw [← hz] at r1 hset
        rw [← hx2] at r2 hs
        have hrw := HR.out.set m z
        rw [hset] at hrw
        have HQ := Lib.hid hrw
        have HB3 := Lib.hid (HB.out.setCell (p := ⟨g, m, none⟩) (Nat.le_refl _) (.int .u16 z))
        have HSS := Lib.hid hs
        have hnx : (m : Int) - 1 = (N : Int) - 1 - ((k + 1 : Nat) : Int) := by omega
        have HNX := Lib.hid hnx
        have hmk : m ≤ 7 := by omega
        clear hset hrw hs hz hx2 hrem hquo hz0' hm hmi hnx HR HB
        go_wp2_with fail
        go_roundw
        case rel => exact ⟨k + 1, _, by rw [← HNX.out], by omega, rfl, Lib.hid HSS.out.symm, HQ, HB3⟩
        case measure => first | (simp [intOf]; done) | (simp [intOf]; omega)
      · obtain rfl : k = N := by omega
        have T1 : decide (0 ≤ (k : Int) - 1 - (k : Int)) = false := by simp; omega
        have hr := HR.out
        rw [H9.out] at hr
        have hpo := hr.po HIN.out (Nat.le_of_eq HG.out.symm) (by rw [HL.out]; unfold maxLen; omega)
        rw [HL.out] at hpo
        have HPO := Lib.hid hpo
        clear hr hpo
        go_wp2_with fail
        go_ret
        exact ⟨_, rfl, HPO.out, by rw [← HG.out]; exact HB.out⟩
  · clear hb
    go_enter Try.func91, Try.ntmps91
    go_wp2_with (at_make; refine wpList_make_full _ rfl _ _ 25 rfl w.heap.size 39 i0 (.int .u16 0) 1 Try.underlying25 hi hz0 hz1 _ _ _ _ N rfl rfl rfl rfl (by rw [hz2]; omega) (by unfold maxLen; omega) (Nat.le_refl _) ?_)
    intro w1 hown hgrow
    have hb1 : Below w.heap.size w w1 := (Below.refl _ w).grown hgrow (Nat.le_refl _) (fun k hk => by cases hk)
    obtain ⟨g, hgg⟩ : ∃ g, g = w.heap.size := ⟨_, rfl⟩
    rw [← hgg] at hown hb1 ⊢
    rw [made_tab, ← H0.out] at hown
    have HRW := Lib.hid (RW.of_own hown)
    have HB1 := Lib.hid hb1
    have HG := Lib.hid hgg
    clear hown hgrow hb1 hgg
    go_wp2_with fail
    go_loopw [8, 2] (fun y o wr => ∃ (k : Nat) (x : Int), y = .int .i64 ((N : Int) - 1 - (k : Int)) ∧ k ≤ N ∧ o = .int .i64 x ∧ Hid (x = pd _ p k) ∧ Hid (RW wr g (tab N (waK _ p N k))) ∧ Hid (Below g w wr)) (fun y _ _ => (intOf y + 1).toNat)
    case atStart => exact ⟨0, p, by first | rfl | simp, Nat.zero_le _, rfl, Lib.hid hpz.out.symm, HRW, HB1⟩
    case round =>
      clear HRW HB1
      obtain ⟨k, x, rfl, hk, rfl, HX, HR, HB⟩ := hrel
      by_cases hlt : k < N
      · obtain ⟨m, hm⟩ : ∃ m, m + 1 + k = N := ⟨N - 1 - k, by omega⟩
        have hmi : (N : Int) - 1 - (k : Int) = (m : Int) := by omega
        rw [hmi]
        have i1 : (m : Int) < (N : Int) := by omega
        have T1 : decide (0 ≤ (m : Int)) = true := by simp
        have q3 := HR.out.tabcell2 m (by omega)
        have q4 := HR.out.free m
        have hp := HP.out k
        have hs := HS.out k
        have hset := HSET.out k m hm
        rw [← HX.out] at hp hs hset
        obtain ⟨x0, x1⟩ := hp
        obtain ⟨z0, hz0'⟩ : ∃ z, z = (tab N (waK 16 p N k)).getD m 0 := ⟨_, rfl⟩
        rw [← hz0'] at q3
        have hrem : ∀ q : Int, 2 ≤ q → x.tmod q = x % q := fun q _ => Int.tmod_eq_emod_of_nonneg x0
        have hquo : ∀ q : Int, 2 ≤ q → x.tdiv q = x / q := fun q _ => Int.tdiv_eq_ediv_of_nonneg x0
        have r1 := hrem _ (by decide : (2 : Int) ≤ 16)
        have r2 := hquo _ (by decide : (2 : Int) ≤ 16)
        obtain ⟨z, hz⟩ : ∃ z, z = x % 16 := ⟨_, rfl⟩
        obtain ⟨x2, hx2⟩ : ∃ x2, x2 = x / 16 := ⟨_, rfl⟩
        have z1 : 0 ≤ z ∧ z < 65536 := by omega
        obtain ⟨z10, z11⟩ := z1
        have y1 : 0 ≤ x2 ∧ x2 ≤ 9223372036854775807 := by omega
        obtain ⟨y10, y11⟩ := y1
        rw [← hz] at r1 hset
        rw [← hx2] at r2 hs
        have hrw := HR.out.set m z
        rw [hset] at hrw
        have HQ := Lib.hid hrw
        have HB3 := Lib.hid (HB.out.setCell (p := ⟨g, m, none⟩) (Nat.le_refl _) (.int .u16 z))
        have HSS := Lib.hid hs
        have hnx : (m : Int) - 1 = (N : Int) - 1 - ((k + 1 : Nat) : Int) := by omega
        have HNX := Lib.hid hnx
        have hmk : m ≤ 7 := by omega
        clear hset hrw hs hz hx2 hrem hquo hz0' hm hmi hnx HR HB
        go_wp2_with fail
        go_roundw
        case rel => exact ⟨k + 1, _, by rw [← HNX.out], by omega, rfl, Lib.hid HSS.out.symm, HQ, HB3⟩
        case measure => first | (simp [intOf]; done) | (simp [intOf]; omega)
      · obtain rfl : k = N := by omega
        have T1 : decide (0 ≤ (k : Int) - 1 - (k : Int)) = false := by simp; omega
        have hr := HR.out
        rw [H9.out] at hr
        have hpo := hr.po HIN.out (Nat.le_of_eq HG.out.symm) (by rw [HL.out]; unfold maxLen; omega)
        rw [HL.out] at hpo
        have HPO := Lib.hid hpo
        clear hr hpo
        go_wp2_with fail
        go_ret
        exact ⟨_, rfl, HPO.out, by rw [← HG.out]; exact HB.out⟩
  · clear hb
    go_enter Try.func91, Try.ntmps91
    go_wp2_with (at_make; refine wpList_make_full _ rfl _ _ 25 rfl w.heap.size 39 i0 (.int .u16 0) 1 Try.underlying25 hi hz0 hz1 _ _ _ _ N rfl rfl rfl rfl (by rw [hz2]; omega) (by unfold maxLen; omega) (Nat.le_refl _) ?_)
    intro w1 hown hgrow
    have hb1 : Below w.heap.size w w1 := (Below.refl _ w).grown hgrow (Nat.le_refl _) (fun k hk => by cases hk)
    obtain ⟨g, hgg⟩ : ∃ g, g = w.heap.size := ⟨_, rfl⟩
    rw [← hgg] at hown hb1 ⊢
    rw [made_tab, ← H0.out] at hown
    have HRW := Lib.hid (RW.of_own hown)
    have HB1 := Lib.hid hb1
    have HG := Lib.hid hgg
    clear hown hgrow hb1 hgg
    go_wp2_with fail
    go_loopw [8, 2] (fun y o wr => ∃ (k : Nat) (x : Int), y = .int .i64 ((N : Int) - 1 - (k : Int)) ∧ k ≤ N ∧ o = .int .i64 x ∧ Hid (x = pd _ p k) ∧ Hid (RW wr g (tab N (waK _ p N k))) ∧ Hid (Below g w wr)) (fun y _ _ => (intOf y + 1).toNat)
    case atStart => exact ⟨0, p, by first | rfl | simp, Nat.zero_le _, rfl, Lib.hid hpz.out.symm, HRW, HB1⟩
    case round =>
      clear HRW HB1
      obtain ⟨k, x, rfl, hk, rfl, HX, HR, HB⟩ := hrel
      by_cases hlt : k < N
      · obtain ⟨m, hm⟩ : ∃ m, m + 1 + k = N := ⟨N - 1 - k, by omega⟩
        have hmi : (N : Int) - 1 - (k : Int) = (m : Int) := by omega
        rw [hmi]
        have i1 : (m : Int) < (N : Int) := by omega
        have T1 : decide (0 ≤ (m : Int)) = true := by simp
        have q3 := HR.out.tabcell2 m (by omega)
        have q4 := HR.out.free m
        have hp := HP.out k
        have hs := HS.out k
        have hset := HSET.out k m hm
        rw [← HX.out] at hp hs hset
        obtain ⟨x0, x1⟩ := hp
        obtain ⟨z0, hz0'⟩ : ∃ z, z = (tab N (waK 256 p N k)).getD m 0 := ⟨_, rfl⟩
        rw [← hz0'] at q3
        have hrem : ∀ q : Int, 2 ≤ q → x.tmod q = x % q := fun q _ => Int.tmod_eq_emod_of_nonneg x0
        have hquo : ∀ q : Int, 2 ≤ q → x.tdiv q = x / q := fun q _ => Int.tdiv_eq_ediv_of_nonneg x0
        have r1 := hrem _ (by decide : (2 : Int) ≤ 256)
        have r2 := hquo _ (by decide : (2 : Int) ≤ 256)
        obtain ⟨z, hz⟩ : ∃ z, z = x % 256 := ⟨_, rfl⟩
        obtain ⟨x2, hx2⟩ : ∃ x2, x2 = x / 256 := ⟨_, rfl⟩
        have z1 : 0 ≤ z ∧ z < 65536 := by omega
        obtain ⟨z10, z11⟩ := z1
        have y1 : 0 ≤ x2 ∧ x2 ≤ 9223372036854775807 := by omega
        obtain ⟨y10, y11⟩ := y1
        rw [← hz] at r1 hset
        rw [← hx2] at r2 hs
        have hrw := HR.out.set m z
        rw [hset] at hrw
        have HQ := Lib.hid hrw
        have HB3 := Lib.hid (HB.out.setCell (p := ⟨g, m, none⟩) (Nat.le_refl _) (.int .u16 z))
        have HSS := Lib.hid hs
        have hnx : (m : Int) - 1 = (N : Int) - 1 - ((k + 1 : Nat) : Int) := by omega
        have HNX := Lib.hid hnx
        have hmk : m ≤ 7 := by omega
        clear hset hrw hs hz hx2 hrem hquo hz0' hm hmi hnx HR HB
        go_wp2_with fail
        go_roundw
        case rel => exact ⟨k + 1, _, by rw [← HNX.out], by omega, rfl, Lib.hid HSS.out.symm, HQ, HB3⟩
        case measure => first | (simp [intOf]; done) | (simp [intOf]; omega)
      · obtain rfl : k = N := by omega
        have T1 : decide (0 ≤ (k : Int) - 1 - (k : Int)) = false := by simp; omega
        have hr := HR.out
        rw [H9.out] at hr
        have hpo := hr.po HIN.out (Nat.le_of_eq HG.out.symm) (by rw [HL.out]; unfold maxLen; omega)
        rw [HL.out] at hpo
        have HPO := Lib.hid hpo
        clear hr hpo
        go_wp2_with fail
        go_ret
        exact ⟨_, rfl, HPO.out, by rw [← HG.out]; exact HB.out⟩
end Go.Proofs.Ythhjhfkcgokffaa
