/-
  How many bits of a number are 1: OnesCount64, and bit by bit.
-/
import Derived.Test.YtanmgjaiojdihaaRows
import Derived.Test.YtanmgjaiojdihaaPc
import Derived.WalkKit
import Derived.ProofKit
import Derived.IntWalk
import Derived.Lib.Hide
namespace Go.Proofs.Ytanmgjaiojdihaa
set_option linter.unusedVariables false
set_option linter.unusedSimpArgs false
open Go.ChangeShapes Go.WideShapes Go.ChangeAt Go.RowKit
theorem and_u64 (a b : Nat) (ha : a < 18446744073709551616) (hb : b < 18446744073709551616) : bits .and .u64 (a : Int) (b : Int) = ((a &&& b : Nat) : Int) := by
  have e : ∀ n : Nat, n < 18446744073709551616 → (BitVec.ofInt 64 (n : Int)).toNat = n := by
    intro n hn
    rw [BitVec.toNat_ofInt]
    have : (n : Int) % ((2 ^ 64 : Nat) : Int) = n := Int.emod_eq_of_lt (by omega) (by omega)
    rw [this]; rfl
  show IntKind.u64.wrap (((BitVec.ofInt 64 (a : Int) &&& BitVec.ofInt 64 (b : Int)).toNat : Nat) : Int) = _
  rw [BitVec.toNat_and, e a ha, e b hb, IntKind.wrap_u64]
  have : a &&& b ≤ a := Nat.and_le_left
  omega
theorem and_i64 (a b : Nat) (ha : a < 9223372036854775808) (hb : b < 9223372036854775808) : bits .and .i64 (a : Int) (b : Int) = ((a &&& b : Nat) : Int) := by
  have e : ∀ n : Nat, n < 9223372036854775808 → (BitVec.ofInt 64 (n : Int)).toNat = n := by
    intro n hn
    rw [BitVec.toNat_ofInt]
    have : (n : Int) % ((2 ^ 64 : Nat) : Int) = n := Int.emod_eq_of_lt (by omega) (by omega)
    rw [this]; rfl
  have hle : a &&& b ≤ a := Nat.and_le_left
  show IntKind.i64.wrap (((BitVec.ofInt 64 (a : Int) &&& BitVec.ofInt 64 (b : Int)).toNat : Nat) : Int) = _
  rw [BitVec.toNat_and, e a ha, e b hb, IntWalk.i64_in _ (by omega)]
theorem pcf_more : ∀ (f m : Nat), m < 2 ^ f → Pc.pcf (f + 1) m = Pc.pcf f m := by
  intro f
  induction f with
  | zero => intro m hm; rw [show m = 0 from by simpa using hm]; rfl
  | succ f ih =>
    intro m hm
    show m % 2 + Pc.pcf (f + 1) (m / 2) = m % 2 + Pc.pcf f (m / 2)
    rw [ih (m / 2) (by rw [Nat.pow_succ] at hm; omega)]
theorem pc_step (m : Nat) (hm : m < 4294967296) : Pc.pc m = m % 2 + Pc.pc (m / 2) := by
  have e := pcf_more 63 (m / 2) (by have : (4294967296 : Nat) < 2 ^ 63 := by decide
                                    omega)
  show m % 2 + Pc.pcf 63 (m / 2) = m % 2 + Pc.pcf 64 (m / 2)
  rw [← e]
theorem pc_le (m : Nat) (hm : m < 4294967296) : Pc.pc m ≤ 64 := by
  have : ∀ f n, Pc.pcf f n ≤ f := by
    intro f
    induction f with
    | zero => intro n; exact Nat.le_refl _
    | succ f ih => intro n; have := ih (n / 2); show n % 2 + Pc.pcf f (n / 2) ≤ f + 1; omega
  exact this 64 m
set_option maxHeartbeats 400000 in
theorem l04Bits_any (n : Nat) (hn : n < 4294967296) (w : World) :
    Calls Try.prog 34 #[.int .u64 (n : Int)] w fun e w' => e = .returned (.int .i64 ((Pc.pc n : Nat) : Int)) ∧ w = w' := by
  go_enter Try.func34, Try.ntmps34
  go_wp2_with fail
  go_loop [0, 3] (fun x c => ∃ m k : Nat, x = .int .u64 (m : Int) ∧ c = .int .i64 (k : Int) ∧ m < 4294967296 ∧ k ≤ 64 ∧ Hid (k + Pc.pc m = Pc.pc n)) (fun x _ => (intOf x).toNat)
  case atStart => exact ⟨n, 0, rfl, rfl, hn, by omega, Lib.hid (Nat.zero_add _)⟩
  case round =>
    obtain ⟨m, k, rfl, rfl, hm, hk, HP⟩ := hrel
    by_cases h0 : m = 0
    · subst h0
      have T : (((0 : Nat) : Int) != 0) = false := rfl
      go_wp2_with fail
      go_ret
      exact ⟨by rw [← HP.out]; rfl, rfl⟩
    · have T : ((m : Int) != 0) = true := by rw [bne_iff_ne]; omega
      have T2 : ¬ (m : Int) = 0 := by omega
      have A : bits .and .u64 (m : Int) 1 = ((m % 2 : Nat) : Int) := by
        have := and_u64 m 1 (by omega) (by omega)
        rw [Nat.and_one_is_mod] at this
        exact this
      have hs := pc_step m hm
      have HN : Hid (k + m % 2 + Pc.pc (m / 2) = Pc.pc n) := Lib.hid (by rw [← HP.out, hs]; omega)
      have hb := pc_le n hn
      have hk2 : k + m % 2 ≤ 64 := by have := HN.out; omega
      obtain ⟨r, hr⟩ : ∃ r, r = m % 2 := ⟨_, rfl⟩
      rw [← hr] at A hk2 HN
      clear hs hb HP hr
      go_wp2_with fail
      go_round
      case rel => exact ⟨m / 2, k + r, by go_num, by go_num, by omega, hk2, HN⟩
      case measure => simp [intOf]; omega
set_option maxHeartbeats 400000 in
theorem onesCount_any (n : Nat) (hn : n < 4294967296) (w : World) :
    Calls Try.prog 35 #[.int .u64 (n : Int)] w fun e w' => e = .returned (.int .i64 ((Pc.pc n : Nat) : Int)) ∧ w = w' := by
  obtain ⟨a, ha⟩ : ∃ a, a = n / 2 &&& 6148914691236517205 := ⟨_, rfl⟩
  obtain ⟨b, hb⟩ : ∃ b, b = n &&& 6148914691236517205 := ⟨_, rfl⟩
  obtain ⟨c, hc⟩ : ∃ c, c = (a + b) / 4 &&& 3689348814741910323 := ⟨_, rfl⟩
  obtain ⟨d, hd⟩ : ∃ d, d = (a + b) &&& 3689348814741910323 := ⟨_, rfl⟩
  obtain ⟨x, hx⟩ : ∃ x, x = ((c + d) / 16 + (c + d)) &&& 1085102592571150095 := ⟨_, rfl⟩
  have hS := Pc.swar n (a + b) (c + d) x hn (by rw [ha, hb]) (by rw [hc, hd]) hx
  obtain ⟨s1, s2, s3, s4⟩ := hS
  have A : bits .and .u64 ((n : Int) / 2) 6148914691236517205 = (a : Int) := by
    have := and_u64 (n / 2) 6148914691236517205 (by omega) (by omega)
    rw [ha]; exact this
  have B : bits .and .u64 (n : Int) 6148914691236517205 = (b : Int) := by
    have := and_u64 n 6148914691236517205 (by omega) (by omega)
    rw [hb]; exact this
  have C : bits .and .u64 (((a : Int) + (b : Int)) / 4) 3689348814741910323 = (c : Int) := by
    have := and_u64 ((a + b) / 4) 3689348814741910323 (by omega) (by omega)
    rw [hc]; exact this
  have D : bits .and .u64 ((a : Int) + (b : Int)) 3689348814741910323 = (d : Int) := by
    have := and_u64 (a + b) 3689348814741910323 (by omega) (by omega)
    rw [hd]; exact this
  have X : bits .and .u64 (((c : Int) + (d : Int)) / 16 + ((c : Int) + (d : Int))) 1085102592571150095 = (x : Int) := by
    have := and_u64 ((c + d) / 16 + (c + d)) 1085102592571150095 (by omega) (by omega)
    rw [hx]; exact this
  have Y : ∀ y : Nat, y < 9223372036854775808 → bits .and .i64 (y : Int) 127 = ((y % 128 : Nat) : Int) := fun y hy => by
    have := and_i64 y 127 hy (by omega)
    rw [show (127 : Nat) = 2 ^ 7 - 1 from rfl, Nat.and_two_pow_sub_one_eq_mod] at this
    exact this
  obtain ⟨y, hy⟩ : ∃ y, y = (x + x / 256 + (x + x / 256) / 65536) + (x + x / 256 + (x + x / 256) / 65536) / 4294967296 := ⟨_, rfl⟩
  have Z := Y y (by omega)
  rw [← hy] at s4
  rw [s4] at Z
  have HZ := Lib.hid Z
  have HY : Hid ((y : Int) = (x : Int) + (x : Int) / 256 + ((x : Int) + (x : Int) / 256) / 65536 + ((x : Int) + (x : Int) / 256 + ((x : Int) + (x : Int) / 256) / 65536) / 4294967296) := Lib.hid (by rw [hy]; omega)
  clear Y Z hy s4 ha hb hc hd hx
  go_enter Try.func35, Try.ntmps35
  go_wp2_with fail
  go_ret
  rw [← HY.out, HZ.out]
  exact ⟨rfl, rfl⟩
theorem in_any (n lo hi : Int) (w : World) : Calls Try.prog 25 #[.int .i64 n, .int .i64 lo, .int .i64 hi] w fun e w' => e = .returned (.bool (decide (lo ≤ n ∧ n ≤ hi))) ∧ w' = w := by
  by_cases h1 : lo ≤ n <;> by_cases h2 : n ≤ hi
  · have e : decide (lo ≤ n ∧ n ≤ hi) = true := by simp [h1, h2]
    rw [e]; clear e
    have t1 : decide (lo ≤ n) = true := by simpa using h1
    have t2 : decide (n ≤ hi) = true := by simpa using h2
    go_enter Try.func25, Try.ntmps25
    go_wp2_with fail
    go_ret
    exact ⟨rfl, rfl⟩
  · have e : decide (lo ≤ n ∧ n ≤ hi) = false := by simp [h2]
    rw [e]; clear e
    have t1 : decide (lo ≤ n) = true := by simpa using h1
    have t2 : decide (n ≤ hi) = false := by simpa using h2
    go_enter Try.func25, Try.ntmps25
    go_wp2_with fail
    go_ret
    exact ⟨rfl, rfl⟩
  all_goals
    have e : decide (lo ≤ n ∧ n ≤ hi) = false := by simp [h1]
    rw [e]; clear e
    have t1 : decide (lo ≤ n) = false := by simpa using h1
    go_enter Try.func25, Try.ntmps25
    go_wp2_with fail
    go_ret
    exact ⟨rfl, rfl⟩


theorem and1_i64n (m : Nat) (hm : m < 9223372036854775808) : bits .and .i64 (m : Int) 1 = ((m % 2 : Nat) : Int) := by
  have := and_i64 m 1 hm (by omega)
  rw [Nat.and_one_is_mod] at this
  exact this
/-- an odd number of bits -/
def oddB (n : Nat) : Bool := Pc.pc n % 2 == 1
theorem spec_OddBits (n : Nat) (hn : n ≤ 1000000000) (w : World) :
    Calls Try.prog 17 #[.int .i64 (n : Int)] w fun e w' => e = .returned (.tuple #[.bool (oddB n), .int .i64 0]) ∧ w = w' := by
  have hle := pc_le n (by omega)
  obtain ⟨p, hp⟩ : ∃ p, p = Pc.pc n := ⟨_, rfl⟩
  have cv : IntKind.u64.wrap (n : Int) = (n : Int) := by rw [IntKind.wrap_u64]; omega
  have T1 : decide (0 ≤ (n : Int) ∧ (n : Int) ≤ 1000000000) = true := decide_eq_true ⟨by omega, by omega⟩
  have hP : ((p : Int) % 2 == 1) = oddB n := by
    unfold oddB
    rw [← hp]
    rcases Nat.mod_two_eq_zero_or_one p with h | h
    · rw [h, show (p : Int) % 2 = 0 from by omega]; rfl
    · rw [h, show (p : Int) % 2 = 1 from by omega]; rfl
  have HT := Lib.hid T1
  have HP := Lib.hid hP
  rw [← hp] at hle
  have HQ := Lib.hid hp
  clear hp hP T1
  go_enter Try.func17, Try.ntmps17
  go_wp2_with fail
  refine (in_any _ _ _ _).mono ?_
  rintro e w1 ⟨rfl, rfl⟩
  rw [HT.out]
  go_wp2_with fail
  refine (l04Bits_any n (by omega) _).mono ?_
  rintro e w1 ⟨rfl, rfl⟩
  rw [← HQ.out]
  go_wp2_with fail
  go_ret2
  exact ⟨by rw [← HP.out]; try rfl, rfl⟩
theorem impl_OddBits (n : Nat) (hn : n ≤ 1000000000) (w : World) :
    Calls Try.prog 18 #[.int .i64 (n : Int)] w fun e w' => e = .returned (.tuple #[.bool (oddB n), .int .i64 0]) ∧ w = w' := by
  have hle := pc_le n (by omega)
  obtain ⟨p, hp⟩ : ∃ p, p = Pc.pc n := ⟨_, rfl⟩
  have cv : IntKind.u64.wrap (n : Int) = (n : Int) := by rw [IntKind.wrap_u64]; omega
  have T1 : decide ((n : Int) < 0) = false := by simp
  have T2 : decide ((1000000000 : Int) < (n : Int)) = false := by simp; omega
  obtain ⟨r, hr⟩ : ∃ r, r = p % 2 := ⟨_, rfl⟩
  have A := and1_i64n p (by omega)
  rw [← hr] at A
  have hP : ((r : Int) != 0) = oddB n := by
    unfold oddB
    rw [← hp, ← hr]
    rcases Nat.mod_two_eq_zero_or_one p with h | h
    · rw [show r = 0 from by omega]; rfl
    · rw [show r = 1 from by omega]; rfl
  have hr2 : r ≤ 1 := by omega
  have HP := Lib.hid hP
  rw [← hp] at hle
  have HQ := Lib.hid hp
  clear hp hP hr
  go_enter Try.func18, Try.ntmps18
  go_wp2_with fail
  refine (onesCount_any n (by omega) _).mono ?_
  rintro e w1 ⟨rfl, rfl⟩
  rw [← HQ.out]
  go_wp2_with fail
  go_ret2
  exact ⟨by rw [← HP.out]; try rfl, rfl⟩
theorem spec_OddBits_no (n : Int) (hn : n < 0 ∨ 1000000000 < n) (w : World) :
    Calls Try.prog 17 #[.int .i64 n] w fun e w' => e = .returned (.tuple #[.bool false, .int .i64 2]) ∧ w = w' := by
  have T1 : decide (0 ≤ n ∧ n ≤ 1000000000) = false := decide_eq_false (by omega)
  have HT := Lib.hid T1
  clear T1 hn
  go_enter Try.func17, Try.ntmps17
  go_wp2_with fail
  refine (in_any _ _ _ _).mono ?_
  rintro e w1 ⟨rfl, rfl⟩
  rw [HT.out]
  go_wp2_with fail
  go_ret2
  exact ⟨rfl, rfl⟩
theorem impl_OddBits_no (n : Int) (hn : n < 0 ∨ 1000000000 < n) (w : World) :
    Calls Try.prog 18 #[.int .i64 n] w fun e w' => e = .returned (.tuple #[.bool false, .int .i64 2]) ∧ w = w' := by
  by_cases h : n < 0
  · have T1 : decide (n < 0) = true := by simpa using h
    clear hn
    go_enter Try.func18, Try.ntmps18
    go_wp2_with fail
    go_ret2
    exact ⟨rfl, rfl⟩
  · have T1 : decide (n < 0) = false := by simpa using h
    have T2 : decide (1000000000 < n) = true := by simp; omega
    clear hn
    go_enter Try.func18, Try.ntmps18
    go_wp2_with fail
    go_ret2
    exact ⟨rfl, rfl⟩
end Go.Proofs.Ytanmgjaiojdihaa
