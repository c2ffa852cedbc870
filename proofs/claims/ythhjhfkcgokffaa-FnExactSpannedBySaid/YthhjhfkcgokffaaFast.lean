/-
  Products and powers that the kernel reckons fast.
-/
import Derived.Test.YthhjhfkcgokffaaMath
namespace Go.Proofs.Ythhjhfkcgokffaa.Nim

/-! ### products and powers that the kernel reckons fast -/
theorem nm_small (k : Nat) {a b : Nat} (ha : a < 2^2^k) (hb : b < 2^2^k) (h : a < 2 ∨ b < 2) : nm k a b = a * b := by
  rcases h with h | h
  · have : a = 0 ∨ a = 1 := by omega
    rcases this with rfl | rfl
    · rw [nm_zero_left, Nat.zero_mul]
    · rw [nm_one_left k hb, Nat.one_mul]
  · have : b = 0 ∨ b = 1 := by omega
    rcases this with rfl | rfl
    · rw [nm_comm, nm_zero_left, Nat.mul_zero]
    · rw [nm_comm, nm_one_left k ha, Nat.mul_one]
def fm : Nat → Nat → Nat → Nat
  | 0, a, b => a &&& b
  | k+1, a, b =>
    bif (Nat.ble a 1 || Nat.ble b 1) then a * b else
    bif (Nat.ble (2^2^k) a || Nat.ble (2^2^k) b) then
      (fun a1 a0 b1 b0 =>
        (fun p u => (((fm k (a1 ^^^ a0) (b1 ^^^ b0)) ^^^ u) <<< (2^k)) ^^^ (u ^^^ fm k p (2^(2^k-1)))) (fm k a1 b1) (fm k a0 b0))
        (a >>> (2^k)) (a % 2^2^k) (b >>> (2^k)) (b % 2^2^k)
    else fm k a b
theorem fm_eq (k : Nat) : ∀ a b : Nat, a < 2^2^k → b < 2^2^k → fm k a b = nm k a b := by
  induction k with
  | zero => intro a b _ _; rfl
  | succ k ih =>
    intro a b ha hb
    rw [fm]
    cases h1 : (Nat.ble a 1 || Nat.ble b 1) with
    | true =>
      simp only [Bool.or_eq_true, Nat.ble_eq] at h1
      simp only [cond_true]
      exact (nm_small (k+1) ha hb (by omega)).symm
    | false =>
      simp only [cond_false]
      cases h2 : (Nat.ble (2^2^k) a || Nat.ble (2^2^k) b) with
      | true =>
        simp only [cond_true]
        have a1 := hi_lt ha; have b1 := hi_lt hb; have a0 := lo_lt a k; have b0 := lo_lt b k
        rw [ih _ _ (xor_lt a1 a0) (xor_lt b1 b0), ih _ _ a0 b0, ih _ _ a1 b1, ih _ _ (nm_lt k a1 b1) (half_lt k), nm_mid]
        simp only [nm]
      | false =>
        simp only [cond_false]
        have h3 : ¬ 2^2^k ≤ a ∧ ¬ 2^2^k ≤ b := by
          simpa [Bool.or_eq_false_iff, ← Bool.not_eq_true, Nat.ble_eq] using h2
        rw [ih a b (by omega) (by omega), nm_lift k (by omega) (by omega)]
theorem fm_mul (a b : Nat) (ha : a < 65536) (hb : b < 65536) : fm 4 a b = mul a b := fm_eq 4 a b ha hb
end Go.Proofs.Ythhjhfkcgokffaa.Nim
