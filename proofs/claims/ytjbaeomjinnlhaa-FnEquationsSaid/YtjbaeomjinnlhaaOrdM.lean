/-
  Orders of nimbers, pure: what is left when primes are taken from 65535 is the least exponent, and it divides all others.
-/
import Derived.Test.YtjbaeomjinnlhaaAlg
namespace Go.Proofs.Ytjbaeomjinnlhaa.Nim
set_option linter.unusedVariables false
theorem npow_zero (a : Nat) : npow a 0 = 1 := rfl
theorem npow_one_base (n : Nat) : npow 1 n = 1 := by
  induction n with
  | zero => rfl
  | succ n ih =>
    have h := npow_add (a := 1) (by decide) n 1
    rw [h, ih, npow_one (by decide)]
    exact mul_one_left (by decide)
theorem npow_dvd {a m n : Nat} (ha : a < 65536) (h : npow a m = 1) (hd : m ∣ n) : npow a n = 1 := by
  obtain ⟨t, rfl⟩ := hd
  rw [npow_mul ha, h, npow_one_base]
theorem npow_mod {a m n : Nat} (ha : a < 65536) (h : npow a m = 1) : npow a (n % m) = npow a n := by
  have e := npow_add ha (m * (n / m)) (n % m)
  rw [Nat.div_add_mod] at e
  rw [e, npow_dvd ha h ⟨n / m, rfl⟩, mul_one_left (npow_b ha _)]
theorem npow_gcd {a : Nat} (ha : a < 65536) (m n : Nat) : npow a m = 1 → npow a n = 1 → npow a (Nat.gcd m n) = 1 := by
  induction m, n using Nat.gcd.induction with
  | H0 n => intro _ h; rw [Nat.gcd_zero_left]; exact h
  | H1 m n hm ih =>
    intro h1 h2
    rw [Nat.gcd_rec]
    exact ih (by rw [npow_mod ha h1]; exact h2) h1
/-- a prime is taken away if it is not needed -/
def takeP (a p n : Nat) : Nat := if npow a (n / p) = 1 then n / p else n
def ordN (a : Nat) : Nat := takeP a 257 (takeP a 17 (takeP a 5 (takeP a 3 65535)))
theorem takeP_dvd (a p n : Nat) (hp : p ∣ n) : takeP a p n ∣ n := by
  unfold takeP; split
  · exact ⟨p, (Nat.div_mul_cancel hp).symm⟩
  · exact Nat.dvd_refl _
theorem takeP_one {a p n : Nat} (h : npow a n = 1) : npow a (takeP a p n) = 1 := by
  unfold takeP; split
  · assumption
  · exact h
theorem takeP_need {a p n : Nat} (hp : p ∣ n) (hp0 : 0 < p) (hsq : ¬ p * p ∣ n) (hd : p ∣ takeP a p n) : npow a (takeP a p n / p) ≠ 1 := by
  unfold takeP at hd ⊢
  split
  · rename_i h
    rw [if_pos h] at hd
    refine absurd ?_ hsq
    obtain ⟨t, ht⟩ := hd
    exact ⟨t, by rw [Nat.mul_assoc, ← ht, Nat.mul_div_cancel' hp]⟩
  · assumption
theorem need_up {a p m n : Nat} (ha : a < 65536) (hp0 : 0 < p) (hm : m ∣ n) (hpn : p ∣ n → npow a (n / p) ≠ 1) (hpm : p ∣ m) : npow a (m / p) ≠ 1 := by
  intro h
  refine hpn (Nat.dvd_trans hpm hm) (npow_dvd ha h ?_)
  obtain ⟨t, rfl⟩ := hm
  exact ⟨t, by rw [Nat.mul_comm, Nat.mul_div_assoc _ hpm, Nat.mul_comm]⟩
theorem take3 (a : Nat) : takeP a 3 65535 = 65535 ∨ takeP a 3 65535 = 21845 := by unfold takeP; split <;> simp
theorem take5 (a : Nat) : takeP a 5 (takeP a 3 65535) ∈ [65535, 13107, 21845, 4369] := by
  rcases take3 a with h | h <;> rw [h] <;> unfold takeP <;> split <;> simp
theorem take17 (a : Nat) : takeP a 17 (takeP a 5 (takeP a 3 65535)) ∈ [65535, 13107, 21845, 4369, 3855, 771, 1285, 257] := by
  have h := take5 a
  generalize takeP a 5 (takeP a 3 65535) = n at h ⊢
  simp only [List.mem_cons, List.not_mem_nil, or_false] at h
  rcases h with rfl | rfl | rfl | rfl <;> unfold takeP <;> split <;> simp
theorem ordN_mem (a : Nat) : ordN a ∈ [65535, 13107, 21845, 4369, 3855, 771, 1285, 257, 255, 51, 85, 17, 15, 3, 5, 1] := by
  have h := take17 a
  unfold ordN
  generalize takeP a 17 (takeP a 5 (takeP a 3 65535)) = n at h ⊢
  simp only [List.mem_cons, List.not_mem_nil, or_false] at h
  rcases h with rfl | rfl | rfl | rfl | rfl | rfl | rfl | rfl <;> unfold takeP <;> split <;> simp
theorem ordN_dvd (a : Nat) : ordN a ∣ 65535 := by
  have h := ordN_mem a
  generalize ordN a = n at h ⊢
  simp only [List.mem_cons, List.not_mem_nil, or_false] at h
  rcases h with rfl | rfl | rfl | rfl | rfl | rfl | rfl | rfl | rfl | rfl | rfl | rfl | rfl | rfl | rfl | rfl <;> decide
theorem ordN_pos (a : Nat) : 0 < ordN a := Nat.pos_of_dvd_of_pos (ordN_dvd a) (by decide)
theorem ordN_le (a : Nat) : ordN a ≤ 65535 := Nat.le_of_dvd (by decide) (ordN_dvd a)
theorem ordN_one {a : Nat} (ha : a < 65536) (h0 : a ≠ 0) : npow a (ordN a) = 1 :=
  takeP_one (takeP_one (takeP_one (takeP_one (npow_65535 ha h0))))
theorem ordN_need {a : Nat} (ha : a < 65536) (p : Nat) (hp : p ∈ [3, 5, 17, 257]) (hd : p ∣ ordN a) : npow a (ordN a / p) ≠ 1 := by
  have m3 : takeP a 3 65535 ∣ 65535 := takeP_dvd _ _ _ (by decide)
  have d5 : 5 ∣ takeP a 3 65535 := by rcases take3 a with h | h <;> rw [h] <;> decide
  have m5 := takeP_dvd a 5 (takeP a 3 65535) d5
  have s5 : ¬ 5 * 5 ∣ takeP a 3 65535 := by rcases take3 a with h | h <;> rw [h] <;> decide
  have d17 : 17 ∣ takeP a 5 (takeP a 3 65535) := by
    have h := take5 a
    generalize takeP a 5 (takeP a 3 65535) = n at h ⊢
    simp only [List.mem_cons, List.not_mem_nil, or_false] at h
    rcases h with rfl | rfl | rfl | rfl <;> decide
  have s17 : ¬ 17 * 17 ∣ takeP a 5 (takeP a 3 65535) := by
    have h := take5 a
    generalize takeP a 5 (takeP a 3 65535) = n at h ⊢
    simp only [List.mem_cons, List.not_mem_nil, or_false] at h
    rcases h with rfl | rfl | rfl | rfl <;> decide
  have m17 := takeP_dvd a 17 _ d17
  have d257 : 257 ∣ takeP a 17 (takeP a 5 (takeP a 3 65535)) := by
    have h := take17 a
    generalize takeP a 17 (takeP a 5 (takeP a 3 65535)) = n at h ⊢
    simp only [List.mem_cons, List.not_mem_nil, or_false] at h
    rcases h with rfl | rfl | rfl | rfl | rfl | rfl | rfl | rfl <;> decide
  have s257 : ¬ 257 * 257 ∣ takeP a 17 (takeP a 5 (takeP a 3 65535)) := by
    have h := take17 a
    generalize takeP a 17 (takeP a 5 (takeP a 3 65535)) = n at h ⊢
    simp only [List.mem_cons, List.not_mem_nil, or_false] at h
    rcases h with rfl | rfl | rfl | rfl | rfl | rfl | rfl | rfl <;> decide
  have m257 := takeP_dvd a 257 _ d257
  simp only [List.mem_cons, List.not_mem_nil, or_false] at hp
  rcases hp with rfl | rfl | rfl | rfl
  · exact need_up ha (by decide) (Nat.dvd_trans m257 (Nat.dvd_trans m17 m5)) (takeP_need (by decide) (by decide) (by decide)) hd
  · exact need_up ha (by decide) (Nat.dvd_trans m257 m17) (takeP_need d5 (by decide) s5) hd
  · exact need_up ha (by decide) m257 (takeP_need d17 (by decide) s17) hd
  · exact takeP_need d257 (by decide) s257 hd
theorem cop_one {q : Nat} (h : q ∣ 65535) (h3 : ¬ 3 ∣ q) (h5 : ¬ 5 ∣ q) (h17 : ¬ 17 ∣ q) (h257 : ¬ 257 ∣ q) : q = 1 := by
  have cp : ∀ p : Nat, (∀ d, d ∣ p → d = 1 ∨ d = p) → ¬ p ∣ q → Nat.Coprime q p := by
    intro p hp hn
    rcases hp _ (Nat.gcd_dvd_right q p) with e | e
    · exact e
    · exact absurd (e ▸ Nat.gcd_dvd_left q p) hn
  have pr : ∀ p : Nat, p ∈ [3, 5, 17, 257] → ∀ d, d ∣ p → d = 1 ∨ d = p := by
    intro p hp d hd
    have hle : d ≤ p := Nat.le_of_dvd (by simp only [List.mem_cons, List.not_mem_nil, or_false] at hp; omega) hd
    have key : ∀ p ∈ [3, 5, 17, 257], ∀ d, d < p + 1 → p % d = 0 → d = 1 ∨ d = p := by decide +kernel
    exact key p hp d (by omega) (Nat.mod_eq_zero_of_dvd hd)
  have c1 := cp 3 (pr 3 (by simp)) h3
  have c2 := cp 5 (pr 5 (by simp)) h5
  have c3 := cp 17 (pr 17 (by simp)) h17
  have c4 := cp 257 (pr 257 (by simp)) h257
  have c : Nat.Coprime q 65535 := by
    have := Nat.Coprime.mul_right (Nat.Coprime.mul_right c1 c2) (Nat.Coprime.mul_right c3 c4)
    exact this
  have hg : Nat.gcd q 65535 = q := Nat.gcd_eq_left h
  unfold Nat.Coprime at c
  omega
theorem ordN_min {a k : Nat} (ha : a < 65536) (h0 : a ≠ 0) (h : npow a k = 1) : ordN a ∣ k := by
  have hg := npow_gcd ha (ordN a) k (ordN_one ha h0) h
  have hd : Nat.gcd (ordN a) k ∣ ordN a := Nat.gcd_dvd_left _ _
  have hk : Nat.gcd (ordN a) k ∣ k := Nat.gcd_dvd_right _ _
  generalize Nat.gcd (ordN a) k = g at hg hd hk
  obtain ⟨q, hq⟩ := hd
  have hq65 : q ∣ 65535 := Nat.dvd_trans ⟨g, by rw [hq, Nat.mul_comm]⟩ (ordN_dvd a)
  have no : ∀ p, p ∈ [3, 5, 17, 257] → ¬ p ∣ q := by
    intro p hp ⟨t, ht⟩
    have hpo : 0 < p := by simp only [List.mem_cons, List.not_mem_nil, or_false] at hp; omega
    have hpd : p ∣ ordN a := ⟨g * t, by rw [hq, ht, Nat.mul_left_comm]⟩
    refine ordN_need ha p hp hpd (npow_dvd ha hg ⟨t, ?_⟩)
    rw [hq, ht, Nat.mul_left_comm, Nat.mul_div_cancel_left _ hpo]
  have : q = 1 := cop_one hq65 (no 3 (by simp)) (no 5 (by simp)) (no 17 (by simp)) (no 257 (by simp))
  rw [hq, this, Nat.mul_one]; exact hk
theorem npow_inj {a i k : Nat} (ha : a < 65536) (h0 : a ≠ 0) (hi : i < k) (hk : k < ordN a) : npow a i ≠ npow a k := by
  intro h
  have h1 := npow_add ha i (ordN a - k)
  rw [h, ← npow_add ha, Nat.add_sub_cancel' (Nat.le_of_lt hk), ordN_one ha h0] at h1
  have := Nat.le_of_dvd (by omega) (ordN_min ha h0 h1)
  omega
end Go.Proofs.Ytjbaeomjinnlhaa.Nim
