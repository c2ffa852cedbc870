/-
  The field's facts in the numbers of the walks: powers, levels, logarithms.
-/
import Derived.Test.YtklddmmbbaaliaaDoorLog3
import Derived.Test.YtklddmmbbaaliaaDoorGen
import Derived.Test.YtklddmmbbaaliaaDoorOrdM
namespace Go.Proofs.YtklddmmbbaaliaaDoor
set_option linter.unusedVariables false
set_option linter.unusedSimpArgs false
open Go.ChangeShapes Go.WideShapes Go.ChangeAt Go.RowKit
theorem pwl_np : ∀ n (o a : Nat), o < 65536 → a < 65536 → pwl o a n = Nim.mul o (Nim.npow a n) := by
  intro n
  induction n using Nat.strongRecOn with
  | ind n ih =>
    intro o a ho ha
    by_cases h0 : n = 0
    · subst h0; rw [pwl_zero]; rw [Nim.npow, Nim.mul_comm, Nim.mul_one_left ho]
    · have hh := Nim.mul_b ha ha
      have hsq : Nim.npow (Nim.mul a a) (n / 2) = Nim.npow a (2 * (n / 2)) := (Nim.npow_mul ha 2 (n / 2)).symm ▸ by rw [Nim.npow_two ha]
      by_cases hodd : n % 2 = 1
      · rw [pwl_odd _ _ _ h0 hodd, ih (n / 2) (by omega) _ _ (Nim.mul_b ho ha) hh, hsq, Nim.mul_assoc ho ha (Nim.npow_b ha _)]
        congr 1
        have e := Nim.npow_add ha 1 (2 * (n / 2))
        rw [Nim.npow_one ha] at e
        rw [← e]; congr 1; omega
      · rw [pwl_even _ _ _ h0 hodd, ih (n / 2) (by omega) _ _ ho hh, hsq]
        congr 2; omega
theorem pwI_nat (a n : Nat) (ha : a < 65536) : pwI 1 (a : Int) (n : Int) = ((Nim.npow a n : Nat) : Int) := by
  show ((pwl 1 a n : Nat) : Int) = _
  rw [pwl_np n 1 a (by decide) ha, Nim.mul_one_left (Nim.npow_b ha _)]
theorem pj_nat (a : Nat) (ha : a < 65536) : ∀ j, pj (a : Int) j = ((Nim.npow a j : Nat) : Int) := by
  intro j
  induction j with
  | zero => rfl
  | succ j ih =>
    show mulI (pj (a : Int) j) (a : Int) = _
    rw [ih, mulI_nat, Nim.npow_add ha j 1, Nim.npow_one ha]
theorem ordStep_nat (a p n : Nat) (ha : a < 65536) : ordStep (a : Int) (p : Int) (n : Int) = ((Nim.takeP a p n : Nat) : Int) := by
  unfold ordStep Nim.takeP
  rw [← Int.natCast_ediv, pwI_nat a (n / p) ha]
  by_cases h : Nim.npow a (n / p) = 1
  · rw [if_pos h, if_pos (by rw [h]; rfl)]
  · rw [if_neg h, if_neg (by omega)]
theorem ordI_nat (a : Nat) (ha : a < 65536) : ordI (a : Int) = ((Nim.ordN a : Nat) : Int) := by
  show ordStep _ 257 (ordStep _ 17 (ordStep _ 5 (ordStep _ 3 65535))) = _
  have e1 : ordStep (a : Int) 3 65535 = _ := ordStep_nat a 3 65535 ha
  have e2 : ordStep (a : Int) 5 _ = _ := ordStep_nat a 5 (Nim.takeP a 3 65535) ha
  have e3 : ordStep (a : Int) 17 _ = _ := ordStep_nat a 17 (Nim.takeP a 5 (Nim.takeP a 3 65535)) ha
  have e4 : ordStep (a : Int) 257 _ = _ := ordStep_nat a 257 (Nim.takeP a 17 (Nim.takeP a 5 (Nim.takeP a 3 65535))) ha
  rw [e1, e2, e3, e4]; rfl
/-- a times the inverse of x to the power 256 * n -/
theorem an_nat (x a : Nat) (hx : x < 65536) (ha : a < 65536) (h0 : x ≠ 0) : ∀ n, ∃ u : Nat, u < 65536 ∧ an (a : Int) (bk (x : Int)) n = (u : Int) ∧ Nim.mul u (Nim.npow x (256 * n)) = a := by
  have hb : bk (x : Int) = ((Nim.npow (Nim.npow x 256) 65534 : Nat) : Int) := by
    unfold bk
    rw [pj_nat x hx]
    exact pwI_nat _ 65534 (Nim.npow_b hx _)
  have hn0 : Nim.npow x 256 ≠ 0 := by
    intro e
    have := Nim.npow_add hx 256 (65535 - 256)
    rw [e, Nim.mul_zero_left, Nim.npow_65535 hx h0] at this
    exact absurd this (by decide)
  intro n
  induction n with
  | zero => exact ⟨a, ha, rfl, by rw [Nat.mul_zero, Nim.npow_zero, Nim.mul_comm, Nim.mul_one_left ha]⟩
  | succ n ih =>
    obtain ⟨u, hu, e, h⟩ := ih
    refine ⟨Nim.mul u (Nim.npow (Nim.npow x 256) 65534), Nim.mul_b hu (Nim.npow_b (Nim.npow_b hx _) _), ?_, ?_⟩
    · show mulI (an (a : Int) (bk (x : Int)) n) (bk (x : Int)) = _
      rw [e, hb, mulI_nat]
    · rw [show 256 * (n + 1) = 256 + 256 * n from by omega, Nim.npow_add hx]
      have q := Nim.mul_inv (Nim.npow_b hx 256) hn0
      have b1 := Nim.npow_b hx 256
      have b2 := Nim.npow_b (Nim.npow_b hx 256) 65534
      have b3 := Nim.npow_b hx (256 * n)
      generalize Nim.npow (Nim.npow x 256) 65534 = i at q b2 ⊢
      generalize Nim.npow x 256 = y at q b1 b2 ⊢
      rw [Nim.mul_assoc hu b2 (Nim.mul_b b1 b3), ← Nim.mul_assoc b2 b1 b3, Nim.mul_comm i y, q, Nim.mul_one_left b3]
      exact h
theorem mul_cancel {a b c : Nat} (ha : a < 65536) (hb : b < 65536) (hc : c < 65536) (h0 : c ≠ 0) (h : Nim.mul a c = Nim.mul b c) : a = b := by
  have q := Nim.mul_inv hc h0
  have b2 := Nim.npow_b hc 65534
  have h2 := congrArg (fun t => Nim.mul t (Nim.npow c 65534)) h
  simp only [Nim.mul_assoc ha hc b2, Nim.mul_assoc hb hc b2, q] at h2
  rwa [Nim.mul_comm a, Nim.mul_comm b, Nim.mul_one_left ha, Nim.mul_one_left hb] at h2
theorem an_iff (x a : Nat) (hx : x < 65536) (ha : a < 65536) (h0 : x ≠ 0) (n j : Nat) : pj (x : Int) j = an (a : Int) (bk (x : Int)) n ↔ Nim.npow x (256 * n + j) = a := by
  obtain ⟨u, hu, e, h⟩ := an_nat x a hx ha h0 n
  rw [e, pj_nat x hx, Nat.add_comm, Nim.npow_add hx]
  have hne : Nim.npow x (256 * n) ≠ 0 := by
    intro q
    have q2 := Nim.npow_dvd hx (Nim.npow_65535 hx h0) ⟨256 * n, rfl⟩
    rw [Nat.mul_comm, Nim.npow_mul hx, q] at q2
    have : ∀ k, 0 < k → Nim.npow 0 k = 0 := by
      intro k hk
      have := Nim.npow_add (a := 0) (by decide) (k - 1) 1
      rw [show k - 1 + 1 = k from by omega, Nim.npow_one (by decide), Nim.mul_zero_right] at this
      exact this
    rw [this 65535 (by decide)] at q2
    exact absurd q2 (by decide)
  constructor
  · intro q
    have : Nim.npow x j = u := by omega
    rw [this]; exact h
  · intro q
    have := mul_cancel (Nim.npow_b hx j) hu (Nim.npow_b hx _) hne (q.trans h.symm)
    rw [this]
theorem log_least (x a k : Nat) (hx : x < 65536) (ha : a < 65536) (h0 : x ≠ 0) (hk : k < 65536) (h : Nim.npow x k = a) (hmin : ∀ i, i < k → Nim.npow x i ≠ a) :
    logV (x : Int) (a : Int) = .tuple #[.int .i64 (k : Int), .int .i64 0] := by
  have hd := Nat.div_add_mod k 256
  rw [logV_some (n := k / 256) (j := k % 256) (by omega) (fun i hi => ?_) (idx_hit (fun j hj q => ?_) ((an_iff x a hx ha h0 _ _).2 (by rw [hd]; exact h)) (by omega))]
  · congr 4; omega
  · unfold hitN
    rw [idx_miss_all (fun j hj q => hmin (256 * i + j) (by omega) ((an_iff x a hx ha h0 _ _).1 q))]; rfl
  · exact hmin _ (by omega) ((an_iff x a hx ha h0 _ _).1 q)
theorem log_pow (x n : Nat) (hx : x < 65536) (h0 : x ≠ 0) : logV (x : Int) ((Nim.npow x n : Nat) : Int) = .tuple #[.int .i64 ((n % Nim.ordN x : Nat) : Int), .int .i64 0] := by
  have h1 := Nim.ordN_pos x
  have h2 := Nim.ordN_le x
  have h3 := Nat.mod_lt n h1
  have hm := Nim.npow_mod (n := n) hx (Nim.ordN_one hx h0)
  refine log_least x _ _ hx (Nim.npow_b hx _) h0 (by omega) hm (fun i hi q => ?_)
  exact Nim.npow_inj hx h0 hi h3 (q.trans hm.symm)
theorem lev_le4 (a : Nat) : lev a ≤ 4 := by unfold lev; (repeat' split) <;> omega
theorem lev_nat (a k : Nat) (hk : k ≤ 4) : lev a ≤ k ↔ k = 4 ∨ a < 2 ^ 2 ^ k := by
  by_cases h4 : k = 4
  · subst h4; exact ⟨fun _ => .inl rfl, fun _ => lev_le4 a⟩
  · have : k = 0 ∨ k = 1 ∨ k = 2 ∨ k = 3 := by omega
    unfold lev
    rcases this with rfl | rfl | rfl | rfl <;> simp only [Nat.reducePow] <;> (repeat' split) <;> omega
theorem lev_lt {a : Nat} (ha : a < 65536) (k : Nat) (hk : k ≤ 4) (h : lev a ≤ k) : a < 2 ^ 2 ^ k := by
  rcases (lev_nat a k hk).1 h with rfl | h
  · exact ha
  · exact h
theorem lev_mul {a b k : Nat} (ha : a < 65536) (hb : b < 65536) (hk : k ≤ 4) (h1 : lev a ≤ k) (h2 : lev b ≤ k) : lev (Nim.mul a b) ≤ k :=
  (lev_nat _ k hk).2 (.inr (Nim.mul_lt k hk _ rfl (lev_lt ha k hk h1) (lev_lt hb k hk h2)))
theorem lev_xor {a b k : Nat} (ha : a < 65536) (hb : b < 65536) (hk : k ≤ 4) (h1 : lev a ≤ k) (h2 : lev b ≤ k) : lev (a ^^^ b) ≤ k :=
  (lev_nat _ k hk).2 (.inr (Nat.xor_lt_two_pow (lev_lt ha k hk h1) (lev_lt hb k hk h2)))
theorem root_sq {a : Nat} (ha : a < 65536) : Nim.npow (Nim.mul a a) 32768 = a := by
  rw [← Nim.npow_two ha, ← Nim.npow_mul ha]; exact Nim.npow_65536 ha
theorem sq_root {a : Nat} (ha : a < 65536) : Nim.mul (Nim.npow a 32768) (Nim.npow a 32768) = a := by
  rw [← Nim.npow_add ha]; exact Nim.npow_65536 ha
end Go.Proofs.YtklddmmbbaaliaaDoor
