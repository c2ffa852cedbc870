/-
  Contracts of the field's first functions: level, plus, times of the program, and the model's l01Times.
-/
import Derived.Test.YthhjhfkcgokffaaRows
import Derived.Test.YthhjhfkcgokffaaMath
import Derived.WalkKit
import Derived.ProofKit
import Derived.OpenShut
import Derived.Handy
import Derived.Lib.Hide
import Derived.Deep.QuietTactic
import Derived.BigQuiet
namespace Go.Proofs.Ythhjhfkcgokffaa
set_option linter.unusedVariables false
set_option linter.unusedSimpArgs false
open Go.ChangeShapes Go.WideShapes Go.ChangeAt Go.RowKit

def mulI (x y : Int) : Int := ((Nim.mul x.toNat y.toNat : Nat) : Int)
def xorI (x y : Int) : Int := ((x.toNat ^^^ y.toNat : Nat) : Int)
/-- the ending is a return of the number V, which is below B -/
def IsV (V B : Int) (e : Ending) : Prop := ∃ v, e = .returned (.int .u16 v) ∧ Hid (v = V) ∧ 0 ≤ v ∧ v < B
theorem IsV.up {V B C : Int} {e : Ending} (h : IsV V B e) (hBC : B ≤ C) : IsV V C e := by
  obtain ⟨v, h1, h2, h3, h4⟩ := h
  exact ⟨v, h1, h2, h3, by omega⟩
theorem IsV.of {V B v : Int} (F : v = V) (L : 0 ≤ V ∧ V < B) : IsV V B (.returned (.int .u16 v)) := by subst F; exact ⟨v, rfl, Lib.hid rfl, L.1, L.2⟩
def lev (a : Nat) : Nat := if a < 2 then 0 else if a < 4 then 1 else if a < 16 then 2 else if a < 256 then 3 else 4

theorem xorI_lt (B : Int) (hB : B = 2 ∨ B = 4 ∨ B = 16 ∨ B = 256 ∨ B = 65536) (x y : Int) (h1 : x < B) (h2 : y < B) : 0 ≤ xorI x y ∧ xorI x y < B := by
  have key : ∀ n N : Nat, 2^n = N → x.toNat < N → y.toNat < N → x.toNat ^^^ y.toNat < N := fun n N e a b => by
    subst e; exact Nat.xor_lt_two_pow a b
  unfold xorI
  rcases hB with rfl | rfl | rfl | rfl | rfl
  · have := key 1 2 rfl (by omega) (by omega); omega
  · have := key 2 4 rfl (by omega) (by omega); omega
  · have := key 4 16 rfl (by omega) (by omega); omega
  · have := key 8 256 rfl (by omega) (by omega); omega
  · have := key 16 65536 rfl (by omega) (by omega); omega
theorem mulI_nat (a b : Nat) : mulI (a : Int) (b : Int) = ((Nim.mul a b : Nat) : Int) := rfl
theorem xorI_nat (a b : Nat) : xorI (a : Int) (b : Int) = ((a ^^^ b : Nat) : Int) := rfl
theorem bits_xor (x y : Int) (x0 : 0 ≤ x) (x1 : x < 65536) (y0 : 0 ≤ y) (y1 : y < 65536) : bits .xor .u16 x y = xorI x y := u16_xor x y x0 x1 y0 y1
theorem times_fin (k h D c : Nat) (hk : k + 1 ≤ 4) (hh : h = 2^k) (hD : D = 2^h) (hD' : D ≤ 256) (hc : c = 2^(h-1)) (x y p u xs ys m s q t : Int)
    (x0 : 0 ≤ x) (x1 : x < D * D) (y0 : 0 ≤ y) (y1 : y < D * D) (hs0 : 0 ≤ s) (hs1 : s < D) (ht0 : 0 ≤ t) (ht1 : t < D)
    (hp : p = mulI (x / D) (y / D)) (hu : u = mulI (x % D) (y % D)) (hxs : xs = xorI (x / D) (x % D)) (hys : ys = xorI (y / D) (y % D))
    (hm : m = mulI xs ys) (hs : s = xorI m u) (hq : q = mulI p c) (ht : t = xorI u q) : bits .or .u16 (s * D) t = mulI x y := by
  obtain ⟨a, rfl⟩ := Int.eq_ofNat_of_zero_le x0
  obtain ⟨b, rfl⟩ := Int.eq_ofNat_of_zero_le y0
  have sD : s * D < 65536 := by
    have h1 : s * D ≤ 255 * D := Int.mul_le_mul_of_nonneg_right (by omega) (by omega)
    omega
  have s0 : 0 ≤ s * D := Int.mul_nonneg hs0 (by omega)
  rw [u16_or _ _ s0 sD ht0 (by omega)]
  rw [← Int.natCast_ediv, ← Int.natCast_ediv, mulI_nat] at hp
  rw [← Int.natCast_emod, ← Int.natCast_emod, mulI_nat] at hu
  rw [← Int.natCast_ediv, ← Int.natCast_emod, xorI_nat] at hxs hys
  subst hp hu hxs hys
  rw [mulI_nat] at hm hq
  subst hm hq
  rw [xorI_nat] at hs ht
  subst hs ht
  rw [mulI_nat, ← Nim.mul_step k hk h hh D hD a b (by exact_mod_cast x1) (by exact_mod_cast y1) c hc]
  rw [← Int.natCast_mul, Int.toNat_natCast, Int.toNat_natCast]
theorem ltimes_fin (k h D c' : Nat) (hk : k + 1 ≤ 4) (hh : h = 2^k) (hD : D = 2^h) (hB : (D : Int) = 2 ∨ (D : Int) = 4 ∨ (D : Int) = 16 ∨ (D : Int) = 256 ∨ (D : Int) = 65536) (hD' : D ≤ 256) (hc' : c' = 2^(h-1)) (x y p q r u c : Int)
    (x0 : 0 ≤ x) (x1 : x < D * D) (y0 : 0 ≤ y) (y1 : y < D * D)
    (p0 : 0 ≤ p) (p1 : p < D) (q0 : 0 ≤ q) (q1 : q < D) (r0 : 0 ≤ r) (r1 : r < D) (u0 : 0 ≤ u) (u1 : u < D) (c0 : 0 ≤ c) (c1 : c < D)
    (hp : p = mulI (x / D) (y / D)) (hq : q = mulI (x / D) (y % D)) (hr : r = mulI (x % D) (y / D)) (hu : u = mulI (x % D) (y % D)) (hc : c = mulI p c') :
    IntKind.u16.wrap (IntKind.u16.wrap (D * bits .xor .u16 (bits .xor .u16 p q) r) + bits .xor .u16 u c) = mulI x y := by
  have e1 := xorI_lt D hB p q p1 q1
  rw [bits_xor p q p0 (by omega) q0 (by omega), bits_xor _ r e1.1 (by omega) r0 (by omega), bits_xor u c u0 (by omega) c0 (by omega)]
  have e2 := xorI_lt D hB (xorI p q) r e1.2 r1
  have e3 := xorI_lt D hB u c u1 c1
  obtain ⟨a, rfl⟩ := Int.eq_ofNat_of_zero_le x0
  obtain ⟨b, rfl⟩ := Int.eq_ofNat_of_zero_le y0
  have sD : (D : Int) * xorI (xorI p q) r ≤ D * (D - 1) := Int.mul_le_mul_of_nonneg_left (by omega) (by omega)
  have s0 : 0 ≤ (D : Int) * xorI (xorI p q) r := Int.mul_nonneg (by omega) e2.1
  have sE : (D : Int) * (D - 1) + D ≤ 65536 := by
    have : (D : Int) * (D - 1) ≤ 256 * (D - 1) ∨ D = 0 := by
      by_cases hz : D = 0
      · exact Or.inr hz
      · exact Or.inl (Int.mul_le_mul_of_nonneg_right (by omega) (by omega))
    rcases this with h | h <;> omega
  rw [IntWalk.u16_in _ ⟨s0, by omega⟩, IntWalk.u16_in _ ⟨by omega, by omega⟩]
  clear sD s0 sE e1 e2 e3
  rw [← Int.natCast_ediv, ← Int.natCast_ediv, mulI_nat] at hp
  rw [← Int.natCast_emod, ← Int.natCast_emod, mulI_nat] at hu
  rw [← Int.natCast_ediv, ← Int.natCast_emod, mulI_nat] at hq
  rw [← Int.natCast_emod, ← Int.natCast_ediv, mulI_nat] at hr
  subst hp hu hq hr
  rw [mulI_nat] at hc
  subst hc
  rw [xorI_nat, xorI_nat, xorI_nat, mulI_nat, ← Nim.mul_step' k hk h hh D hD a b (by exact_mod_cast x1) (by exact_mod_cast y1) c' hc']
  rw [Int.natCast_add, Int.natCast_mul]
theorem mulI_lt (j : Nat) (hj : j ≤ 4) (B : Nat) (hB : B = 2^2^j) (x y : Int) (x1 : x < B) (y1 : y < B) : 0 ≤ mulI x y ∧ mulI x y < B := by
  have hB0 : 0 < B := by subst hB; exact Nat.two_pow_pos _
  have := Nim.mul_lt j hj B hB (a := x.toNat) (b := y.toNat) (by omega) (by omega)
  unfold mulI; omega
theorem times_small (x y : Int) (x0 : 0 ≤ x) (x1 : x < 65536) (y0 : 0 ≤ y) (y1 : y < 65536) (h : x < 2 ∨ y < 2) : x * y = mulI x y := by
  obtain ⟨a, rfl⟩ := Int.eq_ofNat_of_zero_le x0
  obtain ⟨b, rfl⟩ := Int.eq_ofNat_of_zero_le y0
  rw [mulI_nat, Nim.mul_small (by omega) (by omega) (by omega)]; rfl
theorem and_low (x D : Int) (h0 : 0 ≤ x) (h1 : x < 65536) (hD : D = 2 ∨ D = 4 ∨ D = 16 ∨ D = 256) : bits .and .u16 x (D - 1) = x % D := by
  obtain ⟨n, rfl⟩ := Int.eq_ofNat_of_zero_le h0
  have key : ∀ k N : Nat, 2^k = N → N < 65536 → bits .and .u16 (n : Int) ((N : Int) - 1) = (n : Int) % (N : Int) := by
    intro k N e hN
    have hp : 0 < N := by subst e; exact Nat.two_pow_pos k
    rw [u16_and _ _ (by omega) (by omega) (by omega) (by omega)]
    rw [show ((N : Int) - 1).toNat = 2^k - 1 from by rw [e]; omega, Int.toNat_natCast, Nat.and_two_pow_sub_one_eq_mod, e]; rfl
  rcases hD with rfl | rfl | rfl | rfl
  · exact key 1 2 rfl (by decide)
  · exact key 2 4 rfl (by decide)
  · exact key 4 16 rfl (by decide)
  · exact key 8 256 rfl (by decide)
theorem or_bound (n N : Nat) (e : N = 2^n) (a b : Nat) (ha : a < N) (hb : b < N) : a ||| b < N := by subst e; exact Nat.or_lt_two_pow ha hb
theorem or_ge {D a b : Nat} (h : D ≤ a ∨ D ≤ b) : D ≤ a ||| b := by
  rcases h with h | h
  · exact Nat.le_trans h Nat.left_le_or
  · exact Nat.le_trans h Nat.right_le_or
theorem lev_or_1 (a b : Nat) (ha : a < 4) (hb : b < 4) (h : 2 ≤ a ∨ 2 ≤ b) : lev ((a ||| b : Nat) : Int).toNat = 1 := by
  have h1 := or_bound 2 4 rfl a b ha hb
  have h2 := or_ge h
  rw [Int.toNat_natCast]; unfold lev; (repeat' split) <;> omega
theorem lev_or_2 (a b : Nat) (ha : a < 16) (hb : b < 16) (h : 4 ≤ a ∨ 4 ≤ b) : lev ((a ||| b : Nat) : Int).toNat = 2 := by
  have h1 := or_bound 4 16 rfl a b ha hb
  have h2 := or_ge h
  rw [Int.toNat_natCast]; unfold lev; (repeat' split) <;> omega
theorem lev_or_3 (a b : Nat) (ha : a < 256) (hb : b < 256) (h : 16 ≤ a ∨ 16 ≤ b) : lev ((a ||| b : Nat) : Int).toNat = 3 := by
  have h1 := or_bound 8 256 rfl a b ha hb
  have h2 := or_ge h
  rw [Int.toNat_natCast]; unfold lev; (repeat' split) <;> omega
theorem lev_or_4 (a b : Nat) (ha : a < 65536) (hb : b < 65536) (h : 256 ≤ a ∨ 256 ≤ b) : lev ((a ||| b : Nat) : Int).toNat = 4 := by
  have h1 := or_bound 16 65536 rfl a b ha hb
  have h2 := or_ge h
  rw [Int.toNat_natCast]; unfold lev; (repeat' split) <;> omega

set_option maxHeartbeats 400000 in
theorem level_any (x : Int) (h0 : 0 ≤ x) (h1 : x < 65536) (w : World) : Calls Try.prog 156 #[.int .u16 x] w fun e w' => e = .returned (.int .i64 (lev x.toNat)) ∧ w = w' := by
  go_enter Try.func156, Try.ntmps156
  go_wp2
  go_rounds 5
  all_goals
    go_ret
    refine ⟨?_, rfl⟩
    simp only [bne_iff_ne, ne_eq, bne_eq_false_iff_eq] at *
  · rw [show lev x.toNat = 4 from by unfold lev; (repeat' split) <;> omega]; rfl
  · rw [show lev x.toNat = 3 from by unfold lev; (repeat' split) <;> omega]; rfl
  · rw [show lev x.toNat = 2 from by unfold lev; (repeat' split) <;> omega]; rfl
  · rw [show lev x.toNat = 1 from by unfold lev; (repeat' split) <;> omega]; rfl
  · rw [show lev x.toNat = 0 from by unfold lev; (repeat' split) <;> omega]; rfl

theorem plus_any (B : Int) (hB : B = 2 ∨ B = 4 ∨ B = 16 ∨ B = 256 ∨ B = 65536) (x y : Int) (a0 : 0 ≤ x) (a1 : x < B) (b0 : 0 ≤ y) (b1 : y < B) (w : World) :
    Calls Try.prog 126 #[.int .u16 x, .int .u16 y] w fun e w' => IsV (xorI x y) B e ∧ w = w' := by
  have hb := xorI_lt B hB x y a1 b1
  have c1 : x < 65536 := by rcases hB with rfl | rfl | rfl | rfl | rfl <;> omega
  have c2 : y < 65536 := by rcases hB with rfl | rfl | rfl | rfl | rfl <;> omega
  have Hb := Lib.hid hb; clear hb hB
  go_enter Try.func126, Try.ntmps126
  go_wp2
  go_ret
  have e : bits .xor .u16 x y = xorI x y := bits_xor x y (by omega) (by omega) (by omega) (by omega)
  exact ⟨⟨_, rfl, Lib.hid e, by rw [e]; exact Hb.out.1, by rw [e]; exact Hb.out.2⟩, rfl⟩

set_option maxHeartbeats 400000 in
theorem times_0_small (x y : Int) (a0 : 0 ≤ x) (a1 : x < 2) (b0 : 0 ≤ y) (b1 : y < 2) (h : x < 2 ∨ y < 2) (w : World) :
    Calls Try.prog 135 #[.int .u16 x, .int .u16 y] w fun e w' => IsV (mulI x y) 2 e ∧ w = w' := by
  have F := times_small x y a0 (by omega) b0 (by omega) h
  have L := mulI_lt 0 (by decide) 2 rfl x y a1 b1
  rw [← F] at L
  have HF := Lib.hid F; clear F
  have l0 := L.1
  have l1 := L.2
  clear L
  by_cases h1 : x < 2
  · go_enter Try.func135, Try.ntmps135
    go_wp2_with fail
    go_ret
    exact ⟨⟨_, rfl, HF, l0, l1⟩, rfl⟩
  · have h2 : y < 2 := by omega
    go_enter Try.func135, Try.ntmps135
    go_wp2_with fail
    go_ret
    exact ⟨⟨_, rfl, HF, l0, l1⟩, rfl⟩

set_option maxHeartbeats 400000 in
theorem ltimes_0_small (x y : Int) (a0 : 0 ≤ x) (a1 : x < 2) (b0 : 0 ≤ y) (b1 : y < 2) (h : x < 2 ∨ y < 2) (w : World) :
    Calls Try.prog 121 #[.int .u16 x, .int .u16 y] w fun e w' => IsV (mulI x y) 2 e ∧ w = w' := by
  have F := times_small x y a0 (by omega) b0 (by omega) h
  have L := mulI_lt 0 (by decide) 2 rfl x y a1 b1
  rw [← F] at L
  have HF := Lib.hid F; clear F
  have l0 := L.1
  have l1 := L.2
  clear L
  by_cases h1 : x < 2
  · go_enter Try.func121, Try.ntmps121
    go_wp2_with fail
    go_ret
    exact ⟨⟨_, rfl, HF, l0, l1⟩, rfl⟩
  · have h2 : y < 2 := by omega
    go_enter Try.func121, Try.ntmps121
    go_wp2_with fail
    go_ret
    exact ⟨⟨_, rfl, HF, l0, l1⟩, rfl⟩

theorem times_0 (x y : Int) (a0 : 0 ≤ x) (a1 : x < 2) (b0 : 0 ≤ y) (b1 : y < 2) (w : World) :
    Calls Try.prog 135 #[.int .u16 x, .int .u16 y] w fun e w' => IsV (mulI x y) 2 e ∧ w = w' := times_0_small x y a0 a1 b0 b1 (Or.inl a1) w
theorem ltimes_0 (x y : Int) (a0 : 0 ≤ x) (a1 : x < 2) (b0 : 0 ≤ y) (b1 : y < 2) (w : World) :
    Calls Try.prog 121 #[.int .u16 x, .int .u16 y] w fun e w' => IsV (mulI x y) 2 e ∧ w = w' := ltimes_0_small x y a0 a1 b0 b1 (Or.inl a1) w

set_option maxHeartbeats 400000 in
theorem times_1_small (x y : Int) (a0 : 0 ≤ x) (a1 : x < 4) (b0 : 0 ≤ y) (b1 : y < 4) (h : x < 2 ∨ y < 2) (w : World) :
    Calls Try.prog 135 #[.int .u16 x, .int .u16 y] w fun e w' => IsV (mulI x y) 4 e ∧ w = w' := by
  have F := times_small x y a0 (by omega) b0 (by omega) h
  have L := mulI_lt 1 (by decide) 4 rfl x y a1 b1
  rw [← F] at L
  have HF := Lib.hid F; clear F
  have l0 := L.1
  have l1 := L.2
  clear L
  by_cases h1 : x < 2
  · go_enter Try.func135, Try.ntmps135
    go_wp2_with fail
    go_ret
    exact ⟨⟨_, rfl, HF, l0, l1⟩, rfl⟩
  · have h2 : y < 2 := by omega
    go_enter Try.func135, Try.ntmps135
    go_wp2_with fail
    go_ret
    exact ⟨⟨_, rfl, HF, l0, l1⟩, rfl⟩

set_option maxHeartbeats 400000 in
theorem ltimes_1_small (x y : Int) (a0 : 0 ≤ x) (a1 : x < 4) (b0 : 0 ≤ y) (b1 : y < 4) (h : x < 2 ∨ y < 2) (w : World) :
    Calls Try.prog 121 #[.int .u16 x, .int .u16 y] w fun e w' => IsV (mulI x y) 4 e ∧ w = w' := by
  have F := times_small x y a0 (by omega) b0 (by omega) h
  have L := mulI_lt 1 (by decide) 4 rfl x y a1 b1
  rw [← F] at L
  have HF := Lib.hid F; clear F
  have l0 := L.1
  have l1 := L.2
  clear L
  by_cases h1 : x < 2
  · go_enter Try.func121, Try.ntmps121
    go_wp2_with fail
    go_ret
    exact ⟨⟨_, rfl, HF, l0, l1⟩, rfl⟩
  · have h2 : y < 2 := by omega
    go_enter Try.func121, Try.ntmps121
    go_wp2_with fail
    go_ret
    exact ⟨⟨_, rfl, HF, l0, l1⟩, rfl⟩

set_option maxHeartbeats 1000000 in
theorem times_1_big (x y : Int) (a0 : 0 ≤ x) (a1 : x < 4) (b0 : 0 ≤ y) (b1 : y < 4) (hx : 2 ≤ x) (hy : 2 ≤ y) (hbig : 2 ≤ x ∨ 2 ≤ y) (w : World) :
    Calls Try.prog 135 #[.int .u16 x, .int .u16 y] w fun e w' => IsV (mulI x y) 4 e ∧ w = w' := by
  have t1 : decide (x < 2) = false := by simp; omega
  have t2 : decide (y < 2) = false := by simp; omega
  go_enter Try.func135, Try.ntmps135
  go_wp2_with fail
  have e : bits .or .u16 x y = ((x.toNat ||| y.toNat : Nat) : Int) := u16_or x y (by omega) (by omega) (by omega) (by omega)
  rw [e]; clear e
  have hob := or_bound 2 4 rfl x.toNat y.toNat (by omega) (by omega)
  refine (level_any _ (by omega) (by omega) _).mono ?_
  rintro e w' ⟨rfl, rfl⟩
  have hl : lev ((x.toNat ||| y.toNat : Nat) : Int).toNat = 1 := lev_or_1 x.toNat y.toNat (by omega) (by omega) (by omega)
  rw [hl]; clear hl hob
  go_wp2_with fail
  refine (times_0 _ _ (by omega) (by omega) (by omega) (by omega) _).mono ?_
  rintro e w' ⟨⟨p, rfl, hp, p_0, p_1⟩, rfl⟩
  go_wp2_with fail
  rw [show bits .and .u16 x 1 = x % 2 from and_low x 2 (by omega) (by omega) (by decide), show bits .and .u16 y 1 = y % 2 from and_low y 2 (by omega) (by omega) (by decide)]
  refine (times_0 _ _ (by omega) (by omega) (by omega) (by omega) _).mono ?_
  rintro e w' ⟨⟨u, rfl, hu, u_0, u_1⟩, rfl⟩
  go_wp2_with fail
  refine (plus_any 2 (by decide) _ _ (by omega) (by omega) (by omega) (by omega) _).mono ?_
  rintro e w' ⟨⟨xs, rfl, hxs, xs_0, xs_1⟩, rfl⟩
  go_wp2_with fail
  refine (plus_any 2 (by decide) _ _ (by omega) (by omega) (by omega) (by omega) _).mono ?_
  rintro e w' ⟨⟨ys, rfl, hys, ys_0, ys_1⟩, rfl⟩
  go_wp2_with fail
  refine (times_0 _ _ (by omega) (by omega) (by omega) (by omega) _).mono ?_
  rintro e w' ⟨⟨m, rfl, hm, m_0, m_1⟩, rfl⟩
  go_wp2_with fail
  refine (plus_any 2 (by decide) _ _ (by omega) (by omega) (by omega) (by omega) _).mono ?_
  rintro e w' ⟨⟨s, rfl, hs, s_0, s_1⟩, rfl⟩
  go_wp2_with fail
  refine (times_0 _ _ (by omega) (by omega) (by omega) (by omega) _).mono ?_
  rintro e w' ⟨⟨q, rfl, hq, q_0, q_1⟩, rfl⟩
  go_wp2_with fail
  refine (plus_any 2 (by decide) _ _ (by omega) (by omega) (by omega) (by omega) _).mono ?_
  rintro e w' ⟨⟨t, rfl, ht, t_0, t_1⟩, rfl⟩
  go_wp2_with fail
  go_ret
  have F := times_fin 0 1 2 1 (by decide) rfl rfl (by decide) rfl x y p u xs ys m s q t a0 a1 b0 b1 s_0 s_1 t_0 t_1 hp.out hu.out hxs.out hys.out hm.out hs.out hq.out ht.out
  have L := mulI_lt 1 (by decide) 4 rfl x y a1 b1
  exact ⟨⟨_, rfl, Lib.hid F, by rw [show bits .or .u16 (s * 2) t = mulI x y from F]; exact L.1, by rw [show bits .or .u16 (s * 2) t = mulI x y from F]; exact L.2⟩, rfl⟩

theorem times_1 (x y : Int) (a0 : 0 ≤ x) (a1 : x < 4) (b0 : 0 ≤ y) (b1 : y < 4) (w : World) :
    Calls Try.prog 135 #[.int .u16 x, .int .u16 y] w fun e w' => IsV (mulI x y) 4 e ∧ w = w' := by
  by_cases h : x < 2 ∨ y < 2
  · exact times_1_small x y a0 a1 b0 b1 h w
  · by_cases hb : 2 ≤ x ∨ 2 ≤ y
    · exact times_1_big x y a0 a1 b0 b1 (by omega) (by omega) hb w
    · exact (times_0 x y a0 (by omega) b0 (by omega) w).mono fun e w' hh => ⟨hh.1.up (by decide), hh.2⟩

set_option maxHeartbeats 2000000 in
theorem ltimes_1_big (x y : Int) (a0 : 0 ≤ x) (a1 : x < 4) (b0 : 0 ≤ y) (b1 : y < 4) (hx : 2 ≤ x) (hy : 2 ≤ y) (hbig : 2 ≤ x ∨ 2 ≤ y) (w : World) :
    Calls Try.prog 121 #[.int .u16 x, .int .u16 y] w fun e w' => IsV (mulI x y) 4 e ∧ w = w' := by
  have t1 : decide (x < 2) = false := by simp; omega
  have t2 : decide (y < 2) = false := by simp; omega
  go_enter Try.func121, Try.ntmps121
  go_wp2_with fail
  go_loop [5] (fun v => v = .int .u64 1) (fun v => (8 - intOf v).toNat)
  case atStart => simp
  case round =>
    rcases hrel with rfl
    all_goals
      go_wp2_with fail
    all_goals (try (refine ⟨by simp, by simp [intOf]⟩; done))
    refine (ltimes_0 _ _ (by omega) (by omega) (by omega) (by omega) _).mono ?_
    rintro e w' ⟨⟨p, rfl, hp, p_0, p_1⟩, rfl⟩
    go_wp2_with fail
    refine (ltimes_0 _ _ (by omega) (by omega) (by omega) (by omega) _).mono ?_
    rintro e w' ⟨⟨q, rfl, hq, q_0, q_1⟩, rfl⟩
    go_wp2_with fail
    refine (ltimes_0 _ _ (by omega) (by omega) (by omega) (by omega) _).mono ?_
    rintro e w' ⟨⟨r, rfl, hr, r_0, r_1⟩, rfl⟩
    go_wp2_with fail
    refine (ltimes_0 _ _ (by omega) (by omega) (by omega) (by omega) _).mono ?_
    rintro e w' ⟨⟨u, rfl, hu, u_0, u_1⟩, rfl⟩
    go_wp2_with fail
    refine (ltimes_0 _ _ (by omega) (by omega) (by omega) (by omega) _).mono ?_
    rintro e w' ⟨⟨c, rfl, hc, c_0, c_1⟩, rfl⟩
    go_wp2_with fail
    go_ret
    have F := ltimes_fin 0 1 2 1 (by decide) rfl rfl (by decide) (by decide) rfl x y p q r u c a0 a1 b0 b1 p_0 p_1 q_0 q_1 r_0 r_1 u_0 u_1 c_0 c_1 hp.out hq.out hr.out hu.out hc.out
    have L := mulI_lt 1 (by decide) 4 rfl x y a1 b1
    exact ⟨IsV.of F L, rfl⟩

theorem ltimes_1 (x y : Int) (a0 : 0 ≤ x) (a1 : x < 4) (b0 : 0 ≤ y) (b1 : y < 4) (w : World) :
    Calls Try.prog 121 #[.int .u16 x, .int .u16 y] w fun e w' => IsV (mulI x y) 4 e ∧ w = w' := by
  by_cases h : x < 2 ∨ y < 2
  · exact ltimes_1_small x y a0 a1 b0 b1 h w
  · by_cases hb : 2 ≤ x ∨ 2 ≤ y
    · exact ltimes_1_big x y a0 a1 b0 b1 (by omega) (by omega) hb w
    · exact (ltimes_0 x y a0 (by omega) b0 (by omega) w).mono fun e w' hh => ⟨hh.1.up (by decide), hh.2⟩

set_option maxHeartbeats 400000 in
theorem times_2_small (x y : Int) (a0 : 0 ≤ x) (a1 : x < 16) (b0 : 0 ≤ y) (b1 : y < 16) (h : x < 2 ∨ y < 2) (w : World) :
    Calls Try.prog 135 #[.int .u16 x, .int .u16 y] w fun e w' => IsV (mulI x y) 16 e ∧ w = w' := by
  have F := times_small x y a0 (by omega) b0 (by omega) h
  have L := mulI_lt 2 (by decide) 16 rfl x y a1 b1
  rw [← F] at L
  have HF := Lib.hid F; clear F
  have l0 := L.1
  have l1 := L.2
  clear L
  by_cases h1 : x < 2
  · go_enter Try.func135, Try.ntmps135
    go_wp2_with fail
    go_ret
    exact ⟨⟨_, rfl, HF, l0, l1⟩, rfl⟩
  · have h2 : y < 2 := by omega
    go_enter Try.func135, Try.ntmps135
    go_wp2_with fail
    go_ret
    exact ⟨⟨_, rfl, HF, l0, l1⟩, rfl⟩

set_option maxHeartbeats 400000 in
theorem ltimes_2_small (x y : Int) (a0 : 0 ≤ x) (a1 : x < 16) (b0 : 0 ≤ y) (b1 : y < 16) (h : x < 2 ∨ y < 2) (w : World) :
    Calls Try.prog 121 #[.int .u16 x, .int .u16 y] w fun e w' => IsV (mulI x y) 16 e ∧ w = w' := by
  have F := times_small x y a0 (by omega) b0 (by omega) h
  have L := mulI_lt 2 (by decide) 16 rfl x y a1 b1
  rw [← F] at L
  have HF := Lib.hid F; clear F
  have l0 := L.1
  have l1 := L.2
  clear L
  by_cases h1 : x < 2
  · go_enter Try.func121, Try.ntmps121
    go_wp2_with fail
    go_ret
    exact ⟨⟨_, rfl, HF, l0, l1⟩, rfl⟩
  · have h2 : y < 2 := by omega
    go_enter Try.func121, Try.ntmps121
    go_wp2_with fail
    go_ret
    exact ⟨⟨_, rfl, HF, l0, l1⟩, rfl⟩

set_option maxHeartbeats 1000000 in
theorem times_2_big (x y : Int) (a0 : 0 ≤ x) (a1 : x < 16) (b0 : 0 ≤ y) (b1 : y < 16) (hx : 2 ≤ x) (hy : 2 ≤ y) (hbig : 4 ≤ x ∨ 4 ≤ y) (w : World) :
    Calls Try.prog 135 #[.int .u16 x, .int .u16 y] w fun e w' => IsV (mulI x y) 16 e ∧ w = w' := by
  have t1 : decide (x < 2) = false := by simp; omega
  have t2 : decide (y < 2) = false := by simp; omega
  go_enter Try.func135, Try.ntmps135
  go_wp2_with fail
  have e : bits .or .u16 x y = ((x.toNat ||| y.toNat : Nat) : Int) := u16_or x y (by omega) (by omega) (by omega) (by omega)
  rw [e]; clear e
  have hob := or_bound 4 16 rfl x.toNat y.toNat (by omega) (by omega)
  refine (level_any _ (by omega) (by omega) _).mono ?_
  rintro e w' ⟨rfl, rfl⟩
  have hl : lev ((x.toNat ||| y.toNat : Nat) : Int).toNat = 2 := lev_or_2 x.toNat y.toNat (by omega) (by omega) (by omega)
  rw [hl]; clear hl hob
  go_wp2_with fail
  refine (times_1 _ _ (by omega) (by omega) (by omega) (by omega) _).mono ?_
  rintro e w' ⟨⟨p, rfl, hp, p_0, p_1⟩, rfl⟩
  go_wp2_with fail
  rw [show bits .and .u16 x 3 = x % 4 from and_low x 4 (by omega) (by omega) (by decide), show bits .and .u16 y 3 = y % 4 from and_low y 4 (by omega) (by omega) (by decide)]
  refine (times_1 _ _ (by omega) (by omega) (by omega) (by omega) _).mono ?_
  rintro e w' ⟨⟨u, rfl, hu, u_0, u_1⟩, rfl⟩
  go_wp2_with fail
  refine (plus_any 4 (by decide) _ _ (by omega) (by omega) (by omega) (by omega) _).mono ?_
  rintro e w' ⟨⟨xs, rfl, hxs, xs_0, xs_1⟩, rfl⟩
  go_wp2_with fail
  refine (plus_any 4 (by decide) _ _ (by omega) (by omega) (by omega) (by omega) _).mono ?_
  rintro e w' ⟨⟨ys, rfl, hys, ys_0, ys_1⟩, rfl⟩
  go_wp2_with fail
  refine (times_1 _ _ (by omega) (by omega) (by omega) (by omega) _).mono ?_
  rintro e w' ⟨⟨m, rfl, hm, m_0, m_1⟩, rfl⟩
  go_wp2_with fail
  refine (plus_any 4 (by decide) _ _ (by omega) (by omega) (by omega) (by omega) _).mono ?_
  rintro e w' ⟨⟨s, rfl, hs, s_0, s_1⟩, rfl⟩
  go_wp2_with fail
  refine (times_1 _ _ (by omega) (by omega) (by omega) (by omega) _).mono ?_
  rintro e w' ⟨⟨q, rfl, hq, q_0, q_1⟩, rfl⟩
  go_wp2_with fail
  refine (plus_any 4 (by decide) _ _ (by omega) (by omega) (by omega) (by omega) _).mono ?_
  rintro e w' ⟨⟨t, rfl, ht, t_0, t_1⟩, rfl⟩
  go_wp2_with fail
  go_ret
  have F := times_fin 1 2 4 2 (by decide) rfl rfl (by decide) rfl x y p u xs ys m s q t a0 a1 b0 b1 s_0 s_1 t_0 t_1 hp.out hu.out hxs.out hys.out hm.out hs.out hq.out ht.out
  have L := mulI_lt 2 (by decide) 16 rfl x y a1 b1
  exact ⟨⟨_, rfl, Lib.hid F, by rw [show bits .or .u16 (s * 4) t = mulI x y from F]; exact L.1, by rw [show bits .or .u16 (s * 4) t = mulI x y from F]; exact L.2⟩, rfl⟩

theorem times_2 (x y : Int) (a0 : 0 ≤ x) (a1 : x < 16) (b0 : 0 ≤ y) (b1 : y < 16) (w : World) :
    Calls Try.prog 135 #[.int .u16 x, .int .u16 y] w fun e w' => IsV (mulI x y) 16 e ∧ w = w' := by
  by_cases h : x < 2 ∨ y < 2
  · exact times_2_small x y a0 a1 b0 b1 h w
  · by_cases hb : 4 ≤ x ∨ 4 ≤ y
    · exact times_2_big x y a0 a1 b0 b1 (by omega) (by omega) hb w
    · exact (times_1 x y a0 (by omega) b0 (by omega) w).mono fun e w' hh => ⟨hh.1.up (by decide), hh.2⟩

set_option maxHeartbeats 2000000 in
theorem ltimes_2_big (x y : Int) (a0 : 0 ≤ x) (a1 : x < 16) (b0 : 0 ≤ y) (b1 : y < 16) (hx : 2 ≤ x) (hy : 2 ≤ y) (hbig : 4 ≤ x ∨ 4 ≤ y) (w : World) :
    Calls Try.prog 121 #[.int .u16 x, .int .u16 y] w fun e w' => IsV (mulI x y) 16 e ∧ w = w' := by
  have t1 : decide (x < 2) = false := by simp; omega
  have t2 : decide (y < 2) = false := by simp; omega
  go_enter Try.func121, Try.ntmps121
  go_wp2_with fail
  go_loop [5] (fun v => v = .int .u64 1 ∨ v = .int .u64 2) (fun v => (8 - intOf v).toNat)
  case atStart => simp
  case round =>
    rcases hrel with rfl | rfl
    all_goals
      go_wp2_with fail
    all_goals (try (refine ⟨by simp, by simp [intOf]⟩; done))
    refine (ltimes_1 _ _ (by omega) (by omega) (by omega) (by omega) _).mono ?_
    rintro e w' ⟨⟨p, rfl, hp, p_0, p_1⟩, rfl⟩
    go_wp2_with fail
    refine (ltimes_1 _ _ (by omega) (by omega) (by omega) (by omega) _).mono ?_
    rintro e w' ⟨⟨q, rfl, hq, q_0, q_1⟩, rfl⟩
    go_wp2_with fail
    refine (ltimes_1 _ _ (by omega) (by omega) (by omega) (by omega) _).mono ?_
    rintro e w' ⟨⟨r, rfl, hr, r_0, r_1⟩, rfl⟩
    go_wp2_with fail
    refine (ltimes_1 _ _ (by omega) (by omega) (by omega) (by omega) _).mono ?_
    rintro e w' ⟨⟨u, rfl, hu, u_0, u_1⟩, rfl⟩
    go_wp2_with fail
    refine (ltimes_1 _ _ (by omega) (by omega) (by omega) (by omega) _).mono ?_
    rintro e w' ⟨⟨c, rfl, hc, c_0, c_1⟩, rfl⟩
    go_wp2_with fail
    go_ret
    have F := ltimes_fin 1 2 4 2 (by decide) rfl rfl (by decide) (by decide) rfl x y p q r u c a0 a1 b0 b1 p_0 p_1 q_0 q_1 r_0 r_1 u_0 u_1 c_0 c_1 hp.out hq.out hr.out hu.out hc.out
    have L := mulI_lt 2 (by decide) 16 rfl x y a1 b1
    exact ⟨IsV.of F L, rfl⟩

theorem ltimes_2 (x y : Int) (a0 : 0 ≤ x) (a1 : x < 16) (b0 : 0 ≤ y) (b1 : y < 16) (w : World) :
    Calls Try.prog 121 #[.int .u16 x, .int .u16 y] w fun e w' => IsV (mulI x y) 16 e ∧ w = w' := by
  by_cases h : x < 2 ∨ y < 2
  · exact ltimes_2_small x y a0 a1 b0 b1 h w
  · by_cases hb : 4 ≤ x ∨ 4 ≤ y
    · exact ltimes_2_big x y a0 a1 b0 b1 (by omega) (by omega) hb w
    · exact (ltimes_1 x y a0 (by omega) b0 (by omega) w).mono fun e w' hh => ⟨hh.1.up (by decide), hh.2⟩

set_option maxHeartbeats 400000 in
theorem times_3_small (x y : Int) (a0 : 0 ≤ x) (a1 : x < 256) (b0 : 0 ≤ y) (b1 : y < 256) (h : x < 2 ∨ y < 2) (w : World) :
    Calls Try.prog 135 #[.int .u16 x, .int .u16 y] w fun e w' => IsV (mulI x y) 256 e ∧ w = w' := by
  have F := times_small x y a0 (by omega) b0 (by omega) h
  have L := mulI_lt 3 (by decide) 256 rfl x y a1 b1
  rw [← F] at L
  have HF := Lib.hid F; clear F
  have l0 := L.1
  have l1 := L.2
  clear L
  by_cases h1 : x < 2
  · go_enter Try.func135, Try.ntmps135
    go_wp2_with fail
    go_ret
    exact ⟨⟨_, rfl, HF, l0, l1⟩, rfl⟩
  · have h2 : y < 2 := by omega
    go_enter Try.func135, Try.ntmps135
    go_wp2_with fail
    go_ret
    exact ⟨⟨_, rfl, HF, l0, l1⟩, rfl⟩

set_option maxHeartbeats 400000 in
theorem ltimes_3_small (x y : Int) (a0 : 0 ≤ x) (a1 : x < 256) (b0 : 0 ≤ y) (b1 : y < 256) (h : x < 2 ∨ y < 2) (w : World) :
    Calls Try.prog 121 #[.int .u16 x, .int .u16 y] w fun e w' => IsV (mulI x y) 256 e ∧ w = w' := by
  have F := times_small x y a0 (by omega) b0 (by omega) h
  have L := mulI_lt 3 (by decide) 256 rfl x y a1 b1
  rw [← F] at L
  have HF := Lib.hid F; clear F
  have l0 := L.1
  have l1 := L.2
  clear L
  by_cases h1 : x < 2
  · go_enter Try.func121, Try.ntmps121
    go_wp2_with fail
    go_ret
    exact ⟨⟨_, rfl, HF, l0, l1⟩, rfl⟩
  · have h2 : y < 2 := by omega
    go_enter Try.func121, Try.ntmps121
    go_wp2_with fail
    go_ret
    exact ⟨⟨_, rfl, HF, l0, l1⟩, rfl⟩

set_option maxHeartbeats 1000000 in
theorem times_3_big (x y : Int) (a0 : 0 ≤ x) (a1 : x < 256) (b0 : 0 ≤ y) (b1 : y < 256) (hx : 2 ≤ x) (hy : 2 ≤ y) (hbig : 16 ≤ x ∨ 16 ≤ y) (w : World) :
    Calls Try.prog 135 #[.int .u16 x, .int .u16 y] w fun e w' => IsV (mulI x y) 256 e ∧ w = w' := by
  have t1 : decide (x < 2) = false := by simp; omega
  have t2 : decide (y < 2) = false := by simp; omega
  go_enter Try.func135, Try.ntmps135
  go_wp2_with fail
  have e : bits .or .u16 x y = ((x.toNat ||| y.toNat : Nat) : Int) := u16_or x y (by omega) (by omega) (by omega) (by omega)
  rw [e]; clear e
  have hob := or_bound 8 256 rfl x.toNat y.toNat (by omega) (by omega)
  refine (level_any _ (by omega) (by omega) _).mono ?_
  rintro e w' ⟨rfl, rfl⟩
  have hl : lev ((x.toNat ||| y.toNat : Nat) : Int).toNat = 3 := lev_or_3 x.toNat y.toNat (by omega) (by omega) (by omega)
  rw [hl]; clear hl hob
  go_wp2_with fail
  refine (times_2 _ _ (by omega) (by omega) (by omega) (by omega) _).mono ?_
  rintro e w' ⟨⟨p, rfl, hp, p_0, p_1⟩, rfl⟩
  go_wp2_with fail
  rw [show bits .and .u16 x 15 = x % 16 from and_low x 16 (by omega) (by omega) (by decide), show bits .and .u16 y 15 = y % 16 from and_low y 16 (by omega) (by omega) (by decide)]
  refine (times_2 _ _ (by omega) (by omega) (by omega) (by omega) _).mono ?_
  rintro e w' ⟨⟨u, rfl, hu, u_0, u_1⟩, rfl⟩
  go_wp2_with fail
  refine (plus_any 16 (by decide) _ _ (by omega) (by omega) (by omega) (by omega) _).mono ?_
  rintro e w' ⟨⟨xs, rfl, hxs, xs_0, xs_1⟩, rfl⟩
  go_wp2_with fail
  refine (plus_any 16 (by decide) _ _ (by omega) (by omega) (by omega) (by omega) _).mono ?_
  rintro e w' ⟨⟨ys, rfl, hys, ys_0, ys_1⟩, rfl⟩
  go_wp2_with fail
  refine (times_2 _ _ (by omega) (by omega) (by omega) (by omega) _).mono ?_
  rintro e w' ⟨⟨m, rfl, hm, m_0, m_1⟩, rfl⟩
  go_wp2_with fail
  refine (plus_any 16 (by decide) _ _ (by omega) (by omega) (by omega) (by omega) _).mono ?_
  rintro e w' ⟨⟨s, rfl, hs, s_0, s_1⟩, rfl⟩
  go_wp2_with fail
  refine (times_2 _ _ (by omega) (by omega) (by omega) (by omega) _).mono ?_
  rintro e w' ⟨⟨q, rfl, hq, q_0, q_1⟩, rfl⟩
  go_wp2_with fail
  refine (plus_any 16 (by decide) _ _ (by omega) (by omega) (by omega) (by omega) _).mono ?_
  rintro e w' ⟨⟨t, rfl, ht, t_0, t_1⟩, rfl⟩
  go_wp2_with fail
  go_ret
  have F := times_fin 2 4 16 8 (by decide) rfl rfl (by decide) rfl x y p u xs ys m s q t a0 a1 b0 b1 s_0 s_1 t_0 t_1 hp.out hu.out hxs.out hys.out hm.out hs.out hq.out ht.out
  have L := mulI_lt 3 (by decide) 256 rfl x y a1 b1
  exact ⟨⟨_, rfl, Lib.hid F, by rw [show bits .or .u16 (s * 16) t = mulI x y from F]; exact L.1, by rw [show bits .or .u16 (s * 16) t = mulI x y from F]; exact L.2⟩, rfl⟩

theorem times_3 (x y : Int) (a0 : 0 ≤ x) (a1 : x < 256) (b0 : 0 ≤ y) (b1 : y < 256) (w : World) :
    Calls Try.prog 135 #[.int .u16 x, .int .u16 y] w fun e w' => IsV (mulI x y) 256 e ∧ w = w' := by
  by_cases h : x < 2 ∨ y < 2
  · exact times_3_small x y a0 a1 b0 b1 h w
  · by_cases hb : 16 ≤ x ∨ 16 ≤ y
    · exact times_3_big x y a0 a1 b0 b1 (by omega) (by omega) hb w
    · exact (times_2 x y a0 (by omega) b0 (by omega) w).mono fun e w' hh => ⟨hh.1.up (by decide), hh.2⟩

set_option maxHeartbeats 2000000 in
theorem ltimes_3_big (x y : Int) (a0 : 0 ≤ x) (a1 : x < 256) (b0 : 0 ≤ y) (b1 : y < 256) (hx : 2 ≤ x) (hy : 2 ≤ y) (hbig : 16 ≤ x ∨ 16 ≤ y) (w : World) :
    Calls Try.prog 121 #[.int .u16 x, .int .u16 y] w fun e w' => IsV (mulI x y) 256 e ∧ w = w' := by
  have t1 : decide (x < 2) = false := by simp; omega
  have t2 : decide (y < 2) = false := by simp; omega
  go_enter Try.func121, Try.ntmps121
  go_wp2_with fail
  go_loop [5] (fun v => v = .int .u64 1 ∨ v = .int .u64 2 ∨ v = .int .u64 4) (fun v => (8 - intOf v).toNat)
  case atStart => simp
  case round =>
    rcases hrel with rfl | rfl | rfl
    all_goals
      go_wp2_with fail
    all_goals (try (refine ⟨by simp, by simp [intOf]⟩; done))
    refine (ltimes_2 _ _ (by omega) (by omega) (by omega) (by omega) _).mono ?_
    rintro e w' ⟨⟨p, rfl, hp, p_0, p_1⟩, rfl⟩
    go_wp2_with fail
    refine (ltimes_2 _ _ (by omega) (by omega) (by omega) (by omega) _).mono ?_
    rintro e w' ⟨⟨q, rfl, hq, q_0, q_1⟩, rfl⟩
    go_wp2_with fail
    refine (ltimes_2 _ _ (by omega) (by omega) (by omega) (by omega) _).mono ?_
    rintro e w' ⟨⟨r, rfl, hr, r_0, r_1⟩, rfl⟩
    go_wp2_with fail
    refine (ltimes_2 _ _ (by omega) (by omega) (by omega) (by omega) _).mono ?_
    rintro e w' ⟨⟨u, rfl, hu, u_0, u_1⟩, rfl⟩
    go_wp2_with fail
    refine (ltimes_2 _ _ (by omega) (by omega) (by omega) (by omega) _).mono ?_
    rintro e w' ⟨⟨c, rfl, hc, c_0, c_1⟩, rfl⟩
    go_wp2_with fail
    go_ret
    have F := ltimes_fin 2 4 16 8 (by decide) rfl rfl (by decide) (by decide) rfl x y p q r u c a0 a1 b0 b1 p_0 p_1 q_0 q_1 r_0 r_1 u_0 u_1 c_0 c_1 hp.out hq.out hr.out hu.out hc.out
    have L := mulI_lt 3 (by decide) 256 rfl x y a1 b1
    exact ⟨IsV.of F L, rfl⟩

theorem ltimes_3 (x y : Int) (a0 : 0 ≤ x) (a1 : x < 256) (b0 : 0 ≤ y) (b1 : y < 256) (w : World) :
    Calls Try.prog 121 #[.int .u16 x, .int .u16 y] w fun e w' => IsV (mulI x y) 256 e ∧ w = w' := by
  by_cases h : x < 2 ∨ y < 2
  · exact ltimes_3_small x y a0 a1 b0 b1 h w
  · by_cases hb : 16 ≤ x ∨ 16 ≤ y
    · exact ltimes_3_big x y a0 a1 b0 b1 (by omega) (by omega) hb w
    · exact (ltimes_2 x y a0 (by omega) b0 (by omega) w).mono fun e w' hh => ⟨hh.1.up (by decide), hh.2⟩

set_option maxHeartbeats 400000 in
theorem times_4_small (x y : Int) (a0 : 0 ≤ x) (a1 : x < 65536) (b0 : 0 ≤ y) (b1 : y < 65536) (h : x < 2 ∨ y < 2) (w : World) :
    Calls Try.prog 135 #[.int .u16 x, .int .u16 y] w fun e w' => IsV (mulI x y) 65536 e ∧ w = w' := by
  have F := times_small x y a0 (by omega) b0 (by omega) h
  have L := mulI_lt 4 (by decide) 65536 rfl x y a1 b1
  rw [← F] at L
  have HF := Lib.hid F; clear F
  have l0 := L.1
  have l1 := L.2
  clear L
  by_cases h1 : x < 2
  · go_enter Try.func135, Try.ntmps135
    go_wp2_with fail
    go_ret
    exact ⟨⟨_, rfl, HF, l0, l1⟩, rfl⟩
  · have h2 : y < 2 := by omega
    go_enter Try.func135, Try.ntmps135
    go_wp2_with fail
    go_ret
    exact ⟨⟨_, rfl, HF, l0, l1⟩, rfl⟩

set_option maxHeartbeats 400000 in
theorem ltimes_4_small (x y : Int) (a0 : 0 ≤ x) (a1 : x < 65536) (b0 : 0 ≤ y) (b1 : y < 65536) (h : x < 2 ∨ y < 2) (w : World) :
    Calls Try.prog 121 #[.int .u16 x, .int .u16 y] w fun e w' => IsV (mulI x y) 65536 e ∧ w = w' := by
  have F := times_small x y a0 (by omega) b0 (by omega) h
  have L := mulI_lt 4 (by decide) 65536 rfl x y a1 b1
  rw [← F] at L
  have HF := Lib.hid F; clear F
  have l0 := L.1
  have l1 := L.2
  clear L
  by_cases h1 : x < 2
  · go_enter Try.func121, Try.ntmps121
    go_wp2_with fail
    go_ret
    exact ⟨⟨_, rfl, HF, l0, l1⟩, rfl⟩
  · have h2 : y < 2 := by omega
    go_enter Try.func121, Try.ntmps121
    go_wp2_with fail
    go_ret
    exact ⟨⟨_, rfl, HF, l0, l1⟩, rfl⟩

set_option maxHeartbeats 1000000 in
theorem times_4_big (x y : Int) (a0 : 0 ≤ x) (a1 : x < 65536) (b0 : 0 ≤ y) (b1 : y < 65536) (hx : 2 ≤ x) (hy : 2 ≤ y) (hbig : 256 ≤ x ∨ 256 ≤ y) (w : World) :
    Calls Try.prog 135 #[.int .u16 x, .int .u16 y] w fun e w' => IsV (mulI x y) 65536 e ∧ w = w' := by
  have t1 : decide (x < 2) = false := by simp; omega
  have t2 : decide (y < 2) = false := by simp; omega
  go_enter Try.func135, Try.ntmps135
  go_wp2_with fail
  have e : bits .or .u16 x y = ((x.toNat ||| y.toNat : Nat) : Int) := u16_or x y (by omega) (by omega) (by omega) (by omega)
  rw [e]; clear e
  have hob := or_bound 16 65536 rfl x.toNat y.toNat (by omega) (by omega)
  refine (level_any _ (by omega) (by omega) _).mono ?_
  rintro e w' ⟨rfl, rfl⟩
  have hl : lev ((x.toNat ||| y.toNat : Nat) : Int).toNat = 4 := lev_or_4 x.toNat y.toNat (by omega) (by omega) (by omega)
  rw [hl]; clear hl hob
  go_wp2_with fail
  refine (times_3 _ _ (by omega) (by omega) (by omega) (by omega) _).mono ?_
  rintro e w' ⟨⟨p, rfl, hp, p_0, p_1⟩, rfl⟩
  go_wp2_with fail
  rw [show bits .and .u16 x 255 = x % 256 from and_low x 256 (by omega) (by omega) (by decide), show bits .and .u16 y 255 = y % 256 from and_low y 256 (by omega) (by omega) (by decide)]
  refine (times_3 _ _ (by omega) (by omega) (by omega) (by omega) _).mono ?_
  rintro e w' ⟨⟨u, rfl, hu, u_0, u_1⟩, rfl⟩
  go_wp2_with fail
  refine (plus_any 256 (by decide) _ _ (by omega) (by omega) (by omega) (by omega) _).mono ?_
  rintro e w' ⟨⟨xs, rfl, hxs, xs_0, xs_1⟩, rfl⟩
  go_wp2_with fail
  refine (plus_any 256 (by decide) _ _ (by omega) (by omega) (by omega) (by omega) _).mono ?_
  rintro e w' ⟨⟨ys, rfl, hys, ys_0, ys_1⟩, rfl⟩
  go_wp2_with fail
  refine (times_3 _ _ (by omega) (by omega) (by omega) (by omega) _).mono ?_
  rintro e w' ⟨⟨m, rfl, hm, m_0, m_1⟩, rfl⟩
  go_wp2_with fail
  refine (plus_any 256 (by decide) _ _ (by omega) (by omega) (by omega) (by omega) _).mono ?_
  rintro e w' ⟨⟨s, rfl, hs, s_0, s_1⟩, rfl⟩
  go_wp2_with fail
  refine (times_3 _ _ (by omega) (by omega) (by omega) (by omega) _).mono ?_
  rintro e w' ⟨⟨q, rfl, hq, q_0, q_1⟩, rfl⟩
  go_wp2_with fail
  refine (plus_any 256 (by decide) _ _ (by omega) (by omega) (by omega) (by omega) _).mono ?_
  rintro e w' ⟨⟨t, rfl, ht, t_0, t_1⟩, rfl⟩
  go_wp2_with fail
  go_ret
  have F := times_fin 3 8 256 128 (by decide) rfl rfl (by decide) rfl x y p u xs ys m s q t a0 a1 b0 b1 s_0 s_1 t_0 t_1 hp.out hu.out hxs.out hys.out hm.out hs.out hq.out ht.out
  have L := mulI_lt 4 (by decide) 65536 rfl x y a1 b1
  exact ⟨⟨_, rfl, Lib.hid F, by rw [show bits .or .u16 (s * 256) t = mulI x y from F]; exact L.1, by rw [show bits .or .u16 (s * 256) t = mulI x y from F]; exact L.2⟩, rfl⟩

theorem times_4 (x y : Int) (a0 : 0 ≤ x) (a1 : x < 65536) (b0 : 0 ≤ y) (b1 : y < 65536) (w : World) :
    Calls Try.prog 135 #[.int .u16 x, .int .u16 y] w fun e w' => IsV (mulI x y) 65536 e ∧ w = w' := by
  by_cases h : x < 2 ∨ y < 2
  · exact times_4_small x y a0 a1 b0 b1 h w
  · by_cases hb : 256 ≤ x ∨ 256 ≤ y
    · exact times_4_big x y a0 a1 b0 b1 (by omega) (by omega) hb w
    · exact (times_3 x y a0 (by omega) b0 (by omega) w).mono fun e w' hh => ⟨hh.1.up (by decide), hh.2⟩

set_option maxHeartbeats 2000000 in
theorem ltimes_4_big (x y : Int) (a0 : 0 ≤ x) (a1 : x < 65536) (b0 : 0 ≤ y) (b1 : y < 65536) (hx : 2 ≤ x) (hy : 2 ≤ y) (hbig : 256 ≤ x ∨ 256 ≤ y) (w : World) :
    Calls Try.prog 121 #[.int .u16 x, .int .u16 y] w fun e w' => IsV (mulI x y) 65536 e ∧ w = w' := by
  have t1 : decide (x < 2) = false := by simp; omega
  have t2 : decide (y < 2) = false := by simp; omega
  go_enter Try.func121, Try.ntmps121
  go_wp2_with fail
  go_loop [5] (fun v => v = .int .u64 1 ∨ v = .int .u64 2 ∨ v = .int .u64 4 ∨ v = .int .u64 8) (fun v => (8 - intOf v).toNat)
  case atStart => simp
  case round =>
    rcases hrel with rfl | rfl | rfl | rfl
    all_goals
      go_wp2_with fail
    all_goals (try (refine ⟨by simp, by simp [intOf]⟩; done))
    refine (ltimes_3 _ _ (by omega) (by omega) (by omega) (by omega) _).mono ?_
    rintro e w' ⟨⟨p, rfl, hp, p_0, p_1⟩, rfl⟩
    go_wp2_with fail
    refine (ltimes_3 _ _ (by omega) (by omega) (by omega) (by omega) _).mono ?_
    rintro e w' ⟨⟨q, rfl, hq, q_0, q_1⟩, rfl⟩
    go_wp2_with fail
    refine (ltimes_3 _ _ (by omega) (by omega) (by omega) (by omega) _).mono ?_
    rintro e w' ⟨⟨r, rfl, hr, r_0, r_1⟩, rfl⟩
    go_wp2_with fail
    refine (ltimes_3 _ _ (by omega) (by omega) (by omega) (by omega) _).mono ?_
    rintro e w' ⟨⟨u, rfl, hu, u_0, u_1⟩, rfl⟩
    go_wp2_with fail
    refine (ltimes_3 _ _ (by omega) (by omega) (by omega) (by omega) _).mono ?_
    rintro e w' ⟨⟨c, rfl, hc, c_0, c_1⟩, rfl⟩
    go_wp2_with fail
    go_ret
    have F := ltimes_fin 3 8 256 128 (by decide) rfl rfl (by decide) (by decide) rfl x y p q r u c a0 a1 b0 b1 p_0 p_1 q_0 q_1 r_0 r_1 u_0 u_1 c_0 c_1 hp.out hq.out hr.out hu.out hc.out
    have L := mulI_lt 4 (by decide) 65536 rfl x y a1 b1
    exact ⟨IsV.of F L, rfl⟩

theorem ltimes_4 (x y : Int) (a0 : 0 ≤ x) (a1 : x < 65536) (b0 : 0 ≤ y) (b1 : y < 65536) (w : World) :
    Calls Try.prog 121 #[.int .u16 x, .int .u16 y] w fun e w' => IsV (mulI x y) 65536 e ∧ w = w' := by
  by_cases h : x < 2 ∨ y < 2
  · exact ltimes_4_small x y a0 a1 b0 b1 h w
  · by_cases hb : 256 ≤ x ∨ 256 ≤ y
    · exact ltimes_4_big x y a0 a1 b0 b1 (by omega) (by omega) hb w
    · exact (ltimes_3 x y a0 (by omega) b0 (by omega) w).mono fun e w' hh => ⟨hh.1.up (by decide), hh.2⟩

/-- THE PROGRAM's PRODUCT -/
theorem times_any (x y : Int) (a0 : 0 ≤ x) (a1 : x < 65536) (b0 : 0 ≤ y) (b1 : y < 65536) (w : World) :
    Calls Try.prog 135 #[.int .u16 x, .int .u16 y] w fun e w' => IsV (mulI x y) 65536 e ∧ w = w' := times_4 x y a0 a1 b0 b1 w
/-- THE MODEL's PRODUCT -/
theorem ltimes_any (x y : Int) (a0 : 0 ≤ x) (a1 : x < 65536) (b0 : 0 ≤ y) (b1 : y < 65536) (w : World) :
    Calls Try.prog 121 #[.int .u16 x, .int .u16 y] w fun e w' => IsV (mulI x y) 65536 e ∧ w = w' := ltimes_4 x y a0 a1 b0 b1 w
end Go.Proofs.Ythhjhfkcgokffaa
