/-
  Traces, half roots and quadratic equations of nimbers, pure.
-/
import Derived.Test.YtjbaeomjinnlhaaAlg
namespace Go.Proofs.Ytjbaeomjinnlhaa.Nim
set_option linter.unusedVariables false
def trN : Nat → Nat → Nat → Nat
  | 0, s, _ => s
  | k + 1, s, y => trN k (s ^^^ y) (mul y y)
theorem trN_xor (k : Nat) : ∀ s y s' y', trN k (s ^^^ s') (y ^^^ y') = trN k s y ^^^ trN k s' y' := by
  induction k with
  | zero => intro s y s' y'; rfl
  | succ k ih =>
    intro s y s' y'
    show trN k (s ^^^ s' ^^^ (y ^^^ y')) (mul (y ^^^ y') (y ^^^ y')) = _
    rw [sq_xor, show s ^^^ s' ^^^ (y ^^^ y') = (s ^^^ y) ^^^ (s' ^^^ y') by ac_rfl, ih]; rfl
def trF : Nat → Nat → Nat → Nat
  | 0, s, _ => s
  | k + 1, s, y => trF k (s ^^^ y) (fm 4 y y)
theorem trF_eq (k : Nat) : ∀ s y, y < 65536 → trF k s y = trN k s y := by
  induction k with
  | zero => intro s y _; rfl
  | succ k ih => intro s y h; show trF k _ (fm 4 y y) = trN k _ (mul y y); rw [fm_mul y y h h]; exact ih _ _ (mul_b h h)
theorem tr_table : all16 (fun i => Nat.beq (trF 16 0 (2^i)) (2^i >>> 15)) = true := by decide +kernel
theorem tr_top : ∀ a, a < 65536 → trN 16 0 a = a >>> 15 := by
  refine lin_ext _ _ (fun a b _ _ => ?_) (fun a b _ _ => shr_xor a b 15) (by decide +kernel) ?_
  · have := trN_xor 16 0 a 0 b
    rw [Nat.xor_self] at this
    exact this
  · intro i hi
    have h := Nat.eq_of_beq_eq_true (all16_at tr_table i hi)
    rw [trF_eq 16 _ _ (pow_b hi)] at h
    exact h
theorem sqtop_table : all16 (fun i => Nat.beq (fm 4 (2^i) (2^i) >>> 15) (2^i >>> 15)) = true := by decide +kernel
theorem sq_top : ∀ a, a < 65536 → mul a a >>> 15 = a >>> 15 := by
  refine lin_ext (fun a => mul a a >>> 15) (fun a => a >>> 15) (fun a b _ _ => by rw [sq_xor, shr_xor]) (fun a b _ _ => shr_xor a b 15) (by decide +kernel) ?_
  intro i hi
  have h := Nat.eq_of_beq_eq_true (all16_at sqtop_table i hi)
  rw [fm_mul _ _ (pow_b hi) (pow_b hi)] at h
  exact h
theorem half_xor (a b : Nat) : half (a ^^^ b) = half a ^^^ half b := lin_xor _ a b
theorem halfb_table : all16 (fun i => Nat.blt (half (2^i)) 65536 && Nat.beq (half (2^i) % 2) 0 && Nat.beq (fm 4 (half (2^i)) (half (2^i)) ^^^ half (2^i)) (2^i % 32768)) = true := by decide +kernel
theorem halfb_at (i : Nat) (hi : i < 16) : half (2^i) < 65536 ∧ half (2^i) % 2 = 0 ∧ mul (half (2^i)) (half (2^i)) ^^^ half (2^i) = 2^i % 32768 := by
  have h := all16_at halfb_table i hi
  simp only [Bool.and_eq_true] at h
  have h0 : half (2^i) ≤ 65535 := by simpa [Nat.blt] using h.1.1
  have h1 : half (2^i) < 65536 := by omega
  have h2 := Nat.eq_of_beq_eq_true h.1.2
  have h3 := Nat.eq_of_beq_eq_true h.2
  rw [fm_mul _ _ h1 h1] at h3
  exact ⟨h1, h2, h3⟩
theorem half_even : ∀ a, a < 65536 → half a % 2 = 0 :=
  lin_ext (fun a => half a % 2) (fun _ => 0) (fun a b _ _ => by rw [half_xor, xor_mod2]) (fun a b _ _ => rfl) (by decide +kernel) (fun i hi => (halfb_at i hi).2.1)
theorem half_root : ∀ a, a < 65536 → mul (half a) (half a) ^^^ half a = a % 32768 := by
  refine lin_ext (fun a => mul (half a) (half a) ^^^ half a) (fun a => a % 32768) (fun a b _ _ => ?_) (fun a b _ _ => mod_xor a b 15) (by decide +kernel) (fun i hi => (halfb_at i hi).2.2)
  rw [half_xor, sq_xor]; ac_rfl
theorem halfN_lt : ∀ a, a < 65536 → half a < 65536 := by
  have key : ∀ a, a < 65536 → half a >>> 16 = 0 :=
    lin_ext (fun a => half a >>> 16) (fun _ => 0) (fun a b _ _ => by rw [half_xor, shr_xor]) (fun a b _ _ => rfl) (by decide +kernel) (fun i hi => by
      have := (halfb_at i hi).1
      show half (2^i) >>> 16 = 0
      rw [Nat.shiftRight_eq_div_pow]; omega)
  intro a ha
  have := key a ha
  rw [Nat.shiftRight_eq_div_pow] at this
  omega
theorem x4 (a b c d : Nat) (h : a ^^^ b = c ^^^ d) : a ^^^ b ^^^ c ^^^ d = 0 := by
  rw [show a ^^^ b ^^^ c ^^^ d = (a ^^^ b) ^^^ (c ^^^ d) by ac_rfl, h, Nat.xor_self]
/-- the root x = p t, where t and its square sum to q over the square of p -/
theorem quad_root {p q i t h : Nat} (hp : p < 65536) (hq : q < 65536) (h0 : p ≠ 0) (hi : i = npow p 65534) (hh : h = mul q (mul i i)) (hb : h < 32768) (ht : t = half h) :
    mul (mul p t) (mul p t) ^^^ mul p (mul p t) ^^^ q = 0 := by
  have ib : i < 65536 := hi ▸ npow_b hp _
  have tb : t < 65536 := ht ▸ halfN_lt h (by omega)
  have pi : mul p i = 1 := by rw [hi]; exact mul_inv hp h0
  have e1 : mul (mul p t) (mul p t) = mul (mul p p) (mul t t) := by
    rw [mul_assoc hp tb (mul_b hp tb), ← mul_assoc tb hp tb, mul_comm t p, mul_assoc hp tb tb, ← mul_assoc hp hp (mul_b tb tb)]
  have e2 : mul p (mul p t) = mul (mul p p) t := by rw [← mul_assoc hp hp tb]
  have e3 : mul t t ^^^ t = h := by rw [ht, half_root h (by omega)]; omega
  have e4 : mul (mul p p) (mul i i) = 1 := by
    have : mul (mul p i) (mul p i) = mul (mul p p) (mul i i) := by
      rw [mul_assoc hp ib (mul_b hp ib), ← mul_assoc ib hp ib, mul_comm i p, mul_assoc hp ib ib, ← mul_assoc hp hp (mul_b ib ib)]
    rw [← this, pi, mul_one_left (by decide)]
  rw [e1, e2, ← mul_xor_right, e3, hh, mul_comm q, ← mul_assoc (mul_b hp hp) (mul_b ib ib) hq, e4, mul_one_left hq, Nat.xor_self]
theorem quad_other {p q x : Nat} (hx : x < 65536) (hp : p < 65536) (h : mul x x ^^^ mul p x ^^^ q = 0) : mul (x ^^^ p) (x ^^^ p) ^^^ mul p (x ^^^ p) ^^^ q = 0 := by
  rw [sq_xor, mul_xor_right, show mul x x ^^^ mul p p ^^^ (mul p x ^^^ mul p p) ^^^ q = (mul x x ^^^ mul p x ^^^ q) ^^^ (mul p p ^^^ mul p p) by ac_rfl, h, Nat.xor_self]; rfl
theorem xor_zero {x a : Nat} (h : x ^^^ a = 0) : x = a := by
  have e : (x ^^^ a) ^^^ a = x := by rw [Nat.xor_assoc, Nat.xor_self, Nat.xor_zero]
  rw [h, Nat.zero_xor] at e
  exact e.symm
/-- a root of the equation of a and b is one of them -/
theorem two_roots {a b x : Nat} (ha : a < 65536) (hb : b < 65536) (hx : x < 65536) (h : mul x x ^^^ mul (a ^^^ b) x ^^^ mul a b = 0) : x = a ∨ x = b := by
  have e : mul (x ^^^ a) (x ^^^ b) = 0 := by
    rw [mul_xor_left, mul_xor_right, mul_xor_right, ← h, mul_xor_left, mul_comm x b]
    ac_rfl
  rcases mul_eq_zero (x_b hx ha) (x_b hx hb) e with q | q
  · exact .inl (xor_zero q)
  · exact .inr (xor_zero q)
/-- there is a root: the half root's number is small -/
theorem two_small {a b i : Nat} (ha : a < 65536) (hb : b < 65536) (h0 : a ^^^ b ≠ 0) (hi : i = npow (a ^^^ b) 65534) : mul (mul a b) (mul i i) < 32768 := by
  have hp := x_b ha hb
  have ib : i < 65536 := hi ▸ npow_b hp _
  have pi : mul (a ^^^ b) i = 1 := by rw [hi]; exact mul_inv hp h0
  have tb := mul_b ha ib
  have e1 : mul (mul a i) (mul a i) = mul (mul a a) (mul i i) := by
    rw [mul_assoc ha ib (mul_b ha ib), ← mul_assoc ib ha ib, mul_comm i a, mul_assoc ha ib ib, ← mul_assoc ha ha (mul_b ib ib)]
  have e2 : mul a i = mul (mul a (a ^^^ b)) (mul i i) := by
    rw [mul_assoc ha hp (mul_b ib ib), ← mul_assoc hp ib ib, pi, mul_one_left ib]
  have e3 : mul (mul a i) (mul a i) ^^^ mul a i = mul (mul a b) (mul i i) := by
    rw [e1, e2, ← mul_xor_left, ← mul_xor_right, show a ^^^ (a ^^^ b) = b by rw [← Nat.xor_assoc, Nat.xor_self, Nat.zero_xor]]
  have e4 := sq_top (mul a i) tb
  have e5 : (mul (mul a i) (mul a i) ^^^ mul a i) >>> 15 = 0 := by rw [shr_xor, e4, Nat.xor_self]
  rw [e3, Nat.shiftRight_eq_div_pow] at e5
  omega
end Go.Proofs.Ytjbaeomjinnlhaa.Nim
