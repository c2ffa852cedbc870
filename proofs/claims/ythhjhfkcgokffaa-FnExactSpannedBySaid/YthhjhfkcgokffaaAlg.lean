/-
  The field: products are associative, squares linear, each nimber but 0 has an inverse, half roots by a linear map.
-/
import Derived.Test.YthhjhfkcgokffaaFast
namespace Go.Proofs.Ythhjhfkcgokffaa.Nim

/-! ### the field: by linear maps and their values at the powers of 2 -/
theorem lin_ext (F G : Nat → Nat) (hF : ∀ a b, a < 65536 → b < 65536 → F (a ^^^ b) = F a ^^^ F b) (hG : ∀ a b, a < 65536 → b < 65536 → G (a ^^^ b) = G a ^^^ G b)
    (hz : F 0 = G 0) (hb : ∀ i, i < 16 → F (2^i) = G (2^i)) : ∀ a, a < 65536 → F a = G a := by
  have key : ∀ n, n ≤ 16 → ∀ a, a < 2^n → F a = G a := by
    intro n
    induction n with
    | zero => intro _ a ha; have : a = 0 := by simpa using ha
              rw [this]; exact hz
    | succ n ih =>
      intro hn a ha
      by_cases h : a < 2^n
      · exact ih (by omega) a h
      · have p16 : 2^(n+1) ≤ 2^16 := Nat.pow_le_pow_right (by decide) hn
        have pn : 2^n < 2^(n+1) := Nat.pow_lt_pow_right (by decide) (Nat.lt_succ_self n)
        have e : (a ^^^ 2^n) ^^^ 2^n = a := by rw [Nat.xor_assoc, Nat.xor_self, Nat.xor_zero]
        have hl : a ^^^ 2^n < 2^n := by
          apply Nat.lt_pow_two_of_testBit
          intro i hi
          rw [Nat.testBit_xor]
          by_cases e2 : i = n
          · subst e2
            rw [Nat.testBit_two_pow_self]
            have : a.testBit i = true := by
              rw [Nat.testBit_eq_decide_div_mod_eq]
              have h1 : a / 2^i < 2 := by rw [Nat.div_lt_iff_lt_mul (Nat.two_pow_pos i)]; rw [Nat.pow_succ] at ha; omega
              have h2 : 1 ≤ a / 2^i := by rw [Nat.le_div_iff_mul_le (Nat.two_pow_pos i)]; omega
              simp; omega
            rw [this]; rfl
          · rw [Nat.testBit_lt_two_pow (Nat.lt_of_lt_of_le ha (Nat.pow_le_pow_right (by decide) (by omega))), Nat.testBit_two_pow_of_ne (by omega)]; rfl
        have hlt : a ^^^ 2^n < 65536 := by have : (2:Nat)^16 = 65536 := rfl; omega
        have hp : 2^n < 65536 := by have : (2:Nat)^16 = 65536 := rfl; omega
        rw [← e, hF _ _ hlt hp, hG _ _ hlt hp, ih (by omega) _ hl, hb n (by omega)]
  exact fun a ha => key 16 (by decide) a ha
theorem mul_xor_left (a a' b : Nat) : mul (a ^^^ a') b = mul a b ^^^ mul a' b := nm_xor_left 4 a a' b
theorem mul_xor_right (a b b' : Nat) : mul a (b ^^^ b') = mul a b ^^^ mul a b' := nm_xor_right 4 a b b'
theorem mul_comm (a b : Nat) : mul a b = mul b a := nm_comm 4 a b
theorem mul_zero_left (b : Nat) : mul 0 b = 0 := nm_zero_left 4 b
theorem mul_zero_right (b : Nat) : mul b 0 = 0 := nm_zero_right 4 b
theorem mul_one_left {b : Nat} (hb : b < 65536) : mul 1 b = b := nm_one_left 4 hb
theorem mul_b {a b : Nat} (ha : a < 65536) (hb : b < 65536) : mul a b < 65536 := mul_lt 4 (by decide) 65536 rfl ha hb
theorem x_b {a b : Nat} (ha : a < 65536) (hb : b < 65536) : a ^^^ b < 65536 := Nat.xor_lt_two_pow (n := 16) ha hb
theorem pow_b {i : Nat} (h : i < 16) : 2^i < 65536 := Nat.pow_lt_pow_right (a := 2) (by decide) h
def all16 (p : Nat → Bool) : Bool := (List.range 16).all p
theorem all16_at {p : Nat → Bool} (h : all16 p = true) (i : Nat) (hi : i < 16) : p i = true := List.all_eq_true.1 h i (List.mem_range.2 hi)
theorem assoc_table : all16 (fun i => all16 (fun j => all16 (fun k => Nat.beq (fm 4 (fm 4 (2^i) (2^j)) (2^k)) (fm 4 (2^i) (fm 4 (2^j) (2^k)))))) = true := by decide +kernel
theorem fm_b (a b : Nat) (ha : a < 65536) (hb : b < 65536) : fm 4 a b < 65536 := by rw [fm_mul a b ha hb]; exact mul_b ha hb
theorem mul_assoc {a b c : Nat} (ha : a < 65536) (hb : b < 65536) (hc : c < 65536) : mul (mul a b) c = mul a (mul b c) := by
  have s1 : ∀ i, i < 16 → ∀ j, j < 16 → ∀ c, c < 65536 → mul (mul (2^i) (2^j)) c = mul (2^i) (mul (2^j) c) := by
    intro i hi j hj
    refine lin_ext _ _ (fun x y _ _ => mul_xor_right _ _ _) (fun x y _ _ => by rw [mul_xor_right, mul_xor_right]) (by rw [mul_zero_right, mul_zero_right, mul_zero_right]) ?_
    intro k hk
    have h := all16_at (all16_at (all16_at assoc_table i hi) j hj) k hk
    have h2 := Nat.eq_of_beq_eq_true h
    have pi := pow_b hi; have pj := pow_b hj; have pk := pow_b hk
    rw [fm_mul _ _ (fm_b _ _ pi pj) pk, fm_mul _ _ pi pj, fm_mul _ _ pi (fm_b _ _ pj pk), fm_mul _ _ pj pk] at h2
    exact h2
  have s2 : ∀ i, i < 16 → ∀ c, c < 65536 → ∀ b, b < 65536 → mul (mul (2^i) b) c = mul (2^i) (mul b c) := by
    intro i hi c hc
    refine lin_ext _ _ (fun x y _ _ => by rw [mul_xor_right, mul_xor_left]) (fun x y _ _ => by rw [mul_xor_left, mul_xor_right]) (by rw [mul_zero_right, mul_zero_left, mul_zero_right]) ?_
    intro j hj
    exact s1 i hi j hj c hc
  have s3 : ∀ a, a < 65536 → mul (mul a b) c = mul a (mul b c) := by
    refine lin_ext _ _ (fun x y _ _ => by rw [mul_xor_left, mul_xor_left]) (fun x y _ _ => by rw [mul_xor_left]) (by rw [mul_zero_left, mul_zero_left, mul_zero_left]) ?_
    intro i hi
    exact s2 i hi c hc b hb
  exact s3 a ha

/-- a multiplied with itself n times -/
def npow (a : Nat) : Nat → Nat
  | 0 => 1
  | n + 1 => mul (npow a n) a
theorem npow_b {a : Nat} (ha : a < 65536) (n : Nat) : npow a n < 65536 := by
  induction n with
  | zero => show 1 < 65536; decide
  | succ n ih => exact mul_b ih ha
theorem npow_add {a : Nat} (ha : a < 65536) (m n : Nat) : npow a (m + n) = mul (npow a m) (npow a n) := by
  induction n with
  | zero => rw [Nat.add_zero, npow, mul_comm, mul_one_left (npow_b ha m)]
  | succ n ih =>
    rw [← Nat.add_assoc, npow, ih, npow, mul_assoc (npow_b ha m) (npow_b ha n) ha]
theorem npow_mul {a : Nat} (ha : a < 65536) (m n : Nat) : npow a (m * n) = npow (npow a m) n := by
  induction n with
  | zero => rfl
  | succ n ih => rw [Nat.mul_succ, npow_add ha, ih, npow]
theorem npow_one {a : Nat} (ha : a < 65536) : npow a 1 = a := by
  show mul 1 a = a
  exact mul_one_left ha
theorem npow_two {a : Nat} (ha : a < 65536) : npow a 2 = mul a a := by
  show mul (mul 1 a) a = mul a a
  rw [mul_one_left ha]
/-- squares are linear -/
theorem sq_xor (a b : Nat) : mul (a ^^^ b) (a ^^^ b) = mul a a ^^^ mul b b := by
  rw [mul_xor_left, mul_xor_right, mul_xor_right, mul_comm b a]
  have : ∀ p q r : Nat, p ^^^ q ^^^ (q ^^^ r) = p ^^^ r := by
    intro p q r; rw [Nat.xor_assoc, ← Nat.xor_assoc q, Nat.xor_self, Nat.zero_xor]
  exact this _ _ _
/-- n squares one behind the other -/
def sqs : Nat → Nat → Nat
  | 0, a => a
  | n + 1, a => sqs n (mul a a)
theorem sqs_b (n : Nat) : ∀ a, a < 65536 → sqs n a < 65536 := by
  induction n with
  | zero => exact fun a h => h
  | succ n ih => exact fun a h => ih _ (mul_b h h)
theorem sqs_xor (n : Nat) : ∀ a b, sqs n (a ^^^ b) = sqs n a ^^^ sqs n b := by
  induction n with
  | zero => exact fun _ _ => rfl
  | succ n ih => intro a b; show sqs n _ = sqs n _ ^^^ sqs n _; rw [sq_xor, ih]
theorem sqs_pow (n : Nat) : ∀ a, a < 65536 → sqs n a = npow a (2^n) := by
  induction n with
  | zero => exact fun a h => (npow_one h).symm
  | succ n ih =>
    intro a h
    show sqs n (mul a a) = _
    rw [ih _ (mul_b h h), ← npow_two h, ← npow_mul h, Nat.pow_succ, Nat.mul_comm]
def fsqs : Nat → Nat → Nat
  | 0, a => a
  | n + 1, a => fsqs n (fm 4 a a)
theorem fsqs_eq (n : Nat) : ∀ a, a < 65536 → fsqs n a = sqs n a := by
  induction n with
  | zero => exact fun _ _ => rfl
  | succ n ih => intro a h; show fsqs n (fm 4 a a) = sqs n (mul a a); rw [fm_mul a a h h]; exact ih _ (mul_b h h)
theorem frob_table : all16 (fun i => Nat.beq (fsqs 16 (2^i)) (2^i)) = true := by decide +kernel
theorem sqs16 : ∀ a, a < 65536 → sqs 16 a = a := by
  refine lin_ext _ _ (fun x y _ _ => sqs_xor 16 x y) (fun x y _ _ => rfl) (by decide +kernel) ?_
  intro i hi
  have h := Nat.eq_of_beq_eq_true (all16_at frob_table i hi)
  rw [fsqs_eq 16 _ (pow_b hi)] at h
  exact h
theorem npow_65536 {a : Nat} (ha : a < 65536) : npow a 65536 = a := by
  have := sqs_pow 16 a ha
  rw [sqs16 a ha] at this
  exact this.symm
/-- a linear map by its values at the powers of 2 -/
def lin : List Nat → Nat → Nat
  | [], _ => 0
  | m :: ms, a => (bif Nat.beq (a % 2) 1 then m else 0) ^^^ lin ms (a / 2)
theorem xor_mod2 (a b : Nat) : (a ^^^ b) % 2 = (a % 2) ^^^ (b % 2) := mod_xor a b 1
theorem xor_div2 (a b : Nat) : (a ^^^ b) / 2 = (a / 2) ^^^ (b / 2) := by
  have := shr_xor a b 1
  simpa [Nat.shiftRight_eq_div_pow] using this
theorem lin_xor (ms : List Nat) : ∀ a b, lin ms (a ^^^ b) = lin ms a ^^^ lin ms b := by
  induction ms with
  | nil => intro a b; simp [lin]
  | cons m ms ih =>
    intro a b
    have bit : ∀ x y : Nat, x < 2 → y < 2 → (bif Nat.beq (x ^^^ y) 1 then m else 0) = (bif Nat.beq x 1 then m else 0) ^^^ (bif Nat.beq y 1 then m else 0) := by
      intro x y hx hy
      have : x = 0 ∨ x = 1 := by omega
      have : y = 0 ∨ y = 1 := by omega
      have b0 : (bif Nat.beq 0 1 then m else 0) = 0 := rfl
      have b1 : (bif Nat.beq 1 1 then m else 0) = m := rfl
      rcases ‹x = 0 ∨ x = 1› with rfl | rfl <;> rcases ‹y = 0 ∨ y = 1› with rfl | rfl <;> simp only [Nat.xor_self, Nat.xor_zero, Nat.zero_xor, b0, b1]
    simp only [lin]
    rw [xor_mod2, xor_div2, bit _ _ (Nat.mod_lt _ (by decide)) (Nat.mod_lt _ (by decide)), ih]
    ac_rfl
theorem lin_zero (ms : List Nat) : lin ms 0 = 0 := by
  induction ms with
  | nil => rfl
  | cons m ms ih =>
    show (bif Nat.beq (0 % 2) 1 then m else 0) ^^^ lin ms (0 / 2) = 0
    rw [show (0 : Nat) / 2 = 0 from rfl, ih, Nat.xor_zero]; rfl
def halfMap : List Nat := [2, 4, 10, 16, 42, 76, 180, 256, 692, 1234, 2892, 4230, 10888, 19510, 46384, 0]
/-- the even nimber whose sum with its square is a (where there is one) -/
def half (a : Nat) : Nat := lin halfMap a
def even (a : Nat) : Nat := (a >>> 1) <<< 1
theorem even_xor (a b : Nat) : even (a ^^^ b) = even a ^^^ even b := by unfold even; rw [shr_xor, shl_xor]
theorem half_table : all16 (fun i => Nat.beq (lin halfMap (fm 4 (2^i) (2^i) ^^^ 2^i)) (even (2^i))) = true := by decide +kernel
theorem half_of : ∀ e, e < 65536 → half (mul e e ^^^ e) = even e := by
  refine lin_ext _ _ (fun a b _ _ => ?_) (fun a b _ _ => even_xor a b) rfl ?_
  · unfold half
    rw [sq_xor, ← lin_xor]
    congr 1; ac_rfl
  · intro i hi
    have h := Nat.eq_of_beq_eq_true (all16_at half_table i hi)
    rw [fm_mul _ _ (pow_b hi) (pow_b hi)] at h
    exact h
theorem idem {e : Nat} (he : e < 65536) (h : mul e e = e) : e < 2 := by
  have h1 := half_of e he
  rw [h, Nat.xor_self, show half 0 = 0 from lin_zero _] at h1
  unfold even at h1
  rw [Nat.shiftLeft_eq, Nat.shiftRight_eq_div_pow] at h1
  omega
theorem npow_65535 {x : Nat} (hx : x < 65536) (h0 : x ≠ 0) : npow x 65535 = 1 := by
  have hb := npow_b hx 65535
  have h2 : mul (npow x 65535) (npow x 65535) = npow x 65535 := by
    rw [← npow_add hx, show 65535 + 65535 = 65536 + 65534 from rfl, npow_add hx, npow_65536 hx, mul_comm, show 65535 = 65534 + 1 from rfl]; rfl
  have h3 := idem hb h2
  have h4 : npow x 65535 ≠ 0 := by
    intro e
    apply h0
    have := npow_65536 hx
    rw [show 65536 = 65535 + 1 from rfl, npow, e, mul_zero_left] at this
    exact this.symm
  omega
theorem mul_inv {x : Nat} (hx : x < 65536) (h0 : x ≠ 0) : mul x (npow x 65534) = 1 := by
  rw [mul_comm, ← npow_65535 hx h0]; rfl
theorem mul_eq_zero {x y : Nat} (hx : x < 65536) (hy : y < 65536) (h : mul x y = 0) : x = 0 ∨ y = 0 := by
  by_cases h0 : x = 0
  · exact Or.inl h0
  · right
    have h1 : mul (npow x 65534) (mul x y) = y := by
      rw [← mul_assoc (npow_b hx _) hx hy, mul_comm (npow x 65534) x, mul_inv hx h0, mul_one_left hy]
    rw [h, mul_zero_right] at h1
    exact h1.symm
end Go.Proofs.Ythhjhfkcgokffaa.Nim
