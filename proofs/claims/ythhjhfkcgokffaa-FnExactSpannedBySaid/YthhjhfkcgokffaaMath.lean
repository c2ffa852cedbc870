namespace Go.Proofs.Ythhjhfkcgokffaa.Nim
/-- product of nimbers of k levels -/
def nm : Nat → Nat → Nat → Nat
  | 0, a, b => a &&& b
  | k+1, a, b =>
    let h := 2^k
    let a1 := a >>> h
    let a0 := a % 2^h
    let b1 := b >>> h
    let b0 := b % 2^h
    let p := nm k a1 b1
    ((p ^^^ nm k a1 b0 ^^^ nm k a0 b1) <<< h) ^^^ (nm k a0 b0 ^^^ nm k p (2^(h-1)))

theorem xor_lt {a b n : Nat} (ha : a < 2^n) (hb : b < 2^n) : a ^^^ b < 2^n := Nat.xor_lt_two_pow ha hb

theorem two_pow_succ (k : Nat) : 2^(k+1) = 2^k + 2^k := by rw [Nat.pow_succ]; omega

theorem hi_lt {a k : Nat} (h : a < 2^(2^(k+1))) : a >>> (2^k) < 2^(2^k) := by
  rw [Nat.shiftRight_eq_div_pow]
  rw [two_pow_succ, Nat.pow_add] at h
  exact Nat.div_lt_of_lt_mul h

theorem lo_lt (a k : Nat) : a % 2^(2^k) < 2^(2^k) := Nat.mod_lt _ (Nat.two_pow_pos _)

theorem half_lt (k : Nat) : 2^(2^k - 1) < 2^(2^k) :=
  Nat.pow_lt_pow_right (by omega) (by have := Nat.two_pow_pos k; omega)

theorem join_lt {s t k : Nat} (hs : s < 2^(2^k)) (ht : t < 2^(2^k)) : (s <<< (2^k)) ^^^ t < 2^(2^(k+1)) := by
  apply xor_lt
  · rw [Nat.shiftLeft_eq, two_pow_succ, Nat.pow_add]
    exact Nat.mul_lt_mul_of_pos_right hs (Nat.two_pow_pos _)
  · refine Nat.lt_of_lt_of_le ht (Nat.pow_le_pow_right (by decide) ?_)
    rw [two_pow_succ]; exact Nat.le_add_right _ _

theorem nm_lt (k : Nat) : ∀ {a b : Nat}, a < 2^(2^k) → b < 2^(2^k) → nm k a b < 2^(2^k) := by
  induction k with
  | zero => intro a b ha hb; simp only [nm]; exact Nat.and_lt_two_pow a hb
  | succ k ih =>
    intro a b ha hb
    have a1 := hi_lt ha; have b1 := hi_lt hb
    have a0 := lo_lt a k; have b0 := lo_lt b k
    simp only [nm]
    exact join_lt (xor_lt (xor_lt (ih a1 b1) (ih a1 b0)) (ih a0 b1)) (xor_lt (ih a0 b0) (ih (ih a1 b1) (half_lt k)))

theorem shr_xor (a b h : Nat) : (a ^^^ b) >>> h = (a >>> h) ^^^ (b >>> h) := by
  apply Nat.eq_of_testBit_eq; intro i; simp
theorem shl_xor (a b h : Nat) : (a ^^^ b) <<< h = (a <<< h) ^^^ (b <<< h) := by
  apply Nat.eq_of_testBit_eq; intro i; simp; by_cases hh : h ≤ i <;> simp [hh]
theorem mod_xor (a b h : Nat) : (a ^^^ b) % 2^h = (a % 2^h) ^^^ (b % 2^h) := by
  apply Nat.eq_of_testBit_eq; intro i; simp; by_cases hh : i < h <;> simp [hh]

theorem nm_xor_left (k : Nat) : ∀ (a a' b : Nat), nm k (a ^^^ a') b = nm k a b ^^^ nm k a' b := by
  induction k with
  | zero => intro a a' b; simp only [nm]; rw [Nat.and_xor_distrib_right]
  | succ k ih =>
    intro a a' b
    simp only [nm, shr_xor, mod_xor, ih, shl_xor]
    ac_rfl

theorem nm_comm (k : Nat) : ∀ (a b : Nat), nm k a b = nm k b a := by
  induction k with
  | zero => intro a b; simp only [nm]; exact Nat.and_comm _ _
  | succ k ih =>
    intro a b
    simp only [nm]
    rw [ih (a >>> 2^k) (b >>> 2^k), ih (a >>> 2^k) (b % 2^2^k), ih (a % 2^2^k) (b >>> 2^k), ih (a % 2^2^k) (b % 2^2^k)]
    ac_rfl

theorem nm_xor_right (k : Nat) (a b b' : Nat) : nm k a (b ^^^ b') = nm k a b ^^^ nm k a b' := by
  rw [nm_comm, nm_xor_left, nm_comm k b, nm_comm k b']

theorem nm_zero_left (k : Nat) : ∀ b, nm k 0 b = 0 := by
  induction k with
  | zero => intro b; simp [nm]
  | succ k ih => intro b; simp [nm, ih]
theorem nm_zero_right (k b : Nat) : nm k b 0 = 0 := by rw [nm_comm, nm_zero_left]

theorem split_eq (b h : Nat) : ((b >>> h) <<< h) ^^^ (b % 2^h) = b := by
  apply Nat.eq_of_testBit_eq; intro i; simp
  by_cases hh : h ≤ i
  · simp [hh, Nat.not_lt.2 hh]
  · simp [hh, Nat.not_le.1 hh]

theorem nm_one_left (k : Nat) : ∀ {b}, b < 2^(2^k) → nm k 1 b = b := by
  induction k with
  | zero => intro b hb; simp only [nm]; have : b = 0 ∨ b = 1 := by simp at hb; omega
            rcases this with rfl | rfl <;> rfl
  | succ k ih =>
    intro b hb
    have e1 : 1 >>> 2^k = 0 := by rw [Nat.shiftRight_eq_div_pow]; exact Nat.div_eq_of_lt (Nat.one_lt_two_pow (by have := Nat.two_pow_pos k; omega))
    have e0 : 1 % 2^2^k = 1 := Nat.mod_eq_of_lt (Nat.one_lt_two_pow (by have := Nat.two_pow_pos k; omega))
    simp only [nm, e1, e0, nm_zero_left, ih (hi_lt hb), ih (lo_lt b k), Nat.zero_xor, Nat.xor_zero]
    exact split_eq b _

theorem nm_lift (k : Nat) {a b : Nat} (ha : a < 2^(2^k)) (hb : b < 2^(2^k)) : nm (k+1) a b = nm k a b := by
  have e : ∀ x, x < 2^(2^k) → x >>> 2^k = 0 := fun x hx => by rw [Nat.shiftRight_eq_div_pow]; exact Nat.div_eq_of_lt hx
  simp [nm, e a ha, e b hb, Nat.mod_eq_of_lt ha, Nat.mod_eq_of_lt hb, nm_zero_left, nm_zero_right]

/-- Karatsuba's middle part -/
theorem nm_mid (k a1 a0 b1 b0 : Nat) : nm k (a1 ^^^ a0) (b1 ^^^ b0) ^^^ nm k a0 b0 = nm k a1 b1 ^^^ nm k a1 b0 ^^^ nm k a0 b1 := by
  rw [nm_xor_left, nm_xor_right, nm_xor_right]
  have : ∀ p q r u : Nat, (p ^^^ q ^^^ (r ^^^ u)) ^^^ u = p ^^^ q ^^^ r := by
    intro p q r u; rw [Nat.xor_assoc, Nat.xor_assoc r, Nat.xor_self, Nat.xor_zero]
  exact this _ _ _ _

theorem nm_lift4 (k : Nat) (hk : k ≤ 4) {a b : Nat} (ha : a < 2^(2^k)) (hb : b < 2^(2^k)) : nm 4 a b = nm k a b := by
  have up : ∀ {x j j' : Nat}, j ≤ j' → x < 2^(2^j) → x < 2^(2^j') := fun hj hx =>
    Nat.lt_of_lt_of_le hx (Nat.pow_le_pow_right (by decide) (Nat.pow_le_pow_right (by decide) hj))
  have step : ∀ d, ∀ k, k + d = 4 → a < 2^(2^k) → b < 2^(2^k) → nm 4 a b = nm k a b := by
    intro d
    induction d with
    | zero => intro k e _ _; have : k = 4 := by omega
              subst this; rfl
    | succ d ih => intro k e h1 h2; rw [ih (k+1) (by omega) (up (by omega) h1) (up (by omega) h2), nm_lift k h1 h2]
  exact step (4 - k) k (by omega) ha hb

/-- product of nimbers -/
def mul (a b : Nat) : Nat := nm 4 a b

theorem shl_or (s t h : Nat) (ht : t < 2^h) : (s * 2^h) ||| t = (s <<< h) ^^^ t := by
  rw [← Nat.shiftLeft_eq]
  apply Nat.eq_of_testBit_eq; intro i
  simp only [Nat.testBit_or, Nat.testBit_xor, Nat.testBit_shiftLeft]
  by_cases hh : h ≤ i
  · rw [Nat.testBit_lt_two_pow (Nat.lt_of_lt_of_le ht (Nat.pow_le_pow_right (by decide) hh))]; simp
  · simp [hh]

/-- the code's step: one level, Karatsuba's way -/
theorem mul_step (k : Nat) (hk : k + 1 ≤ 4) (h : Nat) (hh : h = 2^k) (D : Nat) (hD : D = 2^h) (a b : Nat) (ha : a < D * D) (hb : b < D * D) (c : Nat) (hc : c = 2^(h-1)) :
    ((mul ((a / D) ^^^ (a % D)) ((b / D) ^^^ (b % D)) ^^^ mul (a % D) (b % D)) * D) ||| (mul (a % D) (b % D) ^^^ mul (mul (a / D) (b / D)) c) = mul a b := by
  subst hh hD hc
  have e : 2^2^k * 2^2^k = 2^(2^(k+1)) := by rw [two_pow_succ, Nat.pow_add]
  rw [e] at ha hb
  have a1 : a / 2^2^k < 2^2^k := by rw [← Nat.shiftRight_eq_div_pow]; exact hi_lt ha
  have b1 : b / 2^2^k < 2^2^k := by rw [← Nat.shiftRight_eq_div_pow]; exact hi_lt hb
  have a0 : a % 2^2^k < 2^2^k := lo_lt a k
  have b0 : b % 2^2^k < 2^2^k := lo_lt b k
  have lk : ∀ {x y : Nat}, x < 2^2^k → y < 2^2^k → mul x y = nm k x y := fun hx hy => nm_lift4 k (by omega) hx hy
  have p1 : nm k (a / 2^2^k) (b / 2^2^k) < 2^2^k := nm_lt k a1 b1
  rw [lk a1 b1, lk a0 b0, lk (xor_lt a1 a0) (xor_lt b1 b0), lk p1 (half_lt k), nm_mid]
  rw [shl_or _ _ _ (xor_lt (nm_lt k a0 b0) (nm_lt k p1 (half_lt k)))]
  show _ = nm 4 a b
  rw [nm_lift4 (k+1) hk ha hb]
  simp only [nm, Nat.shiftRight_eq_div_pow]

/-- the model's step -/
theorem mul_step' (k : Nat) (hk : k + 1 ≤ 4) (h : Nat) (hh : h = 2^k) (D : Nat) (hD : D = 2^h) (a b : Nat) (ha : a < D * D) (hb : b < D * D) (c : Nat) (hc : c = 2^(h-1)) :
    D * (mul (a / D) (b / D) ^^^ mul (a / D) (b % D) ^^^ mul (a % D) (b / D)) + (mul (a % D) (b % D) ^^^ mul (mul (a / D) (b / D)) c) = mul a b := by
  subst hh hD hc
  have e : 2^2^k * 2^2^k = 2^(2^(k+1)) := by rw [two_pow_succ, Nat.pow_add]
  rw [e] at ha hb
  have a1 : a / 2^2^k < 2^2^k := by rw [← Nat.shiftRight_eq_div_pow]; exact hi_lt ha
  have b1 : b / 2^2^k < 2^2^k := by rw [← Nat.shiftRight_eq_div_pow]; exact hi_lt hb
  have a0 : a % 2^2^k < 2^2^k := lo_lt a k
  have b0 : b % 2^2^k < 2^2^k := lo_lt b k
  have lk : ∀ {x y : Nat}, x < 2^2^k → y < 2^2^k → mul x y = nm k x y := fun hx hy => nm_lift4 k (by omega) hx hy
  have p1 : nm k (a / 2^2^k) (b / 2^2^k) < 2^2^k := nm_lt k a1 b1
  rw [lk a1 b1, lk a0 b0, lk a1 b0, lk a0 b1, lk p1 (half_lt k)]
  rw [Nat.two_pow_add_eq_or_of_lt (xor_lt (nm_lt k a0 b0) (nm_lt k p1 (half_lt k))), Nat.mul_comm, shl_or _ _ _ (xor_lt (nm_lt k a0 b0) (nm_lt k p1 (half_lt k)))]
  show _ = nm 4 a b
  rw [nm_lift4 (k+1) hk ha hb]
  simp only [nm, Nat.shiftRight_eq_div_pow]

theorem mul_lt (j : Nat) (hj : j ≤ 4) (B : Nat) (hB : B = 2^2^j) {a b : Nat} (ha : a < B) (hb : b < B) : mul a b < B := by
  subst hB; show nm 4 a b < _; rw [nm_lift4 j hj ha hb]; exact nm_lt j ha hb

theorem mul_small {a b : Nat} (ha : a < 65536) (hb : b < 65536) (h : a < 2 ∨ b < 2) : mul a b = a * b := by
  have one : ∀ {b}, b < 65536 → mul 1 b = b := fun hb => nm_one_left 4 hb
  have zero : ∀ b, mul 0 b = 0 := fun b => nm_zero_left 4 b
  have comm : ∀ x y, mul x y = mul y x := fun x y => nm_comm 4 x y
  rcases h with h | h
  · have : a = 0 ∨ a = 1 := by omega
    rcases this with rfl | rfl
    · rw [zero, Nat.zero_mul]
    · rw [one hb, Nat.one_mul]
  · have : b = 0 ∨ b = 1 := by omega
    rcases this with rfl | rfl
    · rw [comm, zero, Nat.mul_zero]
    · rw [comm, one ha, Nat.mul_one]
end Go.Proofs.Ythhjhfkcgokffaa.Nim
