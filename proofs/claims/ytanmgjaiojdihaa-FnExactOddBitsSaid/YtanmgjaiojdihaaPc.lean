/-
  How many bits of a number are 1: by masks and sums of fields, and bit by bit; pure.
-/
namespace Go.Proofs.Ytanmgjaiojdihaa.Pc
theorem and_256 (q b M m : Nat) (hb : b < 256) (hm : m < 256) : (256 * q + b) &&& (256 * M + m) = 256 * (q &&& M) + (b &&& m) := by
  have hb' : b < 2 ^ 8 := hb
  have hm' : m < 2 ^ 8 := hm
  apply Nat.eq_of_testBit_eq
  intro j
  rw [show (256 : Nat) = 2 ^ 8 from rfl, Nat.testBit_and, Nat.testBit_two_pow_mul_add _ hb', Nat.testBit_two_pow_mul_add _ hm', Nat.testBit_two_pow_mul_add _ (Nat.and_lt_two_pow b hm')]
  split <;> simp
def s1 (b : Nat) : Nat := (b / 2 &&& 85) + (b &&& 85)
def s2 (b : Nat) : Nat := (b / 4 &&& 51) + (b &&& 51)
theorem s1_table : (List.range 256).all (fun b => (List.range 2).all fun c => Nat.beq (((b / 2 + 128 * c) &&& 85) + (b &&& 85)) (s1 b) && Nat.ble (s1 b) 255) = true := by decide +kernel
theorem s2_table : (List.range 256).all (fun b => (List.range 4).all fun c => Nat.beq (((b / 4 + 64 * c) &&& 51) + (b &&& 51)) (s2 b) && Nat.ble (s2 b) 255) = true := by decide +kernel
theorem s1_at {b c : Nat} (hb : b < 256) (hc : c < 2) : ((b / 2 + 128 * c) &&& 85) + (b &&& 85) = s1 b ∧ s1 b < 256 := by
  have h := List.all_eq_true.1 (List.all_eq_true.1 s1_table b (List.mem_range.2 hb)) c (List.mem_range.2 hc)
  simp only [Bool.and_eq_true, Nat.ble_eq] at h
  exact ⟨Nat.eq_of_beq_eq_true h.1, by omega⟩
theorem s2_at {b c : Nat} (hb : b < 256) (hc : c < 4) : ((b / 4 + 64 * c) &&& 51) + (b &&& 51) = s2 b ∧ s2 b < 256 := by
  have h := List.all_eq_true.1 (List.all_eq_true.1 s2_table b (List.mem_range.2 hb)) c (List.mem_range.2 hc)
  simp only [Bool.and_eq_true, Nat.ble_eq] at h
  exact ⟨Nat.eq_of_beq_eq_true h.1, by omega⟩
/-- bit by bit -/
def pcf : Nat → Nat → Nat
  | 0, _ => 0
  | f + 1, n => n % 2 + pcf f (n / 2)
def pc8 (b : Nat) : Nat := pcf 8 b
theorem s3_table : (List.range 256).all (fun b => Nat.ble (s2 (s1 b) % 16) 4 && Nat.ble (s2 (s1 b) / 16) 4 && Nat.beq (s2 (s1 b) / 16 + s2 (s1 b) % 16) (pc8 b)) = true := by decide +kernel
theorem s3_at {b : Nat} (hb : b < 256) : s2 (s1 b) % 16 ≤ 4 ∧ s2 (s1 b) / 16 ≤ 4 ∧ s2 (s1 b) / 16 + s2 (s1 b) % 16 = pc8 b := by
  have h := List.all_eq_true.1 s3_table b (List.mem_range.2 hb)
  simp only [Bool.and_eq_true, Nat.ble_eq] at h
  exact ⟨h.1.1, h.1.2, Nat.eq_of_beq_eq_true h.2⟩
def J (a b c d : Nat) : Nat := 256 * (256 * (256 * d + c) + b) + a
theorem J_and (a b c d M m : Nat) (ha : a < 256) (hb : b < 256) (hc : c < 256) (hd : d < 256) (hm : m < 256) :
    J a b c d &&& (256 * (256 * (256 * (256 * M + m) + m) + m) + m) = J (a &&& m) (b &&& m) (c &&& m) (d &&& m) := by
  unfold J
  rw [and_256 _ a _ m ha hm, and_256 _ b _ m hb hm, and_256 _ c _ m hc hm]
  have e := and_256 0 d M m hd hm
  rw [Nat.mul_zero, Nat.zero_add, Nat.zero_and, Nat.mul_zero, Nat.zero_add] at e
  rw [e]
theorem J_add (a b c d a' b' c' d' : Nat) : J a b c d + J a' b' c' d' = J (a + a') (b + b') (c + c') (d + d') := by unfold J; omega
theorem step1 (a b c d : Nat) (ha : a < 256) (hb : b < 256) (hc : c < 256) (hd : d < 256) :
    (J a b c d / 2 &&& 6148914691236517205) + (J a b c d &&& 6148914691236517205) = J (s1 a) (s1 b) (s1 c) (s1 d) := by
  have e : J a b c d / 2 = J (a / 2 + 128 * (b % 2)) (b / 2 + 128 * (c % 2)) (c / 2 + 128 * (d % 2)) (d / 2 + 128 * 0) := by unfold J; omega
  have m : (6148914691236517205 : Nat) = 256 * (256 * (256 * (256 * 1431655765 + 85) + 85) + 85) + 85 := by decide
  rw [e, m, J_and _ _ _ _ _ 85 (by omega) (by omega) (by omega) (by omega) (by omega), J_and _ _ _ _ _ 85 ha hb hc hd (by omega), J_add,
    (s1_at ha (Nat.mod_lt _ (by decide))).1, (s1_at hb (Nat.mod_lt _ (by decide))).1, (s1_at hc (Nat.mod_lt _ (by decide))).1, (s1_at hd (by decide)).1]
theorem step2 (a b c d : Nat) (ha : a < 256) (hb : b < 256) (hc : c < 256) (hd : d < 256) :
    (J a b c d / 4 &&& 3689348814741910323) + (J a b c d &&& 3689348814741910323) = J (s2 a) (s2 b) (s2 c) (s2 d) := by
  have e : J a b c d / 4 = J (a / 4 + 64 * (b % 4)) (b / 4 + 64 * (c % 4)) (c / 4 + 64 * (d % 4)) (d / 4 + 64 * 0) := by unfold J; omega
  have m : (3689348814741910323 : Nat) = 256 * (256 * (256 * (256 * 858993459 + 51) + 51) + 51) + 51 := by decide
  rw [e, m, J_and _ _ _ _ _ 51 (by omega) (by omega) (by omega) (by omega) (by omega), J_and _ _ _ _ _ 51 ha hb hc hd (by omega), J_add,
    (s2_at ha (Nat.mod_lt _ (by decide))).1, (s2_at hb (Nat.mod_lt _ (by decide))).1, (s2_at hc (Nat.mod_lt _ (by decide))).1, (s2_at hd (by decide)).1]
theorem and15 (x : Nat) : x &&& 15 = x % 16 := Nat.and_two_pow_sub_one_eq_mod x 4
theorem step3 (a b c d : Nat) (ha : a < 256) (hb : b < 256) (hc : c < 256) (hd : d < 256) (ha1 : a % 16 ≤ 4 ∧ a / 16 ≤ 4) (hb1 : b % 16 ≤ 4 ∧ b / 16 ≤ 4) (hc1 : c % 16 ≤ 4 ∧ c / 16 ≤ 4) (hd1 : d % 16 ≤ 4 ∧ d / 16 ≤ 4) :
    (J a b c d / 16 + J a b c d) &&& 1085102592571150095 = J (a / 16 + a % 16) (b / 16 + b % 16) (c / 16 + c % 16) (d / 16 + d % 16) := by
  have e : J a b c d / 16 + J a b c d = J (a / 16 + 16 * (b % 16) + a) (b / 16 + 16 * (c % 16) + b) (c / 16 + 16 * (d % 16) + c) (d / 16 + d) := by unfold J; omega
  have m : (1085102592571150095 : Nat) = 256 * (256 * (256 * (256 * 252645135 + 15) + 15) + 15) + 15 := by decide
  rw [e, m, J_and _ _ _ _ _ 15 (by omega) (by omega) (by omega) (by omega) (by omega), and15, and15, and15, and15]
  congr 1 <;> omega
theorem pcf_256 (f q b : Nat) (hb : b < 256) : pcf (f + 8) (256 * q + b) = pc8 b + pcf f q := by
  have e : (256 * q + b) / 2 / 2 / 2 / 2 / 2 / 2 / 2 / 2 = q := by omega
  simp only [pc8, pcf, e]
  omega
theorem pcf_zero : ∀ f, pcf f 0 = 0
  | 0 => rfl
  | f + 1 => by simp [pcf, pcf_zero f]
/-- how many bits are 1 -/
def pc (n : Nat) : Nat := pcf 64 n
theorem pc8_le {b : Nat} (hb : b < 256) : pc8 b ≤ 8 := by have := s3_at hb; omega
theorem swar (x x1 x2 x3 : Nat) (hx : x < 4294967296) (h1 : x1 = (x / 2 &&& 6148914691236517205) + (x &&& 6148914691236517205)) (h2 : x2 = (x1 / 4 &&& 3689348814741910323) + (x1 &&& 3689348814741910323))
    (h3 : x3 = (x2 / 16 + x2) &&& 1085102592571150095) : x1 < 4294967296 ∧ x2 < 4294967296 ∧ x3 ≤ 134744072 ∧
    ((x3 + x3 / 256 + (x3 + x3 / 256) / 65536) + (x3 + x3 / 256 + (x3 + x3 / 256) / 65536) / 4294967296) % 128 = pc x := by
  obtain ⟨a, b, c, d, ha, hb, hc, hd, rfl⟩ : ∃ a b c d, a < 256 ∧ b < 256 ∧ c < 256 ∧ d < 256 ∧ x = J a b c d :=
    ⟨x % 256, x / 256 % 256, x / 65536 % 256, x / 16777216, by omega, by omega, by omega, by omega, by unfold J; omega⟩
  rw [step1 a b c d ha hb hc hd] at h1
  subst h1
  have l1 := (s1_at (c := 0) ha (by decide)).2
  have l2 := (s1_at (c := 0) hb (by decide)).2
  have l3 := (s1_at (c := 0) hc (by decide)).2
  have l4 := (s1_at (c := 0) hd (by decide)).2
  rw [step2 _ _ _ _ l1 l2 l3 l4] at h2
  subst h2
  have k1 := (s2_at (c := 0) l1 (by decide)).2
  have k2 := (s2_at (c := 0) l2 (by decide)).2
  have k3 := (s2_at (c := 0) l3 (by decide)).2
  have k4 := (s2_at (c := 0) l4 (by decide)).2
  have t1 := s3_at ha
  have t2 := s3_at hb
  have t3 := s3_at hc
  have t4 := s3_at hd
  rw [step3 _ _ _ _ k1 k2 k3 k4 ⟨t1.1, t1.2.1⟩ ⟨t2.1, t2.2.1⟩ ⟨t3.1, t3.2.1⟩ ⟨t4.1, t4.2.1⟩, t1.2.2, t2.2.2, t3.2.2, t4.2.2] at h3
  have p1 := pc8_le ha
  have p2 := pc8_le hb
  have p3 := pc8_le hc
  have p4 := pc8_le hd
  have hp : pc (J a b c d) = pc8 a + (pc8 b + (pc8 c + (pc8 d + 0))) := by
    unfold pc J
    rw [pcf_256 56 _ a ha, pcf_256 48 _ b hb, pcf_256 40 _ c hc]
    have := pcf_256 32 0 d hd
    rw [Nat.mul_zero, Nat.zero_add, pcf_zero] at this
    rw [this]
  rw [hp]
  generalize pc8 a = a1 at *
  generalize pc8 b = b1 at *
  generalize pc8 c = c1 at *
  generalize pc8 d = d1 at *
  subst h3
  refine ⟨by unfold J; omega, by unfold J; omega, by unfold J; omega, ?_⟩
  have e0 : J a1 b1 c1 d1 = a1 + 256 * b1 + 65536 * c1 + 16777216 * d1 := by unfold J; omega
  rw [e0]
  have e1 : (a1 + 256 * b1 + 65536 * c1 + 16777216 * d1) / 256 = b1 + 256 * c1 + 65536 * d1 := by clear hx l1 l2 l3 l4 k1 k2 k3 k4 t1 t2 t3 t4 hp; omega
  rw [e1]
  have e2 : (a1 + 256 * b1 + 65536 * c1 + 16777216 * d1 + (b1 + 256 * c1 + 65536 * d1)) / 65536 = c1 + d1 + 256 * d1 := by clear hx l1 l2 l3 l4 k1 k2 k3 k4 t1 t2 t3 t4 hp; omega
  rw [e2]
  have e3 : (a1 + 256 * b1 + 65536 * c1 + 16777216 * d1 + (b1 + 256 * c1 + 65536 * d1) + (c1 + d1 + 256 * d1)) / 4294967296 = 0 := by clear hx l1 l2 l3 l4 k1 k2 k3 k4 t1 t2 t3 t4 hp; omega
  rw [e3]
  clear hx l1 l2 l3 l4 k1 k2 k3 k4 t1 t2 t3 t4 hp
  omega
end Go.Proofs.Ytanmgjaiojdihaa.Pc
