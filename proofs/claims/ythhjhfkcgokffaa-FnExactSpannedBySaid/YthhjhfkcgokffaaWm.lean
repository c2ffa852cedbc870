/-
  Words of nimbers as lists: what the functions of chapter 6 answer (no program).
-/
import Derived.Test.YthhjhfkcgokffaaPvN
namespace Go.Proofs.Ythhjhfkcgokffaa
set_option linter.unusedVariables false
set_option linter.unusedSimpArgs false
open Go.ChangeShapes Go.WideShapes Go.ChangeAt Go.RowKit

theorem pwl_np : ∀ n (o a : Nat), o < 65536 → a < 65536 → pwl o a n = Nim.mul o (Nim.npow a n) := by
  intro n
  induction n using Nat.strongRecOn with
  | ind n ih =>
    intro o a ho ha
    by_cases h0 : n = 0
    · subst h0; rw [pwl_zero]; rw [Nim.npow, Nim.mul_comm, Nim.mul_one_left ho]
    · have hh := Nim.mul_b ha ha
      have hsq : Nim.npow (Nim.mul a a) (n / 2) = Nim.npow a (2 * (n / 2)) := (Nim.npow_mul ha 2 (n / 2)).symm ▸ by rw [Nim.npow_two ha]
      by_cases hodd : n % 2 = 1
      · rw [pwl_odd _ _ _ h0 hodd, ih (n / 2) (by omega) _ _ (Nim.mul_b ho ha) hh, hsq, Nim.mul_assoc ho ha (Nim.npow_b ha _)]
        congr 1
        have e := Nim.npow_add ha 1 (2 * (n / 2))
        rw [Nim.npow_one ha] at e
        rw [← e]; congr 1; omega
      · rw [pwl_even _ _ _ h0 hodd, ih (n / 2) (by omega) _ _ ho hh, hsq]
        congr 2; omega
theorem pwI_nat (a n : Nat) (ha : a < 65536) : pwI 1 (a : Int) (n : Int) = ((Nim.npow a n : Nat) : Int) := by
  show ((pwl 1 a n : Nat) : Int) = _
  rw [pwl_np n 1 a (by decide) ha, Nim.mul_one_left (Nim.npow_b ha _)]
theorem mulI_comm (x y : Int) : mulI x y = mulI y x := by unfold mulI; rw [Nim.mul_comm]
theorem xorI_self (x : Int) : xorI x x = 0 := by unfold xorI; simp
theorem invP_nat (a : Nat) (ha : a < 65536) : invP (a : Int) = ((Nim.npow a 65534 : Nat) : Int) := by
  rw [← invP_eq]
  exact pwI_nat a 65534 ha
theorem mul_inv_cancel {x b : Int} (x0 : 0 ≤ x) (x1 : x < 65536) (b0 : 0 ≤ b) (b1 : b < 65536) (hb : b ≠ 0) : mulI (mulI x (invP b)) b = x := by
  obtain ⟨X, rfl⟩ : ∃ X : Nat, x = X := ⟨x.toNat, by omega⟩
  obtain ⟨B, rfl⟩ : ∃ B : Nat, b = B := ⟨b.toNat, by omega⟩
  have hB : B < 65536 := by omega
  have hX : X < 65536 := by omega
  have h0 : B ≠ 0 := by omega
  rw [invP_nat B hB]
  have hi := Nim.mul_inv hB h0
  have hib := Nim.npow_b hB 65534
  generalize Nim.npow B 65534 = i at hi hib
  rw [mulI_nat, mulI_nat, Nim.mul_assoc hX hib hB, Nim.mul_comm i B, hi, Nim.mul_comm X 1, Nim.mul_one_left hX]
theorem mulI_zero (x : Int) : mulI x 0 = 0 := by unfold mulI; rw [show (0 : Int).toNat = 0 from rfl, Nim.mul_zero_right]; rfl
theorem zero_mulI (x : Int) : mulI 0 x = 0 := by rw [mulI_comm, mulI_zero]
theorem mulI_ne {x y : Int} (x0 : 0 ≤ x) (x1 : x < 65536) (y0 : 0 ≤ y) (y1 : y < 65536) (hx : x ≠ 0) (hy : y ≠ 0) : mulI x y ≠ 0 := by
  intro h
  unfold mulI at h
  rcases Nim.mul_eq_zero (x := x.toNat) (y := y.toNat) (by omega) (by omega) (by omega) with e | e <;> omega
theorem invP_ne {b : Int} (b0 : 0 ≤ b) (b1 : b < 65536) (hb : b ≠ 0) : invP b ≠ 0 := by
  intro h
  have e := mul_inv_cancel (x := 1) (by omega) (by omega) b0 b1 hb
  rw [h, mulI_zero, zero_mulI] at e
  omega

/-- how many of the first n places are told -/
def cnt (p : Nat → Bool) : Nat → Nat
  | 0 => 0
  | n + 1 => cnt p n + (if p n then 1 else 0)
theorem cnt_le (p : Nat → Bool) : ∀ n, cnt p n ≤ n
  | 0 => Nat.le_refl _
  | n + 1 => by
    unfold cnt
    have := cnt_le p n
    split <;> omega
theorem cnt_yes {p : Nat → Bool} {n : Nat} (h : p n = true) : cnt p (n + 1) = cnt p n + 1 := by rw [cnt, if_pos h]
theorem cnt_no {p : Nat → Bool} {n : Nat} (h : p n = false) : cnt p (n + 1) = cnt p n := by rw [cnt, if_neg (by rw [h]; decide)]; rfl
def nz (zs : List Int) (i : Nat) : Bool := zs.getD i 0 != 0
def df (xs ys : List Int) (i : Nat) : Bool := xs.getD i 0 != ys.getD i 0
/-- how many of the nimbers are not 0; in how many two words differ -/
def wtN (zs : List Int) : Nat := cnt (nz zs) zs.length
def apN (xs ys : List Int) : Nat := cnt (df xs ys) xs.length
theorem wtN_le (zs : List Int) : wtN zs ≤ zs.length := cnt_le _ _
theorem apN_le (xs ys : List Int) : apN xs ys ≤ xs.length := cnt_le _ _
theorem df_comm (xs ys : List Int) (i : Nat) : df xs ys i = df ys xs i := by
  unfold df
  rw [Bool.eq_iff_iff, bne_iff_ne, bne_iff_ne]
  exact ⟨Ne.symm, Ne.symm⟩
theorem cnt_congr {p q : Nat → Bool} : ∀ n, (∀ i, i < n → p i = q i) → cnt p n = cnt q n
  | 0, _ => rfl
  | n + 1, h => by unfold cnt; rw [cnt_congr n (fun i hi => h i (by omega)), h n (by omega)]
theorem apN_comm {xs ys : List Int} (h : xs.length = ys.length) : apN xs ys = apN ys xs := by
  unfold apN; rw [h]; exact cnt_congr _ fun i _ => df_comm xs ys i
/-- the code of two words -/
def twoC (xs ys : List Int) : Int := if xs.length = ys.length then (if xs.length ≤ 7 then 0 else 3) else 2
def oneC (zs : List Int) : Int := if zs.length ≤ 7 then 0 else 3
theorem twoC_ok {xs ys : List Int} (h : xs.length = ys.length) (h7 : xs.length ≤ 7) : twoC xs ys = 0 := by unfold twoC; rw [if_pos h, if_pos h7]
theorem twoC_long {xs ys : List Int} (h : xs.length = ys.length) (h7 : ¬ xs.length ≤ 7) : twoC xs ys = 3 := by unfold twoC; rw [if_pos h, if_neg h7]
theorem twoC_ne {xs ys : List Int} (h : ¬ xs.length = ys.length) : twoC xs ys = 2 := by unfold twoC; rw [if_neg h]
theorem twoC_dec (xs ys : List Int) : twoC xs ys = 0 ∨ twoC xs ys = 2 ∨ twoC xs ys = 3 := by
  unfold twoC; split
  · split
    · exact .inl rfl
    · exact .inr (.inr rfl)
  · exact .inr (.inl rfl)
theorem twoC_zero {xs ys : List Int} (h : twoC xs ys = 0) : xs.length = ys.length ∧ xs.length ≤ 7 := by
  unfold twoC at h
  split at h
  · rename_i h1
    split at h
    · rename_i h2; exact ⟨h1, h2⟩
    · omega
  · omega
def apI (xs ys : List Int) : Int := if twoC xs ys = 0 then (apN xs ys : Int) else 0
theorem apI_yes {xs ys : List Int} (h : twoC xs ys = 0) : apI xs ys = (apN xs ys : Int) := by unfold apI; rw [if_pos h]
theorem apI_no {xs ys : List Int} (h : ¬ twoC xs ys = 0) : apI xs ys = 0 := by unfold apI; rw [if_neg h]
def plusK2 (xs ys : List Int) (i : Nat) : Int := xorI (xs.getD i 0) (ys.getD i 0)
def wplus (xs ys : List Int) : List Int := tab xs.length (plusK2 xs ys)
def plusWA (xs ys : List Int) : List Int := if twoC xs ys = 0 then wplus xs ys else []
theorem plusWA_yes {xs ys : List Int} (h : twoC xs ys = 0) : plusWA xs ys = wplus xs ys := by unfold plusWA; rw [if_pos h]
theorem plusWA_no {xs ys : List Int} (h : ¬ twoC xs ys = 0) : plusWA xs ys = [] := by unfold plusWA; rw [if_neg h]
theorem plusWA_len (xs ys : List Int) : (plusWA xs ys).length ≤ xs.length := by
  unfold plusWA; split
  · unfold wplus; rw [tab_len]; exact Nat.le_refl _
  · exact Nat.zero_le _
theorem wplus_in {xs ys : List Int} (hx : inU xs) (hy : inU ys) : inU (wplus xs ys) := tab_in fun i _ => xorI_u _ _ (hx.at i).2 (hy.at i).2
def scaleK (a : Int) (zs : List Int) (i : Nat) : Int := mulI a (zs.getD i 0)
def wscale (a : Int) (zs : List Int) : List Int := tab zs.length (scaleK a zs)
def scaleWA (zs : List Int) (a : Int) : List Int := if zs.length ≤ 7 then wscale a zs else []
theorem scaleWA_len (zs : List Int) (a : Int) : (scaleWA zs a).length ≤ zs.length := by
  unfold scaleWA; split
  · unfold wscale; rw [tab_len]; exact Nat.le_refl _
  · exact Nat.zero_le _
theorem wscale_in {a : Int} {zs : List Int} (ha : 0 ≤ a ∧ a < 65536) (hz : inU zs) : inU (wscale a zs) := tab_in fun i _ => mulI_u _ _ ha.2 (hz.at i).2
theorem xorI_comm (x y : Int) : xorI x y = xorI y x := by unfold xorI; rw [Nat.xor_comm]
end Go.Proofs.Ythhjhfkcgokffaa
