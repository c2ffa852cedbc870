/-
  Division of polynomials: quotients and rests as the loops make them (no program).
-/
import Derived.Test.YtnpadkkjaeblfaaPvL
namespace Go.Proofs.Ytnpadkkjaeblfaa
set_option linter.unusedVariables false
set_option linter.unusedSimpArgs false
open Go.ChangeShapes Go.WideShapes Go.ChangeAt Go.RowKit

theorem pwl_np : ∀ n (o a : Nat), o < 65536 → a < 65536 → pwl o a n = Nim.mul o (Nim.npow a n) := by
  intro n
  induction n using Nat.strongRecOn with
  | ind n ih =>
    intro o a ho ha
    by_cases h0 : n = 0
    · subst h0; rw [pwl_zero]; rw [Nim.npow, Nim.mul_comm, Nim.mul_one_left ho]
    · have hh := Nim.mul_b ha ha
      have hsq : Nim.npow (Nim.mul a a) (n / 2) = Nim.npow a (2 * (n / 2)) := (Nim.npow_mul ha 2 (n / 2)).symm ▸ by rw [Nim.npow_two ha]
      by_cases hodd : n % 2 = 1
      · rw [pwl_odd _ _ _ h0 hodd, ih (n / 2) (by omega) _ _ (Nim.mul_b ho ha) hh, hsq, Nim.mul_assoc ho ha (Nim.npow_b ha _)]
        congr 1
        have e := Nim.npow_add ha 1 (2 * (n / 2))
        rw [Nim.npow_one ha] at e
        rw [← e]; congr 1; omega
      · rw [pwl_even _ _ _ h0 hodd, ih (n / 2) (by omega) _ _ ho hh, hsq]
        congr 2; omega
theorem pwI_nat (a n : Nat) (ha : a < 65536) : pwI 1 (a : Int) (n : Int) = ((Nim.npow a n : Nat) : Int) := by
  show ((pwl 1 a n : Nat) : Int) = _
  rw [pwl_np n 1 a (by decide) ha, Nim.mul_one_left (Nim.npow_b ha _)]
theorem mulI_comm (x y : Int) : mulI x y = mulI y x := by unfold mulI; rw [Nim.mul_comm]
theorem xorI_self (x : Int) : xorI x x = 0 := by unfold xorI; simp
theorem invP_nat (a : Nat) (ha : a < 65536) : invP (a : Int) = ((Nim.npow a 65534 : Nat) : Int) := by
  rw [← invP_eq]
  exact pwI_nat a 65534 ha
theorem mul_inv_cancel {x b : Int} (x0 : 0 ≤ x) (x1 : x < 65536) (b0 : 0 ≤ b) (b1 : b < 65536) (hb : b ≠ 0) : mulI (mulI x (invP b)) b = x := by
  obtain ⟨X, rfl⟩ : ∃ X : Nat, x = X := ⟨x.toNat, by omega⟩
  obtain ⟨B, rfl⟩ : ∃ B : Nat, b = B := ⟨b.toNat, by omega⟩
  have hB : B < 65536 := by omega
  have hX : X < 65536 := by omega
  have h0 : B ≠ 0 := by omega
  rw [invP_nat B hB]
  have hi := Nim.mul_inv hB h0
  have hib := Nim.npow_b hB 65534
  generalize Nim.npow B 65534 = i at hi hib
  rw [mulI_nat, mulI_nat, Nim.mul_assoc hX hib hB, Nim.mul_comm i B, hi, Nim.mul_comm X 1, Nim.mul_one_left hX]
theorem mulI_zero (x : Int) : mulI x 0 = 0 := by unfold mulI; rw [show (0 : Int).toNat = 0 from rfl, Nim.mul_zero_right]; rfl
theorem zero_mulI (x : Int) : mulI 0 x = 0 := by rw [mulI_comm, mulI_zero]
theorem mulI_ne {x y : Int} (x0 : 0 ≤ x) (x1 : x < 65536) (y0 : 0 ≤ y) (y1 : y < 65536) (hx : x ≠ 0) (hy : y ≠ 0) : mulI x y ≠ 0 := by
  intro h
  unfold mulI at h
  rcases Nim.mul_eq_zero (x := x.toNat) (y := y.toNat) (by omega) (by omega) (by omega) with e | e <;> omega
theorem invP_ne {b : Int} (b0 : 0 ≤ b) (b1 : b < 65536) (hb : b ≠ 0) : invP b ≠ 0 := by
  intro h
  have e := mul_inv_cancel (x := 1) (by omega) (by omega) b0 b1 hb
  rw [h, mulI_zero, zero_mulI] at e
  omega

/-- the nimber of the quotient at k -/
def divQ (b : List Int) (f : Nat → Int) (k : Nat) : Int := mulI (f (k + b.length - 1)) (invP (b.getD (b.length - 1) 0))
/-- the rest while b, times q, is being added from k on: i of it are in -/
def divIn (b : List Int) (k : Nat) (q : Int) (f : Nat → Int) (i : Nat) : Nat → Int := fun s => if k ≤ s ∧ s < k + i then xorI (f s) (mulI q (b.getD (s - k) 0)) else f s
/-- the rest behind j rounds of m -/
def divR (a b : List Int) (m : Nat) : Nat → (Nat → Int)
  | 0 => fun s => a.getD s 0
  | j + 1 => divIn b (m - 1 - j) (divQ b (divR a b m j) (m - 1 - j)) (divR a b m j) b.length
/-- the quotient behind j rounds of m -/
def divT (a b : List Int) (m j : Nat) : Nat → Int := fun s => if m - j ≤ s ∧ s < m then divQ b (divR a b m (m - 1 - s)) s else 0
theorem divIn_zero (b : List Int) (k : Nat) (q : Int) (f : Nat → Int) : divIn b k q f 0 = f := by funext s; unfold divIn; rw [if_neg (by omega)]
theorem divIn_at (b : List Int) (k : Nat) (q : Int) (f : Nat → Int) (i : Nat) : divIn b k q f i (k + i) = f (k + i) := by unfold divIn; rw [if_neg (by omega)]
theorem divIn_next (b : List Int) (k : Nat) (q : Int) (f : Nat → Int) (i N : Nat) (h : k + i < N) :
    (tab N (divIn b k q f i)).set (k + i) (xorI ((tab N (divIn b k q f i)).getD (k + i) 0) (mulI q (b.getD i 0))) = tab N (divIn b k q f (i + 1)) := by
  rw [tab_at _ _ _ h, divIn_at, tab_set]
  congr 1
  funext s
  unfold put divIn
  by_cases e : s = k + i
  · subst e; rw [if_pos rfl, if_pos (by omega), show k + i - k = i from by omega]
  · rw [if_neg e]
    by_cases h1 : k ≤ s ∧ s < k + i
    · rw [if_pos h1, if_pos (by omega)]
    · rw [if_neg h1, if_neg (by omega)]
theorem divQ_u {b : List Int} {f : Nat → Int} (hb : inU b) (hf : ∀ s, 0 ≤ f s ∧ f s < 65536) (k : Nat) : 0 ≤ divQ b f k ∧ divQ b f k < 65536 := mulI_u _ _ (hf _).2 (invP_u _ (hb.at _).2).2
theorem divIn_u {b : List Int} {k : Nat} {q : Int} {f : Nat → Int} (hb : inU b) (hq : 0 ≤ q ∧ q < 65536) (hf : ∀ s, 0 ≤ f s ∧ f s < 65536) (i s : Nat) : 0 ≤ divIn b k q f i s ∧ divIn b k q f i s < 65536 := by
  unfold divIn
  split
  · exact xorI_u _ _ (hf s).2 (mulI_u _ _ hq.2 (hb.at _).2).2
  · exact hf s
theorem divR_u {a b : List Int} (ha : inU a) (hb : inU b) (m : Nat) : ∀ j s, 0 ≤ divR a b m j s ∧ divR a b m j s < 65536
  | 0, s => ha.at s
  | j + 1, s => by
    unfold divR
    exact divIn_u hb (divQ_u hb (divR_u ha hb m j) _) (divR_u ha hb m j) _ s
theorem divT_u {a b : List Int} (ha : inU a) (hb : inU b) (m j s : Nat) : 0 ≤ divT a b m j s ∧ divT a b m j s < 65536 := by
  unfold divT
  split
  · exact divQ_u hb (divR_u ha hb m _) _
  · omega
theorem divT_zero (a b : List Int) (m : Nat) : tab m (divT a b m 0) = tab m fun _ => 0 := by
  apply tab_ext
  intro s hs
  unfold divT
  rw [if_neg (by omega)]
theorem divT_next (a b : List Int) {m j : Nat} (h : j < m) : (tab m (divT a b m j)).set (m - 1 - j) (divQ b (divR a b m j) (m - 1 - j)) = tab m (divT a b m (j + 1)) := by
  rw [tab_set]
  congr 1
  funext s
  unfold put divT
  by_cases e : s = m - 1 - j
  · subst e; rw [if_pos rfl, if_pos (by omega), show m - 1 - (m - 1 - j) = j from by omega]
  · rw [if_neg e]
    by_cases h1 : m - j ≤ s ∧ s < m
    · rw [if_pos h1, if_pos (by omega)]
    · rw [if_neg h1, if_neg (by omega)]
/-- what has been divided is 0 -/
theorem divR_zero {a b : List Int} (ha : inU a) (hb : inU b) (hn : 1 ≤ b.length) (ht : b.getD (b.length - 1) 0 ≠ 0) (m : Nat) (hm : a.length + 1 = m + b.length) : ∀ j, j ≤ m → ∀ s, a.length - j ≤ s → divR a b m j s = 0
  | 0, _, s, hs => getD_out a s (by omega)
  | j + 1, hj, s, hs => by
    have ih := divR_zero ha hb hn ht m hm j (by omega)
    unfold divR divIn
    by_cases h1 : m - 1 - j ≤ s ∧ s < m - 1 - j + b.length
    · rw [if_pos h1]
      by_cases h2 : s = a.length - (j + 1)
      · have e1 : s - (m - 1 - j) = b.length - 1 := by omega
        have e2 : m - 1 - j + b.length - 1 = s := by omega
        unfold divQ
        rw [e1, e2, mul_inv_cancel (divR_u ha hb m j s).1 (divR_u ha hb m j s).2 (hb.at _).1 (hb.at _).2 ht, xorI_self]
      · omega
    · rw [if_neg h1]
      exact ih s (by omega)
theorem pTrim_cut (f : Nat → Int) (t : Nat) : ∀ d, (∀ s, t ≤ s → s < t + d → f s = 0) → pTrim (tab (t + d) f) = pTrim (tab t f)
  | 0, _ => rfl
  | d + 1, h => by
    rw [← Nat.add_assoc, pTrim_short (t + d) f (h (t + d) (by omega) (by omega))]
    exact pTrim_cut f t d (fun s h1 h2 => h s h1 (by omega))
def quoM (a b : List Int) : Nat := a.length + 1 - b.length
def pQuo (a b : List Int) : List Int := if a.length < b.length then [] else tab (quoM a b) (divT a b (quoM a b) (quoM a b))
def pRem (a b : List Int) : List Int := if a.length < b.length then a else pTrim (tab a.length (divR a b (quoM a b) (quoM a b)))
theorem pQuo_in {a b : List Int} (ha : inU a) (hb : inU b) : inU (pQuo a b) := by
  unfold pQuo
  split
  · exact inU.nil
  · exact tab_in fun s _ => divT_u ha hb _ _ s
theorem pRem_in {a b : List Int} (ha : inU a) (hb : inU b) : inU (pRem a b) := by
  unfold pRem
  split
  · exact ha
  · exact pTrim_in (tab_in fun s _ => divR_u ha hb _ _ s)
theorem pRem_top {a b : List Int} (ha : topP a) : topP (pRem a b) := by
  unfold pRem
  split
  · exact ha
  · exact pTrim_top _
/-- the rest as the program cuts it -/
theorem pRem_cut {a b : List Int} (ha : inU a) (hb : inU b) (hn : 1 ≤ b.length) (ht : b.getD (b.length - 1) 0 ≠ 0) (hl : ¬ a.length < b.length) : pRem a b = pTrim (tab (b.length - 1) (divR a b (quoM a b) (quoM a b))) := by
  have hm : a.length + 1 = quoM a b + b.length := by unfold quoM; omega
  unfold pRem
  rw [if_neg hl]
  have := pTrim_cut (divR a b (quoM a b) (quoM a b)) (b.length - 1) (quoM a b) (fun s h1 h2 => divR_zero ha hb hn ht _ hm _ (Nat.le_refl _) s (by omega))
  rw [← this]
  congr 2
  omega
theorem pRem_len {a b : List Int} (ha : inU a) (hb : inU b) (hn : 1 ≤ b.length) (ht : b.getD (b.length - 1) 0 ≠ 0) : (pRem a b).length < b.length := by
  by_cases hl : a.length < b.length
  · unfold pRem; rw [if_pos hl]; exact hl
  · rw [pRem_cut ha hb hn ht hl, pTrim_len, tab_len]
    have := trimN_le (tab (b.length - 1) (divR a b (quoM a b) (quoM a b))) (b.length - 1)
    omega
theorem pRem_short {a b : List Int} (hl : a.length < b.length) : pRem a b = a := by unfold pRem; rw [if_pos hl]
theorem pQuo_short {a b : List Int} (hl : a.length < b.length) : pQuo a b = [] := by unfold pQuo; rw [if_pos hl]
theorem pQuo_long {a b : List Int} (hl : ¬ a.length < b.length) : pQuo a b = tab (quoM a b) (divT a b (quoM a b) (quoM a b)) := by unfold pQuo; rw [if_neg hl]
theorem pRem_long {a b : List Int} (hl : ¬ a.length < b.length) : pRem a b = pTrim (tab a.length (divR a b (quoM a b) (quoM a b))) := by unfold pRem; rw [if_neg hl]
theorem pQuo_len (a b : List Int) : (pQuo a b).length ≤ a.length + 1 - b.length := by
  unfold pQuo
  split
  · simp
  · rw [tab_len]; exact Nat.le_refl _
/-- quotients have their last nimber -/
theorem pQuo_top {a b : List Int} (ha : inU a) (hb : inU b) (hta : topP a) (hn : 1 ≤ b.length) (ht : b.getD (b.length - 1) 0 ≠ 0) : topP (pQuo a b) := by
  by_cases hl : a.length < b.length
  · rw [pQuo_short hl]; exact Or.inl rfl
  · rw [pQuo_long hl]
    right
    have hm : quoM a b = a.length + 1 - b.length := rfl
    rw [tab_len, tab_at _ _ _ (by omega)]
    unfold divT
    rw [if_pos (by omega), show quoM a b - 1 - (quoM a b - 1) = 0 from by omega]
    unfold divQ divR
    have e : quoM a b - 1 + b.length - 1 = a.length - 1 := by omega
    rw [e]
    have hta2 : ¬ a.getD (a.length - 1) 0 = 0 := by
      rcases hta with q | q
      · omega
      · exact q
    exact mulI_ne (ha.at _).1 (ha.at _).2 (invP_u _ (hb.at _).2).1 (invP_u _ (hb.at _).2).2 hta2 (invP_ne (hb.at _).1 (hb.at _).2 ht)
end Go.Proofs.Ytnpadkkjaeblfaa
