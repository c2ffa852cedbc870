/-
  Rows made reduced: the mathematics, on functions of row and column.
-/
import Derived.Test.YtjbaeomjinnlhaaAlg
namespace Go.Proofs.Ytjbaeomjinnlhaa.Nim
set_option linter.unusedVariables false
def inv (a : Nat) : Nat := npow a 65534
theorem inv_b {a : Nat} (ha : a < 65536) : inv a < 65536 := npow_b ha _
theorem mul_inv' {a : Nat} (ha : a < 65536) (h : a ≠ 0) : mul a (inv a) = 1 := mul_inv ha h
/-- the first row from i on, of n rows, with a cell that is not 0; behind them if there is none -/
def pivotFrom (G : Nat → Nat → Nat) (col : Nat) : Nat → Nat → Nat
  | 0, i => i
  | n + 1, i => if G i col = 0 then pivotFrom G col n (i + 1) else i
theorem pivot_some (G : Nat → Nat → Nat) (col : Nat) : ∀ n i, pivotFrom G col n i < i + n → G (pivotFrom G col n i) col ≠ 0 ∧ i ≤ pivotFrom G col n i
  | 0, i, h => by simp [pivotFrom] at h
  | n + 1, i, h => by
    unfold pivotFrom at h ⊢
    by_cases e : G i col = 0
    · rw [if_pos e] at h ⊢
      have := pivot_some G col n (i + 1) (by omega)
      exact ⟨this.1, by omega⟩
    · rw [if_neg e]; exact ⟨e, Nat.le_refl _⟩
theorem pivot_le (G : Nat → Nat → Nat) (col : Nat) : ∀ n i, pivotFrom G col n i ≤ i + n
  | 0, i => by simp [pivotFrom]
  | n + 1, i => by
    unfold pivotFrom
    split
    · have := pivot_le G col n (i + 1); omega
    · omega
theorem pivot_none (G : Nat → Nat → Nat) (col : Nat) : ∀ n i, pivotFrom G col n i = i + n → ∀ r, i ≤ r → r < i + n → G r col = 0
  | 0, i, _, r, h1, h2 => by omega
  | n + 1, i, h, r, h1, h2 => by
    unfold pivotFrom at h
    by_cases e : G i col = 0
    · rw [if_pos e] at h
      by_cases hr : r = i
      · rw [hr]; exact e
      · exact pivot_none G col n (i + 1) (by omega) r (by omega) (by omega)
    · rw [if_neg e] at h; omega
theorem pivot_step (G : Nat → Nat → Nat) (col i : Nat) (h : i < 6) (e : G i col = 0) : pivotFrom G col (6 - i) i = pivotFrom G col (6 - (i + 1)) (i + 1) := by
  rw [show 6 - i = (6 - (i + 1)) + 1 from by omega]
  conv => lhs; unfold pivotFrom
  rw [if_pos e]
theorem pivot_here (G : Nat → Nat → Nat) (col i : Nat) (h : i < 6) (e : G i col ≠ 0) : pivotFrom G col (6 - i) i = i := by
  rw [show 6 - i = (6 - (i + 1)) + 1 from by omega]
  conv => lhs; unfold pivotFrom
  rw [if_neg e]
/-- rows t and i exchanged, but row t is not looked at again -/
def other (G : Nat → Nat → Nat) (t i : Nat) : Nat → Nat → Nat := fun r => if r = i then G t else G r
def lead (G : Nat → Nat → Nat) (i col : Nat) : Nat → Nat := fun k => mul (G i k) (inv (G i col))
def elim (G : Nat → Nat → Nat) (t i col : Nat) : Nat → Nat → Nat := fun r k =>
  if r = t then lead G i col k else other G t i r k ^^^ mul (lead G i col k) (other G t i r col)
def redStep (s : (Nat → Nat → Nat) × List Nat) (col : Nat) : (Nat → Nat → Nat) × List Nat :=
  let t := s.2.length
  let i := pivotFrom s.1 col (6 - t) t
  if i < 6 then (elim s.1 t i col, s.2 ++ [col]) else s
def redN (G : Nat → Nat → Nat) : Nat → (Nat → Nat → Nat) × List Nat
  | 0 => (G, [])
  | n + 1 => redStep (redN G n) n
def GB (G : Nat → Nat → Nat) : Prop := ∀ r k, G r k < 65536
theorem other_b {G : Nat → Nat → Nat} (h : GB G) (t i : Nat) : GB (other G t i) := fun r k => by unfold other; split <;> exact h _ _
theorem lead_b {G : Nat → Nat → Nat} (h : GB G) (i col k : Nat) : lead G i col k < 65536 := mul_b (h _ _) (inv_b (h _ _))
theorem elim_b {G : Nat → Nat → Nat} (h : GB G) (t i col : Nat) : GB (elim G t i col) := fun r k => by
  unfold elim; split
  · exact lead_b h _ _ _
  · exact x_b (other_b h _ _ _ _) (mul_b (lead_b h _ _ _) (other_b h _ _ _ _))
theorem redN_b {G : Nat → Nat → Nat} (h : GB G) : ∀ n, GB (redN G n).1
  | 0 => h
  | n + 1 => by
    unfold redN redStep
    simp only []
    by_cases hp : pivotFrom (redN G n).1 n (6 - (redN G n).2.length) (redN G n).2.length < 6
    · rw [if_pos hp]; exact elim_b (redN_b h n) _ _ _
    · rw [if_neg hp]; exact redN_b h n
/-- what holds behind n columns -/
structure Red (n : Nat) (G : Nat → Nat → Nat) (fs : List Nat) : Prop where
  len : fs.length ≤ 6
  lt : ∀ j, (h : j < fs.length) → fs[j] < n
  inc : ∀ j j', (h : j < j') → (h' : j' < fs.length) → fs[j]'(by omega) < fs[j']
  unit : ∀ j, (h : j < fs.length) → ∀ r, r < 6 → G r fs[j] = if r = j then 1 else 0
  before : ∀ j, (h : j < fs.length) → ∀ k, k < fs[j] → G j k = 0
  rest : ∀ r, fs.length ≤ r → r < 6 → ∀ k, k < n → G r k = 0
theorem Red.start (G : Nat → Nat → Nat) : Red 0 G [] where
  len := by simp
  lt := fun j h => by simp at h
  inc := fun j j' h h' => by simp at h'
  unit := fun j h => by simp at h
  before := fun j h => by simp at h
  rest := fun r _ _ k hk => by omega
theorem Red.step {n : Nat} {G : Nat → Nat → Nat} {fs : List Nat} (hG : GB G) (h : Red n G fs) : Red (n + 1) (redStep (G, fs) n).1 (redStep (G, fs) n).2 := by
  unfold redStep
  simp only []
  by_cases hp : pivotFrom G n (6 - fs.length) fs.length < 6
  · rw [if_pos hp]
    obtain ⟨p1, p2⟩ := pivot_some G n (6 - fs.length) fs.length (by have := h.len; omega)
    generalize pivotFrom G n (6 - fs.length) fs.length = i at hp p1 p2
    have hl0 : ∀ k, k < n → lead G i n k = 0 := fun k hk => by
      unfold lead; rw [h.rest i p2 hp k hk, mul_zero_left]
    have hl1 : lead G i n n = 1 := mul_inv' (hG _ _) p1
    have hat : ∀ (j : Nat) (hj : j < (fs ++ [n]).length), (∃ hj' : j < fs.length, (fs ++ [n])[j] = fs[j]) ∨ (j = fs.length ∧ (fs ++ [n])[j] = n) := fun j hj => by
      by_cases hj' : j < fs.length
      · exact .inl ⟨hj', List.getElem_append_left hj'⟩
      · have e : j = fs.length := by simp at hj; omega
        subst e
        exact .inr ⟨rfl, by simp⟩
    have et : ∀ r k, r = fs.length → elim G fs.length i n r k = lead G i n k := fun r k e => if_pos e
    have eo : ∀ r k, ¬ r = fs.length → elim G fs.length i n r k = other G fs.length i r k ^^^ mul (lead G i n k) (other G fs.length i r n) := fun r k e => if_neg e
    show Red (n + 1) (elim G fs.length i n) (fs ++ [n])
    refine ⟨by simp; omega, ?_, ?_, ?_, ?_, ?_⟩
    · intro j hj
      rcases hat j hj with ⟨hj', e⟩ | ⟨_, e⟩
      · rw [e]; have := h.lt j hj'; omega
      · rw [e]; omega
    · intro j j' hjj hj
      rcases hat j' hj with ⟨hj', e⟩ | ⟨e', e⟩
      · rw [e]
        have e2 : (fs ++ [n])[j]'(by omega) = fs[j]'(by simp at hj; omega) := List.getElem_append_left (by simp at hj; omega)
        rw [e2]; exact h.inc j j' hjj hj'
      · rw [e]
        have e2 : (fs ++ [n])[j]'(by omega) = fs[j]'(by simp at hj; omega) := List.getElem_append_left (by simp at hj; omega)
        rw [e2]; exact h.lt j (by omega)
    · intro j hj r hr
      rcases hat j hj with ⟨hj', e⟩ | ⟨e', e⟩
      · rw [e]
        by_cases hrt : r = fs.length
        · rw [et r _ hrt, hl0 _ (h.lt j hj'), if_neg (by omega)]
        · rw [eo r _ hrt, hl0 _ (h.lt j hj'), mul_zero_left, Nat.xor_zero]
          unfold other
          by_cases hri : r = i
          · rw [if_pos hri, h.unit j hj' fs.length (by omega), if_neg (by omega), if_neg (by omega)]
          · rw [if_neg hri, h.unit j hj' r hr]
      · rw [e]
        by_cases hrt : r = fs.length
        · rw [et r _ hrt, hl1, if_pos (by omega)]
        · rw [eo r _ hrt, hl1, if_neg (by omega), mul_one_left (other_b hG _ _ _ _), Nat.xor_self]
    · intro j hj k hk
      rcases hat j hj with ⟨hj', e⟩ | ⟨e', e⟩
      · rw [e] at hk
        have := h.lt j hj'
        rw [eo j _ (by omega), hl0 k (by omega), mul_zero_left, Nat.xor_zero]
        unfold other
        rw [if_neg (by omega)]
        exact h.before j hj' k hk
      · rw [e] at hk
        rw [et j _ e', hl0 k hk]
    · intro r h1 h2 k hk
      simp at h1
      rw [eo r _ (by omega)]
      by_cases hkn : k = n
      · subst hkn
        rw [hl1, mul_one_left (other_b hG _ _ _ _), Nat.xor_self]
      · rw [hl0 k (by omega), mul_zero_left, Nat.xor_zero]
        unfold other
        split
        · exact h.rest _ (Nat.le_refl _) (by omega) k (by omega)
        · exact h.rest _ (by omega) h2 k (by omega)
  · rw [if_neg hp]
    have hle := pivot_le G n (6 - fs.length) fs.length
    have hn := pivot_none G n (6 - fs.length) fs.length (by have := h.len; omega)
    show Red (n + 1) G fs
    refine ⟨h.len, fun j hj => by have := h.lt j hj; omega, h.inc, h.unit, h.before, ?_⟩
    intro r h1 h2 k hk
    by_cases hkn : k = n
    · subst hkn; exact hn r h1 (by have := h.len; omega)
    · exact h.rest r h1 h2 k (by omega)
theorem redN_red {G : Nat → Nat → Nat} (hG : GB G) : ∀ n, Red n (redN G n).1 (redN G n).2
  | 0 => Red.start G
  | n + 1 => (redN_red hG n).step (redN_b hG n)
/-- columns with only 0 change nothing -/
theorem redStep_zero {G : Nat → Nat → Nat} {fs : List Nat} {n : Nat} (h6 : fs.length ≤ 6) (h : ∀ r, r < 6 → G r n = 0) : redStep (G, fs) n = (G, fs) := by
  unfold redStep
  simp only []
  by_cases hp : pivotFrom G n (6 - fs.length) fs.length < 6
  · exact absurd (h _ hp) (pivot_some G n (6 - fs.length) fs.length (by omega)).1
  · rw [if_neg hp]
/-- what is 0 in all rows stays so, and rows that are 0 behind the first ones -/
theorem elim_col {G : Nat → Nat → Nat} {t i col k : Nat} (ht : t < 6) (hi : i < 6) (h : ∀ r, r < 6 → G r k = 0) : ∀ r, r < 6 → elim G t i col r k = 0 := fun r hr => by
  unfold elim
  have h1 : lead G i col k = 0 := by unfold lead; rw [h i hi, mul_zero_left]
  split
  · exact h1
  · rw [h1, mul_zero_left, Nat.xor_zero]; unfold other; split
    · exact h t ht
    · exact h r hr
theorem elim_row {G : Nat → Nat → Nat} {t i col R : Nat} (ht : t < R) (hi : i < R) (W : Nat) (hc : col < W) (h : ∀ r k, R ≤ r → k < W → G r k = 0) : ∀ r k, R ≤ r → k < W → elim G t i col r k = 0 := fun r k hr hk => by
  unfold elim
  rw [if_neg (by omega)]
  unfold other
  rw [if_neg (by omega), h r k hr hk, h r col hr hc, mul_zero_right]; rfl
/-! ### sums of products -/
def dot (a b : Nat → Nat) : Nat → Nat
  | 0 => 0
  | n + 1 => dot a b n ^^^ mul (a n) (b n)
theorem dot_b {a b : Nat → Nat} (ha : ∀ k, a k < 65536) (hb : ∀ k, b k < 65536) : ∀ n, dot a b n < 65536
  | 0 => (by decide : 0 < 65536)
  | n + 1 => x_b (dot_b ha hb n) (mul_b (ha _) (hb _))
theorem dot_ext {a b a' b' : Nat → Nat} : ∀ n, (∀ k, k < n → a k = a' k) → (∀ k, k < n → b k = b' k) → dot a b n = dot a' b' n
  | 0, _, _ => rfl
  | n + 1, h1, h2 => by
    unfold dot
    rw [dot_ext n (fun k hk => h1 k (by omega)) (fun k hk => h2 k (by omega)), h1 n (by omega), h2 n (by omega)]
theorem dot_xor (a a' b : Nat → Nat) : ∀ n, dot (fun k => a k ^^^ a' k) b n = dot a b n ^^^ dot a' b n
  | 0 => (Nat.xor_self 0).symm
  | n + 1 => by
    unfold dot
    rw [dot_xor a a' b n, mul_xor_left]
    ac_rfl
theorem dot_scale {a b : Nat → Nat} {c : Nat} (ha : ∀ k, a k < 65536) (hb : ∀ k, b k < 65536) (hc : c < 65536) : ∀ n, dot (fun k => mul c (a k)) b n = mul c (dot a b n)
  | 0 => (mul_zero_right c).symm
  | n + 1 => by
    unfold dot
    rw [dot_scale ha hb hc n, mul_xor_right, mul_assoc hc (ha n) (hb n)]
theorem dot_zero_left {a b : Nat → Nat} : ∀ n, (∀ k, k < n → a k = 0) → dot a b n = 0
  | 0, _ => rfl
  | n + 1, h => by
    unfold dot
    rw [dot_zero_left n (fun k hk => h k (by omega)), h n (by omega), mul_zero_left]; rfl
theorem dot_more {a b : Nat → Nat} (m : Nat) : ∀ n, m ≤ n → (∀ k, m ≤ k → k < n → a k = 0) → dot a b n = dot a b m
  | 0, h, _ => by rw [show m = 0 from by omega]
  | n + 1, h, hz => by
    by_cases e : m = n + 1
    · rw [e]
    · rw [show dot a b (n + 1) = dot a b n ^^^ mul (a n) (b n) from rfl, dot_more m n (by omega) (fun k h1 h2 => hz k h1 (by omega)), hz n (by omega) (by omega), mul_zero_left, Nat.xor_zero]
/-- the sums of the products of one row's part from 6 on and of a vector are changed like cells -/
theorem elim_dot {G : Nat → Nat → Nat} (hG : GB G) {V U : Nat → Nat} (hV : ∀ k, V k < 65536) {t i col : Nat} (h : ∀ r, U r = dot (fun k => G r (6 + k)) V 6) :
    ∀ r, (if r = t then mul (U i) (inv (G i col)) else (if r = i then U t else U r) ^^^ mul (mul (U i) (inv (G i col))) (other G t i r col)) = dot (fun k => elim G t i col r (6 + k)) V 6 := fun r => by
  have hl : dot (fun k => lead G i col (6 + k)) V 6 = mul (U i) (inv (G i col)) := by
    rw [h i, mul_comm, ← dot_scale (fun k => hG i (6 + k)) hV (inv_b (hG i col))]
    exact dot_ext 6 (fun k _ => mul_comm _ _) (fun _ _ => rfl)
  unfold elim
  by_cases e : r = t
  · simp only [if_pos e]; exact hl.symm
  · simp only [if_neg e]
    rw [dot_xor (fun k => other G t i r (6 + k)) (fun k => mul (lead G i col (6 + k)) (other G t i r col)) V 6]
    have h2 : dot (fun k => mul (lead G i col (6 + k)) (other G t i r col)) V 6 = mul (mul (U i) (inv (G i col))) (other G t i r col) := by
      rw [← hl, mul_comm, ← dot_scale (fun k => lead_b hG i col (6 + k)) hV (other_b hG t i r col)]
      exact dot_ext 6 (fun k _ => mul_comm _ _) (fun _ _ => rfl)
    rw [h2]
    congr 1
    unfold other
    by_cases e2 : r = i
    · simp only [if_pos e2]; exact h t
    · simp only [if_neg e2]; exact h r
end Go.Proofs.Ytjbaeomjinnlhaa.Nim
