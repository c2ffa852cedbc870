/-
  Polynomials over nimbers as lists: what the functions of chapter 5 answer (no program).
-/
import Derived.Test.YthhjhfkcgokffaaLaw
import Derived.Test.YthhjhfkcgokffaaAlg
namespace Go.Proofs.Ythhjhfkcgokffaa
set_option linter.unusedVariables false
set_option linter.unusedSimpArgs false
open Go.ChangeShapes Go.WideShapes Go.ChangeAt Go.RowKit

def inU (zs : List Int) : Prop := ∀ z ∈ zs, 0 ≤ z ∧ z < 65536
theorem inU.at {zs : List Int} (h : inU zs) (i : Nat) : 0 ≤ zs.getD i 0 ∧ zs.getD i 0 < 65536 := by
  by_cases hi : i < zs.length
  · have := h zs[i] (List.getElem_mem hi)
    simp [List.getD, hi]; exact this
  · simp [List.getD, Nat.not_lt.1 hi]
theorem inU.take {zs : List Int} (h : inU zs) (n : Nat) : inU (zs.take n) := fun z hz => h z (List.mem_of_mem_take hz)
theorem inU.nil : inU [] := fun z hz => by cases hz
/-- a list by its places -/
def tab (n : Nat) (f : Nat → Int) : List Int := (List.range n).map f
theorem tab_len (n : Nat) (f : Nat → Int) : (tab n f).length = n := by simp [tab]
theorem tab_at (n : Nat) (f : Nat → Int) (i : Nat) (h : i < n) : (tab n f).getD i 0 = f i := by simp [tab, List.getD, h]
theorem tab_ext {n : Nat} {f g : Nat → Int} (h : ∀ i, i < n → f i = g i) : tab n f = tab n g := by
  unfold tab
  apply List.map_congr_left
  intro i hi
  exact h i (List.mem_range.1 hi)
theorem tab_in {n : Nat} {f : Nat → Int} (h : ∀ i, i < n → 0 ≤ f i ∧ f i < 65536) : inU (tab n f) := by
  intro z hz
  unfold tab at hz
  obtain ⟨i, hi, rfl⟩ := List.mem_map.1 hz
  exact h i (List.mem_range.1 hi)
def put (f : Nat → Int) (s : Nat) (v : Int) : Nat → Int := fun t => if t = s then v else f t
theorem tab_set (n : Nat) (f : Nat → Int) (s : Nat) (v : Int) : (tab n f).set s v = tab n (put f s v) := by
  apply List.ext_getElem?
  intro i
  unfold tab put
  rw [List.getElem?_set]
  by_cases hi : s = i
  · subst hi
    rw [if_pos rfl]
    by_cases hn : s < n
    · rw [if_pos (by simpa using hn)]; simp [hn]
    · rw [if_neg (by simpa using hn), List.getElem?_eq_none (by simp; omega)]
  · rw [if_neg hi]
    by_cases hn : i < n
    · simp [hn, Ne.symm hi]
    · rw [List.getElem?_eq_none (by simp; omega), List.getElem?_eq_none (by simp; omega)]
theorem list_tab (zs : List Int) : zs = tab zs.length fun i => zs.getD i 0 := by
  apply List.ext_getElem
  · rw [tab_len]
  · intro i h1 h2
    simp [tab, List.getD, h1]
theorem take_tab (n t : Nat) (f : Nat → Int) (h : t ≤ n) : (tab n f).take t = tab t f := by
  unfold tab
  rw [← List.map_take, List.take_range, Nat.min_eq_left h]
theorem getD_take (zs : List Int) (t i : Nat) : (zs.take t).getD i 0 = if i < t then zs.getD i 0 else 0 := by
  by_cases h : i < t
  · rw [if_pos h]; simp [List.getD, List.getElem?_take, h]
  · rw [if_neg h]; simp [List.getD, List.getElem?_take, h]
theorem getD_out (zs : List Int) (i : Nat) (h : zs.length ≤ i) : zs.getD i 0 = 0 := by simp [List.getD, h]

/-- the list without the zeros at its end: how many are left -/
def trimN (zs : List Int) : Nat → Nat
  | 0 => 0
  | n + 1 => if zs.getD n 0 = 0 then trimN zs n else n + 1
theorem trimN_le (zs : List Int) : ∀ n, trimN zs n ≤ n
  | 0 => Nat.le_refl _
  | n + 1 => by
    unfold trimN
    by_cases h : zs.getD n 0 = 0
    · rw [if_pos h]; have := trimN_le zs n; omega
    · rw [if_neg h]; exact Nat.le_refl _
theorem trimN_step (zs : List Int) (n : Nat) (h : zs.getD n 0 = 0) : trimN zs (n + 1) = trimN zs n := by rw [trimN, if_pos h]
theorem trimN_stop (zs : List Int) (n : Nat) (h : ¬ zs.getD n 0 = 0) : trimN zs (n + 1) = n + 1 := by rw [trimN, if_neg h]
theorem trimN_top (zs : List Int) : ∀ n, 0 < trimN zs n → ¬ zs.getD (trimN zs n - 1) 0 = 0
  | 0, h => by simp [trimN] at h
  | n + 1, h => by
    by_cases e : zs.getD n 0 = 0
    · rw [trimN_step zs n e] at h ⊢; exact trimN_top zs n h
    · rw [trimN_stop zs n e]; simpa using e
theorem trimN_zero (zs : List Int) : ∀ n i, trimN zs n ≤ i → i < n → zs.getD i 0 = 0
  | 0, i, _, h => by omega
  | n + 1, i, h1, h2 => by
    by_cases e : zs.getD n 0 = 0
    · rw [trimN_step zs n e] at h1
      by_cases hi : i = n
      · rw [hi]; exact e
      · exact trimN_zero zs n i h1 (by omega)
    · rw [trimN_stop zs n e] at h1; omega
theorem trimN_congr {xs ys : List Int} : ∀ n, (∀ i, i < n → xs.getD i 0 = ys.getD i 0) → trimN xs n = trimN ys n
  | 0, _ => rfl
  | n + 1, h => by
    unfold trimN
    rw [h n (by omega), trimN_congr n (fun i hi => h i (by omega))]
def pTrim (zs : List Int) : List Int := zs.take (trimN zs zs.length)
theorem pTrim_len (zs : List Int) : (pTrim zs).length = trimN zs zs.length := by
  unfold pTrim; rw [List.length_take]; have := trimN_le zs zs.length; omega
theorem pTrim_in {zs : List Int} (h : inU zs) : inU (pTrim zs) := h.take _
theorem pTrim_at (zs : List Int) (i : Nat) : (pTrim zs).getD i 0 = zs.getD i 0 := by
  unfold pTrim
  rw [getD_take]
  by_cases h : i < trimN zs zs.length
  · rw [if_pos h]
  · rw [if_neg h]
    by_cases h2 : i < zs.length
    · exact (trimN_zero zs zs.length i (by omega) h2).symm
    · exact (getD_out zs i (by omega)).symm
/-- a list whose last nimber is not 0 stands as it is -/
def topP (zs : List Int) : Prop := zs.length = 0 ∨ ¬ zs.getD (zs.length - 1) 0 = 0
theorem pTrim_top (zs : List Int) : topP (pTrim zs) := by
  by_cases h : trimN zs zs.length = 0
  · left; rw [pTrim_len]; exact h
  · right; rw [pTrim_at, pTrim_len]; exact trimN_top zs zs.length (by omega)
theorem pTrim_id {zs : List Int} (h : topP zs) : pTrim zs = zs := by
  unfold pTrim
  rcases h with h | h
  · have : zs = [] := List.length_eq_zero_iff.1 h
    rw [this]; rfl
  · obtain ⟨n, hn⟩ : ∃ n, zs.length = n + 1 := by
      cases e : zs.length with
      | zero => rw [e] at h; exact absurd (getD_out zs _ (by omega)) h
      | succ n => exact ⟨n, rfl⟩
    rw [hn] at h ⊢
    rw [trimN_stop zs n (by simpa using h), ← hn, List.take_length]

/-- is the polynomial valid? -/
def okP (zs : List Int) : Bool := decide (zs.length = 0) || (decide (zs.length ≤ 21) && (zs.getD (zs.length - 1) 0 != 0))
theorem okP_len {zs : List Int} (h : okP zs = true) : zs.length ≤ 21 := by
  unfold okP at h
  simp at h
  rcases h with h | h
  · rw [h]; simp
  · exact h.1
theorem okP_top {zs : List Int} (h : okP zs = true) : topP zs := by
  unfold okP at h
  simp at h
  rcases h with h | h
  · left; rw [h]; rfl
  · right; exact h.2
def okC (zs : List Int) : Int := if okP zs then 0 else 1
def okC2 (a b : List Int) : Int := if okP a && okP b then 0 else 1
def degI (zs : List Int) : Int := if okP zs then (zs.length : Int) - 1 else 0
theorem okC_yes {zs : List Int} (h : okP zs = true) : okC zs = 0 := by unfold okC; rw [if_pos h]
theorem okC_no {zs : List Int} (h : okP zs = false) : okC zs = 1 := by unfold okC; rw [if_neg (by rw [h]; decide)]
theorem degI_yes {zs : List Int} (h : okP zs = true) : degI zs = (zs.length : Int) - 1 := by unfold degI; rw [if_pos h]
theorem degI_no {zs : List Int} (h : okP zs = false) : degI zs = 0 := by unfold degI; rw [if_neg (by rw [h]; decide)]
def trimA (zs : List Int) : List Int := if (pTrim zs).length ≤ 21 then pTrim zs else []
def trimC (zs : List Int) : Int := if (pTrim zs).length ≤ 21 then 0 else 3
theorem trimA_len (zs : List Int) : (trimA zs).length ≤ 21 := by
  unfold trimA
  by_cases h : (pTrim zs).length ≤ 21
  · rw [if_pos h]; exact h
  · rw [if_neg h]; simp

/-- the sum -/
def pXor (a b : List Int) : Nat → Int := fun i => xorI (a.getD i 0) (b.getD i 0)
def mx (a b : List Int) : Nat := if a.length < b.length then b.length else a.length
def pPlus (a b : List Int) : List Int := pTrim (tab (mx a b) (pXor a b))
/-- while it is being reckoned: k of b are in -/
def plusK (a b : List Int) (k : Nat) : Nat → Int := fun i => if i < k then pXor a b i else a.getD i 0
theorem plusK_zero (a b : List Int) : plusK a b 0 = fun i => a.getD i 0 := by funext i; simp [plusK]
theorem plusK_step (a b : List Int) (k : Nat) : put (plusK a b k) k (xorI (a.getD k 0) (b.getD k 0)) = plusK a b (k + 1) := by
  funext i
  unfold put plusK pXor
  by_cases h : i = k
  · subst h; rw [if_pos rfl, if_pos (by omega)]
  · rw [if_neg h]
    by_cases h2 : i < k
    · rw [if_pos h2, if_pos (by omega)]
    · rw [if_neg h2, if_neg (by omega)]
theorem xorI_zero_right (x : Int) (h : 0 ≤ x) : xorI x 0 = x := by
  unfold xorI; simp; omega
theorem xorI_zero_left (x : Int) (h : 0 ≤ x) : xorI 0 x = x := by
  unfold xorI; simp; omega
theorem xorI_u (x y : Int) (h1 : x < 65536) (h2 : y < 65536) : 0 ≤ xorI x y ∧ xorI x y < 65536 := xorI_lt 65536 (by omega) x y h1 h2
theorem plusK_end {a b : List Int} (ha : inU a) (n : Nat) : tab n (plusK a b b.length) = tab n (pXor a b) := by
  apply tab_ext
  intro i hi
  unfold plusK
  by_cases h : i < b.length
  · rw [if_pos h]
  · rw [if_neg h]; unfold pXor; rw [getD_out b i (by omega), xorI_zero_right _ (ha.at i).1]
theorem pXor_u {a b : List Int} (ha : inU a) (hb : inU b) (i : Nat) : 0 ≤ pXor a b i ∧ pXor a b i < 65536 := xorI_u _ _ (ha.at i).2 (hb.at i).2
theorem pPlus_in {a b : List Int} (ha : inU a) (hb : inU b) : inU (pPlus a b) := pTrim_in (tab_in fun i _ => pXor_u ha hb i)
theorem pPlus_len (a b : List Int) : (pPlus a b).length ≤ mx a b := by
  unfold pPlus; rw [pTrim_len, tab_len]; exact trimN_le _ _
def plusA (a b : List Int) : List Int := if okP a && okP b then pPlus a b else []
theorem plusA_len (a b : List Int) : (plusA a b).length ≤ 21 := by
  unfold plusA
  by_cases h : (okP a && okP b) = true
  · rw [if_pos h]
    rw [Bool.and_eq_true] at h
    have h1 := okP_len h.1
    have h2 := okP_len h.2
    have h3 := pPlus_len a b
    unfold mx at h3
    split at h3 <;> omega
  · rw [if_neg h]; simp

/-- the product: the cells while it is being reckoned -/
def convJ (a b : List Int) (i : Nat) : Nat → (Nat → Int) → (Nat → Int)
  | 0, f => f
  | k + 1, f => put (convJ a b i k f) (i + k) (xorI (convJ a b i k f (i + k)) (mulI (a.getD i 0) (b.getD k 0)))
def convI (a b : List Int) : Nat → (Nat → Int)
  | 0 => fun _ => 0
  | i + 1 => convJ a b i b.length (convI a b i)
theorem mulI_u (x y : Int) (h1 : x < 65536) (h2 : y < 65536) : 0 ≤ mulI x y ∧ mulI x y < 65536 := mulI_lt 4 (by omega) 65536 (by decide) x y h1 h2
theorem put_u {f : Nat → Int} (hf : ∀ i, 0 ≤ f i ∧ f i < 65536) (s : Nat) {v : Int} (hv : 0 ≤ v ∧ v < 65536) (i : Nat) : 0 ≤ put f s v i ∧ put f s v i < 65536 := by
  unfold put
  by_cases h : i = s
  · rw [if_pos h]; exact hv
  · rw [if_neg h]; exact hf i
theorem convJ_u {a b : List Int} (ha : inU a) (hb : inU b) (i : Nat) : ∀ k f, (∀ s, 0 ≤ f s ∧ f s < 65536) → ∀ s, 0 ≤ convJ a b i k f s ∧ convJ a b i k f s < 65536
  | 0, f, hf, s => hf s
  | k + 1, f, hf, s => by
    unfold convJ
    refine put_u (convJ_u ha hb i k f hf) _ (xorI_u _ _ (convJ_u ha hb i k f hf _).2 (mulI_u _ _ (ha.at i).2 (hb.at k).2).2) s
theorem convI_u {a b : List Int} (ha : inU a) (hb : inU b) : ∀ i s, 0 ≤ convI a b i s ∧ convI a b i s < 65536
  | 0, s => by unfold convI; omega
  | i + 1, s => by unfold convI; exact convJ_u ha hb i _ _ (convI_u ha hb i) s
def pTimes (a b : List Int) : List Int := if a.length = 0 ∨ b.length = 0 then [] else tab (a.length + b.length - 1) (convI a b a.length)
theorem pTimes_in {a b : List Int} (ha : inU a) (hb : inU b) : inU (pTimes a b) := by
  unfold pTimes
  by_cases h : a.length = 0 ∨ b.length = 0
  · rw [if_pos h]; exact inU.nil
  · rw [if_neg h]; exact tab_in fun i _ => convI_u ha hb _ i
theorem pTimes_len (a b : List Int) : (pTimes a b).length ≤ a.length + b.length - 1 := by
  unfold pTimes
  by_cases h : a.length = 0 ∨ b.length = 0
  · rw [if_pos h]; simp
  · rw [if_neg h, tab_len]; exact Nat.le_refl _
theorem pTimes_zero {a b : List Int} (h : a.length = 0 ∨ b.length = 0) : pTimes a b = [] := by unfold pTimes; rw [if_pos h]
theorem pTimes_some {a b : List Int} (h : ¬ (a.length = 0 ∨ b.length = 0)) : pTimes a b = tab (a.length + b.length - 1) (convI a b a.length) := by unfold pTimes; rw [if_neg h]
def timesC (a b : List Int) : Int := if okP a && okP b then (if (pTimes a b).length ≤ 21 then 0 else 3) else 1
def timesA (a b : List Int) : List Int := if okP a && okP b then (if (pTimes a b).length ≤ 21 then pTimes a b else []) else []
theorem timesA_len (a b : List Int) : (timesA a b).length ≤ 21 := by
  unfold timesA
  split
  · split
    · assumption
    · simp
  · simp
def pScale (a : List Int) (x : Int) : List Int := pTimes a (pTrim [x])
def scaleA (a : List Int) (x : Int) : List Int := if okP a then pScale a x else []
theorem pScale_len (a : List Int) (x : Int) : (pScale a x).length ≤ a.length := by
  unfold pScale
  have h1 := pTimes_len a (pTrim [x])
  have h2 := pTrim_len [x]
  have h3 := trimN_le [x] [x].length
  have h4 : [x].length = 1 := rfl
  rw [h4] at h2 h3
  omega
theorem scaleA_len (a : List Int) (x : Int) : (scaleA a x).length ≤ 21 := by
  unfold scaleA
  split
  · rename_i h; have := okP_len h; have := pScale_len a x; omega
  · simp
end Go.Proofs.Ythhjhfkcgokffaa
