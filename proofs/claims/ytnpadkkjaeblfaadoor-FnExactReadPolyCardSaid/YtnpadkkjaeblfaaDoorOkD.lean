/-
  Is a polynomial valid: of the model and of the program (without the field).
-/
import Derived.Test.YtnpadkkjaeblfaaDoorPoD
namespace Go.Proofs.YtnpadkkjaeblfaaDoor
set_option linter.unusedVariables false
set_option linter.unusedSimpArgs false
open Go.ChangeShapes Go.WideShapes Go.ChangeAt Go.RowKit

def inU (zs : List Int) : Prop := ∀ z ∈ zs, 0 ≤ z ∧ z < 65536
theorem inU.at {zs : List Int} (h : inU zs) (i : Nat) : 0 ≤ zs.getD i 0 ∧ zs.getD i 0 < 65536 := by
  by_cases hi : i < zs.length
  · have := h zs[i] (List.getElem_mem hi)
    simp [List.getD, hi]; exact this
  · simp [List.getD, Nat.not_lt.1 hi]
theorem inU.take {zs : List Int} (h : inU zs) (n : Nat) : inU (zs.take n) := fun z hz => h z (List.mem_of_mem_take hz)
theorem inU.nil : inU [] := fun z hz => by cases hz
/-- a list by its places -/
def tab (n : Nat) (f : Nat → Int) : List Int := (List.range n).map f
theorem tab_len (n : Nat) (f : Nat → Int) : (tab n f).length = n := by simp [tab]
theorem tab_at (n : Nat) (f : Nat → Int) (i : Nat) (h : i < n) : (tab n f).getD i 0 = f i := by simp [tab, List.getD, h]
theorem tab_ext {n : Nat} {f g : Nat → Int} (h : ∀ i, i < n → f i = g i) : tab n f = tab n g := by
  unfold tab
  apply List.map_congr_left
  intro i hi
  exact h i (List.mem_range.1 hi)
theorem tab_in {n : Nat} {f : Nat → Int} (h : ∀ i, i < n → 0 ≤ f i ∧ f i < 65536) : inU (tab n f) := by
  intro z hz
  unfold tab at hz
  obtain ⟨i, hi, rfl⟩ := List.mem_map.1 hz
  exact h i (List.mem_range.1 hi)
def put (f : Nat → Int) (s : Nat) (v : Int) : Nat → Int := fun t => if t = s then v else f t
theorem tab_set (n : Nat) (f : Nat → Int) (s : Nat) (v : Int) : (tab n f).set s v = tab n (put f s v) := by
  apply List.ext_getElem?
  intro i
  unfold tab put
  rw [List.getElem?_set]
  by_cases hi : s = i
  · subst hi
    rw [if_pos rfl]
    by_cases hn : s < n
    · rw [if_pos (by simpa using hn)]; simp [hn]
    · rw [if_neg (by simpa using hn), List.getElem?_eq_none (by simp; omega)]
  · rw [if_neg hi]
    by_cases hn : i < n
    · simp [hn, Ne.symm hi]
    · rw [List.getElem?_eq_none (by simp; omega), List.getElem?_eq_none (by simp; omega)]
theorem list_tab (zs : List Int) : zs = tab zs.length fun i => zs.getD i 0 := by
  apply List.ext_getElem
  · rw [tab_len]
  · intro i h1 h2
    simp [tab, List.getD, h1]
theorem take_tab (n t : Nat) (f : Nat → Int) (h : t ≤ n) : (tab n f).take t = tab t f := by
  unfold tab
  rw [← List.map_take, List.take_range, Nat.min_eq_left h]
theorem getD_take (zs : List Int) (t i : Nat) : (zs.take t).getD i 0 = if i < t then zs.getD i 0 else 0 := by
  by_cases h : i < t
  · rw [if_pos h]; simp [List.getD, List.getElem?_take, h]
  · rw [if_neg h]; simp [List.getD, List.getElem?_take, h]
theorem getD_out (zs : List Int) (i : Nat) (h : zs.length ≤ i) : zs.getD i 0 = 0 := by simp [List.getD, h]

/-- the list without the zeros at its end: how many are left -/
def trimN (zs : List Int) : Nat → Nat
  | 0 => 0
  | n + 1 => if zs.getD n 0 = 0 then trimN zs n else n + 1
theorem trimN_le (zs : List Int) : ∀ n, trimN zs n ≤ n
  | 0 => Nat.le_refl _
  | n + 1 => by
    unfold trimN
    by_cases h : zs.getD n 0 = 0
    · rw [if_pos h]; have := trimN_le zs n; omega
    · rw [if_neg h]; exact Nat.le_refl _
theorem trimN_step (zs : List Int) (n : Nat) (h : zs.getD n 0 = 0) : trimN zs (n + 1) = trimN zs n := by rw [trimN, if_pos h]
theorem trimN_stop (zs : List Int) (n : Nat) (h : ¬ zs.getD n 0 = 0) : trimN zs (n + 1) = n + 1 := by rw [trimN, if_neg h]
theorem trimN_top (zs : List Int) : ∀ n, 0 < trimN zs n → ¬ zs.getD (trimN zs n - 1) 0 = 0
  | 0, h => by simp [trimN] at h
  | n + 1, h => by
    by_cases e : zs.getD n 0 = 0
    · rw [trimN_step zs n e] at h ⊢; exact trimN_top zs n h
    · rw [trimN_stop zs n e]; simpa using e
theorem trimN_zero (zs : List Int) : ∀ n i, trimN zs n ≤ i → i < n → zs.getD i 0 = 0
  | 0, i, _, h => by omega
  | n + 1, i, h1, h2 => by
    by_cases e : zs.getD n 0 = 0
    · rw [trimN_step zs n e] at h1
      by_cases hi : i = n
      · rw [hi]; exact e
      · exact trimN_zero zs n i h1 (by omega)
    · rw [trimN_stop zs n e] at h1; omega
theorem trimN_congr {xs ys : List Int} : ∀ n, (∀ i, i < n → xs.getD i 0 = ys.getD i 0) → trimN xs n = trimN ys n
  | 0, _ => rfl
  | n + 1, h => by
    unfold trimN
    rw [h n (by omega), trimN_congr n (fun i hi => h i (by omega))]
def pTrim (zs : List Int) : List Int := zs.take (trimN zs zs.length)
theorem pTrim_len (zs : List Int) : (pTrim zs).length = trimN zs zs.length := by
  unfold pTrim; rw [List.length_take]; have := trimN_le zs zs.length; omega
theorem pTrim_in {zs : List Int} (h : inU zs) : inU (pTrim zs) := h.take _
theorem pTrim_at (zs : List Int) (i : Nat) : (pTrim zs).getD i 0 = zs.getD i 0 := by
  unfold pTrim
  rw [getD_take]
  by_cases h : i < trimN zs zs.length
  · rw [if_pos h]
  · rw [if_neg h]
    by_cases h2 : i < zs.length
    · exact (trimN_zero zs zs.length i (by omega) h2).symm
    · exact (getD_out zs i (by omega)).symm
/-- a list whose last nimber is not 0 stands as it is -/
def topP (zs : List Int) : Prop := zs.length = 0 ∨ ¬ zs.getD (zs.length - 1) 0 = 0
theorem pTrim_top (zs : List Int) : topP (pTrim zs) := by
  by_cases h : trimN zs zs.length = 0
  · left; rw [pTrim_len]; exact h
  · right; rw [pTrim_at, pTrim_len]; exact trimN_top zs zs.length (by omega)
theorem pTrim_id {zs : List Int} (h : topP zs) : pTrim zs = zs := by
  unfold pTrim
  rcases h with h | h
  · have : zs = [] := List.length_eq_zero_iff.1 h
    rw [this]; rfl
  · obtain ⟨n, hn⟩ : ∃ n, zs.length = n + 1 := by
      cases e : zs.length with
      | zero => rw [e] at h; exact absurd (getD_out zs _ (by omega)) h
      | succ n => exact ⟨n, rfl⟩
    rw [hn] at h ⊢
    rw [trimN_stop zs n (by simpa using h), ← hn, List.take_length]

/-- is the polynomial valid? -/
def okP (zs : List Int) : Bool := decide (zs.length = 0) || (decide (zs.length ≤ 21) && (zs.getD (zs.length - 1) 0 != 0))
theorem okP_len {zs : List Int} (h : okP zs = true) : zs.length ≤ 21 := by
  unfold okP at h
  simp at h
  rcases h with h | h
  · rw [h]; simp
  · exact h.1
theorem okP_top {zs : List Int} (h : okP zs = true) : topP zs := by
  unfold okP at h
  simp at h
  rcases h with h | h
  · left; rw [h]; rfl
  · right; exact h.2
def okC (zs : List Int) : Int := if okP zs then 0 else 1
def okC2 (a b : List Int) : Int := if okP a && okP b then 0 else 1
def degI (zs : List Int) : Int := if okP zs then (zs.length : Int) - 1 else 0
theorem okC_yes {zs : List Int} (h : okP zs = true) : okC zs = 0 := by unfold okC; rw [if_pos h]
theorem okC_no {zs : List Int} (h : okP zs = false) : okC zs = 1 := by unfold okC; rw [if_neg (by rw [h]; decide)]
theorem degI_yes {zs : List Int} (h : okP zs = true) : degI zs = (zs.length : Int) - 1 := by unfold degI; rw [if_pos h]
theorem degI_no {zs : List Int} (h : okP zs = false) : degI zs = 0 := by unfold degI; rw [if_neg (by rw [h]; decide)]
def trimA (zs : List Int) : List Int := if (pTrim zs).length ≤ 21 then pTrim zs else []
def trimC (zs : List Int) : Int := if (pTrim zs).length ≤ 21 then 0 else 3
theorem trimA_len (zs : List Int) : (trimA zs).length ≤ 21 := by
  unfold trimA
  by_cases h : (pTrim zs).length ≤ 21
  · rw [if_pos h]; exact h
  · rw [if_neg h]; simp

set_option maxHeartbeats 1000000 in
theorem l05Ok_any (v : Value) (zs : List Int) (hn : zs.length ≤ 1048576) (w : World) (h : NS w v zs) :
    Calls Tryd.prog 13 #[v] w fun e w' => e = .returned (.bool (okP zs)) ∧ w' = w := by
  obtain ⟨A, c, rfl, hz, hc⟩ := h
  obtain ⟨L, hL⟩ : ∃ L, L = zs.length := ⟨_, rfl⟩
  obtain ⟨bv, hb⟩ : ∃ bv, bv = okP zs := ⟨_, rfl⟩
  have hb' := hb
  unfold okP at hb'
  rw [← hL] at hn hc hb' ⊢
  rw [← hb]
  by_cases h0 : L = 0
  · have hbt : bv = true := by rw [hb', h0]; rfl
    subst hbt
    have T1 : ((L : Int) == 0) = true := by rw [h0]; rfl
    clear hb hb' hc hz hL h0
    go_enter Tryd.func13, Tryd.ntmps13
    go_wp2_with fail
    go_ret
    exact ⟨rfl, rfl⟩
  have T1 : ((L : Int) == 0) = false := by rw [beq_eq_false_iff_ne]; omega
  by_cases h1 : L ≤ 21
  · have T2 : decide ((L : Int) ≤ 21) = true := by simp; omega
    obtain ⟨m, hm⟩ : ∃ m : Nat, m = L - 1 := ⟨_, rfl⟩
    have hm2 : L = m + 1 := by omega
    obtain ⟨b, off, rfl, hlb, hcell⟩ := hc (by omega)
    have q1 := hcell m (by omega)
    have hx : (L : Int) - 1 = (m : Int) := by clear hc hz hb hb' q1; omega
    have i1 : (m : Int) < (L : Int) := by omega
    rw [← hm] at hb'
    obtain ⟨x, hxx⟩ : ∃ x, x = zs.getD m 0 := ⟨_, rfl⟩
    rw [← hxx] at q1 hb'
    have hbt : (x != 0) = bv := by
      rw [hb']
      have e1 : decide (L = 0) = false := by simp; omega
      have e2 : decide (L ≤ 21) = true := by simp; omega
      rw [e1, e2]; simp
    clear hb hb' hc hz hL h0 hcell hm hm2 hxx
    go_enter Tryd.func13, Tryd.ntmps13
    go_wp2_with fail
    go_ret
    exact ⟨by first | rfl | rw [hbt], rfl⟩
  · have T2 : decide ((L : Int) ≤ 21) = false := by simp; omega
    have hbt : bv = false := by
      rw [hb']
      have e1 : decide (L = 0) = false := by simp; omega
      have e2 : decide (L ≤ 21) = false := by simp; omega
      rw [e1, e2]; simp
    subst hbt
    clear hb hb' hc hz hL h0 h1
    go_enter Tryd.func13, Tryd.ntmps13
    go_wp2_with fail
    go_ret
    exact ⟨rfl, rfl⟩
theorem degree_any (A : Option Addr) (L c : Nat) (hn : L ≤ 1048576) (w : World) :
    Calls Tryd.prog 21 #[.slice A L c] w fun e w' => e = .returned (.int .i64 ((L : Int) - 1)) ∧ w' = w := by
  go_enter Tryd.func21, Tryd.ntmps21
  go_wp2_with fail
  go_ret
  exact ⟨rfl, rfl⟩
theorem isZero_any (A : Option Addr) (L c : Nat) (hn : L ≤ 1048576) (w : World) :
    Calls Tryd.prog 16 #[.slice A L c] w fun e w' => e = .returned (.bool (decide (L = 0))) ∧ w' = w := by
  go_enter Tryd.func16, Tryd.ntmps16
  go_wp2_with fail
  go_ret
  refine ⟨?_, rfl⟩
  first
    | rfl
    | (congr 2
       by_cases h : L = 0
       · subst h; rfl
       · have e1 : ((L : Int) == 0) = false := by rw [beq_eq_false_iff_ne]; omega
         rw [e1]; simp [h])
theorem okP_zero {zs : List Int} (h : zs.length = 0) : okP zs = true := by unfold okP; rw [h]; rfl
theorem okP_long {zs : List Int} (h : ¬ zs.length ≤ 21) : okP zs = false := by
  unfold okP
  have e1 : decide (zs.length = 0) = false := by simp; intro e; rw [e] at h; simp at h
  have e2 : decide (zs.length ≤ 21) = false := by simp; omega
  rw [e1, e2]; rfl
theorem okP_last {zs : List Int} {m : Nat} {x : Int} (h0 : ¬ zs.length = 0) (h : zs.length ≤ 21) (hm : m = zs.length - 1) (hx : x = zs.getD m 0) : (x != 0) = okP zs := by
  unfold okP
  rw [← hm, ← hx]
  have e1 : decide (zs.length = 0) = false := by simp; intro e; rw [e] at h0; simp at h0
  have e2 : decide (zs.length ≤ 21) = true := by simp; omega
  rw [e1, e2]; simp
set_option maxHeartbeats 1000000 in
theorem valid_any (v : Value) (zs : List Int) (hn : zs.length ≤ 1048576) (w : World) (h : NS w v zs) :
    Calls Tryd.prog 15 #[v] w fun e w' => e = .returned (.bool (okP zs)) ∧ w' = w := by
  obtain ⟨A, c, rfl, hz, hc⟩ := h
  obtain ⟨bv, hb⟩ : ∃ bv, bv = okP zs := ⟨_, rfl⟩
  rw [← hb]
  by_cases h0 : zs.length = 0
  · rw [okP_zero h0] at hb
    subst hb
    rw [h0]
    clear hz hc h0 hn
    go_enter Tryd.func15, Tryd.ntmps15
    go_wp2_with fail
    refine (degree_any A 0 c (by omega) _).mono ?_
    rintro e w' ⟨rfl, rfl⟩
    go_wp2_with fail
    refine (isZero_any A 0 c (by omega) _).mono ?_
    rintro e w' ⟨rfl, rfl⟩
    go_wp2_with fail
    go_ret
    exact ⟨rfl, rfl⟩
  by_cases h1 : zs.length ≤ 21
  · obtain ⟨m, hm⟩ : ∃ m : Nat, m = zs.length - 1 := ⟨_, rfl⟩
    obtain ⟨b, off, rfl, hlb, hcell⟩ := hc (by omega)
    have q1 := hcell m (by omega)
    obtain ⟨x, hxx⟩ : ∃ x, x = zs.getD m 0 := ⟨_, rfl⟩
    rw [← hxx] at q1
    have hbt : (x != 0) = bv := by rw [hb]; exact okP_last h0 h1 hm hxx
    obtain ⟨L, hL⟩ : ∃ L, L = zs.length := ⟨_, rfl⟩
    rw [← hL] at hn hm h0 h1 ⊢
    have hx : (L : Int) - 1 = (m : Int) := by omega
    have i1 : (m : Int) < (L : Int) := by omega
    have T2 : decide ((m : Int) ≤ 20) = true := by simp; omega
    have T3 : decide (L = 0) = false := by simp; omega
    clear hb hc hz hL hcell hxx hm
    go_enter Tryd.func15, Tryd.ntmps15
    go_wp2_with fail
    refine (degree_any _ L c hn _).mono ?_
    rintro e w' ⟨rfl, rfl⟩
    rw [hx]
    go_wp2_with fail
    refine (isZero_any _ L c hn _).mono ?_
    rintro e w' ⟨rfl, rfl⟩
    rw [T3]
    go_wp2_with fail
    refine (degree_any _ L c hn _).mono ?_
    rintro e w' ⟨rfl, rfl⟩
    rw [hx]
    go_wp2_with fail
    go_ret
    exact ⟨by first | rfl | rw [hbt], rfl⟩
  · rw [okP_long h1] at hb
    subst hb
    obtain ⟨L, hL⟩ : ∃ L, L = zs.length := ⟨_, rfl⟩
    rw [← hL] at hn h1 ⊢
    have T2 : decide ((L : Int) - 1 ≤ 20) = false := by simp; omega
    clear hc hz hL h0
    go_enter Tryd.func15, Tryd.ntmps15
    go_wp2_with fail
    refine (degree_any _ L c hn _).mono ?_
    rintro e w' ⟨rfl, rfl⟩
    go_wp2_with fail
    go_ret
    exact ⟨rfl, rfl⟩
end Go.Proofs.YtnpadkkjaeblfaaDoor
