/-
  Rows made reduced: what is 0 stays so, the first columns of the rows, when there is an inverse.
-/
import Derived.Test.YtjbaeomjinnlhaaInd
namespace Go.Proofs.Ytjbaeomjinnlhaa.Nim
set_option linter.unusedVariables false
theorem pivot_zero (G : Nat → Nat → Nat) (col : Nat) : ∀ n i, (∀ r, i ≤ r → r < i + n → G r col = 0) → pivotFrom G col n i = i + n
  | 0, i, _ => by simp [pivotFrom]
  | n + 1, i, h => by
    unfold pivotFrom
    rw [if_pos (h i (by omega) (by omega)), pivot_zero G col n (i + 1) (fun r h1 h2 => h r (by omega) (by omega))]
    omega
def Like (G G' : Nat → Nat → Nat) : Prop := ∀ r k, r < 6 → k < 6 → G r k = G' r k
theorem Like.pivot {G G' : Nat → Nat → Nat} (h : Like G G') {col : Nat} (hc : col < 6) : ∀ n i, i + n ≤ 6 → pivotFrom G col n i = pivotFrom G' col n i
  | 0, i, _ => rfl
  | n + 1, i, hi => by
    unfold pivotFrom
    rw [h i col (by omega) hc, h.pivot hc n (i + 1) (by omega)]
theorem Like.lead {G G' : Nat → Nat → Nat} (h : Like G G') {i col k : Nat} (hi : i < 6) (hc : col < 6) (hk : k < 6) : lead G i col k = lead G' i col k := by
  unfold Nim.lead; rw [h i k hi hk, h i col hi hc]
theorem Like.other {G G' : Nat → Nat → Nat} (h : Like G G') {t : Nat} (ht : t < 6) (i : Nat) : Like (other G t i) (other G' t i) := fun r k hr hk => by
  unfold Nim.other; split
  · exact h t k ht hk
  · exact h r k hr hk
theorem Like.elim {G G' : Nat → Nat → Nat} (h : Like G G') {t i col : Nat} (ht : t < 6) (hi : i < 6) (hc : col < 6) : Like (elim G t i col) (elim G' t i col) := fun r k hr hk => by
  unfold Nim.elim
  rw [h.lead hi hc hk, h.other ht i r k hr hk, h.other ht i r col hr hc]
theorem redN_len {G : Nat → Nat → Nat} (hG : GB G) (n : Nat) : (redN G n).2.length ≤ 6 := (redN_red hG n).len
theorem redN_step (G : Nat → Nat → Nat) (n : Nat) : redN G (n + 1) = (if pivotFrom (redN G n).1 n (6 - (redN G n).2.length) (redN G n).2.length < 6 then (elim (redN G n).1 (redN G n).2.length (pivotFrom (redN G n).1 n (6 - (redN G n).2.length) (redN G n).2.length) n, (redN G n).2 ++ [n]) else redN G n) := rfl
theorem Like.redN {G G' : Nat → Nat → Nat} (h : Like G G') (hG : GB G) : ∀ n, n ≤ 6 → Like (redN G n).1 (redN G' n).1 ∧ (redN G n).2 = (redN G' n).2
  | 0, _ => ⟨h, rfl⟩
  | n + 1, hn => by
    obtain ⟨i1, i2⟩ := h.redN hG n (by omega)
    have hl := redN_len hG n
    rw [redN_step, redN_step, ← i2, ← i1.pivot (by omega) _ _ (by omega)]
    by_cases hp : pivotFrom (Nim.redN G n).1 n (6 - (Nim.redN G n).2.length) (Nim.redN G n).2.length < 6
    · rw [if_pos hp, if_pos hp]
      have := (pivot_some _ _ _ _ (show pivotFrom (Nim.redN G n).1 n (6 - (Nim.redN G n).2.length) (Nim.redN G n).2.length < (Nim.redN G n).2.length + (6 - (Nim.redN G n).2.length) by omega)).2
      exact ⟨i1.elim (by omega) hp (by omega), rfl⟩
    · rw [if_neg hp, if_neg hp]; exact ⟨i1, i2⟩
/-- a property of cells that each step keeps -/
theorem redN_keep {P : (Nat → Nat → Nat) → Prop} {G : Nat → Nat → Nat} (hG : GB G) (h0 : P G)
    (hs : ∀ H t i col, GB H → P H → t ≤ i → i < 6 → col < 6 → H i col ≠ 0 → P (elim H t i col)) : ∀ n, n ≤ 6 → P (redN G n).1
  | 0, _ => h0
  | n + 1, hn => by
    have ih := redN_keep hG h0 hs n (by omega)
    have hl := redN_len hG n
    rw [redN_step]
    by_cases hp : pivotFrom (redN G n).1 n (6 - (redN G n).2.length) (redN G n).2.length < 6
    · rw [if_pos hp]
      have := pivot_some _ _ _ _ (show pivotFrom (redN G n).1 n (6 - (redN G n).2.length) (redN G n).2.length < (redN G n).2.length + (6 - (redN G n).2.length) by omega)
      exact hs _ _ _ _ (redN_b hG n) ih this.2 hp (by omega) this.1
    · rw [if_neg hp]; exact ih
/-- a column of zeros -/
def ZC (k : Nat) (G : Nat → Nat → Nat) : Prop := ∀ r, r < 6 → G r k = 0
/-- rows of zeros, from R on, on the first six columns -/
def ZR (R : Nat) (G : Nat → Nat → Nat) : Prop := ∀ r k, R ≤ r → r < 6 → k < 6 → G r k = 0
theorem ZC.redN {G : Nat → Nat → Nat} {k : Nat} (hG : GB G) (h : ZC k G) (n : Nat) (hn : n ≤ 6) : ZC k (redN G n).1 :=
  redN_keep (P := ZC k) hG h (fun H t i col _ hH hti hi hc hp => elim_col (by omega) hi hH) n hn
theorem ZR.elim {G : Nat → Nat → Nat} {R t i col : Nat} (h : ZR R G) (hti : t ≤ i) (hi : i < 6) (hc : col < 6) (hp : G i col ≠ 0) : i < R ∧ ZR R (elim G t i col) := by
  have hiR : i < R := Classical.byContradiction fun x => hp (h i col (by omega) hi hc)
  refine ⟨hiR, fun r k hr h6 hk => ?_⟩
  unfold Nim.elim
  rw [if_neg (by omega)]
  unfold Nim.other
  rw [if_neg (by omega), h r k hr h6 hk, h r col hr h6 hc, mul_zero_right]; rfl
theorem ZR.redN {G : Nat → Nat → Nat} {R : Nat} (hG : GB G) (h : ZR R G) (n : Nat) (hn : n ≤ 6) : ZR R (redN G n).1 :=
  redN_keep (P := ZR R) hG h (fun H t i col _ hH hti hi hc hp => (hH.elim hti hi hc hp).2) n hn
theorem ZR.len {G : Nat → Nat → Nat} {R : Nat} (hG : GB G) (h : ZR R G) : ∀ n, n ≤ 6 → (Nim.redN G n).2.length ≤ R
  | 0, _ => Nat.zero_le _
  | n + 1, hn => by
    have ih := h.len hG n (by omega)
    have hl := redN_len hG n
    rw [redN_step]
    by_cases hp : pivotFrom (Nim.redN G n).1 n (6 - (Nim.redN G n).2.length) (Nim.redN G n).2.length < 6
    · rw [if_pos hp]
      have := pivot_some _ _ _ _ (show pivotFrom (Nim.redN G n).1 n (6 - (Nim.redN G n).2.length) (Nim.redN G n).2.length < (Nim.redN G n).2.length + (6 - (Nim.redN G n).2.length) by omega)
      have := ((h.redN hG n (by omega)).elim this.2 hp (by omega) this.1).1
      simp; omega
    · rw [if_neg hp]; exact ih
theorem redN_tail {G : Nat → Nat → Nat} {C : Nat} (hG : GB G) (h : ∀ k, C ≤ k → k < 6 → ZC k G) : ∀ n, C ≤ n → n ≤ 6 → redN G n = redN G C
  | n, h1, h2 => by
    by_cases e : n = C
    · rw [e]
    · obtain ⟨m, rfl⟩ : ∃ m, n = m + 1 := ⟨n - 1, by omega⟩
      have ih := redN_tail hG h m (by omega) (by omega)
      show redStep (redN G m) m = _
      rw [ih]
      have hz := (h m (by omega) (by omega)).redN hG C (by omega)
      exact redStep_zero (redN_len hG C) hz
/-- the first column of a row with a cell that is not 0; 6 if there is none -/
def firstOf (a : Nat → Nat) : Nat := pivotFrom (fun k _ => a k) 0 6 0
def leadsN (G : Nat → Nat → Nat) : Nat → List Nat
  | 0 => []
  | n + 1 => if firstOf (G n) < 6 then leadsN G n ++ [firstOf (G n)] else leadsN G n
theorem pivot_upto (G : Nat → Nat → Nat) (col p : Nat) (h : G p col ≠ 0) : ∀ n i, i ≤ p → p < i + n → pivotFrom G col n i ≤ p
  | 0, i, h1, h2 => by omega
  | n + 1, i, h1, h2 => by
    unfold pivotFrom
    by_cases e : G i col = 0
    · rw [if_pos e]
      have hip : i ≠ p := fun x => h (x ▸ e)
      exact pivot_upto G col p h n (i + 1) (by omega) (by omega)
    · rw [if_neg e]; exact h1
theorem first_is {a : Nat → Nat} {p : Nat} (hp : p < 6) (h : a p ≠ 0) (hb : ∀ k, k < p → a k = 0) : firstOf a = p := by
  unfold firstOf
  have h1 := pivot_upto (fun k _ => a k) 0 p h 6 0 (by omega) (by omega)
  have h2 := (pivot_some (fun k _ => a k) 0 6 0 (by omega)).1
  by_cases e : pivotFrom (fun k _ => a k) 0 6 0 = p
  · exact e
  · exact absurd (hb _ (by omega)) h2
theorem first_none {a : Nat → Nat} (h : ∀ k, k < 6 → a k = 0) : firstOf a = 6 := pivot_zero (fun k _ => a k) 0 6 0 (fun r _ hr => h r (by omega))
theorem Red.first {G : Nat → Nat → Nat} {fs : List Nat} (h : Red 6 G fs) (j : Nat) (hj : j < fs.length) : firstOf (G j) = fs[j] :=
  first_is (h.lt j hj) (by rw [h.unit j hj j (by have := h.len; omega), if_pos rfl]; decide) (h.before j hj)
theorem Red.firstNone {G : Nat → Nat → Nat} {fs : List Nat} (h : Red 6 G fs) (j : Nat) (hj : fs.length ≤ j) (h6 : j < 6) : firstOf (G j) = 6 :=
  first_none (h.rest j hj h6)
theorem Red.leads {G : Nat → Nat → Nat} {fs : List Nat} (h : Red 6 G fs) : ∀ n, n ≤ 6 → leadsN G n = fs.take n
  | 0, _ => by simp [leadsN]
  | n + 1, hn => by
    unfold leadsN
    rw [h.leads n (by omega)]
    by_cases hl : n < fs.length
    · rw [h.first n hl, if_pos (h.lt n hl), List.take_append_getElem hl]
    · rw [h.firstNone n (by omega) (by omega), if_neg (by omega), List.take_of_length_le (by omega), List.take_of_length_le (by omega)]
theorem Red.leads6 {G : Nat → Nat → Nat} {fs : List Nat} (h : Red 6 G fs) : leadsN G 6 = fs := by
  rw [h.leads 6 (Nat.le_refl 6), List.take_of_length_le h.len]
/-! ### cells with traces -/
def wide (F : Nat → Nat → Nat) (R : Nat) : Nat → Nat → Nat := fun r k => if k < 6 then F r k else if r < R ∧ k = 6 + r then 1 else 0
theorem wide_b {F : Nat → Nat → Nat} (h : GB F) (R : Nat) : GB (wide F R) := fun r k => by
  unfold wide; split
  · exact h r k
  · split <;> decide
theorem wide_like (F : Nat → Nat → Nat) (R : Nat) : Like F (wide F R) := fun r k _ hk => by unfold wide; rw [if_pos hk]
/-- traces: six columns; those from R on hold 0, and the rows from R on -/
theorem wide_zc {F : Nat → Nat → Nat} (h : GB F) {R : Nat} (k : Nat) (hk : R ≤ k) (n : Nat) (hn : n ≤ 6) : ZC (6 + k) (redN (wide F R) n).1 :=
  ZC.redN (wide_b h R) (fun r hr => by unfold wide; rw [if_neg (by omega), if_neg (by omega)]) n hn
theorem wide_zr {F : Nat → Nat → Nat} (h : GB F) {R : Nat} (hz : ZR R F) (n : Nat) (hn : n ≤ 6) : ∀ r k, R ≤ r → r < 6 → k < 12 → (redN (wide F R) n).1 r k = 0 := by
  refine (redN_keep (P := fun H => ∀ r k, R ≤ r → r < 6 → k < 12 → H r k = 0) (wide_b h R) ?_ ?_ n hn)
  · intro r k h1 h2 h3
    unfold wide
    by_cases e : k < 6
    · rw [if_pos e]; exact hz r k h1 h2 e
    · rw [if_neg e, if_neg (by omega)]
  · intro H t i col hH hP hti hi hc hp r k h1 h2 h3
    have hiR : i < R := Classical.byContradiction fun x => hp (hP i col (by omega) hi (by omega))
    unfold elim
    rw [if_neg (by omega)]
    unfold other
    rw [if_neg (by omega), hP r k h1 h2 h3, hP r col h1 h2 (by omega), mul_zero_right]; rfl
theorem wide_ind {F : Nat → Nat → Nat} (h : GB F) {R : Nat} (hR : R ≤ 6) (hz : ZR R F) (n : Nat) (hn : n ≤ 6) : Ind R (redN (wide F R) n).1 := by
  refine (redN_keep (P := fun H => ZR R H ∧ Ind R H) (wide_b h R) ⟨?_, ?_⟩ ?_ n hn).2
  · intro r k h1 h2 h3
    unfold wide; rw [if_pos h3]; exact hz r k h1 h2 h3
  · exact Ind.one hR (fun r k hr hk => by
      unfold wide
      rw [if_neg (by omega)]
      by_cases e : r = k
      · rw [if_pos (by omega), if_pos e]
      · rw [if_neg (by omega), if_neg e])
  · intro H t i col hH ⟨hP, hI⟩ hti hi hc hp
    obtain ⟨hiR, hZ⟩ := hP.elim hti hi hc hp
    exact ⟨hZ, hI.elim hH (by omega) hiR hp⟩
/-- as many first columns as there are: they are all columns -/
theorem full_at {G : Nat → Nat → Nat} {fs : List Nat} {n R : Nat} (h : Red n G fs) (hf : ∀ j, (hj : j < fs.length) → fs[j] < R) (hl : fs.length = R) : ∀ j, (hj : j < fs.length) → fs[j] = j := by
  have lo : ∀ j, (hj : j < fs.length) → j ≤ fs[j] := by
    intro j
    induction j with
    | zero => intro _; exact Nat.zero_le _
    | succ j ih => intro hj; have := ih (by omega); have := h.inc j (j + 1) (by omega) hj; omega
  have hi : ∀ d j, (hj : j < fs.length) → j + d + 1 = fs.length → fs[j] ≤ j := by
    intro d
    induction d with
    | zero => intro j hj e; have := hf j hj; omega
    | succ d ih =>
      intro j hj e
      have := ih (j + 1) (by omega) (by omega)
      have := h.inc j (j + 1) (by omega) (by omega)
      omega
  intro j hj
  have := lo j hj
  have := hi (fs.length - j - 1) j hj (by omega)
  omega
theorem red_lt {F : Nat → Nat → Nat} (h : GB F) {C : Nat} (hc : ∀ k, C ≤ k → k < 6 → ZC k F) (hC : C ≤ 6) : ∀ j, (hj : j < (redN F 6).2.length) → (redN F 6).2[j] < C := by
  rw [redN_tail h hc 6 hC (Nat.le_refl 6)]
  exact (redN_red h C).lt
theorem inv_full {F : Nat → Nat → Nat} (h : GB F) {n : Nat} (hn : n ≤ 6) (hz : ZR n F) (hc : ∀ k, n ≤ k → k < 6 → ZC k F) (hl : (redN F 6).2.length = n) :
    ∀ r k, r < 6 → k < 6 → (redN F 6).1 r k = if r = k ∧ r < n then 1 else 0 := fun r k hr hk => by
  have R6 := redN_red h 6
  have ha := full_at R6 (red_lt h hc hn) hl
  by_cases e : k < n
  · have hj : k < (redN F 6).2.length := by omega
    have := R6.unit k hj r hr
    rw [ha k hj] at this
    rw [this]
    by_cases e2 : r = k
    · rw [if_pos e2, if_pos ⟨e2, by omega⟩]
    · rw [if_neg e2, if_neg (by omega)]
  · rw [(hc k (by omega) hk).redN h 6 (Nat.le_refl 6) r hr, if_neg (by omega)]
theorem inv_less {F : Nat → Nat → Nat} (h : GB F) {n : Nat} (hn : n ≤ 6) (hz : ZR n F) (hl : (redN F 6).2.length < n) :
    ∃ k, k < n ∧ (redN (wide F n) 6).1 (n - 1) (6 + k) ≠ 0 := by
  obtain ⟨k, hk, hne⟩ := (wide_ind h hn hz 6 (Nat.le_refl 6)).row hn (redN_b (wide_b h n) 6) (n - 1) (by omega)
  exact ⟨k, Classical.byContradiction fun x => hne (wide_zc h k (by omega) 6 (Nat.le_refl 6) (n - 1) (by omega)), hne⟩
/-! ### vectors whose cells are set one by one -/
def puts1 (fs : List Nat) (val : Nat → Nat) (v : Nat → Nat) : Nat → Nat → Nat
  | 0 => v
  | n + 1 => fun k => if k = fs.getD n 0 then val n else puts1 fs val v n k
/-- is there a column among the first ones: those less than it come first -/
theorem Red.mem {n : Nat} {G : Nat → Nat → Nat} {fs : List Nat} (h : Red n G fs) {col m : Nat} (hm : m ≤ fs.length) (h1 : ∀ j, (hj : j < fs.length) → j < m → fs[j] < col) (h2 : ∀ j, (hj : j < fs.length) → m ≤ j → col ≤ fs[j]) :
    col ∈ fs ↔ ∃ hj : m < fs.length, fs[m] = col := by
  constructor
  · intro hx
    obtain ⟨j, hj, e⟩ := List.getElem_of_mem hx
    have hjm : m ≤ j := Classical.byContradiction fun x => by have := h1 j hj (by omega); omega
    have hml : m < fs.length := by omega
    refine ⟨hml, ?_⟩
    by_cases e2 : j = m
    · subst e2; exact e
    · have a1 := h.inc m j (by omega) hj
      have a2 := h2 m hml (Nat.le_refl m)
      omega
  · rintro ⟨hj, e⟩
    exact e ▸ List.getElem_mem hj
theorem Red.memStep {n : Nat} {G : Nat → Nat → Nat} {fs : List Nat} (h : Red n G fs) {col m : Nat} (hm : m ≤ fs.length) (h1 : ∀ j, (hj : j < fs.length) → j < m → fs[j] < col) (h2 : ∀ j, (hj : j < fs.length) → m ≤ j → col ≤ fs[j]) :
    (∀ hj : m < fs.length, fs[m] = col → (∀ j, (hj : j < fs.length) → j < m + 1 → fs[j] < col + 1) ∧ (∀ j, (hj : j < fs.length) → m + 1 ≤ j → col + 1 ≤ fs[j])) ∧
    (col ∉ fs → (∀ j, (hj : j < fs.length) → j < m → fs[j] < col + 1) ∧ (∀ j, (hj : j < fs.length) → m ≤ j → col + 1 ≤ fs[j])) := by
  constructor
  · intro hj e
    refine ⟨fun j hj2 hl => ?_, fun j hj2 hl => ?_⟩
    · by_cases x : j = m
      · subst x; omega
      · have := h1 j hj2 (by omega); omega
    · have := h.inc m j (by omega) hj2; omega
  · intro hx
    refine ⟨fun j hj2 hl => by have := h1 j hj2 hl; omega, fun j hj2 hl => ?_⟩
    have a := h2 j hj2 hl
    by_cases e : fs[j] = col
    · exact absurd (e ▸ List.getElem_mem hj2) hx
    · omega
end Go.Proofs.Ytjbaeomjinnlhaa.Nim
