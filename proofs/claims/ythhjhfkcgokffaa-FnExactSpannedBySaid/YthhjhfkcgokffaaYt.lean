/-
  Spans: words of a base, their places and their order; spans that grow; sorted lists; a row of words permuted.
-/
import Derived.Test.YthhjhfkcgokffaaYs
namespace Go.Proofs.Ythhjhfkcgokffaa
set_option linter.unusedVariables false
set_option linter.unusedSimpArgs false
open Go.ChangeShapes Go.WideShapes Go.ChangeAt Go.RowKit Go.Shelf

/-- a word of the base n, of length l -/
def BWd (n : Int) (l : Nat) (zs : List Int) : Prop := zs.length = l ∧ ∀ i, i < l → 0 ≤ zs.getD i 0 ∧ zs.getD i 0 < n
theorem BWd.valid {n : Int} {l : Nat} {zs : List Int} (h : BWd n l zs) (h1 : 1 ≤ l) (h7 : l ≤ 7) : wdB n zs = true := by
  unfold wdB
  rw [Bool.and_eq_true, Bool.and_eq_true, decide_eq_true_iff, decide_eq_true_iff, h.1]
  exact ⟨⟨h1, h7⟩, ltAll_iff.2 fun i hi => (h.2 i (by rw [← h.1]; exact hi)).2⟩
theorem BWd.of_valid {n : Int} {zs : List Int} (h : wdB n zs = true) (hu : inU zs) : BWd n zs.length zs :=
  ⟨rfl, fun i hi => ⟨(hu.at i).1, ltAll_iff.1 (wdB_all h) i hi⟩⟩
theorem BWd.plus {n : Int} {l : Nat} {xs ys : List Int} (hn : baB n = true) (h : BWd n l xs) (h' : BWd n l ys) : BWd n l (wplus xs ys) := by
  unfold wplus
  refine ⟨by rw [tab_len]; exact h.1, fun i hi => ?_⟩
  rw [tab_at _ _ _ (by rw [h.1]; exact hi)]
  exact xorI_lt n (by rcases baB_cases hn with e | e | e | e <;> omega) _ _ (h.2 i hi).2 (h'.2 i hi).2
theorem mulI_base {n : Int} (hn : baB n = true) (x y : Int) (h : x < n) (h' : y < n) : 0 ≤ mulI x y ∧ mulI x y < n := by
  rcases baB_cases hn with e | e | e | e
  · subst e; exact mulI_lt 0 (by decide) 2 rfl x y h h'
  · subst e; exact mulI_lt 1 (by decide) 4 rfl x y h h'
  · subst e; exact mulI_lt 2 (by decide) 16 rfl x y h h'
  · subst e; exact mulI_lt 3 (by decide) 256 rfl x y h h'
theorem BWd.scale {n a : Int} {l : Nat} {xs : List Int} (hn : baB n = true) (ha : a < n) (h : BWd n l xs) : BWd n l (wscale a xs) := by
  unfold wscale
  refine ⟨by rw [tab_len]; exact h.1, fun i hi => ?_⟩
  rw [tab_at _ _ _ (by rw [h.1]; exact hi)]
  exact mulI_base hn a _ ha (h.2 i hi).2
theorem BWd.zero {n : Int} (hn : 0 < n) (l : Nat) : BWd n l (tab l fun _ => 0) :=
  ⟨tab_len _ _, fun i hi => by rw [tab_at _ _ _ hi]; exact ⟨by omega, hn⟩⟩
theorem plI_cons (b z : Int) (zs : List Int) : ∀ k : Nat, plI b (z :: zs) (k + 1) = z * b ^ k + plI b zs k
  | 0 => by simp [plI]
  | k + 1 => by
    rw [plI, plI_cons b z zs k, plI, Int.pow_succ]
    simp only [List.getD_cons_succ]
    rw [Int.add_mul, Int.mul_assoc, Int.add_assoc]
theorem plI_range {b : Int} (hb : 0 < b) : ∀ zs : List Int, (∀ z ∈ zs, 0 ≤ z ∧ z < b) → 0 ≤ plI b zs zs.length ∧ plI b zs zs.length < b ^ zs.length
  | [], _ => by simp [plI]
  | z :: zs, h => by
    obtain ⟨h1, h2⟩ := plI_range hb zs (fun y hy => h y (List.mem_cons_of_mem _ hy))
    obtain ⟨z0, z1⟩ := h z List.mem_cons_self
    rw [List.length_cons, plI_cons, Int.pow_succ]
    have hp : 0 ≤ b ^ zs.length := Int.le_trans h1 (by omega)
    have h3 : 0 ≤ z * b ^ zs.length := Int.mul_nonneg z0 hp
    have h4 : (z + 1) * b ^ zs.length ≤ b * b ^ zs.length := Int.mul_le_mul_of_nonneg_right (by omega) hp
    rw [Int.add_mul, Int.one_mul, Int.mul_comm b] at h4
    omega
theorem plI_cmp {b : Int} (hb : 0 < b) : ∀ xs ys : List Int, xs.length = ys.length → (∀ z ∈ xs, 0 ≤ z ∧ z < b) → (∀ z ∈ ys, 0 ≤ z ∧ z < b) → (cmpL xs ys < 0 ↔ plI b xs xs.length < plI b ys ys.length)
  | [], [], _, _, _ => by simp [cmpL, plI]
  | [], _ :: _, h, _, _ => by simp at h
  | _ :: _, [], h, _, _ => by simp at h
  | x :: xs, y :: ys, h, hx, hy => by
    have hl : xs.length = ys.length := by simpa using h
    have ih := plI_cmp hb xs ys hl (fun z hz => hx z (List.mem_cons_of_mem _ hz)) (fun z hz => hy z (List.mem_cons_of_mem _ hz))
    obtain ⟨x1, x2⟩ := plI_range hb xs (fun z hz => hx z (List.mem_cons_of_mem _ hz))
    obtain ⟨y1, y2⟩ := plI_range hb ys (fun z hz => hy z (List.mem_cons_of_mem _ hz))
    rw [cmpL, List.length_cons, List.length_cons, plI_cons, plI_cons, hl]
    rw [hl] at ih x1 x2
    have hp : 0 ≤ b ^ ys.length := Int.le_trans y1 (by omega)
    by_cases a : x < y
    · have h4 : (x + 1) * b ^ ys.length ≤ y * b ^ ys.length := Int.mul_le_mul_of_nonneg_right (by omega) hp
      rw [Int.add_mul, Int.one_mul] at h4
      rw [if_pos a]
      constructor
      · intro _; omega
      · intro _; decide
    · rw [if_neg a]
      by_cases c : y < x
      · have h4 : (y + 1) * b ^ ys.length ≤ x * b ^ ys.length := Int.mul_le_mul_of_nonneg_right (by omega) hp
        rw [Int.add_mul, Int.one_mul] at h4
        rw [if_pos c]
        constructor
        · intro h; exact absurd h (by decide)
        · intro h; omega
      · have e : x = y := by omega
        subst e
        rw [if_neg c, ih]
        omega
theorem BWd.mem {n : Int} {l : Nat} {zs : List Int} (h : BWd n l zs) : ∀ z ∈ zs, 0 ≤ z ∧ z < n := by
  intro z hz
  obtain ⟨i, hi, rfl⟩ := List.mem_iff_getElem.1 hz
  have := h.2 i (by rw [← h.1]; exact hi)
  simpa [List.getD, hi] using this
theorem BWd.cmp {n : Int} {l : Nat} {xs ys : List Int} (hn : 0 < n) (h : BWd n l xs) (h' : BWd n l ys) : cmpL xs ys < 0 ↔ plI n xs xs.length < plI n ys ys.length :=
  plI_cmp hn xs ys (h.1.trans h'.1.symm) h.mem h'.mem
/-- a list of words sorted -/
def stS (sp : List (List Int)) : List (List Int) := sp.mergeSort fun a b => decide (¬ cmpL b a < 0)
theorem cmpL_ntrans {x y z : List Int} (h1 : ¬ cmpL y x < 0) (h2 : ¬ cmpL z y < 0) : ¬ cmpL z x < 0 := by
  intro h3
  have a1 := cmpL_anti x y
  have a2 := cmpL_anti y z
  by_cases e1 : cmpL y x = 0
  · have := cmpL_eq _ _ e1
    rw [← this] at h3
    exact h2 h3
  · have h4 := cmpL_trans z x y h3 (by omega)
    exact h2 h4
theorem srtL_pw {xs : List (List Int)} : SrtL xs ↔ xs.Pairwise fun a b => ¬ cmpL b a < 0 := by
  rw [List.pairwise_iff_getElem]
  constructor
  · intro h i j hi hj hij
    exact srt_at h hij hj
  · intro h i j hij hj
    have := h i j (by omega) hj hij
    simpa [List.getD, hj, show i < xs.length from by omega] using this
theorem stS_srt (sp : List (List Int)) : SrtL (stS sp) := by
  rw [srtL_pw]
  have := List.pairwise_mergeSort (le := fun a b => decide (¬ cmpL b a < 0)) (fun a b c h1 h2 => by
    rw [decide_eq_true_iff] at *
    exact cmpL_ntrans h1 h2) (fun a b => by
    rw [Bool.or_eq_true, decide_eq_true_iff, decide_eq_true_iff]
    have := cmpL_anti a b
    omega) sp
  exact this.imp fun h => by rwa [decide_eq_true_iff] at h
theorem stS_one {xs sp : List (List Int)} (hp : xs.Perm sp) (hs : SrtL xs) : xs = stS sp := by
  refine List.Perm.eq_of_pairwise (le := fun a b => ¬ cmpL b a < 0) (fun a b _ _ h1 h2 => ?_) (srtL_pw.1 hs) (srtL_pw.1 (stS_srt sp)) (hp.trans (List.mergeSort_perm _ _).symm)
  have := cmpL_anti a b
  exact cmpL_eq _ _ (by omega)
theorem stS_len (sp : List (List Int)) : (stS sp).length = sp.length := (List.mergeSort_perm _ _).length_eq
/-- the sums of the words of a span and of the first a products of a word -/
def grP (sp : List (List Int)) (x : List Int) : Nat → List (List Int)
  | 0 => []
  | a + 1 => grP sp x a ++ sp.map fun y => wplus y (wscale (a : Int) x)
theorem grP_len (sp : List (List Int)) (x : List Int) : ∀ a, (grP sp x a).length = sp.length * a
  | 0 => rfl
  | a + 1 => by rw [grP, List.length_append, List.length_map, grP_len sp x a, Nat.mul_succ]
theorem grP_wb {n : Int} {l : Nat} (hn : baB n = true) {sp : List (List Int)} {x : List Int} (hs : ∀ y ∈ sp, BWd n l y) (hx : BWd n l x) : ∀ a : Nat, (a : Int) ≤ n → ∀ y ∈ grP sp x a, BWd n l y
  | 0, _, y, h => by cases h
  | a + 1, ha, y, h => by
    rw [grP, List.mem_append] at h
    rcases h with h | h
    · exact grP_wb hn hs hx a (by omega) y h
    · obtain ⟨z, hz, rfl⟩ := List.mem_map.1 h
      exact (hs z hz).plus hn (hx.scale hn (by omega))
/-- the span of the first k words; none: too many -/
def spT (n : Nat) (gs : List (List Int)) : Nat → Option (List (List Int))
  | 0 => some [tab (gs.getD 0 []).length fun _ => 0]
  | k + 1 => (spT n gs k).bind fun sp => if memB sp (gs.getD k []) = true then some sp else if 300 < sp.length * n then none else some (grP sp (gs.getD k []) n)
theorem spT_in {n : Nat} {gs sp : List (List Int)} {k : Nat} (h : spT n gs k = some sp) (hm : memB sp (gs.getD k []) = true) : spT n gs (k + 1) = some sp := by
  rw [spT, h]; show (if _ then _ else _) = _; rw [if_pos hm]
theorem spT_many {n : Nat} {gs sp : List (List Int)} {k : Nat} (h : spT n gs k = some sp) (hm : memB sp (gs.getD k []) = false) (h3 : 300 < sp.length * n) : spT n gs (k + 1) = none := by
  rw [spT, h]; show (if _ then _ else _) = _; rw [if_neg (by rw [hm]; decide), if_pos h3]
theorem spT_more {n : Nat} {gs sp : List (List Int)} {k : Nat} (h : spT n gs k = some sp) (hm : memB sp (gs.getD k []) = false) (h3 : ¬ 300 < sp.length * n) : spT n gs (k + 1) = some (grP sp (gs.getD k []) n) := by
  rw [spT, h]; show (if _ then _ else _) = _; rw [if_neg (by rw [hm]; decide), if_neg h3]
theorem spT_none {n : Nat} {gs : List (List Int)} {k : Nat} (h : spT n gs k = none) : ∀ j, spT n gs (k + j) = none
  | 0 => h
  | j + 1 => by rw [← Nat.add_assoc, spT, spT_none h j]; rfl
theorem spT_ok {n : Nat} (hn : baB (n : Int) = true) {gs : List (List Int)} {l : Nat} (hl : (gs.getD 0 []).length = l) (hg : ∀ i, i < gs.length → BWd (n : Int) l (gs.getD i [])) : ∀ k sp, k ≤ gs.length → spT n gs k = some sp → 0 < sp.length ∧ sp.length ≤ 300 ∧ ∀ y ∈ sp, BWd (n : Int) l y
  | 0, sp, _, h => by
    have e : [tab (gs.getD 0 []).length fun _ => (0 : Int)] = sp := Option.some.inj h
    subst e
    refine ⟨by simp, by simp, fun y hy => ?_⟩
    rw [List.mem_singleton] at hy
    rw [hy, hl]
    exact BWd.zero (by rcases baB_cases hn with e | e | e | e <;> omega) l
  | k + 1, sp, hk, h => by
    rw [spT] at h
    cases h0 : spT n gs k with
    | none => rw [h0] at h; cases h
    | some sp0 =>
      rw [h0] at h
      have ih := spT_ok hn hl hg k sp0 (by omega) h0
      have h : (if memB sp0 (gs.getD k []) = true then some sp0 else if 300 < sp0.length * n then none else some (grP sp0 (gs.getD k []) n)) = some sp := h
      split at h
      · rw [← Option.some.inj h]; exact ih
      · split at h
        · cases h
        · rename_i h3
          rw [← Option.some.inj h, grP_len]
          refine ⟨Nat.mul_pos ih.1 (by rcases baB_cases hn with e | e | e | e <;> omega), by omega, grP_wb hn ih.2.2 (hg k (by omega)) n (Int.le_refl _)⟩
def spC (n : Int) (gs : List (List Int)) : Int := if lsC n gs [] = 0 then (if gs.length = 0 then 0 else match spT n.toNat gs gs.length with | none => 7 | some _ => 0) else lsC n gs []
def spA (n : Int) (gs : List (List Int)) : List (List Int) := if lsC n gs [] = 0 then (if gs.length = 0 then [] else match spT n.toNat gs gs.length with | none => [] | some sp => stS sp) else []
/-- all blocks but g stand as they stood -/
def GBx (w w' : World) (g : Nat) : Prop := w.heap.size ≤ w'.heap.size ∧ ∀ k, k < w.heap.size → k ≠ g → w'.heap[k]? = w.heap[k]?
theorem GBx.of {w w' : World} {g : Nat} (h : w.grownBy w' (some g)) : GBx w w' g := ⟨h.size, fun k hk hne => h.block k hk (fun e => hne (Option.some.inj e))⟩
theorem GBx.refl (w : World) (g : Nat) : GBx w w g := ⟨Nat.le_refl _, fun _ _ _ => rfl⟩
theorem GBx.trans {w w' w'' : World} {g : Nat} (h : GBx w w' g) (h' : GBx w' w'' g) : GBx w w'' g := ⟨Nat.le_trans h.1 h'.1, fun k hk hne => (h'.2 k (Nat.lt_of_lt_of_le hk h.1) hne).trans (h.2 k hk hne)⟩
theorem GBx.drewN {w w' : World} {g : Nat} (h : GBx w w' g) (m : Nat) : GBx w (w'.drewN m) g := h
theorem PO.gbx {w w' : World} {B g : Nat} {u : Value} {zs : List Int} (h : PO w B u zs) (hg : GBx w w' g) (hs : ∃ cur, w.heap[g]? = some (.cells cur 25 (0, 0))) : PO w' B u zs := by
  obtain ⟨A, c, rfl, h1, h2, hz, h3, h4⟩ := h
  refine ⟨A, c, rfl, h1, h2, hz, h3, fun hn => ?_⟩
  obtain ⟨g1, k', rfl, ho⟩ := h4 hn
  refine ⟨g1, k', rfl, ho.1, ?_⟩
  rcases ho.2 with ⟨e, h0⟩ | ⟨g', cap, cur, e, hb, hg', q⟩
  · exact .inl ⟨e, h0⟩
  · cases e
    refine .inr ⟨g1, k', cur, rfl, hb, (hg.2 g1 (Array.getElem?_eq_some_iff.1 hg').1 (fun e => ?_)).trans hg', q⟩
    subst e
    obtain ⟨cur2, h2⟩ := hs
    rw [hg'] at h2
    exact absurd h2 (by intro e; injection e with e; injection e with e1 e2; exact word_ne e2.symm)
/-- a row of words, permuted -/
theorem GW.perm {w w' : World} {B g n c : Nat} {gs : List (List Int)} {us : Nat → Value} {vs : List Value} (hl : gs.length = n) (ho : w.ownsRow B 25 1 (.slice (some ⟨g, 0, none⟩) n c) n vs) (hv : ∀ i, i < n → vs[i]? = some (us i)) (hr : WR w B w.heap.size us gs n)
    {ps : List (Value × List Int)} (hp : ps.Perm (vs.zip gs)) (ho' : w'.ownsRow B 25 1 (.slice (some ⟨g, 0, none⟩) n c) n (ps.map (·.1))) (hg : GBx w w' g) : GW w' B (.slice (some ⟨g, 0, none⟩) n c) (ps.map (·.2)) := by
  have hlv : vs.length = n := by have := ho.1; omega
  have hpl : ps.length = n := by rw [hp.length_eq, List.length_zip, hlv, hl, Nat.min_self]
  have hz : ∀ i (hi : i < n), (vs.zip gs)[i]? = some (us i, gs.getD i []) := fun i hi => List.getElem?_zip_eq_some.2 ⟨hv i hi, by
    rw [List.getElem?_eq_getElem (by omega)]; simp [List.getD, show i < gs.length from by omega]⟩
  have hall : ∀ p ∈ ps, PO w B p.1 p.2 ∧ (0 < p.2.length → ∀ k, p.1.ownBlock = some k → k < w.heap.size) := fun p hpm => by
    obtain ⟨i, hi, e⟩ := List.mem_iff_getElem.1 ((hp.mem_iff).1 hpm)
    have hi' : i < n := by rw [List.length_zip, hlv, hl, Nat.min_self] at hi; exact hi
    have h2 := hz i hi'
    rw [List.getElem?_eq_getElem hi, e] at h2
    rw [Option.some.inj h2]
    exact hr.1 i hi'
  have hpw : (vs.zip gs).Pairwise fun p q => 0 < p.2.length → 0 < q.2.length → p.1.ownBlock ≠ q.1.ownBlock := by
    rw [List.pairwise_iff_getElem]
    intro i j hi hj hij h1 h2
    have hj' : j < n := by rw [List.length_zip, hlv, hl, Nat.min_self] at hj; exact hj
    have e1 := hz i (by omega)
    have e2 := hz j hj'
    rw [List.getElem?_eq_getElem hi] at e1
    rw [List.getElem?_eq_getElem hj] at e2
    rw [Option.some.inj e1] at h1 ⊢
    rw [Option.some.inj e2] at h2 ⊢
    exact hr.2 i j hij hj' h1 h2
  have hpw2 : ps.Pairwise fun p q => 0 < p.2.length → 0 < q.2.length → p.1.ownBlock ≠ q.1.ownBlock := (hp.pairwise_iff (fun h h1 h2 e => h h2 h1 e.symm)).2 hpw
  have hty : ∀ k, (Value.slice (some ⟨g, 0, none⟩) n c).ownBlock = some k → ∃ cur, w.heap[k]? = some (.cells cur 25 (0, 0)) := fun k hk => own_tyw ho k hk
  have hat : ∀ i (hi : i < n), (ps.map (·.2)).getD i [] = (ps[i]'(by omega)).2 := fun i hi => by
    simp [List.getD, show i < ps.length from by omega]
  obtain ⟨us', hus⟩ : ∃ us' : Nat → Value, ∀ i (hi : i < n), us' i = (ps[i]'(by omega)).1 := ⟨fun i => (ps.map (·.1)).getD i Value.nilFunc, fun i hi => by
    simp [List.getD, show i < ps.length from by omega]⟩
  refine ⟨us', ps.map (·.1), by rw [List.length_map, hpl]; exact ho', fun i hi => ?_, ⟨fun i hi => ?_, fun i j hij hj h1 h2 => ?_⟩⟩
  · rw [List.length_map, hpl] at hi
    rw [hus i hi]
    simp [show i < ps.length from by omega]
  · rw [List.length_map, hpl] at hi
    rw [hat i hi, hus i hi]
    have := hall _ (List.getElem_mem (show i < ps.length by omega))
    exact ⟨this.1.gbx hg (hty g rfl), fun hp k hk => Nat.lt_of_lt_of_le (this.2 hp k hk) hg.1⟩
  · rw [List.length_map, hpl] at hj
    rw [hat i (by omega)] at h1
    rw [hat j hj] at h2
    rw [hus i (by omega), hus j hj]
    exact List.pairwise_iff_getElem.1 hpw2 i j (by omega) (by omega) hij h1 h2
end Go.Proofs.Ythhjhfkcgokffaa
