/-
  A list of words that grows; codes that are taken greedily.
-/
import Derived.Test.YthhjhfkcgokffaaYb
import Derived.Test.YthhjhfkcgokffaaWr
import Derived.Deep.Cut
namespace Go.Proofs.Ythhjhfkcgokffaa
set_option linter.unusedVariables false
set_option linter.unusedSimpArgs false
open Go.ChangeShapes Go.WideShapes Go.ChangeAt Go.RowKit

theorem po_ty {w : World} {B : Nat} {v : Value} {zs : List Int} (h : PO w B v zs) (hn : 0 < zs.length) (k : Nat) (hk : v.ownBlock = some k) : ∃ cur, w.heap[k]? = some (.cells cur 39 (0, 0)) := by
  obtain ⟨A', c', rfl, h1, h2, hz, h3, h4⟩ := h
  obtain ⟨g, k', rfl, ho⟩ := h4 hn
  rcases ho.2 with ⟨e, h0⟩ | ⟨g', cap, cur, e, hb, hg', q⟩
  · cases e
  · cases e
    have : g = k := by simpa [Value.ownBlock] using hk
    subst this
    exact ⟨cur, hg'⟩
/-- what turns a row of words alone leaves the words as they are -/
theorem PO.grown_ws {w w' : World} {B : Nat} {u s : Value} {zs : List Int} (h : PO w B u zs) (hg : w.grownBy w' s.ownBlock) (hs : ∀ k, s.ownBlock = some k → ∃ cur, w.heap[k]? = some (.cells cur 25 (0, 0))) : PO w' B u zs := by
  have hty := fun hn => po_ty h hn
  obtain ⟨A, c, rfl, h1, h2, hz, h3, h4⟩ := h
  refine ⟨A, c, rfl, h1, h2, hz, h3, fun hn => ?_⟩
  obtain ⟨g, k', rfl, ho⟩ := h4 hn
  refine ⟨g, k', rfl, ho.1, ?_⟩
  rcases ho.2 with ⟨e, h0⟩ | ⟨g', cap, cur, e, hb, hg', q⟩
  · exact .inl ⟨e, h0⟩
  · cases e
    refine .inr ⟨g, k', cur, rfl, hb, (hg.block g (Array.getElem?_eq_some_iff.1 hg').1 (fun e => ?_)).trans hg', q⟩
    obtain ⟨cur2, h2⟩ := hs g e.symm
    rw [hg'] at h2
    exact absurd h2 (by intro e; injection e with e; injection e with e1 e2; exact word_ne e2.symm)
/-- the value s is a list of words that grows: a row of its own, from block B on, of words that have memory of their own -/
def GW (w : World) (B : Nat) (s : Value) (gs : List (List Int)) : Prop :=
  ∃ (us : Nat → Value) (vs : List Value), w.ownsRow B 25 1 s gs.length vs ∧ (∀ i, i < gs.length → vs[i]? = some (us i)) ∧ WR w B w.heap.size us gs gs.length
theorem GW.below {w w' : World} {B : Nat} {s : Value} {gs : List (List Int)} (h : GW w B s gs) (hb : Below w.heap.size w w') : GW w' B s gs := by
  obtain ⟨us, vs, h1, h2, h3⟩ := h
  exact ⟨us, vs, own_below h1 hb, h2, (h3.below hb).up hb.size⟩
theorem GW.nil (w : World) (B : Nat) : GW w B (.slice none 0 0) [] := ⟨fun _ => .nilFunc, [], ⟨rfl, .inl ⟨rfl, rfl⟩⟩, fun i hi => absurd hi (by simp), WR.zero _ _ _ _ _⟩
theorem GW.wo {w : World} {B : Nat} {s : Value} {gs : List (List Int)} (h : GW w B s gs) : WO w B w.heap.size s gs := by
  obtain ⟨us, vs, h1, h2, h3⟩ := h
  exact WO.of_own h1 rfl h2 h3
theorem GW.form {w : World} {B : Nat} {s : Value} {gs : List (List Int)} (h : GW w B s gs) : ∃ A c, s = .slice A gs.length c := by
  obtain ⟨us, vs, h1, h2, h3⟩ := h
  obtain ⟨A, c, e, _⟩ := own_form h1
  exact ⟨A, c, e⟩
theorem GW.open {w : World} {B : Nat} {s : Value} {gs : List (List Int)} (h : GW w B s gs) : ∃ (A : Option Addr) (c : Nat) (us : Nat → Value), s = .slice A gs.length c ∧ (0 < gs.length → ∃ b off, A = some ⟨b, off, none⟩ ∧ b < w.heap.size ∧ ∀ i, i < gs.length → w.cell? ⟨b, off + i, none⟩ = some (us i)) ∧ ∀ i, i < gs.length → NS w (us i) (gs.getD i []) := by
  obtain ⟨us, vs, h1, h2, h3⟩ := h
  obtain ⟨A, c, rfl, _, hA⟩ := own_form h1
  refine ⟨A, c, us, rfl, fun hn => ?_, fun i hi => (h3.1 i hi).1.ns⟩
  obtain ⟨g, rfl, hb, hlt⟩ := hA hn
  exact ⟨g, 0, rfl, hlt, fun i hi => by rw [Nat.zero_add, h1.cellAt i (by omega)]; exact h2 i hi⟩
/-- a word more: made in w2, appended from w3 to w4 -/
theorem GW.snoc {w w2 w3 w4 : World} {B : Nat} {s s' u : Value} {gs : List (List Int)} {x : List Int} (h : GW w B s gs) (hB : B ≤ w.heap.size) (hb2 : Below w.heap.size w w2) (hu : PO w2 w.heap.size u x) (hb3 : Below w2.heap.size w2 w3)
    (ha : ∀ (vs : List Value), w3.ownsRow B 25 1 s gs.length vs → w4.ownsRow B 25 1 s' (gs.length + 1) (vs ++ [u])) (hg : w3.grownBy w4 s.ownBlock) : GW w4 B s' (gs ++ [x]) := by
  obtain ⟨us, vs, h1, h2, h3⟩ := h
  have hs3 : w3.ownsRow B 25 1 s gs.length vs := own_below h1 (bchain hb2 hb3)
  have hs4 := ha vs hs3
  have hty : ∀ k, s.ownBlock = some k → ∃ cur, w3.heap[k]? = some (.cells cur 25 (0, 0)) := fun k hk => by
    rcases hs3.2 with ⟨e, _⟩ | ⟨g, _, cur, e, _, hg, _⟩
    · rw [e] at hk; simp [Value.ownBlock] at hk
    · rw [e] at hk
      have : g = k := by simpa [Value.ownBlock] using hk
      subst this
      exact ⟨cur, hg⟩
  have hl : vs.length = gs.length := by have := h1.1; omega
  have hgl : (gs ++ [x]).length = gs.length + 1 := by simp
  have e1 : ∀ i, i < gs.length → (gs ++ [x]).getD i [] = gs.getD i [] := fun i hi => by simp [List.getD, List.getElem?_append_left hi]
  have e2 : (gs ++ [x]).getD gs.length [] = x := by simp [List.getD]
  have hw3 : WR w2 B w2.heap.size (putAt us gs.length u) (gs ++ [x]) (gs.length + 1) := by
    refine WR.snoc (gs := gs ++ [x]) ⟨fun i hi => ?_, fun i j hij hj hp hq => ?_⟩ hb2 (Nat.le_refl _) hB (by rw [e2]; exact hu)
    · rw [e1 i hi]; exact h3.1 i hi
    · rw [e1 i (by omega)] at hp
      rw [e1 j hj] at hq
      exact h3.2 i j hij hj hp hq
  have hw4 : WR w3 B w3.heap.size (putAt us gs.length u) (gs ++ [x]) (gs.length + 1) := (hw3.below hb3).up hb3.size
  refine ⟨putAt us gs.length u, vs ++ [u], by rw [hgl]; exact hs4, fun i hi => ?_, ?_⟩
  · rw [hgl] at hi
    by_cases e : i < gs.length
    · rw [List.getElem?_append_left (by omega), putAt_other _ _ (by omega)]
      exact h2 i e
    · obtain rfl : i = gs.length := by omega
      rw [List.getElem?_append_right (by omega), hl, Nat.sub_self, putAt_same]; rfl
  · rw [hgl]
    refine ⟨fun i hi => ⟨(hw4.1 i hi).1.grown_ws hg hty, fun hp k hk => Nat.lt_of_lt_of_le ((hw4.1 i hi).2 hp k hk) hg.size⟩, hw4.2⟩
/-- the words that are taken of the first k places -/
def grT (b : Int) (N : Nat) (d : Int) : Nat → List (List Int)
  | 0 => []
  | k + 1 => if (grT b N d k).any (fun o => decide ((apN o (waL b k N) : Int) < d)) then grT b N d k else grT b N d k ++ [waL b k N]
def nearG (gs : List (List Int)) (x : List Int) (d : Int) (i : Nat) : Bool := decide ((apN (gs.getD i []) x : Int) < d)
theorem nearG_any (gs : List (List Int)) (x : List Int) (d : Int) : anyN (nearG gs x d) gs.length = gs.any (fun o => decide ((apN o x : Int) < d)) := by
  by_cases h : gs.any (fun o => decide ((apN o x : Int) < d)) = true
  · rw [h]
    obtain ⟨o, ho, hd⟩ := List.any_eq_true.1 h
    obtain ⟨i, hi, rfl⟩ := List.mem_iff_getElem.1 ho
    exact anyN_yes hi (by unfold nearG; simpa [List.getD, hi] using hd)
  · have h' : gs.any (fun o => decide ((apN o x : Int) < d)) = false := by simpa using h
    rw [h']
    refine anyN_no fun i hi => ?_
    rw [List.any_eq_false] at h'
    have := h' gs[i] (List.getElem_mem hi)
    unfold nearG
    simpa [List.getD, hi] using this
theorem grT_skip {b : Int} {N : Nat} {d : Int} {k : Nat} (h : anyN (nearG (grT b N d k) (waL b k N) d) (grT b N d k).length = true) : grT b N d (k + 1) = grT b N d k := by
  rw [nearG_any] at h
  rw [grT, if_pos h]
theorem grT_take {b : Int} {N : Nat} {d : Int} {k : Nat} (h : anyN (nearG (grT b N d k) (waL b k N) d) (grT b N d k).length = false) : grT b N d (k + 1) = grT b N d k ++ [waL b k N] := by
  rw [nearG_any] at h
  rw [grT, if_neg (by rw [h]; decide)]
theorem grT_mono (b : Int) (N : Nat) (d : Int) (k : Nat) : ∀ j, (grT b N d k).length ≤ (grT b N d (k + j)).length
  | 0 => Nat.le_refl _
  | j + 1 => by
    refine Nat.le_trans (grT_mono b N d k j) ?_
    rw [← Nat.add_assoc, grT]
    split
    · exact Nat.le_refl _
    · rw [List.length_append]; omega
theorem grT_len {b : Int} {N : Nat} {d : Int} : ∀ k, ∀ x ∈ grT b N d k, x.length = N
  | 0, x, h => by cases h
  | k + 1, x, h => by
    rw [grT] at h
    split at h
    · exact grT_len k x h
    · rw [List.mem_append] at h
      rcases h with h | h
      · exact grT_len k x h
      · rw [List.mem_singleton] at h
        rw [h, waL_len]
theorem grT_at {b : Int} {N : Nat} {d : Int} {k i : Nat} (hi : i < (grT b N d k).length) : ((grT b N d k).getD i []).length = N := by
  have e : (grT b N d k).getD i [] = (grT b N d k)[i] := by simp [List.getD, hi]
  rw [e]
  exact grT_len k _ (List.getElem_mem hi)
def gcC (n l d : Int) : Int := if baB n = true ∧ inB l 1 7 = true ∧ inB d 1 l = true then (if 5000 < n ^ l.toNat then 3 else if (grT n l.toNat d (n ^ l.toNat).toNat).length ≤ 300 then 0 else 7) else 2
def gcA (n l d : Int) : List (List Int) := if gcC n l d = 0 then grT n l.toNat d (n ^ l.toNat).toNat else []
section
variable {n l d : Int}
theorem gcA_no (h : ¬ gcC n l d = 0) : gcA n l d = [] := by unfold gcA; rw [if_neg h]
theorem gc_range (h : ¬ (baB n = true ∧ inB l 1 7 = true ∧ inB d 1 l = true)) : gcC n l d = 2 ∧ gcA n l d = [] := by
  have e : gcC n l d = 2 := by unfold gcC; rw [if_neg h]
  exact ⟨e, gcA_no (by rw [e]; decide)⟩
theorem gc_limit (h : baB n = true ∧ inB l 1 7 = true ∧ inB d 1 l = true) (h2 : 5000 < n ^ l.toNat) : gcC n l d = 3 ∧ gcA n l d = [] := by
  have e : gcC n l d = 3 := by unfold gcC; rw [if_pos h, if_pos h2]
  exact ⟨e, gcA_no (by rw [e]; decide)⟩
theorem gc_ok (h : baB n = true ∧ inB l 1 7 = true ∧ inB d 1 l = true) (h2 : ¬ 5000 < n ^ l.toNat) (h3 : (grT n l.toNat d (n ^ l.toNat).toNat).length ≤ 300) : gcC n l d = 0 ∧ gcA n l d = grT n l.toNat d (n ^ l.toNat).toNat := by
  have e : gcC n l d = 0 := by unfold gcC; rw [if_pos h, if_neg h2, if_pos h3]
  exact ⟨e, by unfold gcA; rw [if_pos e]⟩
theorem gc_many (h : baB n = true ∧ inB l 1 7 = true ∧ inB d 1 l = true) (h2 : ¬ 5000 < n ^ l.toNat) (h3 : ¬ (grT n l.toNat d (n ^ l.toNat).toNat).length ≤ 300) : gcC n l d = 7 ∧ gcA n l d = [] := by
  have e : gcC n l d = 7 := by unfold gcC; rw [if_pos h, if_neg h2, if_neg h3]
  exact ⟨e, gcA_no (by rw [e]; decide)⟩
theorem gc_dec : baB n = true ∧ inB l 1 7 = true ∧ inB d 1 l = true ∨ ¬ (baB n = true ∧ inB l 1 7 = true ∧ inB d 1 l = true) := by
  by_cases h : baB n = true ∧ inB l 1 7 = true ∧ inB d 1 l = true
  · exact .inl h
  · exact .inr h
end
/-- the first 300 are taken, and one more fits -/
theorem grT_over {b : Int} {N : Nat} {d : Int} {k T : Nat} (hk : k < T) (h : anyN (nearG (grT b N d k) (waL b k N) d) (grT b N d k).length = false) (h3 : (grT b N d k).length = 300) : ¬ (grT b N d T).length ≤ 300 := by
  have h1 : (grT b N d (k + 1)).length = 301 := by rw [grT_take h, List.length_append, h3]; rfl
  have h2 := grT_mono b N d (k + 1) (T - (k + 1))
  rw [show k + 1 + (T - (k + 1)) = T from by omega] at h2
  omega
theorem inB_yes {x lo hi : Int} (h : inB x lo hi = true) : lo ≤ x ∧ x ≤ hi := by
  unfold inB at h
  exact of_decide_eq_true h
end Go.Proofs.Ythhjhfkcgokffaa
