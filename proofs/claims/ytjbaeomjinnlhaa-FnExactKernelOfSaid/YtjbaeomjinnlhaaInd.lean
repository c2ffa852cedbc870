/-
  Rows that no sum of products but that of zeros makes 0: they stay so while a matrix is reduced.
-/
import Derived.Test.YtjbaeomjinnlhaaRed
namespace Go.Proofs.Ytjbaeomjinnlhaa.Nim
set_option linter.unusedVariables false
theorem dot_pt {a b a' b' : Nat → Nat} : ∀ n, (∀ k, k < n → mul (a k) (b k) = mul (a' k) (b' k)) → dot a b n = dot a' b' n
  | 0, _ => rfl
  | n + 1, h => by
    unfold dot
    rw [dot_pt n (fun k hk => h k (by omega)), h n (by omega)]
def zap (c : Nat → Nat) (r0 : Nat) : Nat → Nat := fun r => if r = r0 then 0 else c r
theorem dot_split (c x : Nat → Nat) (r0 : Nat) : ∀ n, r0 < n → dot c x n = mul (c r0) (x r0) ^^^ dot (zap c r0) x n
  | 0, h => by omega
  | n + 1, h => by
    show dot c x n ^^^ mul (c n) (x n) = _ ^^^ (dot (zap c r0) x n ^^^ mul (zap c r0 n) (x n))
    by_cases e : r0 = n
    · subst e
      have h1 : dot (zap c r0) x r0 = dot c x r0 := dot_ext r0 (fun k hk => by unfold zap; rw [if_neg (by omega)]) (fun _ _ => rfl)
      have h2 : zap c r0 r0 = 0 := by unfold zap; rw [if_pos rfl]
      rw [h1, h2, mul_zero_left, Nat.xor_zero, Nat.xor_comm]
    · have h2 : zap c r0 n = c n := by unfold zap; rw [if_neg (by omega)]
      rw [dot_split c x r0 n (by omega), h2, Nat.xor_assoc]
theorem dot_xor_right (a b b' : Nat → Nat) : ∀ n, dot a (fun k => b k ^^^ b' k) n = dot a b n ^^^ dot a b' n
  | 0 => (Nat.xor_self 0).symm
  | n + 1 => by
    unfold dot
    rw [dot_xor_right a b b' n, mul_xor_right]
    ac_rfl
theorem dot_comm (a b : Nat → Nat) : ∀ n, dot a b n = dot b a n
  | 0 => rfl
  | n + 1 => by unfold dot; rw [dot_comm a b n, mul_comm]
theorem dot_scale_right {a b : Nat → Nat} {c : Nat} (ha : ∀ k, a k < 65536) (hb : ∀ k, b k < 65536) (hc : c < 65536) (n : Nat) : dot a (fun k => mul c (b k)) n = mul c (dot a b n) := by
  rw [dot_comm, dot_scale hb ha hc, dot_comm]
def Ind (R : Nat) (T : Nat → Nat → Nat) : Prop := ∀ c : Nat → Nat, (∀ k, c k < 65536) → (∀ k, k < 6 → dot c (fun r => T r (6 + k)) R = 0) → ∀ r, r < R → c r = 0
/-- what comes of a sum of rows when the rows are changed -/
def back (G : Nat → Nat → Nat) (t i col R : Nat) (c : Nat → Nat) : Nat → Nat := fun r =>
  if r = i then mul (inv (G i col)) (c t ^^^ dot (zap c t) (fun r => other G t i r col) R) else if r = t then c i else c r
theorem back_dot {G : Nat → Nat → Nat} (hG : GB G) {t i col R : Nat} (ht : t < R) (hi : i < R) {c : Nat → Nat} (hc : ∀ k, c k < 65536) (k : Nat) :
    dot (back G t i col R c) (fun r => G r k) R = dot c (fun r => elim G t i col r k) R := by
  have hz : ∀ k, zap c t k < 65536 := fun k => by unfold zap; split; decide; exact hc k
  have hs := inv_b (hG i col)
  have hB := dot_b hz (fun r => other_b hG t i r col) R
  have hE := x_b (hc t) hB
  -- the right side
  have r1 : dot c (fun r => elim G t i col r k) R = mul (c t) (lead G i col k) ^^^ dot (zap c t) (fun r => elim G t i col r k) R := by
    rw [dot_split c _ t R ht]
    congr 2
    unfold elim; rw [if_pos rfl]
  have r2 : dot (zap c t) (fun r => elim G t i col r k) R = dot (zap c t) (fun r => other G t i r k ^^^ mul (lead G i col k) (other G t i r col)) R := dot_pt R (fun r _ => by
    by_cases e : r = t
    · have : zap c t r = 0 := by unfold zap; rw [if_pos e]
      rw [this, mul_zero_left, mul_zero_left]
    · have : elim G t i col r k = other G t i r k ^^^ mul (lead G i col k) (other G t i r col) := if_neg e
      rw [this])
  have r3 : dot (zap c t) (fun r => other G t i r k ^^^ mul (lead G i col k) (other G t i r col)) R = dot (zap c t) (fun r => other G t i r k) R ^^^ mul (lead G i col k) (dot (zap c t) (fun r => other G t i r col) R) := by
    rw [dot_xor_right, dot_scale_right hz (fun r => other_b hG t i r col) (lead_b hG i col k)]
  -- the left side
  have l1 := dot_split (back G t i col R c) (fun r => G r k) i R hi
  have l2 : back G t i col R c i = mul (inv (G i col)) (c t ^^^ dot (zap c t) (fun r => other G t i r col) R) := by unfold back; rw [if_pos rfl]
  have l3 : dot (zap (back G t i col R c) i) (fun r => G r k) R = dot (zap c t) (fun r => other G t i r k) R := by
    by_cases e : i = t
    · subst e
      exact dot_pt R (fun r _ => by
        by_cases h : r = i
        · have h1 : zap (back G i i col R c) i r = 0 := by unfold zap; rw [if_pos h]
          have h2 : zap c i r = 0 := by unfold zap; rw [if_pos h]
          rw [h1, h2, mul_zero_left, mul_zero_left]
        · have h1 : zap (back G i i col R c) i r = c r := by unfold zap back; rw [if_neg h, if_neg h, if_neg h]
          have h2 : zap c i r = c r := by unfold zap; rw [if_neg h]
          have h3 : other G i i r k = G r k := by unfold other; rw [if_neg h]
          rw [h1, h2, h3])
    · rw [dot_split (zap (back G t i col R c) i) _ t R ht, dot_split (zap c t) _ i R hi]
      have h1 : zap (back G t i col R c) i t = c i := by unfold zap back; rw [if_neg (fun x => e x.symm), if_neg (fun x => e x.symm), if_pos rfl]
      have h2 : zap c t i = c i := by unfold zap; rw [if_neg e]
      have h3 : other G t i i k = G t k := by unfold other; rw [if_pos rfl]
      rw [h1, h2, h3]
      congr 1
      exact dot_pt R (fun r _ => by
        by_cases hr : r = i
        · have a1 : zap (zap (back G t i col R c) i) t r = 0 := by unfold zap; by_cases x : r = t; rw [if_pos x]; rw [if_neg x, if_pos hr]
          have a2 : zap (zap c t) i r = 0 := by unfold zap; rw [if_pos hr]
          rw [a1, a2, mul_zero_left, mul_zero_left]
        · by_cases hr2 : r = t
          · have a1 : zap (zap (back G t i col R c) i) t r = 0 := by unfold zap; rw [if_pos hr2]
            have a2 : zap (zap c t) i r = 0 := by unfold zap; rw [if_neg hr, if_pos hr2]
            rw [a1, a2, mul_zero_left, mul_zero_left]
          · have a1 : zap (zap (back G t i col R c) i) t r = c r := by unfold zap back; rw [if_neg hr2, if_neg hr, if_neg hr, if_neg hr2]
            have a2 : zap (zap c t) i r = c r := by unfold zap; rw [if_neg hr, if_neg hr2]
            have a3 : other G t i r k = G r k := by unfold other; rw [if_neg hr]
            rw [a1, a2, a3])
  rw [r1, r2, r3, l1, l2, l3]
  generalize dot (zap c t) (fun r => other G t i r col) R = B at hB hE ⊢
  generalize dot (zap c t) (fun r => other G t i r k) R = X
  unfold lead
  have e1 : mul (mul (inv (G i col)) (c t ^^^ B)) (G i k) = mul (mul (G i k) (inv (G i col))) (c t ^^^ B) := by
    rw [mul_comm, ← mul_assoc (hG i k) hs hE]
  rw [e1, mul_xor_right, mul_comm (c t)]
  ac_rfl
theorem Ind.elim {G : Nat → Nat → Nat} (hG : GB G) {t i col R : Nat} (ht : t < R) (hi : i < R) (hp : G i col ≠ 0) (h : Ind R G) : Ind R (elim G t i col) := fun c hc h0 => by
  have hz : ∀ k, zap c t k < 65536 := fun k => by unfold zap; split; decide; exact hc k
  have hs := inv_b (hG i col)
  have hE := x_b (hc t) (dot_b hz (fun r => other_b hG t i r col) R)
  have hd : ∀ k, back G t i col R c k < 65536 := fun k => by
    unfold back; split
    · exact mul_b hs hE
    · split <;> exact hc _
  have hb := h (back G t i col R c) hd (fun k hk => (back_dot hG ht hi hc (6 + k)).trans (h0 k hk))
  have h1 : ∀ r, r < R → r ≠ t → c r = 0 := fun r hr hrt => by
    by_cases e : r = i
    · have := hb t ht
      unfold back at this
      rw [if_neg (by omega), if_pos rfl] at this
      rw [e]; exact this
    · have := hb r hr
      unfold back at this
      rw [if_neg e, if_neg hrt] at this
      exact this
  intro r hr
  by_cases e : r = t
  · have h2 := hb i hi
    unfold back at h2
    rw [if_pos rfl] at h2
    have h3 : dot (zap c t) (fun r => other G t i r col) R = 0 := dot_zero_left R (fun k hk => by
      unfold zap
      by_cases x : k = t
      · rw [if_pos x]
      · rw [if_neg x]; exact h1 k hk x)
    rw [h3, Nat.xor_zero] at h2
    rcases mul_eq_zero hs (hc t) h2 with h4 | h4
    · have := mul_inv' (hG i col) hp
      rw [h4, mul_zero_right] at this
      omega
    · rw [e]; exact h4
  · exact h1 r hr e
theorem Ind.row {R : Nat} (_hR : R ≤ 6) {T : Nat → Nat → Nat} (hT : GB T) (h : Ind R T) (r : Nat) (hr : r < R) : ∃ k, k < 6 ∧ T r (6 + k) ≠ 0 := by
  refine Classical.byContradiction fun hn => ?_
  have hz : ∀ k, k < 6 → T r (6 + k) = 0 := fun k hk => Classical.byContradiction fun x => hn ⟨k, hk, x⟩
  have h1 := h (fun s => if s = r then 1 else 0) (fun s => by split <;> decide) (fun k hk => by
    rw [dot_split _ _ r R hr, hz k hk, mul_zero_right, Nat.zero_xor]
    exact dot_zero_left R (fun s _ => by
      unfold zap
      by_cases x : s = r
      · rw [if_pos x]
      · rw [if_neg x]; exact if_neg x)) r hr
  rw [if_pos rfl] at h1
  omega
theorem Ind.one {R : Nat} (hR : R ≤ 6) {T : Nat → Nat → Nat} (h : ∀ r k, r < R → k < 6 → T r (6 + k) = if r = k then 1 else 0) : Ind R T := fun c hc h0 r hr => by
  have h1 := h0 r (by omega)
  rw [dot_split c _ r R hr, h r r hr (by omega), if_pos rfl, mul_comm, mul_one_left (hc r)] at h1
  have h2 : dot (zap c r) (fun s => T s (6 + r)) R = 0 := by
    refine (dot_pt (a' := fun _ => 0) (b' := fun _ => 0) R (fun s hs => ?_)).trans (dot_zero_left R (fun _ _ => rfl))
    rw [mul_zero_left]
    unfold zap
    by_cases x : s = r
    · rw [if_pos x, mul_zero_left]
    · rw [if_neg x, h s r hs (by omega), if_neg x, mul_zero_right]
  rw [h2, Nat.xor_zero] at h1
  exact h1
end Go.Proofs.Ytjbaeomjinnlhaa.Nim
