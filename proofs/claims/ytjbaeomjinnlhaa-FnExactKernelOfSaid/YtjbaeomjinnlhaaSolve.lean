/-
  A vector beside the rows that are made reduced.
-/
import Derived.Test.YtjbaeomjinnlhaaOk2
import Derived.Deep.RegionHeld
import Derived.Test.YtjbaeomjinnlhaaRdm
namespace Go.Proofs.Ytjbaeomjinnlhaa
set_option linter.unusedVariables false
set_option linter.unusedSimpArgs false
open Go.ChangeShapes Go.WideShapes Go.ChangeAt Go.RowKit

/-- what becomes of the vector when a column is cleared -/
def elV (U : Nat → Int) (G : Nat → Nat → Nat) (t i n : Nat) : Nat → Int := fun r =>
  if r = t then mulI (U i) (invI ((G i n : Nat) : Int)) else xorI (if r = i then U t else U r) (mulI (mulI (U i) (invI ((G i n : Nat) : Int))) ((Nim.other G t i r n : Nat) : Int))
def solN (F : Nat → Nat → Nat) (u : Nat → Int) : Nat → Nat → Int
  | 0 => u
  | n + 1 => if Nim.pivotFrom (Nim.redN F n).1 n (6 - (Nim.redN F n).2.length) (Nim.redN F n).2.length < 6 then elV (solN F u n) (Nim.redN F n).1 (Nim.redN F n).2.length (Nim.pivotFrom (Nim.redN F n).1 n (6 - (Nim.redN F n).2.length) (Nim.redN F n).2.length) n else solN F u n
theorem invI_cast (x : Nat) : invI ((x : Nat) : Int) = ((Nim.inv x : Nat) : Int) := by
  unfold invI
  rw [Int.toNat_natCast]
theorem elV_b {U : Nat → Int} {G : Nat → Nat → Nat} (hU : VW U) (hG : Nim.GB G) (t i n : Nat) : VW (elV U G t i n) := fun r => by
  have hi := Nim.inv_b (hG i n)
  have h1 : 0 ≤ invI ((G i n : Nat) : Int) ∧ invI ((G i n : Nat) : Int) < 65536 := by rw [invI_cast]; omega
  have h2 := mulI_b (hU i).1 (hU i).2 h1.1 h1.2
  unfold elV
  split
  · exact h2
  · have ho := Nim.other_b hG t i r n
    have h3 := mulI_b h2.1 h2.2 (show (0 : Int) ≤ ((Nim.other G t i r n : Nat) : Int) by omega) (by omega)
    have h4 : 0 ≤ (if r = i then U t else U r) ∧ (if r = i then U t else U r) < 65536 := by split; exact hU t; exact hU r
    exact xorI_b h4.1 h4.2 h3.1 h3.2
theorem solN_b {F : Nat → Nat → Nat} (hF : Nim.GB F) {u : Nat → Int} (hu : VW u) : ∀ n, VW (solN F u n)
  | 0 => hu
  | n + 1 => by
    show VW (if _ then _ else _)
    split
    · exact elV_b (solN_b hF hu n) (Nim.redN_b hF n) _ _ _
    · exact solN_b hF hu n
/-- the vector is the product of the traces and the vector at the beginning -/
theorem elV_dot {G : Nat → Nat → Nat} (hG : Nim.GB G) {V : Nat → Nat} (hV : ∀ k, V k < 65536) {U : Nat → Int} {t i n : Nat} (h : ∀ r, U r = ((Nim.dot (fun k => G r (6 + k)) V 6 : Nat) : Int)) :
    ∀ r, elV U G t i n r = ((Nim.dot (fun k => Nim.elim G t i n r (6 + k)) V 6 : Nat) : Int) := fun r => by
  have e := Nim.elim_dot (U := fun r => Nim.dot (fun k => G r (6 + k)) V 6) hG hV (t := t) (i := i) (col := n) (fun _ => rfl) r
  rw [← e]
  unfold elV
  rw [invI_cast, h i, h t, h r]
  have e1 : mulI ((Nim.dot (fun k => G i (6 + k)) V 6 : Nat) : Int) ((Nim.inv (G i n) : Nat) : Int) = ((Nim.mul (Nim.dot (fun k => G i (6 + k)) V 6) (Nim.inv (G i n)) : Nat) : Int) := by
    unfold mulI; rw [Int.toNat_natCast, Int.toNat_natCast]
  rw [e1]
  by_cases hr : r = t
  · rw [if_pos hr, if_pos hr]
  · rw [if_neg hr, if_neg hr]
    have e2 : ∀ a b : Nat, mulI ((a : Nat) : Int) ((b : Nat) : Int) = ((Nim.mul a b : Nat) : Int) := fun a b => by unfold mulI; rw [Int.toNat_natCast, Int.toNat_natCast]
    have e3 : ∀ a b : Nat, xorI ((a : Nat) : Int) ((b : Nat) : Int) = ((a ^^^ b : Nat) : Int) := fun a b => by unfold xorI; rw [Int.toNat_natCast, Int.toNat_natCast]
    rw [e2]
    by_cases hi : r = i
    · rw [if_pos hi, if_pos hi, e3]
    · rw [if_neg hi, if_neg hi, e3]

theorem elV_like {G H : Nat → Nat → Nat} (hl : Nim.Like G H) {U W : Nat → Int} (hU : ∀ r, r < 6 → U r = W r) {t i n : Nat} (ht : t < 6) (hi : i < 6) (hn : n < 6) : ∀ r, r < 6 → elV U G t i n r = elV W H t i n r := fun r hr => by
  unfold elV
  rw [hU i hi, hl i n hi hn, hl.other ht i r n hr hn, hU t ht, hU r hr]
theorem dot_one (V : Nat → Nat) (hV : ∀ k, V k < 65536) (R r : Nat) (hr : r < 6) (F : Nat → Nat → Nat) : Nim.dot (fun k => Nim.wide F R r (6 + k)) V 6 = if r < R then V r else 0 := by
  have e : ∀ k, k < 6 → Nim.wide F R r (6 + k) = if r < R ∧ k = r then 1 else 0 := fun k hk => by
    unfold Nim.wide
    rw [if_neg (by omega)]
    by_cases h : r < R ∧ k = r
    · rw [if_pos h, if_pos (by omega)]
    · rw [if_neg h, if_neg (by omega)]
  by_cases h : r < R
  · rw [if_pos h, Nim.dot_split _ _ r 6 hr]
    show Nim.mul (Nim.wide F R r (6 + r)) (V r) ^^^ _ = _
    rw [e r hr, if_pos ⟨h, rfl⟩, Nim.mul_one_left (hV r)]
    have h2 : Nim.dot (Nim.zap (fun k => Nim.wide F R r (6 + k)) r) V 6 = 0 := Nim.dot_zero_left 6 (fun k hk => by
      unfold Nim.zap
      by_cases x : k = r
      · rw [if_pos x]
      · rw [if_neg x]; show Nim.wide F R r (6 + k) = 0; rw [e k hk, if_neg (by omega)])
    rw [h2, Nat.xor_zero]
  · rw [if_neg h]
    exact Nim.dot_zero_left 6 (fun k hk => by rw [e k hk, if_neg (by omega)])
/-- the vector is what the traces make of the vector at the beginning -/
theorem solN_dot {F : Nat → Nat → Nat} (hF : Nim.GB F) (R : Nat) {u : Nat → Int} (hu : VW u) (h0 : ∀ r, r < 6 → R ≤ r → u r = 0) : ∀ n, n ≤ 6 → ∀ r, r < 6 → solN F u n r = ((Nim.dot (fun k => (Nim.redN (Nim.wide F R) n).1 r (6 + k)) (fun k => (u k).toNat) 6 : Nat) : Int)
  | 0, _, r, hr => by
    have hV : ∀ k, (u k).toNat < 65536 := fun k => by have := hu k; omega
    show u r = ((Nim.dot (fun k => Nim.wide F R r (6 + k)) (fun k => (u k).toNat) 6 : Nat) : Int)
    rw [dot_one _ hV R r hr F]
    by_cases h : r < R
    · rw [if_pos h]; have := hu r; omega
    · rw [if_neg h, h0 r hr (by omega)]; rfl
  | n + 1, hn, r, hr => by
    have hV : ∀ k, (u k).toNat < 65536 := fun k => by have := hu k; omega
    have ih := solN_dot hF R hu h0 n (by omega)
    obtain ⟨hl, hs⟩ := (Nim.wide_like F R).redN hF n (by omega)
    have hlen := Nim.redN_len hF n
    rw [Nim.redN_step]
    unfold solN
    rw [← hs, ← hl.pivot (by omega) _ _ (by omega)]
    by_cases hp : Nim.pivotFrom (Nim.redN F n).1 n (6 - (Nim.redN F n).2.length) (Nim.redN F n).2.length < 6
    · rw [if_pos hp, if_pos hp]
      have hti := (Nim.pivot_some _ _ _ _ (show Nim.pivotFrom (Nim.redN F n).1 n (6 - (Nim.redN F n).2.length) (Nim.redN F n).2.length < (Nim.redN F n).2.length + (6 - (Nim.redN F n).2.length) by omega)).2
      rw [elV_like hl (W := fun r => ((Nim.dot (fun k => (Nim.redN (Nim.wide F R) n).1 r (6 + k)) (fun k => (u k).toNat) 6 : Nat) : Int)) ih (by omega) hp (by omega) r hr]
      exact elV_dot (Nim.redN_b (Nim.wide_b hF R) n) hV (fun _ => rfl) r
    · rw [if_neg hp, if_neg hp]
      exact ih r hr
end Go.Proofs.Ytjbaeomjinnlhaa
