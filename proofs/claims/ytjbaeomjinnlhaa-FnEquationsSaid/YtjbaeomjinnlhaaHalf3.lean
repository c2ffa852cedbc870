/-
  Half roots: the model's rows, made one after the other; what they do to a nimber.
-/
import Derived.Test.YtjbaeomjinnlhaaAlg
namespace Go.Proofs.Ytjbaeomjinnlhaa.Nim
set_option linter.unusedVariables false
def rdStep (rows frm : List Nat) (i : Nat) (s : Nat × Nat) : Nat × Nat := if s.1 ^^^ rows.getD i 0 < s.1 then (s.1 ^^^ rows.getD i 0, s.2 ^^^ frm.getD i 0) else s
def rd (rows frm : List Nat) : Nat → Nat × Nat → Nat × Nat
  | 0, s => s
  | i + 1, s => rdStep rows frm i (rd rows frm i s)
def swp (l : List Nat) (i : Nat) : List Nat := (l.set i (l.getD (i - 1) 0)).set (i - 1) (l.getD i 0)
def bub : Nat → List Nat × List Nat → List Nat × List Nat
  | 0, s => s
  | i + 1, s => if s.1.getD i 0 < s.1.getD (i + 1) 0 then bub i (swp s.1 (i + 1), swp s.2 (i + 1)) else s
def bitRow (s : List Nat × List Nat) (bit : Nat) : Nat × Nat := rd s.1 s.2 s.1.length (2 ^ bit ^^^ fm 4 (2 ^ bit) (2 ^ bit), 2 ^ bit)
def addBit (s : List Nat × List Nat) (bit : Nat) : List Nat × List Nat :=
  bub s.1.length (s.1 ++ [(bitRow s bit).1], s.2 ++ [(bitRow s bit).2])
def rowsN : Nat → List Nat × List Nat
  | 0 => ([], [])
  | n + 1 => addBit (rowsN n) (n + 1)
def halfRows : List Nat := [16384, 8192, 4096, 2048, 1024, 512, 256, 128, 64, 32, 16, 8, 4, 2, 1]
def halfFrom : List Nat := [46384, 19510, 10888, 4230, 2892, 1234, 692, 256, 180, 76, 42, 16, 10, 4, 2]
theorem rows15 : rowsN 15 = (halfRows, halfFrom) := by decide +kernel
theorem rows_good : (List.range 16).all (fun n => Nat.beq (rowsN n).1.length n && (Nat.beq (rowsN n).2.length n && ((rowsN n).1.all (fun x => Nat.blt x 65536) && (rowsN n).2.all (fun x => Nat.blt x 65536)))) = true := by decide +kernel
theorem rowsN_len (n : Nat) (h : n ≤ 15) : (rowsN n).1.length = n ∧ (rowsN n).2.length = n ∧ (∀ x ∈ (rowsN n).1, x < 65536) ∧ ∀ x ∈ (rowsN n).2, x < 65536 := by
  have h1 := List.all_eq_true.1 rows_good n (List.mem_range.2 (by omega))
  simp only [Bool.and_eq_true] at h1
  obtain ⟨h1, h2, h3, h4⟩ := h1
  exact ⟨Nat.eq_of_beq_eq_true h1, Nat.eq_of_beq_eq_true h2, fun x hx => by simpa using List.all_eq_true.1 h3 x hx, fun x hx => by simpa using List.all_eq_true.1 h4 x hx⟩
/-! what the rows do -/
theorem xor_pow_lt (p k : Nat) : p ^^^ 2 ^ k < p ↔ p.testBit k = true := by
  constructor
  · intro h
    rcases hb : p.testBit k with _ | _
    · have := Nat.le_of_testBit (n := p) (m := p ^^^ 2 ^ k) (fun j hj => by
        have e : k ≠ j := fun e => by rw [← e, hb] at hj; exact Bool.noConfusion hj
        rw [Nat.testBit_xor, Nat.testBit_two_pow_of_ne e, hj]; rfl)
      omega
    · rfl
  · intro hb
    have h1 := Nat.le_of_testBit (n := p ^^^ 2 ^ k) (m := p) (fun j hj => by
      by_cases e : k = j
      · rw [← e]; exact hb
      · rw [Nat.testBit_xor, Nat.testBit_two_pow_of_ne e] at hj
        simpa using hj)
    have h2 : p ^^^ 2 ^ k ≠ p := fun e => by
      have := congrArg (·.testBit k) e
      simp only [Nat.testBit_xor, hb, Nat.testBit_two_pow_self] at this
      exact Bool.noConfusion this
    omega
theorem rows_pow : ∀ i, i < 15 → halfRows.getD i 0 = 2 ^ (14 - i) := by decide
def pick (a : Nat) : Nat → Nat
  | 0 => 0
  | i + 1 => pick a i ^^^ if a.testBit (14 - i) then halfFrom.getD i 0 else 0
theorem rd_half (a : Nat) : ∀ i, i ≤ 15 → (∀ j, (rd halfRows halfFrom i (a, 0)).1.testBit j = if 15 - i ≤ j ∧ j < 15 then false else a.testBit j) ∧ (rd halfRows halfFrom i (a, 0)).2 = pick a i
  | 0, _ => ⟨fun j => by rw [if_neg (by omega)]; rfl, rfl⟩
  | i + 1, h => by
    obtain ⟨h1, h2⟩ := rd_half a i (by omega)
    show (∀ j, (rdStep halfRows halfFrom i (rd halfRows halfFrom i (a, 0))).1.testBit j = _) ∧ (rdStep halfRows halfFrom i (rd halfRows halfFrom i (a, 0))).2 = pick a i ^^^ _
    generalize rd halfRows halfFrom i (a, 0) = p at h1 h2
    have hb : p.1.testBit (14 - i) = a.testBit (14 - i) := by rw [h1, if_neg (by omega)]
    unfold rdStep
    rw [rows_pow i (by omega)]
    rcases hc : a.testBit (14 - i) with _ | _
    · rw [if_neg (fun x => by rw [xor_pow_lt, hb, hc] at x; exact Bool.noConfusion x)]
      refine ⟨fun j => ?_, by rw [h2]; simp⟩
      rw [h1]
      by_cases e : j = 14 - i
      · subst e
        rw [if_neg (by omega), if_pos (by omega), hc]
      · by_cases c : 15 - i ≤ j ∧ j < 15
        · rw [if_pos c, if_pos (by omega)]
        · rw [if_neg c, if_neg (by omega)]
    · rw [if_pos (by rw [xor_pow_lt, hb, hc])]
      refine ⟨fun j => ?_, by rw [h2]; simp⟩
      show (p.1 ^^^ 2 ^ (14 - i)).testBit j = _
      rw [Nat.testBit_xor, h1]
      by_cases e : j = 14 - i
      · subst e
        rw [if_neg (by omega), if_pos (by omega), hc, Nat.testBit_two_pow_self]; rfl
      · rw [Nat.testBit_two_pow_of_ne (by omega)]
        by_cases c : 15 - i ≤ j ∧ j < 15
        · rw [if_pos c, if_pos (by omega)]; rfl
        · rw [if_neg c, if_neg (by omega)]; simp
theorem rd_zero {a : Nat} (h : a < 32768) : (rd halfRows halfFrom 15 (a, 0)).1 = 0 := by
  refine Nat.eq_of_testBit_eq fun j => ?_
  rw [(rd_half a 15 (by omega)).1, Nat.zero_testBit]
  by_cases c : 15 - 15 ≤ j ∧ j < 15
  · rw [if_pos c]
  · rw [if_neg c]
    exact Nat.testBit_lt_two_pow (Nat.lt_of_lt_of_le h (show 2 ^ 15 ≤ 2 ^ j from Nat.pow_le_pow_right (by decide) (by omega)))
theorem rd_more {a : Nat} (h : 32768 ≤ a) (h2 : a < 65536) : (rd halfRows halfFrom 15 (a, 0)).1 ≠ 0 := fun e => by
  have h1 := (rd_half a 15 (by omega)).1 15
  rw [e, if_neg (by omega), Nat.zero_testBit] at h1
  have h3 : a.testBit 15 = true := by
    rw [Nat.testBit_eq_decide_div_mod_eq]
    simp; omega
  rw [h3] at h1
  exact Bool.noConfusion h1
theorem lin_bits : ∀ (ms : List Nat) (m a : Nat), lin (m :: ms) a = (if a.testBit 0 then m else 0) ^^^ lin ms (a / 2) := fun ms m a => by
  rw [Nat.testBit_zero]
  show (bif Nat.beq (a % 2) 1 then m else 0) ^^^ lin ms (a / 2) = _
  by_cases h : a % 2 = 1
  · simp [h]
  · rw [show a % 2 = 0 from by omega]
    show (0 : Nat) ^^^ lin ms (a / 2) = _
    simp
theorem pick_half (a : Nat) : pick a 15 = half a := by
  unfold half halfMap
  simp only [lin_bits, ← Nat.testBit_succ]
  simp only [pick, halfFrom, List.getD_cons_zero, List.getD_cons_succ, lin]
  simp
  ac_rfl
end Go.Proofs.Ytjbaeomjinnlhaa.Nim
