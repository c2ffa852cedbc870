/-
  Numerals: what a row of digits spells; the numeral of a number.
-/
import Derived.Lib.ParseIntBCases
import Derived.Lib.ItoaNum
namespace Go.Proofs.YthhjhfkcgokffaaDoor
set_option linter.unusedVariables false
open Go.Lib
def dgt (c : UInt8) : Prop := 48 ≤ c.toNat ∧ c.toNat ≤ 57
instance (c : UInt8) : Decidable (dgt c) := by unfold dgt; infer_instance
def spell (acc : Nat) (l : List UInt8) : Nat := l.foldl (fun a c => a * 10 + (c.toNat - 48)) acc
theorem spell_nil (acc : Nat) : spell acc [] = acc := by unfold spell; rw [List.foldl_nil]
theorem spell_cons (acc : Nat) (c : UInt8) (r : List UInt8) : spell acc (c :: r) = spell (acc * 10 + (c.toNat - 48)) r := by unfold spell; rw [List.foldl_cons]
theorem spell_append (l m : List UInt8) (acc : Nat) : spell acc (l ++ m) = spell (spell acc l) m := by unfold spell; rw [List.foldl_append]
theorem spell_one (acc : Nat) (c : UInt8) : spell acc [c] = acc * 10 + (c.toNat - 48) := by rw [spell_cons, spell_nil]
theorem spell_ge (l : List UInt8) : ∀ acc, acc ≤ spell acc l := by
  induction l with
  | nil => intro acc; rw [spell_nil]; exact Nat.le_refl _
  | cons c r ih => intro acc; rw [spell_cons]; exact Nat.le_trans (by omega) (ih (acc * 10 + (c.toNat - 48)))
theorem mul_room {a k p : Nat} (h : k ≤ 9) : (a * 10 + k + 1) * p ≤ (a + 1) * (p * 10) := by
  have e : (a + 1) * (p * 10) = (a * 10 + 10) * p := by
    rw [Nat.mul_comm p 10, ← Nat.mul_assoc (a + 1) 10 p, Nat.add_mul a 1 10, Nat.one_mul]
  rw [e]
  exact Nat.mul_le_mul_right p (by omega)
theorem spell_lt (l : List UInt8) : (∀ c ∈ l, dgt c) → ∀ acc : Nat, spell acc l < (acc + 1) * 10 ^ l.length := by
  induction l with
  | nil => intro _ acc; rw [spell_nil, List.length_nil, Nat.pow_zero, Nat.mul_one]; exact Nat.lt_succ_self _
  | cons c r ih =>
    intro h acc
    have hc := h c (List.mem_cons_self ..)
    have hk : c.toNat - 48 ≤ 9 := by unfold dgt at hc; omega
    have h1 := ih (fun x hx => h x (List.mem_cons_of_mem _ hx)) (acc * 10 + (c.toNat - 48))
    rw [spell_cons, List.length_cons, Nat.pow_succ]
    exact Nat.lt_of_lt_of_le h1 (mul_room hk)
theorem dd_step {u : Nat} (h : ¬ u < 10) : decDigits u = decDigits (u / 10) ++ [UInt8.ofNat (48 + u % 10)] := by rw [decDigits, dif_neg h]
theorem dd_digits : ∀ u, (∀ c ∈ decDigits u, dgt c) ∧ spell 0 (decDigits u) = u ∧ decDigits u ≠ [] ∧ (1 ≤ u → ∃ c r, decDigits u = c :: r ∧ c.toNat ≠ 48) := by
  intro u
  induction u using Nat.strongRecOn with
  | _ u ih =>
    by_cases h : u < 10
    · rw [decDigits_one h]
      have e : (UInt8.ofNat (48 + u)).toNat = 48 + u := by simp; omega
      refine ⟨fun c hc => ?_, ?_, by simp, fun h1 => ⟨_, _, rfl, by omega⟩⟩
      · simp only [List.mem_singleton] at hc
        subst hc; unfold dgt; omega
      · simp only [spell_one]; omega
    · rw [dd_step h]
      obtain ⟨h1, h2, h3, h4⟩ := ih (u / 10) (by omega)
      have e : (UInt8.ofNat (48 + u % 10)).toNat = 48 + u % 10 := by simp; omega
      refine ⟨fun c hc => ?_, ?_, by simp, fun _ => ?_⟩
      · rcases List.mem_append.1 hc with q | q
        · exact h1 c q
        · simp only [List.mem_singleton] at q
          subst q; unfold dgt; omega
      · rw [spell_append, h2]; simp only [spell_one]; omega
      · obtain ⟨c, r, e1, e2⟩ := h4 (by omega)
        exact ⟨c, r ++ [UInt8.ofNat (48 + u % 10)], by rw [e1]; rfl, e2⟩
theorem dd_spell : ∀ (n : Nat) (d : List UInt8), d.length = n → (∀ c ∈ d, dgt c) → d ≠ [] → (1 < d.length → (d.getD 0 0).toNat ≠ 48) → decDigits (spell 0 d) = d := by
  intro n
  induction n with
  | zero => intro d h0 _ hne _; exact absurd (List.length_eq_zero_iff.1 h0) hne
  | succ n ih =>
    intro d hn hd hne hz
    obtain ⟨e, c, rfl⟩ : ∃ e c, d = e ++ [c] := ⟨d.dropLast, d.getLast hne, (List.dropLast_concat_getLast hne).symm⟩
    have hc := hd c (by simp)
    unfold dgt at hc
    have hl : e.length = n := by simpa using hn
    by_cases he : e = []
    · subst he
      simp only [List.nil_append, spell_one]
      rw [decDigits_one (by omega)]
      congr 1
      apply UInt8.toNat_inj.1
      simp; omega
    · have hel : 0 < e.length := List.length_pos_iff.2 he
      have hz' := hz (by simp; omega)
      have hh : (e ++ [c]).getD 0 0 = e.getD 0 0 := by rw [List.getD_eq_getElem?_getD, List.getD_eq_getElem?_getD, List.getElem?_append_left hel]
      rw [hh] at hz'
      have hi := ih e hl (fun x hx => hd x (List.mem_append_left _ hx)) he (fun _ => hz')
      have hpos : 1 ≤ spell 0 e := by
        cases e with
        | nil => exact absurd rfl he
        | cons a r =>
          have ha := hd a (by simp)
          unfold dgt at ha
          have hz2 : a.toNat ≠ 48 := by simpa [List.getD] using hz'
          rw [spell_cons]
          exact Nat.le_trans (by omega) (spell_ge r (0 * 10 + (a.toNat - 48)))
      rw [spell_append]
      simp only [spell_one]
      rw [dd_step (by omega), show (spell 0 e * 10 + (c.toNat - 48)) / 10 = spell 0 e from by omega, hi]
      congr 2
      apply UInt8.toNat_inj.1
      simp; omega
theorem parse_ok (M : Nat) (hM : M ≤ 1844674407370955161) : ∀ (l : List UInt8) (acc : Nat), (∀ c ∈ l, dgt c) → spell acc l ≤ M → parseUintM M acc l = .ok (spell acc l) := by
  intro l
  induction l with
  | nil => intro acc _ _; rw [spell_nil]; unfold parseUintM; rfl
  | cons c r ih =>
    intro acc hd hs
    have hc := hd c (List.mem_cons_self ..)
    unfold dgt at hc
    have hge := spell_ge r (acc * 10 + (c.toNat - 48))
    rw [spell_cons] at hs ⊢
    have hs' : spell (acc * 10 + (c.toNat - 48)) r ≤ M := hs
    have hle : acc * 10 + (c.toNat - 48) ≤ M := Nat.le_trans hge hs'
    unfold parseUintM
    rw [if_pos hc, if_neg (by omega), if_neg (by omega)]
    exact ih _ (fun x hx => hd x (List.mem_cons_of_mem _ hx)) hs'
theorem parse16 (u : Nat) (hu : u < 65536) : parseUintB 16 (decDigits u) = .ok u := by
  obtain ⟨h1, h2, h3, _⟩ := dd_digits u
  unfold parseUintB
  rw [if_neg h3]
  have := parse_ok (2 ^ 16 - 1) (by decide) (decDigits u) 0 h1 (by rw [h2]; omega)
  rw [this, h2]
/-- a row of digits as the model reads it -/
def NumOk (d : List UInt8) : Prop := d ≠ [] ∧ d.length ≤ 10 ∧ ¬ ((d.getD 0 0).toNat = 48 ∧ 1 < d.length) ∧ ∀ c ∈ d, dgt c
theorem NumOk.dd {d : List UInt8} (h : NumOk d) : decDigits (spell 0 d) = d := dd_spell _ d rfl h.2.2.2 h.1 (fun h1 h2 => h.2.2.1 ⟨h2, h1⟩)
theorem numOk_dd {u : Nat} (h : u < 10000000000) : NumOk (decDigits u) := by
  obtain ⟨h1, h2, h3, h4⟩ := dd_digits u
  refine ⟨h3, ?_, ?_, h1⟩
  · rcases Nat.lt_or_ge 10 (decDigits u).length with q | q
    · exfalso
      obtain ⟨c, r, e1, e2⟩ := h4 (by
        rcases Nat.eq_zero_or_pos u with e | e
        · rw [e, decDigits_one (by omega)] at q; simp at q
        · exact e)
      have hc := h1 c (by rw [e1]; simp)
      unfold dgt at hc
      have hge : 10 ^ r.length ≤ u := by
        have : ∀ (l : List UInt8) (acc : Nat), 1 ≤ acc → 10 ^ l.length ≤ spell acc l := by
          intro l
          induction l with
          | nil => intro acc h; rw [spell_nil]; simpa using h
          | cons x y ih =>
            intro acc h
            have := ih (acc * 10 + (x.toNat - 48))
            have h2 : ∀ (l : List UInt8) (a k : Nat), k * 10 ^ l.length ≤ spell (k + a) l := by
              intro l
              induction l with
              | nil => intro a k; rw [spell_nil]; simp
              | cons x y ih2 =>
                intro a k
                have := ih2 (a * 10 + (x.toNat - 48)) (k * 10)
                rw [spell_cons, show (k + a) * 10 + (x.toNat - 48) = k * 10 + (a * 10 + (x.toNat - 48)) from by omega, List.length_cons, Nat.pow_succ, Nat.mul_comm (10 ^ y.length) 10, ← Nat.mul_assoc k 10 (10 ^ y.length)]
                exact this
            have := h2 (x :: y) (acc - 1) 1
            rw [Nat.one_mul, show 1 + (acc - 1) = acc from by omega] at this
            exact this
        have h5 := this r (0 * 10 + (c.toNat - 48)) (by omega)
        have h6 : spell 0 (decDigits u) = spell (0 * 10 + (c.toNat - 48)) r := by rw [e1, spell_cons]
        rw [← h6, h2] at h5
        exact h5
      rw [e1, List.length_cons] at q
      have : 10 ^ 10 ≤ 10 ^ r.length := Nat.pow_le_pow_right (by decide) (by omega)
      omega
    · exact q
  · rintro ⟨q1, q2⟩
    obtain ⟨c, r, e1, e2⟩ := h4 (by
      rcases Nat.eq_zero_or_pos u with e | e
      · rw [e, decDigits_one (by omega)] at q2; simp at q2
      · exact e)
    rw [e1] at q1
    exact e2 (by simpa [List.getD] using q1)
def nimT (u : Nat) : List UInt8 := 42 :: decDigits u
theorem nimT_inj {a b : Nat} (h : nimT a = nimT b) : a = b := by
  unfold nimT at h
  have h2 := congrArg (spell 0) (List.cons.inj h).2
  rw [(dd_digits a).2.1, (dd_digits b).2.1] at h2
  exact h2
end Go.Proofs.YthhjhfkcgokffaaDoor
