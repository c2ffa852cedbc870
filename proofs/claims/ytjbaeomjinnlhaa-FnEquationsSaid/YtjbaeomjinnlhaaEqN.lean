/-
  The contracts of traces, conjugates, half roots and quadratic equations, in natural numbers.
-/
import Derived.Test.YtjbaeomjinnlhaaQuad
import Derived.Test.YtjbaeomjinnlhaaConj2
import Derived.Test.YtjbaeomjinnlhaaGenE
import Derived.Test.YtjbaeomjinnlhaaOrdM
import Derived.Test.YtjbaeomjinnlhaaEqM
import Derived.Test.YtjbaeomjinnlhaaDrawFM
namespace Go.Proofs.Ytjbaeomjinnlhaa
set_option linter.unusedVariables false
set_option linter.unusedSimpArgs false
open Go.ChangeShapes Go.WideShapes Go.ChangeAt Go.RowKit
theorem trL_nat (k : Nat) : ∀ s y : Nat, E.trL k (s : Int) (y : Int) = ((Nim.trN k s y : Nat) : Int) := by
  induction k with
  | zero => intro s y; rfl
  | succ k ih => intro s y; exact ih (s ^^^ y) (Nim.mul y y)
theorem tr_nat (a t : Nat) (ha : a < 65536) (ht : a / 32768 = t) : E.trL 16 0 (a : Int) = (t : Int) := by
  have h := trL_nat 16 0 a
  rw [Nim.tr_top a ha, Nat.shiftRight_eq_div_pow, show 2 ^ 15 = 32768 from rfl, ht] at h
  exact h
theorem impl_trN (a t : Nat) (ha : a < 65536) (h : Hid (a / 32768 = t)) (w : World) :
    Calls Try.prog 90 #[.int .u16 (a : Int)] w fun e w' => e = .returned (.int .u16 (t : Int)) ∧ w = w' := by
  refine (E.impl_TraceOf (a : Int) (by omega) (by omega) w).mono ?_
  rintro e w' ⟨⟨v, rfl, hv, _, _⟩, rfl⟩
  exact ⟨by rw [hv.out, tr_nat a t ha h.out], rfl⟩
theorem spec_trN (a t : Nat) (ha : a < 65536) (h : Hid (a / 32768 = t)) (w : World) :
    Calls Try.prog 91 #[.int .u16 (a : Int)] w fun e w' => e = .returned (.int .u16 (t : Int)) ∧ w = w' := by
  refine (E.spec_TraceOf (a : Int) (by omega) (by omega) w).mono ?_
  rintro e w' ⟨⟨v, rfl, hv, _, _⟩, rfl⟩
  exact ⟨by rw [hv.out, tr_nat a t ha h.out], rfl⟩
theorem spec_sqN (x p : Nat) (hx : x < 65536) (h : Hid (Nim.mul x x = p)) (w : World) :
    Calls Try.prog 92 #[.int .u16 (x : Int)] w fun e w' => e = .returned (.int .u16 (p : Int)) ∧ w = w' := by
  refine (E.spec_SquareOf (x : Int) (by omega) (by omega) w).mono ?_
  rintro e w' ⟨⟨v, rfl, hv, _, _⟩, rfl⟩
  exact ⟨by rw [hv.out, mulI_nat, h.out], rfl⟩
theorem spec_tmN (x y p : Nat) (hx : x < 65536) (hy : y < 65536) (h : Hid (Nim.mul x y = p)) (w : World) :
    Calls Try.prog 94 #[.int .u16 (x : Int), .int .u16 (y : Int)] w fun e w' => e = .returned (.int .u16 (p : Int)) ∧ w = w' := by
  go_enter Try.func94, Try.ntmps94
  go_wp2_with fail
  refine (ltimes_nat x y hx hy _).mono ?_
  rintro e w' ⟨rfl, rfl⟩
  rw [h.out]
  go_wp2_with fail
  go_ret
  exact ⟨rfl, rfl⟩
theorem per_dvd {a p : Nat} (ha : a < 65536) (h : IsPer a p) : 16 % p = 0 := by
  have h1 := h.1
  have key : ∀ q, Nim.sqs (p * q) a = a := by
    intro q
    induction q with
    | zero => rfl
    | succ q ih => rw [Nat.mul_succ, Nim.sqs_add, h.2.2.1, ih]
  have e := Nim.sqs16 a ha
  rw [← Nat.mod_add_div 16 p, Nim.sqs_add, key] at e
  rcases Nat.eq_zero_or_pos (16 % p) with q | q
  · exact q
  · exact absurd e (h.2.2.2 _ q (Nat.mod_lt _ h1))
/-- what QuadIs says, by shapes -/
theorem quad_shape {p q : Nat} (hp : p < 65536) (hq : q < 65536) {Z : List Int} (h : QuadIs p q Z) :
    (Z = [] ∧ p ≠ 0) ∨ (∃ r : Nat, r < 65536 ∧ Z = [(r : Int)] ∧ p = 0 ∧ Nim.mul r r = q) ∨
    (∃ x y : Nat, x < y ∧ y < 65536 ∧ Z = [(x : Int), (y : Int)] ∧ p ≠ 0 ∧ x ^^^ y = p ∧ Nim.mul x x ^^^ Nim.mul p x ^^^ q = 0 ∧ Nim.mul y y ^^^ Nim.mul p y ^^^ q = 0) := by
  cases h with
  | flat r h0 h1 h2 h3 =>
    refine .inr (.inl ⟨r.toNat, by omega, by rw [show ((r.toNat : Nat) : Int) = r by omega], h0, ?_⟩)
    have e : r = ((Nim.npow q 32768 : Nat) : Int) := by
      rw [h3]
      show ((pwl 1 q 32768 : Nat) : Int) = _
      rw [pwl_npow 32768 1 q (by decide) hq, Nim.mul_one_left (Nim.npow_b hq _)]
    rw [e, Int.toNat_natCast, ← Nim.npow_add hq]
    exact Nim.npow_65536 hq
  | none i h h0 h1 h2 h3 => exact .inl ⟨rfl, h0⟩
  | two i h x y h0 h1 h2 hb hx hy =>
    have hb2 := half_b hb
    have xb : x < 65536 := by rw [hx]; exact Nim.mul_b hp hb2
    have yb : y < 65536 := by rw [hy]; exact Nim.x_b xb hp
    have r1 : Nim.mul x x ^^^ Nim.mul p x ^^^ q = 0 := by rw [hx]; exact Nim.quad_root hp hq h0 h1 h2 hb rfl
    have r2 : Nim.mul y y ^^^ Nim.mul p y ^^^ q = 0 := by rw [hy]; exact Nim.quad_other xb hp r1
    have e : x ^^^ y = p := by rw [hy, ← Nat.xor_assoc, Nat.xor_self, Nat.zero_xor]
    have ne : x ≠ y := fun q => h0 (by rw [← e, q, Nat.xor_self])
    refine .inr (.inr ?_)
    unfold srt2
    split
    · exact ⟨y, x, by omega, xb, rfl, h0, by rw [Nat.xor_comm]; exact e, r2, r1⟩
    · exact ⟨x, y, by omega, yb, rfl, h0, e, r1, r2⟩
/-- the equation whose roots are a and b -/
theorem quad_two {a b : Nat} (ha : a < 65536) (hb : b < 65536) {Z : List Int} (h : QuadIs (a ^^^ b) (Nim.mul a b) Z) :
    (a = b → Z = [(a : Int)]) ∧ (a ≠ b → Z = [((min a b : Nat) : Int), ((max a b : Nat) : Int)]) := by
  have hp := Nim.x_b ha hb
  have hq := Nim.mul_b ha hb
  have hs := quad_shape hp hq h
  constructor
  · intro e
    subst e
    rw [Nat.xor_self] at hs
    rcases hs with ⟨_, h0⟩ | ⟨r, hr, rfl, _, hrr⟩ | ⟨x, y, _, _, _, h0, _⟩
    · exact absurd rfl h0
    · have : r = a := by
        have e1 : Nim.mul (r ^^^ a) (r ^^^ a) = 0 := by rw [Nim.sq_xor, hrr, Nat.xor_self]
        rcases Nim.mul_eq_zero (Nim.x_b hr ha) (Nim.x_b hr ha) e1 with q | q <;> exact Nim.xor_zero q
      rw [this]
    · exact absurd rfl h0
  · intro hne
    have h0 : a ^^^ b ≠ 0 := fun q => hne (Nim.xor_zero q)
    rcases hs with ⟨e, _⟩ | ⟨r, hr, rfl, h00, hrr⟩ | ⟨x, y, hxy, hy, rfl, _, e, r1, r2⟩
    · cases h with
      | flat r _ _ _ _ => cases e
      | none i h _ hi hh hbig =>
        have := Nim.two_small ha hb h0 hi
        omega
      | two i h x y _ _ _ _ _ _ => unfold srt2 at e; split at e <;> cases e
    · exact absurd h00 h0
    · have q1 := Nim.two_roots ha hb (by omega) r1
      have q2 := Nim.two_roots ha hb hy r2
      rcases q1 with rfl | rfl <;> rcases q2 with rfl | rfl
      · omega
      · rw [show min x y = x by omega, show max x y = y by omega]
      · rw [show min y x = x by omega, show max y x = y by omega]
      · omega
/-- two lists that are equal -/
theorem l05Same_any (v u : Value) (zs : List Int) (hn : zs.length ≤ 1048576) (w : World) (h : NS w v zs) (h' : NS w u zs) :
    Calls Try.prog 147 #[v, u] w fun e w' => e = .returned (.bool true) ∧ ∃ n, w' = w.drewN n := by
  obtain ⟨A, c, rfl, hz, hc⟩ := h
  obtain ⟨A', c', rfl, _, hc'⟩ := h'
  have HC := Lib.hid hc
  have HC' := Lib.hid hc'
  clear hc hc' hz
  have T0 : (((zs.length : Nat) : Int) != ((zs.length : Nat) : Int)) = false := by simp
  go_enter Try.func147, Try.ntmps147
  go_wp2_with fail
  go_loopw [5] (fun k wr => ∃ i m : Nat, k = .int .i64 (i : Int) ∧ i ≤ zs.length ∧ Hid (w.drewN m = wr)) (fun k _ => zs.length - (intOf k).toNat)
  case atStart => exact ⟨0, 0, rfl, by omega, Lib.hid rfl⟩
  case round =>
    obtain ⟨i, m, rfl, hi, HW⟩ := hrel
    by_cases hlt : i < zs.length
    · have T1 : decide ((i : Int) < (zs.length : Int)) = true := by simp; omega
      have i1 : (i : Int) < (zs.length : Int) := by omega
      obtain ⟨b, off, rfl, _, hcell⟩ := HC.out (by omega)
      obtain ⟨b', off', rfl, _, hcell'⟩ := HC'.out (by omega)
      have q1 : wr.cell? ⟨b, off + i, none⟩ = some (.int .u16 (zs.getD i 0)) := by rw [← HW.out]; exact hcell i hlt
      have q2 : wr.cell? ⟨b', off' + i, none⟩ = some (.int .u16 (zs.getD i 0)) := by rw [← HW.out]; exact hcell' i hlt
      obtain ⟨z, hz⟩ : ∃ z, zs.getD i 0 = z := ⟨_, rfl⟩
      rw [hz] at q1 q2
      have T2 : (z != z) = false := by simp
      clear hcell hcell' hz
      go_wp2_with fail
      go_quiet (fail)
      go_wp2_with fail
      go_roundw
      case rel => exact ⟨i + 1, m + nq, by go_num, by omega, Lib.hid (by rw [← HW.out]; first | rfl | simp)⟩
      case measure => simp [intOf]; omega
    · obtain rfl : i = zs.length := by omega
      have T1 : decide ((zs.length : Int) < (zs.length : Int)) = false := by simp
      go_wp2_with fail
      go_ret
      exact ⟨rfl, m, HW.out.symm⟩
theorem sameNims_any (v u : Value) (zs : List Int) (hn : zs.length ≤ 1048576) (w : World) (h : NS w v zs) (h' : NS w u zs) :
    Calls Try.prog 93 #[v, u] w fun e w' => e = .returned (.bool true) ∧ ∃ n, w' = w.drewN n := by
  obtain ⟨A, c, rfl, hz, hc⟩ := h
  obtain ⟨A', c', rfl, hz', hc'⟩ := h'
  have H1 : Hid (NS w (.slice A zs.length c) zs) := Lib.hid ⟨A, c, rfl, hz, hc⟩
  have H2 : Hid (NS w (.slice A' zs.length c') zs) := Lib.hid ⟨A', c', rfl, hz', hc'⟩
  clear hz hc hz' hc'
  go_enter Try.func93, Try.ntmps93
  go_wp2_with fail
  refine (l05Same_any _ _ zs hn _ H1.out H2.out).mono ?_
  rintro e w' ⟨rfl, m, rfl⟩
  go_wp2_with fail
  go_ret
  exact ⟨rfl, m, rfl⟩
end Go.Proofs.Ytjbaeomjinnlhaa
