/-
  Conjugates: both sides.
-/
import Derived.RangeFuncBox
import Derived.RangeFuncLeaves
import Derived.Shelf.Abstract
import Derived.WalkKit
import Derived.OwnWalkIn
import Derived.TacticsInMore
import Derived.LoopNIn
import Derived.LoopIn
import Derived.Maps.AppendAt
import Derived.Test.YtjbaeomjinnlhaaMarkM
import Derived.Test.YtjbaeomjinnlhaaScale
namespace Go.Proofs.Ytjbaeomjinnlhaa
set_option linter.unusedVariables false
set_option linter.unusedSimpArgs false
open Go.ChangeShapes Go.WideShapes Go.ChangeAt Go.RowKit Go.Shelf

/-! the mathematics -/
theorem Nim.sqs_succ (n : Nat) : ∀ a, Nim.sqs (n + 1) a = Nim.mul (Nim.sqs n a) (Nim.sqs n a) := by
  induction n with
  | zero => exact fun a => rfl
  | succ n ih => intro a; show Nim.sqs (n + 1) (Nim.mul a a) = _; rw [ih]; rfl
theorem Nim.sqs_add (m n : Nat) : ∀ a, Nim.sqs (m + n) a = Nim.sqs m (Nim.sqs n a) := by
  induction n with
  | zero => exact fun a => rfl
  | succ n ih => intro a; show Nim.sqs (m + n) (Nim.mul a a) = Nim.sqs m (Nim.sqs n (Nim.mul a a)); exact ih _
def IsPer (a p : Nat) : Prop := 1 ≤ p ∧ p ≤ 16 ∧ Nim.sqs p a = a ∧ ∀ i, 0 < i → i < p → Nim.sqs i a ≠ a
theorem least_nat (P : Nat → Prop) : ∀ n, P n → ∃ m, m ≤ n ∧ P m ∧ ∀ i, i < m → ¬ P i := by
  intro n
  induction n using Nat.strongRecOn with
  | _ n ih =>
    intro h
    by_cases e : ∃ i, i < n ∧ P i
    · obtain ⟨i, hi, hp⟩ := e
      obtain ⟨m, hm, h1, h2⟩ := ih i hi hp
      exact ⟨m, by omega, h1, h2⟩
    · exact ⟨n, Nat.le_refl _, h, fun i hi hp => e ⟨i, hi, hp⟩⟩
theorem per_ex (a : Nat) (ha : a < 65536) : ∃ p, IsPer a p := by
  obtain ⟨m, hm, h1, h2⟩ := least_nat (fun n => Nim.sqs (n + 1) a = a) 15 (Nim.sqs16 a ha)
  exact ⟨m + 1, by omega, by omega, h1, fun i h0 hi => by have := h2 (i - 1) (by omega); rwa [show i - 1 + 1 = i from by omega] at this⟩
theorem IsPer.inj {a p i j : Nat} (h : IsPer a p) (hij : i < j) (hj : j < p) : Nim.sqs i a ≠ Nim.sqs j a := by
  intro e
  have e2 : Nim.sqs (p - j + i) a = a := by
    rw [Nim.sqs_add, e, ← Nim.sqs_add, show p - j + j = p from by omega, h.2.2.1]
  exact h.2.2.2 (p - j + i) (by omega) (by omega) e2
def conjI (a p : Nat) : List Int := (List.range p).map fun i => ((Nim.sqs i a : Nat) : Int)
theorem conjI_len (a p : Nat) : (conjI a p).length = p := by simp [conjI]
theorem conjI_snoc (a p : Nat) : conjI a p ++ [((Nim.sqs p a : Nat) : Int)] = conjI a (p + 1) := by unfold conjI; rw [List.range_succ, List.map_append]; rfl
theorem u16s_conj (a p : Nat) : u16s (conjI a p) ++ [Value.int .u16 ((Nim.sqs p a : Nat) : Int)] = u16s (conjI a (p + 1)) := by rw [← conjI_snoc]; simp [u16s]
theorem conjI_small (a p : Nat) (ha : a < 65536) : ∀ z ∈ conjI a p, 0 ≤ z ∧ z < 65536 := by
  intro z hz
  unfold conjI at hz
  obtain ⟨i, _, rfl⟩ := List.mem_map.1 hz
  have := Nim.sqs_b i a ha
  omega
theorem conjI_pre (a p k : Nat) (h : k ≤ p) : conjI a k <+: conjI a p := by
  refine ⟨(List.range (p - k)).map (fun i => ((Nim.sqs (k + i) a : Nat) : Int)), ?_⟩
  unfold conjI
  have e := List.range_add (n := k) (m := p - k)
  rw [show k + (p - k) = p from by omega] at e
  rw [e, List.map_append, List.map_map]; rfl
theorem lsquare_nat (x : Nat) (hx : x < 65536) (w : World) : Calls Try.prog 110 #[.int .u16 (x : Int), .int .u16 (x : Int)] w fun e w' => e = .returned (.int .u16 ((Nim.mul x x : Nat) : Int)) ∧ w' = w := by
  have h := ltimes_eq (x : Int) (x : Int) (by omega) (by omega) (by omega) (by omega) w
  rw [mulI_nat] at h
  exact h
theorem square_nat (x : Nat) (hx : x < 65536) (w : World) : Calls Try.prog 139 #[.int .u16 (x : Int)] w fun e w' => e = .returned (.int .u16 ((Nim.mul x x : Nat) : Int)) ∧ w' = w := by
  refine (square_any (x : Int) (by omega) (by omega) w).mono ?_
  rintro e w' ⟨⟨v, rfl, hv, _⟩, rfl⟩
  rw [hv.out, mulI_nat]
  exact ⟨rfl, rfl⟩
/-! the model -/
theorem one_cellC (w : World) (v : Value) (t : TypeId) (j : Nat) (u : Value) (h : [v][j]? = some u) : (w.alloc (.cells #[v] t)).cell? ((⟨w.heap.size, 0, none⟩ : Addr).add j) = some u := by
  cases j with
  | zero =>
    simp only [List.getElem?_cons_zero, Option.some.injEq] at h
    subst h
    exact cell_of_row _ _ _ _ _ _ (heap_alloc_new w _)
  | succ j => simp at h
set_option maxRecDepth 100000 in
set_option maxHeartbeats 2000000 in
theorem spec_ConjugatesOf (a p : Nat) (ha : a < 65536) (hp : IsPer a p) (w : World) :
    Calls Try.prog 83 #[.int .u16 (a : Int)] w fun e w' => ∃ v, e = .returned v ∧ w'.ownsRow w.heap.size 29 1 v p (u16s (conjI a p)) ∧ Below w.heap.size w w' := by
  obtain ⟨i0, hi, hz0, hz1, hz2⟩ := info_parts info25
  have hp1 := hp.1
  have hp2 := hp.2.1
  have HP := Lib.hid hp
  clear hp
  go_enter Try.func83, Try.ntmps83
  go_wp2_with fail
  obtain ⟨B, hB⟩ : ∃ B, B = w.heap.size := ⟨_, rfl⟩
  have m1 : (w.alloc (.cells #[.int .u16 (a : Int)] 29)).ownsRow B 29 1 (.slice (some ⟨w.heap.size, 0, none⟩) 1 1) 1 (u16s (conjI a 1)) :=
    ⟨by simp [u16s, conjI], .inr ⟨w.heap.size, 1, #[.int .u16 (a : Int)], rfl, by omega, heap_alloc_new w _, Nat.le_refl _, by unfold maxLen; omega, rfl, by simp [u16s, conjI, Nim.sqs]⟩⟩
  have m2 : Below B w (w.alloc (.cells #[.int .u16 (a : Int)] 29)) := (Below.refl _ _).alloc (by omega) _
  rw [← hB] at m1 ⊢
  have M1 := Lib.hid m1
  have M2 := Lib.hid m2
  have HBB := Lib.hid hB
  clear m1 m2 hB
  generalize w.alloc (.cells #[.int .u16 (a : Int)] 29) = wa at M1 M2 ⊢
  refine (lsquare_nat a ha _).mono ?_
  rintro e w' ⟨rfl, rfl⟩
  have hs1 : Nim.mul a a = Nim.sqs 1 a := rfl
  have hsb := Nim.sqs_b 1 a ha
  rw [hs1]
  clear hs1
  generalize hx : Nim.sqs 1 a = x at hsb ⊢
  have HX := Lib.hid hx
  clear hx
  go_wp2_with fail
  go_loopw [4, 3] (fun y o wr => ∃ k x : Nat, y = .int .u16 (x : Int) ∧ k < p ∧ x < 65536 ∧ Hid (Nim.sqs (k + 1) a = x) ∧ Hid (wr.ownsRow B 29 1 o (k + 1) (u16s (conjI a (k + 1)))) ∧ Hid (Below B w wr) ∧ Hid (B ≤ wr.heap.size)) (fun y o _ => match o with | .slice _ n _ => p - n | _ => 0)
  case atStart => exact ⟨0, x, rfl, by omega, hsb, HX, M1, M2, Lib.hid (by have := M2.out.size; have := HBB.out; omega)⟩
  case round =>
    clear M1 M2 HX hsb
    obtain ⟨k, x, rfl, hk, hxb, HX, HO, HBW, HS⟩ := hrel
    by_cases hlt : k + 1 = p
    · have T1 : ((x : Int) != (a : Int)) = false := by
        have : x = a := by rw [← HX.out, hlt]; exact HP.out.2.2.1
        rw [this]; simp
      have HL := Lib.hid hlt
      clear hlt
      go_wp2_with fail
      go_ret
      obtain rfl := HL.out
      obtain rfl := HBB.out
      exact ⟨_, rfl, HO.out, HBW.out⟩
    · have T1 : ((x : Int) != (a : Int)) = true := by
        have h1 : x ≠ a := by rw [← HX.out]; exact HP.out.2.2.2 (k + 1) (by omega) (by omega)
        rw [bne_iff_ne]; omega
      have hk2 : k + 1 < p := by omega
      clear hlt
      obtain ⟨A0, c0, rfl, _, _⟩ := own_form HO.out
      go_wp2_with (at_builtin; refine wpList_append_own _ rfl _ _ 72 rfl (B) 29 i0 (.int .u16 0) 1 2 Try.underlying72 hi hz0 hz1 hz2 rfl (by decide) _ (k + 1) _ rfl (HO.out.alloc _) ⟨wr.heap.size, 0, none⟩ 1 1 [.int .u16 (x : Int)] rfl rfl ?c1 ?c2 ?c3 ?c4 ?c5 ?_)
      case c1 => exact one_cellC _ _ _
      case c2 => simp [Value.oneCell']
      case c3 => unfold maxLen; omega
      case c4 => omega
      case c5 => rw [World.size_alloc]; have := HS.out; omega
      intro s' wy hown hgrow _
      have hown2 : wy.ownsRow B 29 1 s' (k + 1 + 1) (u16s (conjI a (k + 1 + 1))) := by
        rw [← u16s_conj, HX.out]; exact hown
      have HB2 := Lib.hid ((HBW.out.alloc HS.out _).grown hgrow (by rw [World.size_alloc]; have := HS.out; omega) (fun x hx => (HO.out.lt x hx).1))
      have HS2 := Lib.hid (Nat.le_trans (show B ≤ (wr.alloc (.cells #[.int .u16 (x : Int)] 29)).heap.size by rw [World.size_alloc]; have := HS.out; omega) hgrow.size)
      obtain ⟨A1, c1, rfl, _, _⟩ := own_form hown2
      have HQ2 := Lib.hid hown2
      clear hown hown2 hgrow HO HBW HS
      have hs2 : Nim.mul x x = Nim.sqs (k + 1 + 1) a := by rw [Nim.sqs_succ, HX.out]
      have HX2 := Lib.hid hs2
      have hb2 := Nim.mul_b hxb hxb
      clear hs2
      go_wp2_with fail
      refine (lsquare_nat x hxb _).mono ?_
      rintro e w' ⟨rfl, rfl⟩
      go_wp2_with fail
      exact ⟨⟨k + 1, _, rfl, by omega, hb2, Lib.hid HX2.out.symm, HQ2, HB2, HS2⟩, by simp; omega⟩
end Go.Proofs.Ytjbaeomjinnlhaa
