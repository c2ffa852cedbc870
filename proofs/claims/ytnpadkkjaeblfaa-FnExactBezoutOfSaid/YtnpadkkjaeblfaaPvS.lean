/-
  Is a polynomial valid: of the model and of the program; ValidPoly, SamePoly, DegreeOf.
-/
import Derived.Test.YtnpadkkjaeblfaaPvN
import Derived.Test.YtnpadkkjaeblfaaPo
import Derived.Deep.RegionHeld
namespace Go.Proofs.Ytnpadkkjaeblfaa
set_option linter.unusedVariables false
set_option linter.unusedSimpArgs false
open Go.ChangeShapes Go.WideShapes Go.ChangeAt Go.RowKit

set_option maxHeartbeats 1000000 in
theorem l05Ok_any (v : Value) (zs : List Int) (hn : zs.length ≤ 1048576) (w : World) (h : NS w v zs) :
    Calls Try.prog 85 #[v] w fun e w' => e = .returned (.bool (okP zs)) ∧ w' = w := by
  obtain ⟨A, c, rfl, hz, hc⟩ := h
  obtain ⟨L, hL⟩ : ∃ L, L = zs.length := ⟨_, rfl⟩
  obtain ⟨bv, hb⟩ : ∃ bv, bv = okP zs := ⟨_, rfl⟩
  have hb' := hb
  unfold okP at hb'
  rw [← hL] at hn hc hb' ⊢
  rw [← hb]
  by_cases h0 : L = 0
  · have hbt : bv = true := by rw [hb', h0]; rfl
    subst hbt
    have T1 : ((L : Int) == 0) = true := by rw [h0]; rfl
    clear hb hb' hc hz hL h0
    go_enter Try.func85, Try.ntmps85
    go_wp2_with fail
    go_ret
    exact ⟨rfl, rfl⟩
  have T1 : ((L : Int) == 0) = false := by rw [beq_eq_false_iff_ne]; omega
  by_cases h1 : L ≤ 21
  · have T2 : decide ((L : Int) ≤ 21) = true := by simp; omega
    obtain ⟨m, hm⟩ : ∃ m : Nat, m = L - 1 := ⟨_, rfl⟩
    have hm2 : L = m + 1 := by omega
    obtain ⟨b, off, rfl, hlb, hcell⟩ := hc (by omega)
    have q1 := hcell m (by omega)
    have hx : (L : Int) - 1 = (m : Int) := by clear hc hz hb hb' q1; omega
    have i1 : (m : Int) < (L : Int) := by omega
    rw [← hm] at hb'
    obtain ⟨x, hxx⟩ : ∃ x, x = zs.getD m 0 := ⟨_, rfl⟩
    rw [← hxx] at q1 hb'
    have hbt : (x != 0) = bv := by
      rw [hb']
      have e1 : decide (L = 0) = false := by simp; omega
      have e2 : decide (L ≤ 21) = true := by simp; omega
      rw [e1, e2]; simp
    clear hb hb' hc hz hL h0 hcell hm hm2 hxx
    go_enter Try.func85, Try.ntmps85
    go_wp2_with fail
    go_ret
    exact ⟨by first | rfl | rw [hbt], rfl⟩
  · have T2 : decide ((L : Int) ≤ 21) = false := by simp; omega
    have hbt : bv = false := by
      rw [hb']
      have e1 : decide (L = 0) = false := by simp; omega
      have e2 : decide (L ≤ 21) = false := by simp; omega
      rw [e1, e2]; simp
    subst hbt
    clear hb hb' hc hz hL h0 h1
    go_enter Try.func85, Try.ntmps85
    go_wp2_with fail
    go_ret
    exact ⟨rfl, rfl⟩
theorem degree_any (A : Option Addr) (L c : Nat) (hn : L ≤ 1048576) (w : World) :
    Calls Try.prog 86 #[.slice A L c] w fun e w' => e = .returned (.int .i64 ((L : Int) - 1)) ∧ w' = w := by
  go_enter Try.func86, Try.ntmps86
  go_wp2_with fail
  go_ret
  exact ⟨rfl, rfl⟩
theorem isZero_any (A : Option Addr) (L c : Nat) (hn : L ≤ 1048576) (w : World) :
    Calls Try.prog 87 #[.slice A L c] w fun e w' => e = .returned (.bool (decide (L = 0))) ∧ w' = w := by
  go_enter Try.func87, Try.ntmps87
  go_wp2_with fail
  go_ret
  refine ⟨?_, rfl⟩
  first
    | rfl
    | (congr 2
       by_cases h : L = 0
       · subst h; rfl
       · have e1 : ((L : Int) == 0) = false := by rw [beq_eq_false_iff_ne]; omega
         rw [e1]; simp [h])
theorem okP_zero {zs : List Int} (h : zs.length = 0) : okP zs = true := by unfold okP; rw [h]; rfl
theorem okP_long {zs : List Int} (h : ¬ zs.length ≤ 21) : okP zs = false := by
  unfold okP
  have e1 : decide (zs.length = 0) = false := by simp; intro e; rw [e] at h; simp at h
  have e2 : decide (zs.length ≤ 21) = false := by simp; omega
  rw [e1, e2]; rfl
theorem okP_last {zs : List Int} {m : Nat} {x : Int} (h0 : ¬ zs.length = 0) (h : zs.length ≤ 21) (hm : m = zs.length - 1) (hx : x = zs.getD m 0) : (x != 0) = okP zs := by
  unfold okP
  rw [← hm, ← hx]
  have e1 : decide (zs.length = 0) = false := by simp; intro e; rw [e] at h0; simp at h0
  have e2 : decide (zs.length ≤ 21) = true := by simp; omega
  rw [e1, e2]; simp
set_option maxHeartbeats 1000000 in
theorem valid_any (v : Value) (zs : List Int) (hn : zs.length ≤ 1048576) (w : World) (h : NS w v zs) :
    Calls Try.prog 27 #[v] w fun e w' => e = .returned (.bool (okP zs)) ∧ w' = w := by
  obtain ⟨A, c, rfl, hz, hc⟩ := h
  obtain ⟨bv, hb⟩ : ∃ bv, bv = okP zs := ⟨_, rfl⟩
  rw [← hb]
  by_cases h0 : zs.length = 0
  · rw [okP_zero h0] at hb
    subst hb
    rw [h0]
    clear hz hc h0 hn
    go_enter Try.func27, Try.ntmps27
    go_wp2_with fail
    refine (degree_any A 0 c (by omega) _).mono ?_
    rintro e w' ⟨rfl, rfl⟩
    go_wp2_with fail
    refine (isZero_any A 0 c (by omega) _).mono ?_
    rintro e w' ⟨rfl, rfl⟩
    go_wp2_with fail
    go_ret
    exact ⟨rfl, rfl⟩
  by_cases h1 : zs.length ≤ 21
  · obtain ⟨m, hm⟩ : ∃ m : Nat, m = zs.length - 1 := ⟨_, rfl⟩
    obtain ⟨b, off, rfl, hlb, hcell⟩ := hc (by omega)
    have q1 := hcell m (by omega)
    obtain ⟨x, hxx⟩ : ∃ x, x = zs.getD m 0 := ⟨_, rfl⟩
    rw [← hxx] at q1
    have hbt : (x != 0) = bv := by rw [hb]; exact okP_last h0 h1 hm hxx
    obtain ⟨L, hL⟩ : ∃ L, L = zs.length := ⟨_, rfl⟩
    rw [← hL] at hn hm h0 h1 ⊢
    have hx : (L : Int) - 1 = (m : Int) := by omega
    have i1 : (m : Int) < (L : Int) := by omega
    have T2 : decide ((m : Int) ≤ 20) = true := by simp; omega
    have T3 : decide (L = 0) = false := by simp; omega
    clear hb hc hz hL hcell hxx hm
    go_enter Try.func27, Try.ntmps27
    go_wp2_with fail
    refine (degree_any _ L c hn _).mono ?_
    rintro e w' ⟨rfl, rfl⟩
    rw [hx]
    go_wp2_with fail
    refine (isZero_any _ L c hn _).mono ?_
    rintro e w' ⟨rfl, rfl⟩
    rw [T3]
    go_wp2_with fail
    refine (degree_any _ L c hn _).mono ?_
    rintro e w' ⟨rfl, rfl⟩
    rw [hx]
    go_wp2_with fail
    go_ret
    exact ⟨by first | rfl | rw [hbt], rfl⟩
  · rw [okP_long h1] at hb
    subst hb
    obtain ⟨L, hL⟩ : ∃ L, L = zs.length := ⟨_, rfl⟩
    rw [← hL] at hn h1 ⊢
    have T2 : decide ((L : Int) - 1 ≤ 20) = false := by simp; omega
    clear hc hz hL h0
    go_enter Try.func27, Try.ntmps27
    go_wp2_with fail
    refine (degree_any _ L c hn _).mono ?_
    rintro e w' ⟨rfl, rfl⟩
    go_wp2_with fail
    go_ret
    exact ⟨rfl, rfl⟩
/-- polynomials that stand in a row -/
def okAll : List (Value × List Int) → Bool
  | [] => true
  | p :: l => okP p.2 && okAll l
theorem okAll_no : ∀ {l : List (Value × List Int)} {i : Nat} {p : Value × List Int}, l[i]? = some p → okP p.2 = false → okAll l = false
  | [], i, p, h, _ => by simp at h
  | q :: l, 0, p, h, hp => by
    have : q = p := by simpa using h
    rw [okAll, this, hp]; rfl
  | q :: l, i + 1, p, h, hp => by
    rw [okAll, okAll_no (l := l) (i := i) (by simpa using h) hp]; simp
theorem okAll_yes : ∀ {l : List (Value × List Int)}, (∀ (i : Nat) (p : Value × List Int), l[i]? = some p → okP p.2 = true) → okAll l = true
  | [], _ => rfl
  | q :: l, h => by
    rw [okAll, h 0 q rfl, okAll_yes (l := l) (fun i p hp => h (i + 1) p (by simpa using hp))]; rfl
set_option maxHeartbeats 1000000 in
theorem checkPolys_any (l : List (Value × List Int)) (hl : l.length ≤ 2) (g : Nat) (w : World)
    (hc : ∀ i p, l[i]? = some p → w.cell? ⟨g, i, none⟩ = some p.1 ∧ NS w p.1 p.2 ∧ p.2.length ≤ 1048576) :
    Calls Try.prog 90 #[.slice (some ⟨g, 0, none⟩) l.length l.length] w fun e w' => e = .returned (.int .i64 (if okAll l then 0 else 1)) ∧ w' = w := by
  have HC := Lib.hid hc; clear hc
  obtain ⟨cd, hcd⟩ : ∃ cd : Int, cd = if okAll l then 0 else 1 := ⟨_, rfl⟩
  rw [← hcd]
  have HCD := Lib.hid hcd; clear hcd
  go_enter Try.func90, Try.ntmps90
  go_wp2_with fail
  go_loop [7] (fun y => ∃ k : Nat, y = .int .i64 (k : Int) ∧ k ≤ l.length ∧ Hid (∀ i p, i < k → l[i]? = some p → okP p.2 = true)) (fun y => l.length - (intOf y).toNat)
  case atStart => exact ⟨0, rfl, by omega, Lib.hid (fun i p hi => absurd hi (by omega))⟩
  case round =>
    obtain ⟨k, rfl, hk, HK⟩ := hrel
    by_cases hlt : k < l.length
    · obtain ⟨p, hp⟩ : ∃ p, l[k]? = some p := ⟨_, List.getElem?_eq_getElem hlt⟩
      obtain ⟨q1, q2, q3⟩ := HC.out k p hp
      have i1 : (k : Int) < (l.length : Int) := by omega
      have HP := Lib.hid hp
      have HQ2 := Lib.hid q2
      clear hp q2
      go_wp2_with fail
      refine (valid_any p.1 p.2 q3 _ HQ2.out).mono ?_
      rintro e w' ⟨rfl, rfl⟩
      by_cases ho : okP p.2 = true
      · rw [ho]
        have HO := Lib.hid ho
        clear ho
        go_wp2_with fail
        exact ⟨⟨k + 1, by go_num, by omega, Lib.hid (fun i q hi hq => by
          by_cases e : i = k
          · subst e; rw [HP.out] at hq; cases hq; exact HO.out
          · exact HK.out i q (by omega) hq)⟩, by simp [intOf]; omega⟩
      · have ho' : okP p.2 = false := by simpa using ho
        have HN := Lib.hid (okAll_no HP.out ho')
        rw [ho']
        clear ho ho'
        go_wp2_with fail
        go_ret
        exact ⟨by rw [HCD.out, HN.out]; rfl, rfl⟩
    · have HY := Lib.hid (show okAll l = true from okAll_yes (fun i p hp => HK.out i p (by have := (List.getElem?_eq_some_iff.1 hp).1; omega) hp))
      go_wp2_with fail
      go_ret
      exact ⟨by rw [HCD.out, HY.out]; rfl, rfl⟩
theorem check1 (v : Value) (zs : List Int) (hn : zs.length ≤ 1048576) (w : World) (h : NS w v zs) :
    Calls Try.prog 90 #[.slice (some ⟨w.heap.size, 0, none⟩) 1 1] (w.alloc (.cells #[v] 25)) fun e w' => e = .returned (.int .i64 (okC zs)) ∧ w' = w.alloc (.cells #[v] 25) := by
  refine (checkPolys_any [(v, zs)] (by simp) w.heap.size _ (fun i p hp => ?_)).mono ?_
  · cases i with
    | zero =>
      have : (v, zs) = p := by simpa using hp
      subst this
      exact ⟨cell_of_row _ _ _ _ _ _ (heap_alloc_new w _), h.below ((Below.refl _ w).alloc (Nat.le_refl _) _), hn⟩
    | succ i => simp at hp
  · rintro e w' ⟨rfl, rfl⟩
    refine ⟨?_, rfl⟩
    unfold okC okAll okAll
    simp
theorem check2 (v u : Value) (xs ys : List Int) (hn : xs.length ≤ 1048576) (hn2 : ys.length ≤ 1048576) (w : World) (h : NS w v xs) (h' : NS w u ys) :
    Calls Try.prog 90 #[.slice (some ⟨w.heap.size, 0, none⟩) 2 2] (w.alloc (.cells #[v, u] 25)) fun e w' => e = .returned (.int .i64 (okC2 xs ys)) ∧ w' = w.alloc (.cells #[v, u] 25) := by
  refine (checkPolys_any [(v, xs), (u, ys)] (by simp) w.heap.size _ (fun i p hp => ?_)).mono ?_
  · match i, hp with
    | 0, hp =>
      have : (v, xs) = p := by simpa using hp
      subst this
      exact ⟨cell_of_row _ _ _ _ _ _ (heap_alloc_new w _), h.below ((Below.refl _ w).alloc (Nat.le_refl _) _), hn⟩
    | 1, hp =>
      have : (u, ys) = p := by simpa using hp
      subst this
      exact ⟨cell_of_row _ _ _ _ _ _ (heap_alloc_new w _), h'.below ((Below.refl _ w).alloc (Nat.le_refl _) _), hn2⟩
    | i + 2, hp => simp at hp
  · rintro e w' ⟨rfl, rfl⟩
    refine ⟨?_, rfl⟩
    unfold okC2 okAll okAll okAll
    simp
end Go.Proofs.Ytnpadkkjaeblfaa
