/-
  Half roots, of the program.
-/
import Derived.Test.YtjbaeomjinnlhaaLawM
import Derived.Test.YtjbaeomjinnlhaaAlg
import Derived.Test.YtjbaeomjinnlhaaShelf
import Derived.Handy
import Derived.Laws.EntriesVeiled
namespace Go.Proofs.Ytjbaeomjinnlhaa
set_option linter.unusedVariables false
set_option linter.unusedSimpArgs false
open Go.ChangeShapes Go.WideShapes Go.ChangeAt Go.RowKit

def Lrow : List Int := [1, 2, 5, 8, 20, 39, 94, 128, 320, 624, 1504, 2141, 5371, 10127, 24138]
def tabA (f : Nat → Int) (k : Nat) : Array Value := ((List.range 16).map fun t => Value.int .u16 (if t < k then f t else 0)).toArray
theorem tabA_at (f : Nat → Int) (k t : Nat) (ht : t < 16) : (tabA f k)[t]? = some (.int .u16 (if t < k then f t else 0)) := by
  unfold tabA
  rw [List.getElem?_toArray, List.getElem?_map, List.getElem?_range ht]; rfl
theorem tabA_new (f : Nat → Int) (k : Nat) (hk : k < 16) : (tabA f k)[k]? = some (.int .u16 0) := by
  rw [tabA_at f k k hk, if_neg (Nat.lt_irrefl k)]
theorem tabA_old (f : Nat → Int) (k t : Nat) (hk : t < k) (ht : t < 16) : (tabA f k)[t]? = some (.int .u16 (f t)) := by
  rw [tabA_at f k t ht, if_pos hk]
theorem tabA_size (f : Nat → Int) (k : Nat) : (tabA f k).size = 16 := by simp [tabA]
theorem tabA_set (f : Nat → Int) (k : Nat) (hk : k < 16) : (tabA f k).setIfInBounds k (.int .u16 (f k)) = tabA f (k + 1) := by
  apply Array.ext_getElem?
  intro i
  rw [Array.getElem?_setIfInBounds, tabA_size]
  by_cases hi : i < 16
  · rw [tabA_at f (k + 1) i hi]
    by_cases e : k = i
    · subst e; rw [if_pos rfl, if_pos hi, if_pos (by omega)]
    · rw [if_neg e, tabA_at f k i hi]
      by_cases h2 : i < k
      · rw [if_pos h2, if_pos (by omega)]
      · rw [if_neg h2, if_neg (by omega)]
  · rw [if_neg (by omega)]
    have h1 : (tabA f k)[i]? = none := Array.getElem?_eq_none (by rw [tabA_size]; omega)
    have h2 : (tabA f (k + 1))[i]? = none := Array.getElem?_eq_none (by rw [tabA_size]; omega)
    rw [h1, h2]
theorem tabA_zero (f : Nat → Int) : tabA f 0 = #[.int .u16 0, .int .u16 0, .int .u16 0, .int .u16 0, .int .u16 0, .int .u16 0, .int .u16 0, .int .u16 0, .int .u16 0, .int .u16 0, .int .u16 0, .int .u16 0, .int .u16 0, .int .u16 0, .int .u16 0, .int .u16 0] := by
  simp [tabA, List.range, List.range.loop]
def sT (t : Nat) : Int := Lrow.getD t 0
def oT (t : Nat) : Int := 2 ^ (t + 1)
theorem fifteen : ∀ k : Nat, k < 15 → k = 0 ∨ k = 1 ∨ k = 2 ∨ k = 3 ∨ k = 4 ∨ k = 5 ∨ k = 6 ∨ k = 7 ∨ k = 8 ∨ k = 9 ∨ k = 10 ∨ k = 11 ∨ k = 12 ∨ k = 13 ∨ k = 14 := by decide
theorem tab_step (f1 f2 : Nat → Int) (w wr : World) (g k : Nat) (t : TypeId) (F : Obj) (hk : k < 16) (v1 v2 : Int) (h1 : v1 = f1 k) (h2 : v2 = f2 k)
    (hS : wr.heap[g]? = some (.cells (tabA f1 k) t (0, 0))) (hO : wr.heap[g + 1]? = some (.cells (tabA f2 k) t (0, 0))) (hF : wr.heap[g + 1 + 1]? = some F) (hb : Below g w wr) :
    ((wr.setCell ⟨g, k, none⟩ (.int .u16 v1)).setCell ⟨g + 1, k, none⟩ (.int .u16 v2)).heap[g]? = some (.cells (tabA f1 (k + 1)) t (0, 0)) ∧
    ((wr.setCell ⟨g, k, none⟩ (.int .u16 v1)).setCell ⟨g + 1, k, none⟩ (.int .u16 v2)).heap[g + 1]? = some (.cells (tabA f2 (k + 1)) t (0, 0)) ∧
    ((wr.setCell ⟨g, k, none⟩ (.int .u16 v1)).setCell ⟨g + 1, k, none⟩ (.int .u16 v2)).heap[g + 1 + 1]? = some F ∧
    Below g w ((wr.setCell ⟨g, k, none⟩ (.int .u16 v1)).setCell ⟨g + 1, k, none⟩ (.int .u16 v2)) := by
  subst h1 h2
  refine ⟨?_, ?_, ?_, ?_⟩
  · rw [heap_setCell_other _ _ _ _ (by simp), heap_setCell_same wr g k _ _ _ hS, tabA_set f1 k hk]
  · have e : (wr.setCell ⟨g, k, none⟩ (.int .u16 (f1 k))).heap[g + 1]? = some (.cells (tabA f2 k) t (0, 0)) := by rw [heap_setCell_other _ _ _ _ (by simp)]; exact hO
    rw [heap_setCell_same _ (g + 1) k _ _ _ e, tabA_set f2 k hk]
  · rw [heap_setCell_other _ _ _ _ (by simp), heap_setCell_other _ _ _ _ (by simp; omega)]; exact hF
  · exact (hb.setCell (p := ⟨g, k, none⟩) (Nat.le_refl _) _).setCell (p := ⟨g + 1, k, none⟩) (Nat.le_succ _) _
set_option maxHeartbeats 1000000 in
theorem reduce_stop (s x : Int) (g h t : Nat) (s0 : 0 < s) (s1 : s < 65536) (ht : Lib.bitLen s.toNat = t + 1) (w : World) (hc : w.cell? ⟨g, t, none⟩ = some (.int .u16 0)) (ht16 : t < 16) :
    Calls Try.prog 159 #[.int .u16 s, .int .u16 x, .pointer (some ⟨g, 0, none⟩), .pointer (some ⟨h, 0, none⟩)] w fun e w' => e = .returned (.tuple #[.int .u16 s, .int .u16 x]) ∧ w = w' := by
  have hs : (s != 0) = true := bne_iff_ne.2 (by omega)
  have HT := Lib.hid ht; clear ht
  go_enter Try.func159, Try.ntmps159
  go_wp2_with fail
  refine wp_loop_rounds 1 ?_
  rw [rounds_succ]
  go_wp2_with fail
  refine (Try.bits_Len16 _ _ (by omega) (by omega)).mono ?_
  rintro e w' ⟨rfl, rfl⟩
  rw [HT.out]
  go_wp2_with fail
  go_ret2
  exact ⟨rfl, rfl⟩
theorem sq_0 (w : World) : Calls Try.prog 139 #[.int .u16 2] w fun e w' => e = .returned (.int .u16 3) ∧ w' = w :=
  (square_any 2 (by decide) (by decide) w).mono fun e w' ⟨⟨v, h1, h2, _⟩, h3⟩ => ⟨by rw [h1, h2.out, show mulI 2 2 = 3 from by decide +kernel], h3.symm⟩
theorem pl_0 (w : World) : Calls Try.prog 133 #[.int .u16 2, .int .u16 3] w fun e w' => e = .returned (.int .u16 1) ∧ w' = w :=
  (plus_any 65536 (by decide) 2 3 (by decide) (by decide) (by decide) (by decide) w).mono fun e w' ⟨⟨v, h1, h2, _⟩, h3⟩ => ⟨by rw [h1, h2.out, show xorI 2 3 = 1 from by decide +kernel], h3.symm⟩
theorem red_0 (g : Nat) (w : World) (hc : w.cell? ⟨g, 0, none⟩ = some (.int .u16 0)) : Calls Try.prog 159 #[.int .u16 1, .int .u16 2, .pointer (some ⟨g, 0, none⟩), .pointer (some ⟨g + 1, 0, none⟩)] w fun e w' => e = .returned (.tuple #[.int .u16 1, .int .u16 2]) ∧ w' = w :=
  (reduce_stop 1 2 g (g + 1) 0 (by decide) (by decide) (by decide +kernel) w hc (by decide)).mono fun e w' ⟨h1, h2⟩ => ⟨h1, h2.symm⟩
theorem sq_1 (w : World) : Calls Try.prog 139 #[.int .u16 4] w fun e w' => e = .returned (.int .u16 6) ∧ w' = w :=
  (square_any 4 (by decide) (by decide) w).mono fun e w' ⟨⟨v, h1, h2, _⟩, h3⟩ => ⟨by rw [h1, h2.out, show mulI 4 4 = 6 from by decide +kernel], h3.symm⟩
theorem pl_1 (w : World) : Calls Try.prog 133 #[.int .u16 4, .int .u16 6] w fun e w' => e = .returned (.int .u16 2) ∧ w' = w :=
  (plus_any 65536 (by decide) 4 6 (by decide) (by decide) (by decide) (by decide) w).mono fun e w' ⟨⟨v, h1, h2, _⟩, h3⟩ => ⟨by rw [h1, h2.out, show xorI 4 6 = 2 from by decide +kernel], h3.symm⟩
theorem red_1 (g : Nat) (w : World) (hc : w.cell? ⟨g, 1, none⟩ = some (.int .u16 0)) : Calls Try.prog 159 #[.int .u16 2, .int .u16 4, .pointer (some ⟨g, 0, none⟩), .pointer (some ⟨g + 1, 0, none⟩)] w fun e w' => e = .returned (.tuple #[.int .u16 2, .int .u16 4]) ∧ w' = w :=
  (reduce_stop 2 4 g (g + 1) 1 (by decide) (by decide) (by decide +kernel) w hc (by decide)).mono fun e w' ⟨h1, h2⟩ => ⟨h1, h2.symm⟩
theorem sq_2 (w : World) : Calls Try.prog 139 #[.int .u16 8] w fun e w' => e = .returned (.int .u16 13) ∧ w' = w :=
  (square_any 8 (by decide) (by decide) w).mono fun e w' ⟨⟨v, h1, h2, _⟩, h3⟩ => ⟨by rw [h1, h2.out, show mulI 8 8 = 13 from by decide +kernel], h3.symm⟩
theorem pl_2 (w : World) : Calls Try.prog 133 #[.int .u16 8, .int .u16 13] w fun e w' => e = .returned (.int .u16 5) ∧ w' = w :=
  (plus_any 65536 (by decide) 8 13 (by decide) (by decide) (by decide) (by decide) w).mono fun e w' ⟨⟨v, h1, h2, _⟩, h3⟩ => ⟨by rw [h1, h2.out, show xorI 8 13 = 5 from by decide +kernel], h3.symm⟩
theorem red_2 (g : Nat) (w : World) (hc : w.cell? ⟨g, 2, none⟩ = some (.int .u16 0)) : Calls Try.prog 159 #[.int .u16 5, .int .u16 8, .pointer (some ⟨g, 0, none⟩), .pointer (some ⟨g + 1, 0, none⟩)] w fun e w' => e = .returned (.tuple #[.int .u16 5, .int .u16 8]) ∧ w' = w :=
  (reduce_stop 5 8 g (g + 1) 2 (by decide) (by decide) (by decide +kernel) w hc (by decide)).mono fun e w' ⟨h1, h2⟩ => ⟨h1, h2.symm⟩
theorem sq_3 (w : World) : Calls Try.prog 139 #[.int .u16 16] w fun e w' => e = .returned (.int .u16 24) ∧ w' = w :=
  (square_any 16 (by decide) (by decide) w).mono fun e w' ⟨⟨v, h1, h2, _⟩, h3⟩ => ⟨by rw [h1, h2.out, show mulI 16 16 = 24 from by decide +kernel], h3.symm⟩
theorem pl_3 (w : World) : Calls Try.prog 133 #[.int .u16 16, .int .u16 24] w fun e w' => e = .returned (.int .u16 8) ∧ w' = w :=
  (plus_any 65536 (by decide) 16 24 (by decide) (by decide) (by decide) (by decide) w).mono fun e w' ⟨⟨v, h1, h2, _⟩, h3⟩ => ⟨by rw [h1, h2.out, show xorI 16 24 = 8 from by decide +kernel], h3.symm⟩
theorem red_3 (g : Nat) (w : World) (hc : w.cell? ⟨g, 3, none⟩ = some (.int .u16 0)) : Calls Try.prog 159 #[.int .u16 8, .int .u16 16, .pointer (some ⟨g, 0, none⟩), .pointer (some ⟨g + 1, 0, none⟩)] w fun e w' => e = .returned (.tuple #[.int .u16 8, .int .u16 16]) ∧ w' = w :=
  (reduce_stop 8 16 g (g + 1) 3 (by decide) (by decide) (by decide +kernel) w hc (by decide)).mono fun e w' ⟨h1, h2⟩ => ⟨h1, h2.symm⟩
theorem sq_4 (w : World) : Calls Try.prog 139 #[.int .u16 32] w fun e w' => e = .returned (.int .u16 52) ∧ w' = w :=
  (square_any 32 (by decide) (by decide) w).mono fun e w' ⟨⟨v, h1, h2, _⟩, h3⟩ => ⟨by rw [h1, h2.out, show mulI 32 32 = 52 from by decide +kernel], h3.symm⟩
theorem pl_4 (w : World) : Calls Try.prog 133 #[.int .u16 32, .int .u16 52] w fun e w' => e = .returned (.int .u16 20) ∧ w' = w :=
  (plus_any 65536 (by decide) 32 52 (by decide) (by decide) (by decide) (by decide) w).mono fun e w' ⟨⟨v, h1, h2, _⟩, h3⟩ => ⟨by rw [h1, h2.out, show xorI 32 52 = 20 from by decide +kernel], h3.symm⟩
theorem red_4 (g : Nat) (w : World) (hc : w.cell? ⟨g, 4, none⟩ = some (.int .u16 0)) : Calls Try.prog 159 #[.int .u16 20, .int .u16 32, .pointer (some ⟨g, 0, none⟩), .pointer (some ⟨g + 1, 0, none⟩)] w fun e w' => e = .returned (.tuple #[.int .u16 20, .int .u16 32]) ∧ w' = w :=
  (reduce_stop 20 32 g (g + 1) 4 (by decide) (by decide) (by decide +kernel) w hc (by decide)).mono fun e w' ⟨h1, h2⟩ => ⟨h1, h2.symm⟩
theorem sq_5 (w : World) : Calls Try.prog 139 #[.int .u16 64] w fun e w' => e = .returned (.int .u16 103) ∧ w' = w :=
  (square_any 64 (by decide) (by decide) w).mono fun e w' ⟨⟨v, h1, h2, _⟩, h3⟩ => ⟨by rw [h1, h2.out, show mulI 64 64 = 103 from by decide +kernel], h3.symm⟩
theorem pl_5 (w : World) : Calls Try.prog 133 #[.int .u16 64, .int .u16 103] w fun e w' => e = .returned (.int .u16 39) ∧ w' = w :=
  (plus_any 65536 (by decide) 64 103 (by decide) (by decide) (by decide) (by decide) w).mono fun e w' ⟨⟨v, h1, h2, _⟩, h3⟩ => ⟨by rw [h1, h2.out, show xorI 64 103 = 39 from by decide +kernel], h3.symm⟩
theorem red_5 (g : Nat) (w : World) (hc : w.cell? ⟨g, 5, none⟩ = some (.int .u16 0)) : Calls Try.prog 159 #[.int .u16 39, .int .u16 64, .pointer (some ⟨g, 0, none⟩), .pointer (some ⟨g + 1, 0, none⟩)] w fun e w' => e = .returned (.tuple #[.int .u16 39, .int .u16 64]) ∧ w' = w :=
  (reduce_stop 39 64 g (g + 1) 5 (by decide) (by decide) (by decide +kernel) w hc (by decide)).mono fun e w' ⟨h1, h2⟩ => ⟨h1, h2.symm⟩
theorem sq_6 (w : World) : Calls Try.prog 139 #[.int .u16 128] w fun e w' => e = .returned (.int .u16 222) ∧ w' = w :=
  (square_any 128 (by decide) (by decide) w).mono fun e w' ⟨⟨v, h1, h2, _⟩, h3⟩ => ⟨by rw [h1, h2.out, show mulI 128 128 = 222 from by decide +kernel], h3.symm⟩
theorem pl_6 (w : World) : Calls Try.prog 133 #[.int .u16 128, .int .u16 222] w fun e w' => e = .returned (.int .u16 94) ∧ w' = w :=
  (plus_any 65536 (by decide) 128 222 (by decide) (by decide) (by decide) (by decide) w).mono fun e w' ⟨⟨v, h1, h2, _⟩, h3⟩ => ⟨by rw [h1, h2.out, show xorI 128 222 = 94 from by decide +kernel], h3.symm⟩
theorem red_6 (g : Nat) (w : World) (hc : w.cell? ⟨g, 6, none⟩ = some (.int .u16 0)) : Calls Try.prog 159 #[.int .u16 94, .int .u16 128, .pointer (some ⟨g, 0, none⟩), .pointer (some ⟨g + 1, 0, none⟩)] w fun e w' => e = .returned (.tuple #[.int .u16 94, .int .u16 128]) ∧ w' = w :=
  (reduce_stop 94 128 g (g + 1) 6 (by decide) (by decide) (by decide +kernel) w hc (by decide)).mono fun e w' ⟨h1, h2⟩ => ⟨h1, h2.symm⟩
theorem sq_7 (w : World) : Calls Try.prog 139 #[.int .u16 256] w fun e w' => e = .returned (.int .u16 384) ∧ w' = w :=
  (square_any 256 (by decide) (by decide) w).mono fun e w' ⟨⟨v, h1, h2, _⟩, h3⟩ => ⟨by rw [h1, h2.out, show mulI 256 256 = 384 from by decide +kernel], h3.symm⟩
theorem pl_7 (w : World) : Calls Try.prog 133 #[.int .u16 256, .int .u16 384] w fun e w' => e = .returned (.int .u16 128) ∧ w' = w :=
  (plus_any 65536 (by decide) 256 384 (by decide) (by decide) (by decide) (by decide) w).mono fun e w' ⟨⟨v, h1, h2, _⟩, h3⟩ => ⟨by rw [h1, h2.out, show xorI 256 384 = 128 from by decide +kernel], h3.symm⟩
theorem red_7 (g : Nat) (w : World) (hc : w.cell? ⟨g, 7, none⟩ = some (.int .u16 0)) : Calls Try.prog 159 #[.int .u16 128, .int .u16 256, .pointer (some ⟨g, 0, none⟩), .pointer (some ⟨g + 1, 0, none⟩)] w fun e w' => e = .returned (.tuple #[.int .u16 128, .int .u16 256]) ∧ w' = w :=
  (reduce_stop 128 256 g (g + 1) 7 (by decide) (by decide) (by decide +kernel) w hc (by decide)).mono fun e w' ⟨h1, h2⟩ => ⟨h1, h2.symm⟩
theorem sq_8 (w : World) : Calls Try.prog 139 #[.int .u16 512] w fun e w' => e = .returned (.int .u16 832) ∧ w' = w :=
  (square_any 512 (by decide) (by decide) w).mono fun e w' ⟨⟨v, h1, h2, _⟩, h3⟩ => ⟨by rw [h1, h2.out, show mulI 512 512 = 832 from by decide +kernel], h3.symm⟩
theorem pl_8 (w : World) : Calls Try.prog 133 #[.int .u16 512, .int .u16 832] w fun e w' => e = .returned (.int .u16 320) ∧ w' = w :=
  (plus_any 65536 (by decide) 512 832 (by decide) (by decide) (by decide) (by decide) w).mono fun e w' ⟨⟨v, h1, h2, _⟩, h3⟩ => ⟨by rw [h1, h2.out, show xorI 512 832 = 320 from by decide +kernel], h3.symm⟩
theorem red_8 (g : Nat) (w : World) (hc : w.cell? ⟨g, 8, none⟩ = some (.int .u16 0)) : Calls Try.prog 159 #[.int .u16 320, .int .u16 512, .pointer (some ⟨g, 0, none⟩), .pointer (some ⟨g + 1, 0, none⟩)] w fun e w' => e = .returned (.tuple #[.int .u16 320, .int .u16 512]) ∧ w' = w :=
  (reduce_stop 320 512 g (g + 1) 8 (by decide) (by decide) (by decide +kernel) w hc (by decide)).mono fun e w' ⟨h1, h2⟩ => ⟨h1, h2.symm⟩
theorem sq_9 (w : World) : Calls Try.prog 139 #[.int .u16 1024] w fun e w' => e = .returned (.int .u16 1648) ∧ w' = w :=
  (square_any 1024 (by decide) (by decide) w).mono fun e w' ⟨⟨v, h1, h2, _⟩, h3⟩ => ⟨by rw [h1, h2.out, show mulI 1024 1024 = 1648 from by decide +kernel], h3.symm⟩
theorem pl_9 (w : World) : Calls Try.prog 133 #[.int .u16 1024, .int .u16 1648] w fun e w' => e = .returned (.int .u16 624) ∧ w' = w :=
  (plus_any 65536 (by decide) 1024 1648 (by decide) (by decide) (by decide) (by decide) w).mono fun e w' ⟨⟨v, h1, h2, _⟩, h3⟩ => ⟨by rw [h1, h2.out, show xorI 1024 1648 = 624 from by decide +kernel], h3.symm⟩
theorem red_9 (g : Nat) (w : World) (hc : w.cell? ⟨g, 9, none⟩ = some (.int .u16 0)) : Calls Try.prog 159 #[.int .u16 624, .int .u16 1024, .pointer (some ⟨g, 0, none⟩), .pointer (some ⟨g + 1, 0, none⟩)] w fun e w' => e = .returned (.tuple #[.int .u16 624, .int .u16 1024]) ∧ w' = w :=
  (reduce_stop 624 1024 g (g + 1) 9 (by decide) (by decide) (by decide +kernel) w hc (by decide)).mono fun e w' ⟨h1, h2⟩ => ⟨h1, h2.symm⟩
theorem sq_10 (w : World) : Calls Try.prog 139 #[.int .u16 2048] w fun e w' => e = .returned (.int .u16 3552) ∧ w' = w :=
  (square_any 2048 (by decide) (by decide) w).mono fun e w' ⟨⟨v, h1, h2, _⟩, h3⟩ => ⟨by rw [h1, h2.out, show mulI 2048 2048 = 3552 from by decide +kernel], h3.symm⟩
theorem pl_10 (w : World) : Calls Try.prog 133 #[.int .u16 2048, .int .u16 3552] w fun e w' => e = .returned (.int .u16 1504) ∧ w' = w :=
  (plus_any 65536 (by decide) 2048 3552 (by decide) (by decide) (by decide) (by decide) w).mono fun e w' ⟨⟨v, h1, h2, _⟩, h3⟩ => ⟨by rw [h1, h2.out, show xorI 2048 3552 = 1504 from by decide +kernel], h3.symm⟩
theorem red_10 (g : Nat) (w : World) (hc : w.cell? ⟨g, 10, none⟩ = some (.int .u16 0)) : Calls Try.prog 159 #[.int .u16 1504, .int .u16 2048, .pointer (some ⟨g, 0, none⟩), .pointer (some ⟨g + 1, 0, none⟩)] w fun e w' => e = .returned (.tuple #[.int .u16 1504, .int .u16 2048]) ∧ w' = w :=
  (reduce_stop 1504 2048 g (g + 1) 10 (by decide) (by decide) (by decide +kernel) w hc (by decide)).mono fun e w' ⟨h1, h2⟩ => ⟨h1, h2.symm⟩
theorem sq_11 (w : World) : Calls Try.prog 139 #[.int .u16 4096] w fun e w' => e = .returned (.int .u16 6237) ∧ w' = w :=
  (square_any 4096 (by decide) (by decide) w).mono fun e w' ⟨⟨v, h1, h2, _⟩, h3⟩ => ⟨by rw [h1, h2.out, show mulI 4096 4096 = 6237 from by decide +kernel], h3.symm⟩
theorem pl_11 (w : World) : Calls Try.prog 133 #[.int .u16 4096, .int .u16 6237] w fun e w' => e = .returned (.int .u16 2141) ∧ w' = w :=
  (plus_any 65536 (by decide) 4096 6237 (by decide) (by decide) (by decide) (by decide) w).mono fun e w' ⟨⟨v, h1, h2, _⟩, h3⟩ => ⟨by rw [h1, h2.out, show xorI 4096 6237 = 2141 from by decide +kernel], h3.symm⟩
theorem red_11 (g : Nat) (w : World) (hc : w.cell? ⟨g, 11, none⟩ = some (.int .u16 0)) : Calls Try.prog 159 #[.int .u16 2141, .int .u16 4096, .pointer (some ⟨g, 0, none⟩), .pointer (some ⟨g + 1, 0, none⟩)] w fun e w' => e = .returned (.tuple #[.int .u16 2141, .int .u16 4096]) ∧ w' = w :=
  (reduce_stop 2141 4096 g (g + 1) 11 (by decide) (by decide) (by decide +kernel) w hc (by decide)).mono fun e w' ⟨h1, h2⟩ => ⟨h1, h2.symm⟩
theorem sq_12 (w : World) : Calls Try.prog 139 #[.int .u16 8192] w fun e w' => e = .returned (.int .u16 13563) ∧ w' = w :=
  (square_any 8192 (by decide) (by decide) w).mono fun e w' ⟨⟨v, h1, h2, _⟩, h3⟩ => ⟨by rw [h1, h2.out, show mulI 8192 8192 = 13563 from by decide +kernel], h3.symm⟩
theorem pl_12 (w : World) : Calls Try.prog 133 #[.int .u16 8192, .int .u16 13563] w fun e w' => e = .returned (.int .u16 5371) ∧ w' = w :=
  (plus_any 65536 (by decide) 8192 13563 (by decide) (by decide) (by decide) (by decide) w).mono fun e w' ⟨⟨v, h1, h2, _⟩, h3⟩ => ⟨by rw [h1, h2.out, show xorI 8192 13563 = 5371 from by decide +kernel], h3.symm⟩
theorem red_12 (g : Nat) (w : World) (hc : w.cell? ⟨g, 12, none⟩ = some (.int .u16 0)) : Calls Try.prog 159 #[.int .u16 5371, .int .u16 8192, .pointer (some ⟨g, 0, none⟩), .pointer (some ⟨g + 1, 0, none⟩)] w fun e w' => e = .returned (.tuple #[.int .u16 5371, .int .u16 8192]) ∧ w' = w :=
  (reduce_stop 5371 8192 g (g + 1) 12 (by decide) (by decide) (by decide +kernel) w hc (by decide)).mono fun e w' ⟨h1, h2⟩ => ⟨h1, h2.symm⟩
theorem sq_13 (w : World) : Calls Try.prog 139 #[.int .u16 16384] w fun e w' => e = .returned (.int .u16 26511) ∧ w' = w :=
  (square_any 16384 (by decide) (by decide) w).mono fun e w' ⟨⟨v, h1, h2, _⟩, h3⟩ => ⟨by rw [h1, h2.out, show mulI 16384 16384 = 26511 from by decide +kernel], h3.symm⟩
theorem pl_13 (w : World) : Calls Try.prog 133 #[.int .u16 16384, .int .u16 26511] w fun e w' => e = .returned (.int .u16 10127) ∧ w' = w :=
  (plus_any 65536 (by decide) 16384 26511 (by decide) (by decide) (by decide) (by decide) w).mono fun e w' ⟨⟨v, h1, h2, _⟩, h3⟩ => ⟨by rw [h1, h2.out, show xorI 16384 26511 = 10127 from by decide +kernel], h3.symm⟩
theorem red_13 (g : Nat) (w : World) (hc : w.cell? ⟨g, 13, none⟩ = some (.int .u16 0)) : Calls Try.prog 159 #[.int .u16 10127, .int .u16 16384, .pointer (some ⟨g, 0, none⟩), .pointer (some ⟨g + 1, 0, none⟩)] w fun e w' => e = .returned (.tuple #[.int .u16 10127, .int .u16 16384]) ∧ w' = w :=
  (reduce_stop 10127 16384 g (g + 1) 13 (by decide) (by decide) (by decide +kernel) w hc (by decide)).mono fun e w' ⟨h1, h2⟩ => ⟨h1, h2.symm⟩
theorem sq_14 (w : World) : Calls Try.prog 139 #[.int .u16 32768] w fun e w' => e = .returned (.int .u16 56906) ∧ w' = w :=
  (square_any 32768 (by decide) (by decide) w).mono fun e w' ⟨⟨v, h1, h2, _⟩, h3⟩ => ⟨by rw [h1, h2.out, show mulI 32768 32768 = 56906 from by decide +kernel], h3.symm⟩
theorem pl_14 (w : World) : Calls Try.prog 133 #[.int .u16 32768, .int .u16 56906] w fun e w' => e = .returned (.int .u16 24138) ∧ w' = w :=
  (plus_any 65536 (by decide) 32768 56906 (by decide) (by decide) (by decide) (by decide) w).mono fun e w' ⟨⟨v, h1, h2, _⟩, h3⟩ => ⟨by rw [h1, h2.out, show xorI 32768 56906 = 24138 from by decide +kernel], h3.symm⟩
theorem red_14 (g : Nat) (w : World) (hc : w.cell? ⟨g, 14, none⟩ = some (.int .u16 0)) : Calls Try.prog 159 #[.int .u16 24138, .int .u16 32768, .pointer (some ⟨g, 0, none⟩), .pointer (some ⟨g + 1, 0, none⟩)] w fun e w' => e = .returned (.tuple #[.int .u16 24138, .int .u16 32768]) ∧ w' = w :=
  (reduce_stop 24138 32768 g (g + 1) 14 (by decide) (by decide) (by decide +kernel) w hc (by decide)).mono fun e w' ⟨h1, h2⟩ => ⟨h1, h2.symm⟩

def FA (g : Nat) : Array Value := #[.func (.func 159) #[] #[.pointer (some ⟨g, 0, none⟩), .pointer (some ⟨g + 1, 0, none⟩)]]
set_option maxRecDepth 100000 in
set_option maxHeartbeats 4000000 in
theorem halfSolver_any (w : World) : Calls Try.prog 135 #[] w fun e w' => e = .returned (.func (.func 161) #[] #[.pointer (some ⟨w.heap.size + 1 + 1, 0, none⟩)]) ∧
    w'.heap[w.heap.size]? = some (.cells (tabA sT 15) 162 (0, 0)) ∧ w'.heap[w.heap.size + 1]? = some (.cells (tabA oT 15) 162 (0, 0)) ∧ w'.heap[w.heap.size + 1 + 1]? = some (.cells (FA w.heap.size) 164 (0, 0)) ∧ Below w.heap.size w w' := by
  go_enter Try.func135, Try.ntmps135
  go_wp2_with fail
  obtain ⟨g, hg⟩ : ∃ g, g = w.heap.size := ⟨_, rfl⟩
  rw [← hg]
  generalize hw2 : World.alloc (World.alloc (World.alloc w _) _) _ = w2
  have h0 : w2.heap[g]? = some (.cells (tabA sT 0) 162 (0, 0)) ∧ w2.heap[g + 1]? = some (.cells (tabA oT 0) 162 (0, 0)) ∧ w2.heap[g + 1 + 1]? = some (.cells (FA g) 164 (0, 0)) ∧ Below g w w2 := by
    rw [← hw2, hg]
    have n1 := heap_alloc_new w (.cells (tabA sT 0) 162)
    have n2 := heap_alloc_new (w.alloc (.cells (tabA sT 0) 162)) (.cells (tabA oT 0) 162)
    have n3 := heap_alloc_new ((w.alloc (.cells (tabA sT 0) 162)).alloc (.cells (tabA oT 0) 162)) (.cells (FA w.heap.size) 164)
    rw [World.size_alloc] at n2
    rw [World.size_alloc, World.size_alloc] at n3
    rw [tabA_zero] at n1 n2 n3
    rw [tabA_zero] at n2 n3
    rw [tabA_zero, tabA_zero]
    refine ⟨?_, ?_, n3, ?_⟩
    · rw [heap_alloc_old _ _ (by rw [World.size_alloc, World.size_alloc]; omega), heap_alloc_old _ _ (by rw [World.size_alloc]; omega)]; exact n1
    · rw [heap_alloc_old _ _ (by rw [World.size_alloc, World.size_alloc]; omega)]; exact n2
    · go_grown
  obtain ⟨a1, a2, a3, a4⟩ := h0
  have HG := Lib.hid hg
  clear hw2 hg
  go_loopw [4] (fun i wr => ∃ (k : Nat) (b : Int), i = .int .i64 b ∧ k ≤ 15 ∧ 1 ≤ b ∧ b ≤ 16 ∧ Hid (b = k + 1) ∧ wr.heap[g]? = some (.cells (tabA sT k) 162 (0, 0)) ∧ wr.heap[g + 1]? = some (.cells (tabA oT k) 162 (0, 0)) ∧ wr.heap[g + 1 + 1]? = some (.cells (FA g) 164 (0, 0)) ∧ Below g w wr) (fun i _ => (16 - intOf i).toNat)
  case atStart => exact ⟨0, 1, rfl, by omega, by omega, by omega, Lib.hid rfl, a1, a2, a3, a4⟩
  case round =>
    clear a1 a2 a3 a4
    obtain ⟨k, b, rfl, hk, b0, b1, hbk, hS, hO, hF, hb⟩ := hrel
    by_cases hlt : k < 15
    · have hc := fifteen k hlt
      clear hlt hk
      rcases hc with rfl | rfl | rfl | rfl | rfl | rfl | rfl | rfl | rfl | rfl | rfl | rfl | rfl | rfl | rfl
      · obtain rfl : b = 1 := by have := hbk.out; omega
        clear hbk b0 b1
        have g1 : wr.cell? ⟨g, 0, none⟩ = some (.int .u16 0) := (cell_of_row _ _ _ _ _ _ hS).trans (tabA_new sT 0 (by decide))
        have g2 : wr.cell? ⟨g + 1, 0, none⟩ = some (.int .u16 0) := (cell_of_row _ _ _ _ _ _ hO).trans (tabA_new oT 0 (by decide))
        have f1 : wr.frozen? ⟨g, 0, none⟩ = false := frozen_of_row _ _ _ _ _ hS
        have f2 : wr.frozen? ⟨g + 1, 0, none⟩ = false := frozen_of_row _ _ _ _ _ hO
        have g3 : wr.cell? ⟨g + 1 + 1, 0, none⟩ = some (.func (.func 159) #[] #[.pointer (some ⟨g, 0, none⟩), .pointer (some ⟨g + 1, 0, none⟩)]) := cell_of_row _ _ _ _ _ _ hF
        have HS := Lib.hid hS; have HO := Lib.hid hO; have HF := Lib.hid hF; have HB := Lib.hid hb
        clear hS hO hF hb
        go_wp2_with fail
        go_quiet ((first | exact Calls.quiet_of_same (sq_0 _) | exact Calls.quiet_of_same (pl_0 _) | exact Calls.quiet_of_same (red_0 g _ g1)))
        go_wp2_with fail
        refine (Try.bits_Len16 _ _ (by decide) (by decide)).mono ?_
        rintro e w' ⟨rfl, rfl⟩
        rw [show Lib.bitLen (1 : Int).toNat = 1 from by decide +kernel]
        go_wp2_with fail
        have hn := tab_step sT oT w (wr.drewN nq) g 0 _ _ (by decide) 1 2 (by decide) (by decide) HS.out HO.out HF.out (bdrewN HB.out nq)
        exact ⟨⟨1, 2, rfl, by decide, by decide, by decide, Lib.hid rfl, hn.1, hn.2.1, hn.2.2.1, hn.2.2.2⟩, by simp [intOf]⟩
      · obtain rfl : b = 2 := by have := hbk.out; omega
        clear hbk b0 b1
        have g1 : wr.cell? ⟨g, 1, none⟩ = some (.int .u16 0) := (cell_of_row _ _ _ _ _ _ hS).trans (tabA_new sT 1 (by decide))
        have g2 : wr.cell? ⟨g + 1, 1, none⟩ = some (.int .u16 0) := (cell_of_row _ _ _ _ _ _ hO).trans (tabA_new oT 1 (by decide))
        have f1 : wr.frozen? ⟨g, 1, none⟩ = false := frozen_of_row _ _ _ _ _ hS
        have f2 : wr.frozen? ⟨g + 1, 1, none⟩ = false := frozen_of_row _ _ _ _ _ hO
        have g3 : wr.cell? ⟨g + 1 + 1, 0, none⟩ = some (.func (.func 159) #[] #[.pointer (some ⟨g, 0, none⟩), .pointer (some ⟨g + 1, 0, none⟩)]) := cell_of_row _ _ _ _ _ _ hF
        have HS := Lib.hid hS; have HO := Lib.hid hO; have HF := Lib.hid hF; have HB := Lib.hid hb
        clear hS hO hF hb
        go_wp2_with fail
        go_quiet ((first | exact Calls.quiet_of_same (sq_1 _) | exact Calls.quiet_of_same (pl_1 _) | exact Calls.quiet_of_same (red_1 g _ g1)))
        go_wp2_with fail
        refine (Try.bits_Len16 _ _ (by decide) (by decide)).mono ?_
        rintro e w' ⟨rfl, rfl⟩
        rw [show Lib.bitLen (2 : Int).toNat = 2 from by decide +kernel]
        go_wp2_with fail
        have hn := tab_step sT oT w (wr.drewN nq) g 1 _ _ (by decide) 2 4 (by decide) (by decide) HS.out HO.out HF.out (bdrewN HB.out nq)
        exact ⟨⟨2, 3, rfl, by decide, by decide, by decide, Lib.hid rfl, hn.1, hn.2.1, hn.2.2.1, hn.2.2.2⟩, by simp [intOf]⟩
      · obtain rfl : b = 3 := by have := hbk.out; omega
        clear hbk b0 b1
        have g1 : wr.cell? ⟨g, 2, none⟩ = some (.int .u16 0) := (cell_of_row _ _ _ _ _ _ hS).trans (tabA_new sT 2 (by decide))
        have g2 : wr.cell? ⟨g + 1, 2, none⟩ = some (.int .u16 0) := (cell_of_row _ _ _ _ _ _ hO).trans (tabA_new oT 2 (by decide))
        have f1 : wr.frozen? ⟨g, 2, none⟩ = false := frozen_of_row _ _ _ _ _ hS
        have f2 : wr.frozen? ⟨g + 1, 2, none⟩ = false := frozen_of_row _ _ _ _ _ hO
        have g3 : wr.cell? ⟨g + 1 + 1, 0, none⟩ = some (.func (.func 159) #[] #[.pointer (some ⟨g, 0, none⟩), .pointer (some ⟨g + 1, 0, none⟩)]) := cell_of_row _ _ _ _ _ _ hF
        have HS := Lib.hid hS; have HO := Lib.hid hO; have HF := Lib.hid hF; have HB := Lib.hid hb
        clear hS hO hF hb
        go_wp2_with fail
        go_quiet ((first | exact Calls.quiet_of_same (sq_2 _) | exact Calls.quiet_of_same (pl_2 _) | exact Calls.quiet_of_same (red_2 g _ g1)))
        go_wp2_with fail
        refine (Try.bits_Len16 _ _ (by decide) (by decide)).mono ?_
        rintro e w' ⟨rfl, rfl⟩
        rw [show Lib.bitLen (5 : Int).toNat = 3 from by decide +kernel]
        go_wp2_with fail
        have hn := tab_step sT oT w (wr.drewN nq) g 2 _ _ (by decide) 5 8 (by decide) (by decide) HS.out HO.out HF.out (bdrewN HB.out nq)
        exact ⟨⟨3, 4, rfl, by decide, by decide, by decide, Lib.hid rfl, hn.1, hn.2.1, hn.2.2.1, hn.2.2.2⟩, by simp [intOf]⟩
      · obtain rfl : b = 4 := by have := hbk.out; omega
        clear hbk b0 b1
        have g1 : wr.cell? ⟨g, 3, none⟩ = some (.int .u16 0) := (cell_of_row _ _ _ _ _ _ hS).trans (tabA_new sT 3 (by decide))
        have g2 : wr.cell? ⟨g + 1, 3, none⟩ = some (.int .u16 0) := (cell_of_row _ _ _ _ _ _ hO).trans (tabA_new oT 3 (by decide))
        have f1 : wr.frozen? ⟨g, 3, none⟩ = false := frozen_of_row _ _ _ _ _ hS
        have f2 : wr.frozen? ⟨g + 1, 3, none⟩ = false := frozen_of_row _ _ _ _ _ hO
        have g3 : wr.cell? ⟨g + 1 + 1, 0, none⟩ = some (.func (.func 159) #[] #[.pointer (some ⟨g, 0, none⟩), .pointer (some ⟨g + 1, 0, none⟩)]) := cell_of_row _ _ _ _ _ _ hF
        have HS := Lib.hid hS; have HO := Lib.hid hO; have HF := Lib.hid hF; have HB := Lib.hid hb
        clear hS hO hF hb
        go_wp2_with fail
        go_quiet ((first | exact Calls.quiet_of_same (sq_3 _) | exact Calls.quiet_of_same (pl_3 _) | exact Calls.quiet_of_same (red_3 g _ g1)))
        go_wp2_with fail
        refine (Try.bits_Len16 _ _ (by decide) (by decide)).mono ?_
        rintro e w' ⟨rfl, rfl⟩
        rw [show Lib.bitLen (8 : Int).toNat = 4 from by decide +kernel]
        go_wp2_with fail
        have hn := tab_step sT oT w (wr.drewN nq) g 3 _ _ (by decide) 8 16 (by decide) (by decide) HS.out HO.out HF.out (bdrewN HB.out nq)
        exact ⟨⟨4, 5, rfl, by decide, by decide, by decide, Lib.hid rfl, hn.1, hn.2.1, hn.2.2.1, hn.2.2.2⟩, by simp [intOf]⟩
      · obtain rfl : b = 5 := by have := hbk.out; omega
        clear hbk b0 b1
        have g1 : wr.cell? ⟨g, 4, none⟩ = some (.int .u16 0) := (cell_of_row _ _ _ _ _ _ hS).trans (tabA_new sT 4 (by decide))
        have g2 : wr.cell? ⟨g + 1, 4, none⟩ = some (.int .u16 0) := (cell_of_row _ _ _ _ _ _ hO).trans (tabA_new oT 4 (by decide))
        have f1 : wr.frozen? ⟨g, 4, none⟩ = false := frozen_of_row _ _ _ _ _ hS
        have f2 : wr.frozen? ⟨g + 1, 4, none⟩ = false := frozen_of_row _ _ _ _ _ hO
        have g3 : wr.cell? ⟨g + 1 + 1, 0, none⟩ = some (.func (.func 159) #[] #[.pointer (some ⟨g, 0, none⟩), .pointer (some ⟨g + 1, 0, none⟩)]) := cell_of_row _ _ _ _ _ _ hF
        have HS := Lib.hid hS; have HO := Lib.hid hO; have HF := Lib.hid hF; have HB := Lib.hid hb
        clear hS hO hF hb
        go_wp2_with fail
        go_quiet ((first | exact Calls.quiet_of_same (sq_4 _) | exact Calls.quiet_of_same (pl_4 _) | exact Calls.quiet_of_same (red_4 g _ g1)))
        go_wp2_with fail
        refine (Try.bits_Len16 _ _ (by decide) (by decide)).mono ?_
        rintro e w' ⟨rfl, rfl⟩
        rw [show Lib.bitLen (20 : Int).toNat = 5 from by decide +kernel]
        go_wp2_with fail
        have hn := tab_step sT oT w (wr.drewN nq) g 4 _ _ (by decide) 20 32 (by decide) (by decide) HS.out HO.out HF.out (bdrewN HB.out nq)
        exact ⟨⟨5, 6, rfl, by decide, by decide, by decide, Lib.hid rfl, hn.1, hn.2.1, hn.2.2.1, hn.2.2.2⟩, by simp [intOf]⟩
      · obtain rfl : b = 6 := by have := hbk.out; omega
        clear hbk b0 b1
        have g1 : wr.cell? ⟨g, 5, none⟩ = some (.int .u16 0) := (cell_of_row _ _ _ _ _ _ hS).trans (tabA_new sT 5 (by decide))
        have g2 : wr.cell? ⟨g + 1, 5, none⟩ = some (.int .u16 0) := (cell_of_row _ _ _ _ _ _ hO).trans (tabA_new oT 5 (by decide))
        have f1 : wr.frozen? ⟨g, 5, none⟩ = false := frozen_of_row _ _ _ _ _ hS
        have f2 : wr.frozen? ⟨g + 1, 5, none⟩ = false := frozen_of_row _ _ _ _ _ hO
        have g3 : wr.cell? ⟨g + 1 + 1, 0, none⟩ = some (.func (.func 159) #[] #[.pointer (some ⟨g, 0, none⟩), .pointer (some ⟨g + 1, 0, none⟩)]) := cell_of_row _ _ _ _ _ _ hF
        have HS := Lib.hid hS; have HO := Lib.hid hO; have HF := Lib.hid hF; have HB := Lib.hid hb
        clear hS hO hF hb
        go_wp2_with fail
        go_quiet ((first | exact Calls.quiet_of_same (sq_5 _) | exact Calls.quiet_of_same (pl_5 _) | exact Calls.quiet_of_same (red_5 g _ g1)))
        go_wp2_with fail
        refine (Try.bits_Len16 _ _ (by decide) (by decide)).mono ?_
        rintro e w' ⟨rfl, rfl⟩
        rw [show Lib.bitLen (39 : Int).toNat = 6 from by decide +kernel]
        go_wp2_with fail
        have hn := tab_step sT oT w (wr.drewN nq) g 5 _ _ (by decide) 39 64 (by decide) (by decide) HS.out HO.out HF.out (bdrewN HB.out nq)
        exact ⟨⟨6, 7, rfl, by decide, by decide, by decide, Lib.hid rfl, hn.1, hn.2.1, hn.2.2.1, hn.2.2.2⟩, by simp [intOf]⟩
      · obtain rfl : b = 7 := by have := hbk.out; omega
        clear hbk b0 b1
        have g1 : wr.cell? ⟨g, 6, none⟩ = some (.int .u16 0) := (cell_of_row _ _ _ _ _ _ hS).trans (tabA_new sT 6 (by decide))
        have g2 : wr.cell? ⟨g + 1, 6, none⟩ = some (.int .u16 0) := (cell_of_row _ _ _ _ _ _ hO).trans (tabA_new oT 6 (by decide))
        have f1 : wr.frozen? ⟨g, 6, none⟩ = false := frozen_of_row _ _ _ _ _ hS
        have f2 : wr.frozen? ⟨g + 1, 6, none⟩ = false := frozen_of_row _ _ _ _ _ hO
        have g3 : wr.cell? ⟨g + 1 + 1, 0, none⟩ = some (.func (.func 159) #[] #[.pointer (some ⟨g, 0, none⟩), .pointer (some ⟨g + 1, 0, none⟩)]) := cell_of_row _ _ _ _ _ _ hF
        have HS := Lib.hid hS; have HO := Lib.hid hO; have HF := Lib.hid hF; have HB := Lib.hid hb
        clear hS hO hF hb
        go_wp2_with fail
        go_quiet ((first | exact Calls.quiet_of_same (sq_6 _) | exact Calls.quiet_of_same (pl_6 _) | exact Calls.quiet_of_same (red_6 g _ g1)))
        go_wp2_with fail
        refine (Try.bits_Len16 _ _ (by decide) (by decide)).mono ?_
        rintro e w' ⟨rfl, rfl⟩
        rw [show Lib.bitLen (94 : Int).toNat = 7 from by decide +kernel]
        go_wp2_with fail
        have hn := tab_step sT oT w (wr.drewN nq) g 6 _ _ (by decide) 94 128 (by decide) (by decide) HS.out HO.out HF.out (bdrewN HB.out nq)
        exact ⟨⟨7, 8, rfl, by decide, by decide, by decide, Lib.hid rfl, hn.1, hn.2.1, hn.2.2.1, hn.2.2.2⟩, by simp [intOf]⟩
      · obtain rfl : b = 8 := by have := hbk.out; omega
        clear hbk b0 b1
        have g1 : wr.cell? ⟨g, 7, none⟩ = some (.int .u16 0) := (cell_of_row _ _ _ _ _ _ hS).trans (tabA_new sT 7 (by decide))
        have g2 : wr.cell? ⟨g + 1, 7, none⟩ = some (.int .u16 0) := (cell_of_row _ _ _ _ _ _ hO).trans (tabA_new oT 7 (by decide))
        have f1 : wr.frozen? ⟨g, 7, none⟩ = false := frozen_of_row _ _ _ _ _ hS
        have f2 : wr.frozen? ⟨g + 1, 7, none⟩ = false := frozen_of_row _ _ _ _ _ hO
        have g3 : wr.cell? ⟨g + 1 + 1, 0, none⟩ = some (.func (.func 159) #[] #[.pointer (some ⟨g, 0, none⟩), .pointer (some ⟨g + 1, 0, none⟩)]) := cell_of_row _ _ _ _ _ _ hF
        have HS := Lib.hid hS; have HO := Lib.hid hO; have HF := Lib.hid hF; have HB := Lib.hid hb
        clear hS hO hF hb
        go_wp2_with fail
        go_quiet ((first | exact Calls.quiet_of_same (sq_7 _) | exact Calls.quiet_of_same (pl_7 _) | exact Calls.quiet_of_same (red_7 g _ g1)))
        go_wp2_with fail
        refine (Try.bits_Len16 _ _ (by decide) (by decide)).mono ?_
        rintro e w' ⟨rfl, rfl⟩
        rw [show Lib.bitLen (128 : Int).toNat = 8 from by decide +kernel]
        go_wp2_with fail
        have hn := tab_step sT oT w (wr.drewN nq) g 7 _ _ (by decide) 128 256 (by decide) (by decide) HS.out HO.out HF.out (bdrewN HB.out nq)
        exact ⟨⟨8, 9, rfl, by decide, by decide, by decide, Lib.hid rfl, hn.1, hn.2.1, hn.2.2.1, hn.2.2.2⟩, by simp [intOf]⟩
      · obtain rfl : b = 9 := by have := hbk.out; omega
        clear hbk b0 b1
        have g1 : wr.cell? ⟨g, 8, none⟩ = some (.int .u16 0) := (cell_of_row _ _ _ _ _ _ hS).trans (tabA_new sT 8 (by decide))
        have g2 : wr.cell? ⟨g + 1, 8, none⟩ = some (.int .u16 0) := (cell_of_row _ _ _ _ _ _ hO).trans (tabA_new oT 8 (by decide))
        have f1 : wr.frozen? ⟨g, 8, none⟩ = false := frozen_of_row _ _ _ _ _ hS
        have f2 : wr.frozen? ⟨g + 1, 8, none⟩ = false := frozen_of_row _ _ _ _ _ hO
        have g3 : wr.cell? ⟨g + 1 + 1, 0, none⟩ = some (.func (.func 159) #[] #[.pointer (some ⟨g, 0, none⟩), .pointer (some ⟨g + 1, 0, none⟩)]) := cell_of_row _ _ _ _ _ _ hF
        have HS := Lib.hid hS; have HO := Lib.hid hO; have HF := Lib.hid hF; have HB := Lib.hid hb
        clear hS hO hF hb
        go_wp2_with fail
        go_quiet ((first | exact Calls.quiet_of_same (sq_8 _) | exact Calls.quiet_of_same (pl_8 _) | exact Calls.quiet_of_same (red_8 g _ g1)))
        go_wp2_with fail
        refine (Try.bits_Len16 _ _ (by decide) (by decide)).mono ?_
        rintro e w' ⟨rfl, rfl⟩
        rw [show Lib.bitLen (320 : Int).toNat = 9 from by decide +kernel]
        go_wp2_with fail
        have hn := tab_step sT oT w (wr.drewN nq) g 8 _ _ (by decide) 320 512 (by decide) (by decide) HS.out HO.out HF.out (bdrewN HB.out nq)
        exact ⟨⟨9, 10, rfl, by decide, by decide, by decide, Lib.hid rfl, hn.1, hn.2.1, hn.2.2.1, hn.2.2.2⟩, by simp [intOf]⟩
      · obtain rfl : b = 10 := by have := hbk.out; omega
        clear hbk b0 b1
        have g1 : wr.cell? ⟨g, 9, none⟩ = some (.int .u16 0) := (cell_of_row _ _ _ _ _ _ hS).trans (tabA_new sT 9 (by decide))
        have g2 : wr.cell? ⟨g + 1, 9, none⟩ = some (.int .u16 0) := (cell_of_row _ _ _ _ _ _ hO).trans (tabA_new oT 9 (by decide))
        have f1 : wr.frozen? ⟨g, 9, none⟩ = false := frozen_of_row _ _ _ _ _ hS
        have f2 : wr.frozen? ⟨g + 1, 9, none⟩ = false := frozen_of_row _ _ _ _ _ hO
        have g3 : wr.cell? ⟨g + 1 + 1, 0, none⟩ = some (.func (.func 159) #[] #[.pointer (some ⟨g, 0, none⟩), .pointer (some ⟨g + 1, 0, none⟩)]) := cell_of_row _ _ _ _ _ _ hF
        have HS := Lib.hid hS; have HO := Lib.hid hO; have HF := Lib.hid hF; have HB := Lib.hid hb
        clear hS hO hF hb
        go_wp2_with fail
        go_quiet ((first | exact Calls.quiet_of_same (sq_9 _) | exact Calls.quiet_of_same (pl_9 _) | exact Calls.quiet_of_same (red_9 g _ g1)))
        go_wp2_with fail
        refine (Try.bits_Len16 _ _ (by decide) (by decide)).mono ?_
        rintro e w' ⟨rfl, rfl⟩
        rw [show Lib.bitLen (624 : Int).toNat = 10 from by decide +kernel]
        go_wp2_with fail
        have hn := tab_step sT oT w (wr.drewN nq) g 9 _ _ (by decide) 624 1024 (by decide) (by decide) HS.out HO.out HF.out (bdrewN HB.out nq)
        exact ⟨⟨10, 11, rfl, by decide, by decide, by decide, Lib.hid rfl, hn.1, hn.2.1, hn.2.2.1, hn.2.2.2⟩, by simp [intOf]⟩
      · obtain rfl : b = 11 := by have := hbk.out; omega
        clear hbk b0 b1
        have g1 : wr.cell? ⟨g, 10, none⟩ = some (.int .u16 0) := (cell_of_row _ _ _ _ _ _ hS).trans (tabA_new sT 10 (by decide))
        have g2 : wr.cell? ⟨g + 1, 10, none⟩ = some (.int .u16 0) := (cell_of_row _ _ _ _ _ _ hO).trans (tabA_new oT 10 (by decide))
        have f1 : wr.frozen? ⟨g, 10, none⟩ = false := frozen_of_row _ _ _ _ _ hS
        have f2 : wr.frozen? ⟨g + 1, 10, none⟩ = false := frozen_of_row _ _ _ _ _ hO
        have g3 : wr.cell? ⟨g + 1 + 1, 0, none⟩ = some (.func (.func 159) #[] #[.pointer (some ⟨g, 0, none⟩), .pointer (some ⟨g + 1, 0, none⟩)]) := cell_of_row _ _ _ _ _ _ hF
        have HS := Lib.hid hS; have HO := Lib.hid hO; have HF := Lib.hid hF; have HB := Lib.hid hb
        clear hS hO hF hb
        go_wp2_with fail
        go_quiet ((first | exact Calls.quiet_of_same (sq_10 _) | exact Calls.quiet_of_same (pl_10 _) | exact Calls.quiet_of_same (red_10 g _ g1)))
        go_wp2_with fail
        refine (Try.bits_Len16 _ _ (by decide) (by decide)).mono ?_
        rintro e w' ⟨rfl, rfl⟩
        rw [show Lib.bitLen (1504 : Int).toNat = 11 from by decide +kernel]
        go_wp2_with fail
        have hn := tab_step sT oT w (wr.drewN nq) g 10 _ _ (by decide) 1504 2048 (by decide) (by decide) HS.out HO.out HF.out (bdrewN HB.out nq)
        exact ⟨⟨11, 12, rfl, by decide, by decide, by decide, Lib.hid rfl, hn.1, hn.2.1, hn.2.2.1, hn.2.2.2⟩, by simp [intOf]⟩
      · obtain rfl : b = 12 := by have := hbk.out; omega
        clear hbk b0 b1
        have g1 : wr.cell? ⟨g, 11, none⟩ = some (.int .u16 0) := (cell_of_row _ _ _ _ _ _ hS).trans (tabA_new sT 11 (by decide))
        have g2 : wr.cell? ⟨g + 1, 11, none⟩ = some (.int .u16 0) := (cell_of_row _ _ _ _ _ _ hO).trans (tabA_new oT 11 (by decide))
        have f1 : wr.frozen? ⟨g, 11, none⟩ = false := frozen_of_row _ _ _ _ _ hS
        have f2 : wr.frozen? ⟨g + 1, 11, none⟩ = false := frozen_of_row _ _ _ _ _ hO
        have g3 : wr.cell? ⟨g + 1 + 1, 0, none⟩ = some (.func (.func 159) #[] #[.pointer (some ⟨g, 0, none⟩), .pointer (some ⟨g + 1, 0, none⟩)]) := cell_of_row _ _ _ _ _ _ hF
        have HS := Lib.hid hS; have HO := Lib.hid hO; have HF := Lib.hid hF; have HB := Lib.hid hb
        clear hS hO hF hb
        go_wp2_with fail
        go_quiet ((first | exact Calls.quiet_of_same (sq_11 _) | exact Calls.quiet_of_same (pl_11 _) | exact Calls.quiet_of_same (red_11 g _ g1)))
        go_wp2_with fail
        refine (Try.bits_Len16 _ _ (by decide) (by decide)).mono ?_
        rintro e w' ⟨rfl, rfl⟩
        rw [show Lib.bitLen (2141 : Int).toNat = 12 from by decide +kernel]
        go_wp2_with fail
        have hn := tab_step sT oT w (wr.drewN nq) g 11 _ _ (by decide) 2141 4096 (by decide) (by decide) HS.out HO.out HF.out (bdrewN HB.out nq)
        exact ⟨⟨12, 13, rfl, by decide, by decide, by decide, Lib.hid rfl, hn.1, hn.2.1, hn.2.2.1, hn.2.2.2⟩, by simp [intOf]⟩
      · obtain rfl : b = 13 := by have := hbk.out; omega
        clear hbk b0 b1
        have g1 : wr.cell? ⟨g, 12, none⟩ = some (.int .u16 0) := (cell_of_row _ _ _ _ _ _ hS).trans (tabA_new sT 12 (by decide))
        have g2 : wr.cell? ⟨g + 1, 12, none⟩ = some (.int .u16 0) := (cell_of_row _ _ _ _ _ _ hO).trans (tabA_new oT 12 (by decide))
        have f1 : wr.frozen? ⟨g, 12, none⟩ = false := frozen_of_row _ _ _ _ _ hS
        have f2 : wr.frozen? ⟨g + 1, 12, none⟩ = false := frozen_of_row _ _ _ _ _ hO
        have g3 : wr.cell? ⟨g + 1 + 1, 0, none⟩ = some (.func (.func 159) #[] #[.pointer (some ⟨g, 0, none⟩), .pointer (some ⟨g + 1, 0, none⟩)]) := cell_of_row _ _ _ _ _ _ hF
        have HS := Lib.hid hS; have HO := Lib.hid hO; have HF := Lib.hid hF; have HB := Lib.hid hb
        clear hS hO hF hb
        go_wp2_with fail
        go_quiet ((first | exact Calls.quiet_of_same (sq_12 _) | exact Calls.quiet_of_same (pl_12 _) | exact Calls.quiet_of_same (red_12 g _ g1)))
        go_wp2_with fail
        refine (Try.bits_Len16 _ _ (by decide) (by decide)).mono ?_
        rintro e w' ⟨rfl, rfl⟩
        rw [show Lib.bitLen (5371 : Int).toNat = 13 from by decide +kernel]
        go_wp2_with fail
        have hn := tab_step sT oT w (wr.drewN nq) g 12 _ _ (by decide) 5371 8192 (by decide) (by decide) HS.out HO.out HF.out (bdrewN HB.out nq)
        exact ⟨⟨13, 14, rfl, by decide, by decide, by decide, Lib.hid rfl, hn.1, hn.2.1, hn.2.2.1, hn.2.2.2⟩, by simp [intOf]⟩
      · obtain rfl : b = 14 := by have := hbk.out; omega
        clear hbk b0 b1
        have g1 : wr.cell? ⟨g, 13, none⟩ = some (.int .u16 0) := (cell_of_row _ _ _ _ _ _ hS).trans (tabA_new sT 13 (by decide))
        have g2 : wr.cell? ⟨g + 1, 13, none⟩ = some (.int .u16 0) := (cell_of_row _ _ _ _ _ _ hO).trans (tabA_new oT 13 (by decide))
        have f1 : wr.frozen? ⟨g, 13, none⟩ = false := frozen_of_row _ _ _ _ _ hS
        have f2 : wr.frozen? ⟨g + 1, 13, none⟩ = false := frozen_of_row _ _ _ _ _ hO
        have g3 : wr.cell? ⟨g + 1 + 1, 0, none⟩ = some (.func (.func 159) #[] #[.pointer (some ⟨g, 0, none⟩), .pointer (some ⟨g + 1, 0, none⟩)]) := cell_of_row _ _ _ _ _ _ hF
        have HS := Lib.hid hS; have HO := Lib.hid hO; have HF := Lib.hid hF; have HB := Lib.hid hb
        clear hS hO hF hb
        go_wp2_with fail
        go_quiet ((first | exact Calls.quiet_of_same (sq_13 _) | exact Calls.quiet_of_same (pl_13 _) | exact Calls.quiet_of_same (red_13 g _ g1)))
        go_wp2_with fail
        refine (Try.bits_Len16 _ _ (by decide) (by decide)).mono ?_
        rintro e w' ⟨rfl, rfl⟩
        rw [show Lib.bitLen (10127 : Int).toNat = 14 from by decide +kernel]
        go_wp2_with fail
        have hn := tab_step sT oT w (wr.drewN nq) g 13 _ _ (by decide) 10127 16384 (by decide) (by decide) HS.out HO.out HF.out (bdrewN HB.out nq)
        exact ⟨⟨14, 15, rfl, by decide, by decide, by decide, Lib.hid rfl, hn.1, hn.2.1, hn.2.2.1, hn.2.2.2⟩, by simp [intOf]⟩
      · obtain rfl : b = 15 := by have := hbk.out; omega
        clear hbk b0 b1
        have g1 : wr.cell? ⟨g, 14, none⟩ = some (.int .u16 0) := (cell_of_row _ _ _ _ _ _ hS).trans (tabA_new sT 14 (by decide))
        have g2 : wr.cell? ⟨g + 1, 14, none⟩ = some (.int .u16 0) := (cell_of_row _ _ _ _ _ _ hO).trans (tabA_new oT 14 (by decide))
        have f1 : wr.frozen? ⟨g, 14, none⟩ = false := frozen_of_row _ _ _ _ _ hS
        have f2 : wr.frozen? ⟨g + 1, 14, none⟩ = false := frozen_of_row _ _ _ _ _ hO
        have g3 : wr.cell? ⟨g + 1 + 1, 0, none⟩ = some (.func (.func 159) #[] #[.pointer (some ⟨g, 0, none⟩), .pointer (some ⟨g + 1, 0, none⟩)]) := cell_of_row _ _ _ _ _ _ hF
        have HS := Lib.hid hS; have HO := Lib.hid hO; have HF := Lib.hid hF; have HB := Lib.hid hb
        clear hS hO hF hb
        go_wp2_with fail
        go_quiet ((first | exact Calls.quiet_of_same (sq_14 _) | exact Calls.quiet_of_same (pl_14 _) | exact Calls.quiet_of_same (red_14 g _ g1)))
        go_wp2_with fail
        refine (Try.bits_Len16 _ _ (by decide) (by decide)).mono ?_
        rintro e w' ⟨rfl, rfl⟩
        rw [show Lib.bitLen (24138 : Int).toNat = 15 from by decide +kernel]
        go_wp2_with fail
        have hn := tab_step sT oT w (wr.drewN nq) g 14 _ _ (by decide) 24138 32768 (by decide) (by decide) HS.out HO.out HF.out (bdrewN HB.out nq)
        exact ⟨⟨15, 16, rfl, by decide, by decide, by decide, Lib.hid rfl, hn.1, hn.2.1, hn.2.2.1, hn.2.2.2⟩, by simp [intOf]⟩
    · have hk5 : k = 15 := by omega
      subst hk5
      obtain rfl : b = 16 := by have := hbk.out; omega
      have HS := Lib.hid hS; have HO := Lib.hid hO; have HF := Lib.hid hF; have HB := Lib.hid hb
      clear hS hO hF hb
      go_wp2_with fail
      go_ret
      obtain rfl := HG.out
      refine ⟨rfl, ?_, ?_, ?_, ?_⟩
      · exact HS.out
      · exact HO.out
      · exact HF.out
      · exact HB.out
end Go.Proofs.Ytjbaeomjinnlhaa
