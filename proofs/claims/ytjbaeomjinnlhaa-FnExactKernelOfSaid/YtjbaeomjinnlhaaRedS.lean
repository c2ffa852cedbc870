/-
  The model makes a matrix reduced.
-/
import Derived.Test.YtjbaeomjinnlhaaOk2
import Derived.Deep.RegionHeld
import Derived.Test.YtjbaeomjinnlhaaRedM
import Derived.Test.YtjbaeomjinnlhaaAdd
import Derived.OwnWalk
import Derived.Below
namespace Go.Proofs.Ytjbaeomjinnlhaa
set_option linter.unusedVariables false
set_option linter.unusedSimpArgs false
open Go.ChangeShapes Go.WideShapes Go.ChangeAt Go.RowKit

def un6 (G : Nat → Nat → Nat) : Nat → Int := fun s => ((G (s / 6) (s % 6) : Nat) : Int)
theorem un6_at (G : Nat → Nat → Nat) (i k : Nat) (hk : k < 6) : un6 G (i * 6 + k) = ((G i k : Nat) : Int) := by
  unfold un6
  rw [show (i * 6 + k) / 6 = i from by omega, show (i * 6 + k) % 6 = k from by omega]
theorem un6_b {G : Nat → Nat → Nat} (h : Nim.GB G) : VW (un6 G) := fun s => by have := h (s / 6) (s % 6); unfold un6; omega
theorem un6_nat {f : Nat → Int} (h : VW f) (s : Nat) : un6 (natG f) s = f s := by
  unfold un6
  rw [natG_at h, show s / 6 * 6 + s % 6 = s from by omega]
def ints (l : List Nat) : List Value := l.map fun n => Value.int .i64 ((n : Nat) : Int)
theorem ints_len (l : List Nat) : (ints l).length = l.length := by simp [ints]
theorem ints_snoc (l : List Nat) (n : Nat) : ints l ++ [Value.int .i64 ((n : Nat) : Int)] = ints (l ++ [n]) := by simp [ints]
/-- nothing but the block p is turned, of those less than B -/
def Beside (B p : Nat) (w w' : World) : Prop := w'.os = w.os ∧ w'.tape = w.tape ∧ w'.output = w.output ∧ w.heap.size ≤ w'.heap.size ∧ ∀ k, k < B → k ≠ p → w'.heap[k]? = w.heap[k]?
theorem Beside.refl (B p : Nat) (w : World) : Beside B p w w := ⟨rfl, rfl, rfl, Nat.le_refl _, fun _ _ _ => rfl⟩
theorem Beside.trans {B p : Nat} {a b c : World} (h : Beside B p a b) (h2 : Beside B p b c) : Beside B p a c :=
  ⟨h2.1.trans h.1, h2.2.1.trans h.2.1, h2.2.2.1.trans h.2.2.1, Nat.le_trans h.2.2.2.1 h2.2.2.2.1, fun k hk hp => (h2.2.2.2.2 k hk hp).trans (h.2.2.2.2 k hk hp)⟩
theorem Beside.of_below {B p : Nat} {a b : World} (h : Below B a b) : Beside B p a b := ⟨h.os, h.tape, h.output, h.size, fun k hk _ => h.block k hk⟩
theorem Beside.of_other {B p : Nat} {a b : World} (hs : B ≤ a.heap.size) (h3 : ∀ x, x ≠ p → x < a.heap.size → b.heap[x]? = a.heap[x]?) (h4 : a.heap.size ≤ b.heap.size) (h5 : b.os = a.os) (h6 : b.tape = a.tape) (h7 : b.output = a.output) : Beside B p a b :=
  ⟨h5, h6, h7, h4, fun k hk hp => h3 k hp (by omega)⟩
theorem Beside.setCell {B p o : Nat} {a b : World} (h : Beside B p a b) (v : Value) : Beside B p a (b.setCell ⟨p, o, none⟩ v) :=
  h.trans (Beside.of_other' v)
where
  Beside.of_other' {B p o : Nat} {b : World} (v : Value) : Beside B p b (b.setCell ⟨p, o, none⟩ v) := by
    have hb := (Below.refl 0 b).setCell (p := ⟨p, o, none⟩) (Nat.zero_le _) v
    exact ⟨hb.os, hb.tape, hb.output, hb.size, fun k _ hp => heap_setCell_other _ _ _ _ (by simpa using hp)⟩
theorem own_keep {w w' : World} {base : Nat} {e : TypeId} {size n : Nat} {v : Value} {xs : List Value} (h : w.ownsRow base e size v n xs) (hb : ∀ k, base ≤ k → k < w.heap.size → w'.heap[k]? = w.heap[k]?) : w'.ownsRow base e size v n xs := by
  refine ⟨h.1, ?_⟩
  rcases h.2 with hn | ⟨g, cap, cur, rfl, h1, hg, rest⟩
  · exact .inl hn
  · exact .inr ⟨g, cap, cur, rfl, h1, (hb g h1 (Array.getElem?_eq_some_iff.1 hg).1).trans hg, rest⟩
/-- the row t multiplied, its first k cells -/
def scF (f : Nat → Int) (t : Nat) (y : Int) (k : Nat) : Nat → Int := fun s => if s / 6 = t ∧ s % 6 < k then mulI (f s) y else f s
theorem scF_zero (f : Nat → Int) (t : Nat) (y : Int) : scF f t y 0 = f := by funext s; unfold scF; rw [if_neg (by omega)]
theorem scF_at (f : Nat → Int) (t : Nat) (y : Int) (k : Nat) (hk : k < 6) : scF f t y k (t * 6 + k) = f (t * 6 + k) := by unfold scF; rw [if_neg (by omega)]
theorem scF_step (f : Nat → Int) (t : Nat) (y : Int) (k : Nat) (hk : k < 6) : ∀ s, s < 36 → upd (scF f t y k) (t * 6 + k) (mulI (f (t * 6 + k)) y) s = scF f t y (k + 1) s := fun s hs => by
  unfold upd scF
  by_cases e : s = t * 6 + k
  · rw [if_pos e, if_pos (by omega), e]
  · rw [if_neg e]
    by_cases h : s / 6 = t ∧ s % 6 < k
    · rw [if_pos h, if_pos (by omega)]
    · rw [if_neg h, if_neg (by omega)]
theorem scF_b {f : Nat → Int} (h : VW f) (t : Nat) {y : Int} (y0 : 0 ≤ y) (y1 : y < 65536) (k : Nat) : VW (scF f t y k) := fun s => by
  unfold scF
  split
  · exact mulI_b (h s).1 (h s).2 y0 y1
  · exact h s
/-- the first i rows but t: the row t of f2 is added, times the cell in the column n -/
def adF (f : Nat → Int) (t n C i : Nat) : Nat → Int := fun s => if s / 6 < i ∧ s / 6 ≠ t ∧ s % 6 < C then xorI (f s) (mulI (f (t * 6 + s % 6)) (f (s / 6 * 6 + n))) else f s
theorem adF_zero (f : Nat → Int) (t n C : Nat) : adF f t n C 0 = f := by funext s; unfold adF; rw [if_neg (by omega)]
theorem adF_same (f : Nat → Int) (n C i : Nat) : adF f i n C (i + 1) = adF f i n C i := by
  funext s
  unfold adF
  by_cases h : s / 6 < i ∧ s / 6 ≠ i ∧ s % 6 < C
  · rw [if_pos h, if_pos (by omega)]
  · rw [if_neg h, if_neg (by omega)]
theorem adF_at (f : Nat → Int) (t n C i : Nat) (hn : n < 6) : adF f t n C i (i * 6 + n) = f (i * 6 + n) := by unfold adF; rw [if_neg (by omega)]
theorem adF_step (f : Nat → Int) (t n C i : Nat) (hn : n < 6) (ht : i ≠ t) : ∀ s, s < 36 → addN C (adF f t n C i) t i (f (i * 6 + n)) s = adF f t n C (i + 1) s := fun s hs => by
  have e1 : ∀ k, k < 6 → adF f t n C i (t * 6 + k) = f (t * 6 + k) := fun k hk => by unfold adF; rw [if_neg (by omega)]
  unfold addN
  by_cases h : s / 6 = i ∧ s % 6 < C
  · rw [if_pos h, e1 (s % 6) (by omega)]
    have e2 : adF f t n C i s = f s := by unfold adF; rw [if_neg (by omega)]
    rw [e2]
    unfold adF
    rw [if_pos (by omega), h.1]
  · rw [if_neg h]
    unfold adF
    by_cases h2 : s / 6 < i ∧ s / 6 ≠ t ∧ s % 6 < C
    · rw [if_pos h2, if_pos (by omega)]
    · rw [if_neg h2, if_neg (by omega)]
theorem adF_b {f : Nat → Int} (h : VW f) (t n C i : Nat) : VW (adF f t n C i) := fun s => by
  unfold adF
  split
  · have := mulI_b (h (t * 6 + s % 6)).1 (h (t * 6 + s % 6)).2 (h (s / 6 * 6 + n)).1 (h (s / 6 * 6 + n)).2
    exact xorI_b (h s).1 (h s).2 this.1 this.2
  · exact h s
/-- swapped, multiplied, added: as the program has it -/
theorem ad_elim {G : Nat → Nat → Nat} (hG : Nim.GB G) {R C t i n : Nat} (ht : t < 6) (hti : t ≤ i) (hiR : i < R) (hR : R ≤ 6) (hn : n < C) (hC : C ≤ 6) (hzr : Nim.ZR R G) (hzc : ∀ k, C ≤ k → k < 6 → Nim.ZC k G) :
    ∀ s, s < 36 → adF (scF (swapF (un6 G) t i) t (invI (swapF (un6 G) t i (t * 6 + n))) C) t n C R s = un6 (Nim.elim G t i n) s := fun s hs => by
  have hr : s / 6 < 6 := by omega
  have hk : s % 6 < 6 := by omega
  have es : s = s / 6 * 6 + s % 6 := by omega
  have sw : ∀ r k, r < 6 → k < 6 → swapF (un6 G) t i (r * 6 + k) = if r = t then ((G i k : Nat) : Int) else ((Nim.other G t i r k : Nat) : Int) := fun r k hr hk => by
    unfold swapF
    rw [show (r * 6 + k) / 6 = r from by omega, show (r * 6 + k) % 6 = k from by omega]
    by_cases h1 : r = i
    · rw [if_pos h1, un6_at G t k hk]
      by_cases h2 : r = t
      · rw [if_pos h2, ← h2, h1]
      · rw [if_neg h2]; unfold Nim.other; rw [if_pos h1]
    · rw [if_neg h1]
      by_cases h2 : r = t
      · rw [if_pos h2, if_pos h2, un6_at G i k hk]
      · rw [if_neg h2, if_neg h2, un6_at G r k hk]; unfold Nim.other; rw [if_neg h1]
  have hinv : invI (swapF (un6 G) t i (t * 6 + n)) = ((Nim.inv (G i n) : Nat) : Int) := by
    rw [sw t n ht (by omega), if_pos rfl]; unfold invI; rw [Int.toNat_natCast]
  have sc : ∀ r k, r < 6 → k < 6 → scF (swapF (un6 G) t i) t (invI (swapF (un6 G) t i (t * 6 + n))) C (r * 6 + k) = if r = t then ((Nim.lead G i n k : Nat) : Int) else ((Nim.other G t i r k : Nat) : Int) := fun r k hr hk => by
    unfold scF
    rw [show (r * 6 + k) / 6 = r from by omega, show (r * 6 + k) % 6 = k from by omega, sw r k hr hk, hinv]
    by_cases h1 : r = t
    · rw [if_pos h1, if_pos h1]
      by_cases h2 : k < C
      · rw [if_pos ⟨h1, h2⟩]; unfold mulI Nim.lead; rw [Int.toNat_natCast, Int.toNat_natCast]
      · rw [if_neg (by omega)]
        have h0 := hzc k (by omega) hk i (by omega)
        unfold Nim.lead; rw [h0, Nim.mul_zero_left]
    · rw [if_neg h1, if_neg h1, if_neg (by omega)]
  unfold adF
  rw [es, show (s / 6 * 6 + s % 6) / 6 = s / 6 from by omega, show (s / 6 * 6 + s % 6) % 6 = s % 6 from by omega]
  rw [sc (s / 6) (s % 6) hr hk, sc t (s % 6) ht hk, sc (s / 6) n hr (by omega), un6_at _ _ _ hk]
  rw [if_pos rfl]
  unfold Nim.elim
  by_cases h1 : s / 6 = t
  · rw [if_neg (by omega), if_pos h1, if_pos h1]
  · rw [if_neg h1, if_neg h1, if_neg h1]
    by_cases h2 : s / 6 < R ∧ s / 6 ≠ t ∧ s % 6 < C
    · rw [if_pos h2]; unfold xorI mulI; rw [Int.toNat_natCast, Int.toNat_natCast, Int.toNat_natCast, Int.toNat_natCast]
    · rw [if_neg h2]
      by_cases h3 : s % 6 < C
      · have h4 : R ≤ s / 6 := by omega
        have h5 : Nim.other G t i (s / 6) n = 0 := by unfold Nim.other; rw [if_neg (by omega)]; exact hzr (s / 6) n h4 hr (by omega)
        rw [h5, Nim.mul_zero_right, Nat.xor_zero]
      · have h5 : Nim.lead G i n (s % 6) = 0 := by unfold Nim.lead; rw [hzc (s % 6) (by omega) hk i (by omega), Nim.mul_zero_left]
        rw [h5, Nim.mul_zero_left, Nat.xor_zero]

theorem infoInt : (Try.prog.info? 3).map (fun i => (i.zero, i.size, i.bytes)) = some (some (.int .i64 0), 1, 8) := by kernel_rfl
theorem one_cell2 (w : World) (v : Value) (t : TypeId) (j : Nat) (u : Value) (h : [v][j]? = some u) : (w.alloc (.cells #[v] t)).cell? ((⟨w.heap.size, 0, none⟩ : Addr).add j) = some u := by
  cases j with
  | zero =>
    simp only [List.getElem?_cons_zero, Option.some.injEq] at h
    subst h
    exact cell_of_row _ _ _ _ _ _ (heap_alloc_new w _)
  | succ j => simp at h
set_option maxRecDepth 100000 in
set_option maxHeartbeats 4000000 in
theorem l02Reduce_any (R C : Nat) (hR : R ≤ 6) (hC : C ≤ 6) (F : Nat → Nat → Nat) (hF : Nim.GB F) (hzr : Nim.ZR R F) (hzc : ∀ k, C ≤ k → k < 6 → Nim.ZC k F) (p : Nat) (w : World) (hM : MB w p 33 R C (un6 F)) :
    Calls Try.prog 118 #[.pointer (some ⟨p, 0, none⟩)] w fun e w' => ∃ v, e = .returned v ∧ w'.ownsRow w.heap.size 3 1 v (Nim.redN F C).2.length (ints (Nim.redN F C).2) ∧ MB w' p 33 R C (un6 (Nim.redN F C).1) ∧ Beside w.heap.size p w w' := by
  obtain ⟨i0, hi, hz0, hz1, hz2⟩ := info_parts infoInt
  have hp := hM.lt
  have n1 : (R : Int) ≤ 6 := by omega
  have n2 : (C : Int) ≤ 6 := by omega
  have HF := Lib.hid hF
  have HZR := Lib.hid hzr
  have HZC := Lib.hid hzc
  clear hF hzr hzc
  go_enter Try.func118, Try.ntmps118
  go_wp2_with fail
  go_loopw [4, 3] (fun y s wr => ∃ (n gb cap : Nat), y = .int .i64 n ∧ n ≤ C ∧ s = .slice (some ⟨gb, 0, none⟩) (Nim.redN F n).2.length cap ∧ Hid (wr.ownsRow w.heap.size 3 1 (.slice (some ⟨gb, 0, none⟩) (Nim.redN F n).2.length cap) (Nim.redN F n).2.length (ints (Nim.redN F n).2)) ∧ MB wr p 33 R C (un6 (Nim.redN F n).1) ∧ Hid (Beside w.heap.size p w wr)) (fun y _ _ => (6 - intOf y).toNat)
  case atStart => exact ⟨0, w.heap.size, 0, rfl, by omega, rfl, Lib.hid ⟨rfl, .inr ⟨w.heap.size, 0, #[], rfl, Nat.le_refl _, heap_alloc_new w _, Nat.le_refl _, by unfold maxLen; omega, rfl, rfl⟩⟩, hM.alloc _, Lib.hid (Beside.of_below ((Below.refl _ w).alloc (Nat.le_refl _) _))⟩
  case round =>
    clear hM
    obtain ⟨n, gb, cap, rfl, hn, rfl, HO, m1, HB⟩ := hrel
    have d2 := m1.cols
    by_cases hlt : n < C
    · have T1 : decide ((n : Int) < (C : Int)) = true := by simp; omega
      have hst := Lib.hid (Nim.redN_step F n)
      have HGB := Lib.hid (Nim.redN_b HF.out n)
      have HZR1 := Lib.hid (HZR.out.redN HF.out n (by omega))
      have HZC1 := Lib.hid (fun k (h1 : C ≤ k) (h2 : k < 6) => (HZC.out k h1 h2).redN HF.out n (by omega))
      have hlen := HZR.out.len HF.out n (by omega)
      obtain ⟨E, hE⟩ : ∃ E, E = Nim.redN F (n + 1) := ⟨_, rfl⟩
      rw [← hE] at hst
      have HE := Lib.hid hE
      clear hE
      generalize Nim.redN F n = rn at hst HGB HZR1 HZC1 hlen HO m1 ⊢
      obtain ⟨G, fs⟩ := rn
      replace m1 : MB wr p 33 R C (un6 G) := m1
      replace HGB : Hid (Nim.GB G) := HGB
      replace HZR1 : Hid (Nim.ZR R G) := HZR1
      replace HZC1 : Hid (∀ k, C ≤ k → k < 6 → Nim.ZC k G) := HZC1
      obtain ⟨t, ht⟩ : ∃ t, t = fs.length := ⟨_, rfl⟩
      replace hst := Lib.hid (show E = if Nim.pivotFrom G n (6 - t) t < 6 then (Nim.elim G t (Nim.pivotFrom G n (6 - t) t) n, fs ++ [n]) else (G, fs) by rw [ht]; exact hst.out)
      replace hlen : t ≤ R := by rw [ht]; exact hlen
      replace HO : Hid (wr.ownsRow w.heap.size 3 1 (.slice (some ⟨gb, 0, none⟩) t cap) t (ints fs)) := by rw [ht]; exact HO
      show Code.wp _ _ _ _ _
      rw [show (((G, fs) : (Nat → Nat → Nat) × List Nat).2.length) = t from ht.symm]
      have HT := Lib.hid ht
      clear ht
      go_wp2_with fail
      clear d2
      go_loopw [6] (fun y wr => ∃ (i : Nat), y = .int .i64 i ∧ t ≤ i ∧ i ≤ R ∧ Hid (Nim.pivotFrom G n (6 - t) t = Nim.pivotFrom G n (6 - i) i) ∧ Hid (wr.ownsRow w.heap.size 3 1 (.slice (some ⟨gb, 0, none⟩) t cap) t (ints fs)) ∧ MB wr p 33 R C (un6 G) ∧ Hid (Beside w.heap.size p w wr)) (fun y _ => (6 - intOf y).toNat)
      case atStart => exact ⟨t, rfl, Nat.le_refl t, hlen, Lib.hid rfl, HO, m1, HB⟩
      case round =>
        clear HO m1 HB
        obtain ⟨i, rfl, hti, hiR, hp', HO, m1, HB⟩ := hrel
        have d1 := m1.rows
        by_cases hli : i < R
        · have T2 : decide ((i : Int) < (R : Int)) = true := by simp; omega
          have i1 : (i : Int) < 6 := by omega
          have k1 : (n : Int) < 6 := by omega
          have c1 := m1.cell2 i n (by omega) (by omega)
          have ev := un6_at G i n (by omega)
          by_cases h0 : G i n = 0
          · have T3 : (un6 G (i * 6 + n) == 0) = true := by rw [ev, h0]; rfl
            have H0 := Lib.hid h0
            clear h0 ev
            go_wp2_with fail
            exact ⟨⟨i + 1, rfl, by omega, by omega, Lib.hid (hp'.out.trans (Nim.pivot_step G n i (by omega) H0.out)), HO, m1, HB⟩, by simp [intOf]; omega⟩
          · have T3 : (un6 G (i * 6 + n) == 0) = false := by rw [ev]; simp; omega
            have T4 : ((i : Int) == (R : Int)) = false := by simp; omega
            have hY : E = (Nim.elim G t i n, fs ++ [n]) := by
              rw [hst.out, hp'.out, Nim.pivot_here G n i (by omega) h0, if_pos (by omega)]
            have HY := Lib.hid hY
            clear h0 hY ev
            go_wp2_with fail
            refine (spec_l02Swap R C (un6 G) p t i (by omega) (by omega) _ m1).mono ?_
            rintro e wa ⟨rfl, b1, b3, b4, b5, b6, b7⟩
            have hws : w.heap.size ≤ wr.heap.size := HB.out.2.2.2.1
            replace HO := Lib.hid (own_keep HO.out (fun k h1 h2 => b3 k (by omega) h2))
            replace HB := Lib.hid (HB.out.trans (Beside.of_other hws b3 b4 b5 b6 b7))
            obtain ⟨f1, hf1⟩ : ∃ f1, f1 = swapF (un6 G) t i := ⟨_, rfl⟩
            rw [← hf1] at b1
            have V1 := Lib.hid (show VW f1 by rw [hf1]; exact swapF_b (un6_b HGB.out) t i)
            have Hf1 := Lib.hid hf1
            have t6 : t < 6 := by omega
            have n6 : n < 6 := by omega
            have t1 : (t : Int) < 6 := by omega
            clear hf1 b3 b4 b5 b6 b7 m1 c1 d1 hws
            have c1 := b1.cell2 t n t6 n6
            go_wp2_with fail
            refine (linv_eq (f1 (t * 6 + n)) (V1.out _).1 (V1.out _).2 _).mono ?_
            rintro e wb ⟨rfl, rfl⟩
            obtain ⟨y, hy⟩ : ∃ y, y = invI (f1 (t * 6 + n)) := ⟨_, rfl⟩
            rw [← hy]
            have y0 : 0 ≤ y := by rw [hy]; unfold invI; omega
            have y1 : y < 65536 := by
              rw [hy]
              have := Nim.inv_b (a := (f1 (t * 6 + n)).toNat) (by have := V1.out (t * 6 + n); omega)
              unfold invI; omega
            have Hy := Lib.hid hy
            clear hy c1
            go_wp2_with fail
            go_loopw [8] (fun q wr => ∃ (k : Nat), q = .int .i64 k ∧ k ≤ C ∧ MB wr p 33 R C (scF f1 t y k) ∧ Hid (wr.ownsRow w.heap.size 3 1 (.slice (some ⟨gb, 0, none⟩) t cap) t (ints fs)) ∧ Hid (Beside w.heap.size p w wr)) (fun q _ => (6 - intOf q).toNat)
            case atStart => exact ⟨0, rfl, by omega, b1.ext (fun s _ => by rw [scF_zero]), HO, HB⟩
            case round =>
              clear b1 HO HB
              obtain ⟨k, rfl, hk, m1, HO, HB⟩ := hrel
              have d2 := m1.cols
              by_cases hlk : k < C
              · have T5 : decide ((k : Int) < (C : Int)) = true := by simp; omega
                have k6 : k < 6 := by omega
                have k2 : (k : Int) < 6 := by omega
                have q1 := m1.cell2 t k t6 k6
                rw [scF_at f1 t y k k6] at q1
                have q3 := m1.free (2 + t * 6 + k)
                have bb := V1.out (t * 6 + k)
                have M1 := Lib.hid m1
                clear m1
                go_wp2_with fail
                refine wp_region_still_tail 17 (by kernel_rfl) (by kernel_rfl) ?_
                simp only [List.take_succ_cons, List.take_zero, List.drop_succ_cons, List.drop_zero]
                iterate 12 still_step
                still_call (ltimes_eq (f1 (t * 6 + k)) y bb.1 bb.2 y0 y1 _)
                iterate 4 still_step
                refine wpStill_nil ?_
                change wpList _ _ _ _ _ (World.drew _)
                go_wp2_with fail
                exact ⟨⟨k + 1, rfl, by omega, (M1.out.put2 t k t6 k6 _).ext (scF_step f1 t y k k6), Lib.hid (own_keep HO.out (fun x h1 h2 => heap_setCell_other _ _ _ _ (by show x ≠ p; omega))), Lib.hid (HB.out.setCell _)⟩, by simp [intOf]; omega⟩
              · obtain rfl : k = C := by omega
                have T5 : decide ((k : Int) < (k : Int)) = false := by simp
                obtain ⟨f2, hf2⟩ : ∃ f2, f2 = scF f1 t y k := ⟨_, rfl⟩
                rw [← hf2] at m1
                have V2 := Lib.hid (show VW f2 by rw [hf2]; exact scF_b V1.out t y0 y1 k)
                have Hf2 := Lib.hid hf2
                clear hf2
                go_wp2_with fail
                clear d2
                go_loopw [9] (fun q wr => ∃ (j : Nat), q = .int .i64 j ∧ j ≤ R ∧ MB wr p 33 R k (adF f2 t n k j) ∧ Hid (wr.ownsRow w.heap.size 3 1 (.slice (some ⟨gb, 0, none⟩) t cap) t (ints fs)) ∧ Hid (Beside w.heap.size p w wr)) (fun q _ => (6 - intOf q).toNat)
                case atStart => exact ⟨0, rfl, by omega, m1.ext (fun s _ => by rw [adF_zero]), HO, HB⟩
                case round =>
                  clear m1 HO HB
                  obtain ⟨j, rfl, hj, m1, HO, HB⟩ := hrel
                  have d1 := m1.rows
                  by_cases hlj : j < R
                  · have T6 : decide ((j : Int) < (R : Int)) = true := by simp; omega
                    have j6 : j < 6 := by omega
                    have j1 : (j : Int) < 6 := by omega
                    by_cases hjt : j = t
                    · subst hjt
                      have T7 : ((j : Int) != (j : Int)) = false := by simp
                      go_wp2_with fail
                      exact ⟨⟨j + 1, rfl, by omega, m1.ext (fun s _ => by rw [adF_same]), HO, HB⟩, by simp [intOf]; omega⟩
                    · have T7 : ((j : Int) != (t : Int)) = true := by simp; omega
                      have q1 := m1.cell2 j n j6 n6
                      rw [adF_at f2 t n k j n6] at q1
                      have bb := V2.out (j * 6 + n)
                      have M1 := Lib.hid m1
                      clear m1
                      go_wp2_with fail
                      refine (spec_l02Add R k hC (adF f2 t n k j) (adF_b V2.out t n k j) p t j t6 j6 (fun e => hjt e.symm) (f2 (j * 6 + n)) bb.1 bb.2 _ M1.out).mono ?_
                      rintro e wc ⟨rfl, b1, b3, b4⟩
                      have hws : w.heap.size ≤ _ := HB.out.2.2.2.1
                      replace HO := Lib.hid (own_keep HO.out (fun x h1 h2 => b3 x (by omega)))
                      replace HB := Lib.hid (HB.out.trans (Beside.of_other hws (fun x hx _ => b3 x hx) b4.size b4.os b4.tape b4.output))
                      clear b3 b4 hws q1 d1
                      go_wp2_with fail
                      exact ⟨⟨j + 1, rfl, by omega, b1.ext (adF_step f2 t n k j n6 hjt), HO, HB⟩, by simp [intOf]; omega⟩
                  · obtain rfl : j = R := by omega
                    have T6 : decide ((j : Int) < (j : Int)) = false := by simp
                    have hws := HB.out.2.2.2.1
                    have hgb : w.heap.size ≤ gb := (HO.out.lt gb rfl).1
                    go_wp2_with (at_builtin; refine wpList_append_own _ rfl _ _ 110 rfl w.heap.size 3 i0 (.int .i64 0) 1 8 Try.underlying110 hi hz0 hz1 hz2 rfl (by decide) _ t _ rfl (HO.out.alloc _) ⟨wr.heap.size, 0, none⟩ 1 1 [.int .i64 n] rfl rfl ?c1 ?c2 ?c3 ?c4 ?c5 ?_)
                    case c1 => exact one_cell2 _ _ _
                    case c2 => simp [Value.oneCell']
                    case c3 => unfold maxLen; omega
                    case c4 => omega
                    case c5 => rw [World.size_alloc]; omega
                    intro s' wz hown2 hgrow2 _
                    rw [ints_snoc] at hown2
                    have hpg : p ≠ gb := by omega
                    have hm2 : MB wz p 33 j k (adF f2 t n k j) := (hgrow2.block p (by rw [World.size_alloc]; have := m1.lt; omega) (by intro e; exact hpg (Option.some.inj e))).trans (m1.alloc _)
                    have hb2 : Beside w.heap.size p w wz := by
                      have hA := HB.out.trans (Beside.of_below ((Below.refl w.heap.size wr).alloc hws (.cells #[.int .i64 n] 3)))
                      exact ⟨hgrow2.os.trans hA.1, hgrow2.tape.trans hA.2.1, hgrow2.output.trans hA.2.2.1, Nat.le_trans hA.2.2.2.1 hgrow2.size, fun x hx hxp => (hgrow2.block x (by rw [World.size_alloc]; omega) (by intro e; have hxe : x = gb := Option.some.inj e; omega)).trans (hA.2.2.2.2 x hx hxp)⟩
                    rcases hown2.2 with ⟨_, h0⟩ | ⟨gb2, cap2, cur2, rfl, _⟩
                    · omega
                    have e2 : (Nim.redN F (n + 1)).2 = fs ++ [n] := by rw [← HE.out, HY.out]
                    have e1 : (Nim.redN F (n + 1)).1 = Nim.elim G t i n := by rw [← HE.out, HY.out]
                    have e3 : (fs ++ [n]).length = t + 1 := by rw [List.length_append, ← HT.out]; rfl
                    have M2 := Lib.hid (hm2.ext (f' := un6 (Nim.elim G t i n)) (fun s hs => by
                      rw [Hf2.out, Hy.out, Hf1.out]
                      exact ad_elim HGB.out t6 hti (by omega) hR hlt hC HZR1.out HZC1.out s hs))
                    have E1 := Lib.hid e1; have E2 := Lib.hid e2; have E3 := Lib.hid e3
                    have HO2 := Lib.hid hown2
                    have HB2 := Lib.hid hb2
                    clear hown2 hgrow2 hm2 hb2 e1 e2 e3 m1 HO HB
                    go_wp2_with fail
                    exact ⟨⟨n + 1, gb2, cap2, rfl, by omega, by rw [E2.out, E3.out], by rw [E2.out, E3.out]; exact HO2, by rw [E1.out]; exact M2.out, HB2⟩, by simp [intOf]; omega⟩
        · obtain rfl : i = R := by omega
          have T2 : decide ((i : Int) < (i : Int)) = false := by simp
          have T4 : ((i : Int) == (i : Int)) = true := by simp
          have hN : E = (G, fs) := by
            rw [hst.out, hp'.out, Nim.pivot_zero G n (6 - i) i (fun r h1 h2 => HZR1.out r n h1 (by omega) (by omega)), if_neg (by omega)]
          have e2 : (Nim.redN F (n + 1)).2 = fs := by rw [← HE.out, hN]
          have e1 : (Nim.redN F (n + 1)).1 = G := by rw [← HE.out, hN]
          have E1 := Lib.hid e1
          have E2 := Lib.hid e2
          clear hN e1 e2
          go_wp2_with fail
          exact ⟨⟨n + 1, gb, cap, rfl, by omega, by rw [E2.out, ← HT.out], by rw [E2.out, ← HT.out]; exact HO, by rw [E1.out]; exact m1, HB⟩, by simp [intOf]; omega⟩
    · obtain rfl : n = C := by omega
      have T1 : decide ((n : Int) < (n : Int)) = false := by simp
      go_wp2_with fail
      go_ret
      exact ⟨_, rfl, HO.out, m1, HB.out⟩
end Go.Proofs.Ytjbaeomjinnlhaa
