/-
  The laws' own helpers for circuits: counted, copied, compared (with themselves).
-/
import Derived.Test.YtedcfmdgcafnmaaDoorCa
namespace Go.Proofs.YtedcfmdgcafnmaaDoor
set_option linter.unusedVariables false
set_option linter.unusedSimpArgs false
open Go.ChangeShapes Go.WideShapes Go.ChangeAt Go.RowKit Go.Deep

theorem bch {a b c : World} (h1 : Below a.heap.size a b) (h2 : Below b.heap.size b c) : Below a.heap.size a c := h1.trans (h2.mono h1.size)
theorem bch2 {B : Nat} {a b c : World} (h1 : Below B a b) (h2 : Below b.heap.size b c) (hB : B ≤ b.heap.size) : Below B a c := h1.trans (h2.mono hB)
theorem bdr {B : Nat} {a b : World} (h : Below B a b) (m : Nat) : Below B a (b.drewN m) := ⟨h.os, h.tape, h.output, h.size, h.block⟩
theorem owb {w w' : World} {base : Nat} {e : TypeId} {size n : Nat} {v : Value} {xs : List Value} (h : w.ownsRow base e size v n xs) (hb : Below w.heap.size w w') : w'.ownsRow base e size v n xs := by
  refine ⟨h.1, ?_⟩
  rcases h.2 with q | ⟨g, cap, cur, q1, q2, hg, q3⟩
  · exact .inl q
  · exact .inr ⟨g, cap, cur, q1, q2, (hb.block g (Array.getElem?_eq_some_iff.1 hg).1).trans hg, q3⟩
/-! a list while it is being filled -/
section
variable {α : Type}
def hf (d : α) (xs : List α) (k : Nat) : List α := xs.take k ++ List.replicate (xs.length - k) d
theorem hf_len (d : α) (xs : List α) (k : Nat) (hk : k ≤ xs.length) : (hf d xs k).length = xs.length := by
  unfold hf; simp; omega
theorem hf_zero (d : α) (xs : List α) : hf d xs 0 = List.replicate xs.length d := by simp [hf]
theorem hf_end (d : α) (xs : List α) : hf d xs xs.length = xs := by simp [hf]
theorem hf_set (d : α) (xs : List α) (k : Nat) (hk : k < xs.length) : (hf d xs k).set k (xs.getD k d) = hf d xs (k + 1) := by
  unfold hf
  apply List.ext_getElem?
  intro i
  have hr : xs.length - k = (xs.length - (k + 1)) + 1 := by omega
  rw [List.getElem?_set]
  by_cases h1 : i < k
  · rw [if_neg (by omega), List.getElem?_append_left (by simp; omega), List.getElem?_append_left (by simp; omega), List.getElem?_take, List.getElem?_take, if_pos h1, if_pos (by omega)]
  · by_cases h2 : i = k
    · subst h2
      rw [if_pos rfl, if_pos (by simp; omega), List.getElem?_append_left (by simp; omega), List.getElem?_take, if_pos (by omega)]
      simp [List.getD, hk]
    · rw [if_neg (by omega), List.getElem?_append_right (by simp; omega), List.getElem?_append_right (by simp; omega)]
      simp only [List.length_take, Nat.min_eq_left (Nat.le_of_lt hk), Nat.min_eq_left (Nat.succ_le_of_lt hk), List.getElem?_replicate]
      by_cases h3 : i < xs.length
      · rw [if_pos (by omega), if_pos (by omega)]
      · rw [if_neg (by omega), if_neg (by omega)]
end
theorem gcs_set : ∀ (gs : List G3) (k : Nat) (g : G3), k < gs.length → (((gcs gs).set (k * 3) (.int .i8 g.1)).set (k * 3 + 1) (.int .i16 g.2.1)).set (k * 3 + 2) (.int .i16 g.2.2) = gcs (gs.set k g)
  | [], _, _, h => absurd h (Nat.not_lt_zero _)
  | x :: gs, 0, g, _ => by
    rw [gcs_cons, List.set_cons_zero, gcs_cons]
    rfl
  | x :: gs, k + 1, g, h => by
    have e := gcs_set gs k g (by simpa using h)
    have l : (gc x).length = 3 := rfl
    rw [gcs_cons, List.set_cons_succ, gcs_cons, List.set_append_right _ _ (by rw [l]; omega), List.set_append_right _ _ (by rw [l]; omega), List.set_append_right _ _ (by rw [l]; omega), l,
      show (k + 1) * 3 - 3 = k * 3 from by omega, show (k + 1) * 3 + 1 - 3 = k * 3 + 1 from by omega, show (k + 1) * 3 + 2 - 3 = k * 3 + 2 from by omega, e]
theorem made3 (n : Nat) : (madeCells #[.int .i8 0, .int .i16 0, .int .i16 0] (n * 3)).toList = gcs (List.replicate n gz) := by
  apply List.ext_getElem?
  intro i
  by_cases hi : i < n * 3
  · have e := gcs_get (List.replicate n gz) (i / 3) (by rw [List.length_replicate]; omega) (i % 3) (by omega)
    rw [show i / 3 * 3 + i % 3 = i from by omega] at e
    rw [e]
    have q : (List.replicate n gz).getD (i / 3) gz = gz := by simp [List.getD, List.getElem?_replicate]; split <;> rfl
    rw [q]
    have h3 : i % 3 = 0 ∨ i % 3 = 1 ∨ i % 3 = 2 := by omega
    rcases h3 with h | h | h <;> simp [madeCells, hi, h, gc, gz]
  · rw [List.getElem?_eq_none (by rw [Array.length_toList, size_madeCells]; omega), List.getElem?_eq_none (by rw [gcs_len, List.length_replicate]; omega)]
/-- a gate put into a row of gates -/
theorem own_gate {w : World} {B : Nat} {e : TypeId} {g n cap : Nat} {gs : List G3} (h : w.ownsRow B e 3 (.slice (some ⟨g, 0, none⟩) n cap) n (gcs gs)) (k : Nat) (hk : k < n) (x : G3) :
    (w.setCells g (k * 3) (gc x)).ownsRow B e 3 (.slice (some ⟨g, 0, none⟩) n cap) n (gcs (gs.set k x)) := by
  have hl : gs.length = n := by have := h.1; rw [gcs_len] at this; omega
  rw [← gcs_set gs k x (by omega)]
  exact ((((h.stored (k * 3) (.int .i8 x.1)).1.stored (k * 3 + 1) (.int .i16 x.2.1)).1.stored (k * 3 + 1 + 1) (.int .i16 x.2.2)).1)
theorem ownblk {w : World} {B s : Nat} {e : TypeId} {g n cap : Nat} {cs : List Value} (h : w.ownsRow B e s (.slice (some ⟨g, 0, none⟩) n cap) n cs) : g < w.heap.size := by
  rcases h.2 with ⟨q, _⟩ | ⟨g', _, _, q, _, hg', _⟩
  · simp at q
  · simp at q; obtain ⟨rfl, _⟩ := q; exact (Array.getElem?_eq_some_iff.1 hg').1
theorem own_there {w : World} {B s : Nat} {e : TypeId} {g n cap : Nat} {cs : List Value} (h : w.ownsRow B e s (.slice (some ⟨g, 0, none⟩) n cap) n cs) (o m : Nat) (hm : o + m ≤ n * s) : w.there g o m := fun j hj =>
  ⟨by rw [h.cellAt (o + j) (by omega), List.getElem?_eq_getElem (by rw [h.1]; omega)]; rfl, h.frozenAt _⟩
theorem bsets {B g : Nat} {a : World} (hg : B ≤ g) : ∀ (vs : List Value) (o : Nat) (w : World), Below B a w → Below B a (w.setCells g o vs)
  | [], _, _, h => h
  | v :: r, o, w, h => by
    rw [World.setCells]; exact bsets hg r (o + 1) _ (h.setCell (p := ⟨g, o, none⟩) hg v)
theorem szGateS_any (v : Value) (n : Nat) (hn : n ≤ 9223372036854775807) (l : Nat) (hl : l ≤ 1048576) (w : World) (h : ∃ A c, v = .slice A n c) :
    Calls Tryd.prog 41 #[v, .int .i64 (l : Int)] w fun e w' => e = .returned (if n ≤ l then .int .i64 ((l - n : Nat) : Int) else .int .i64 (-1)) ∧ w' = w := by
  obtain ⟨A, c, rfl⟩ := h
  by_cases hlt : n ≤ l
  · rw [if_pos hlt]
    obtain ⟨y, hy⟩ : ∃ y : Nat, y = l - n := ⟨_, rfl⟩
    have e1 : (l : Int) - (n : Int) = (y : Int) := by omega
    rw [← hy]
    clear hy
    have t1 : decide ((y : Int) < 0) = false := by simp
    go_enter Tryd.func41, Tryd.ntmps41
    go_wp2_with fail
    go_ret
    exact ⟨rfl, rfl⟩
  · rw [if_neg hlt]
    have t1 : decide ((l : Int) - (n : Int) < 0) = true := by simp; omega
    go_enter Tryd.func41, Tryd.ntmps41
    go_wp2_with fail
    go_ret
    exact ⟨rfl, rfl⟩
theorem szInt16S_any (v : Value) (n : Nat) (hn : n ≤ 9223372036854775807) (l : Nat) (hl : l ≤ 1048576) (w : World) (h : ∃ A c, v = .slice A n c) :
    Calls Tryd.prog 42 #[v, .int .i64 (l : Int)] w fun e w' => e = .returned (if n ≤ l then .int .i64 ((l - n : Nat) : Int) else .int .i64 (-1)) ∧ w' = w := by
  obtain ⟨A, c, rfl⟩ := h
  by_cases hlt : n ≤ l
  · rw [if_pos hlt]
    obtain ⟨y, hy⟩ : ∃ y : Nat, y = l - n := ⟨_, rfl⟩
    have e1 : (l : Int) - (n : Int) = (y : Int) := by omega
    rw [← hy]
    clear hy
    have t1 : decide ((y : Int) < 0) = false := by simp
    go_enter Tryd.func42, Tryd.ntmps42
    go_wp2_with fail
    go_ret
    exact ⟨rfl, rfl⟩
  · rw [if_neg hlt]
    have t1 : decide ((l : Int) - (n : Int) < 0) = true := by simp; omega
    go_enter Tryd.func42, Tryd.ntmps42
    go_wp2_with fail
    go_ret
    exact ⟨rfl, rfl⟩
/-- how much room a circuit leaves -/
def szC (a b l : Nat) : Value := if a + b ≤ l then .int .i64 ((l - (a + b) : Nat) : Int) else .int .i64 (-1)
theorem szCircuit_any (n : Int) (G O : Value) (a b : Nat) (ha : a ≤ 9223372036854775807) (hb : b ≤ 9223372036854775807) (l : Nat) (hl : l ≤ 1048576) (w : World) (h : ∃ A c, G = .slice A a c) (h2 : ∃ A c, O = .slice A b c) :
    Calls Tryd.prog 9 #[.agg #[.int .i8 n, G, O], .int .i64 (l : Int)] w fun e w' => e = .returned (szC a b l) ∧ Below w.heap.size w w' := by
  obtain ⟨A, c, rfl⟩ := h
  obtain ⟨A2, c2, rfl⟩ := h2
  have HB := Lib.hid (Below.refl w.heap.size w)
  go_enter Tryd.func9, Tryd.ntmps9
  go_wp2_with fail
  refine (szGateS_any _ a ha l hl _ ⟨_, _, rfl⟩).mono ?_
  rintro e w' ⟨rfl, rfl⟩
  by_cases h1 : a ≤ l
  · rw [if_pos h1]
    obtain ⟨y, hy⟩ : ∃ y : Nat, y = l - a := ⟨_, rfl⟩
    rw [← hy]
    have hy2 : y ≤ 1048576 := by omega
    have t1 : decide ((y : Int) < 0) = false := by simp
    have HY := Lib.hid hy
    have H1 := Lib.hid h1
    clear hy h1
    go_wp2_with fail
    refine (szInt16S_any _ b hb y hy2 _ ⟨_, _, rfl⟩).mono ?_
    rintro e w' ⟨rfl, rfl⟩
    by_cases h2 : b ≤ y
    · rw [if_pos h2]
      obtain ⟨z, hz⟩ : ∃ z : Nat, z = y - b := ⟨_, rfl⟩
      rw [← hz]
      have t2 : decide ((z : Int) < 0) = false := by simp
      have HZ := Lib.hid hz
      have H2 := Lib.hid h2
      clear hz h2
      go_wp2_with fail
      go_ret
      refine ⟨?_, HB.out.alloc (Nat.le_refl _) _⟩
      have := HY.out; have := HZ.out; have := H1.out; have := H2.out
      unfold szC
      rw [if_pos (by omega), show l - (a + b) = z from by omega]; rfl
    · rw [if_neg h2]
      have H2 := Lib.hid h2
      clear h2
      go_wp2_with fail
      go_ret
      refine ⟨?_, HB.out.alloc (Nat.le_refl _) _⟩
      have := HY.out; have := H1.out; have := H2.out
      unfold szC
      rw [if_neg (by omega)]; rfl
  · rw [if_neg h1]
    have H1 := Lib.hid h1
    clear h1
    go_wp2_with fail
    go_ret
    refine ⟨?_, HB.out.alloc (Nat.le_refl _) _⟩
    have := H1.out
    unfold szC
    rw [if_neg (by omega)]; rfl
theorem nw1 (w : World) (A : Obj) : (w.alloc A).heap[w.heap.size]? = some A ∧ Below w.heap.size w (w.alloc A) ∧ (w.alloc A).heap.size = w.heap.size + 1 := ⟨heap_alloc_new _ _, (Below.refl _ w).alloc (Nat.le_refl _) A, World.size_alloc _ _⟩
theorem nw2 (w : World) (A B : Obj) : ((w.alloc A).alloc B).heap[w.heap.size]? = some A ∧ ((w.alloc A).alloc B).heap[w.heap.size + 1]? = some B ∧ Below w.heap.size w ((w.alloc A).alloc B) ∧ ((w.alloc A).alloc B).heap.size = w.heap.size + 1 + 1 :=
  ⟨heap_alloc2_old _ _ _, heap_alloc2_new _ _ _, ((Below.refl _ w).alloc (Nat.le_refl _) A).alloc (by rw [World.size_alloc]; omega) B, by rw [World.size_alloc, World.size_alloc]⟩
theorem hao3 (w : World) (o : Obj) (k : Nat) (h : k < w.heap.size) : (w.alloc o).heap[k]? = w.heap[k]? := by
  show (w.heap.push o)[k]? = _
  rw [Array.getElem?_push_lt h, Array.getElem?_eq_getElem h]
theorem nw3 (w : World) (A B C : Obj) : (((w.alloc A).alloc B).alloc C).heap[w.heap.size]? = some A ∧ (((w.alloc A).alloc B).alloc C).heap[w.heap.size + 1]? = some B ∧ (((w.alloc A).alloc B).alloc C).heap[w.heap.size + 1 + 1]? = some C ∧ Below w.heap.size w (((w.alloc A).alloc B).alloc C) ∧ (((w.alloc A).alloc B).alloc C).heap.size = w.heap.size + 1 + 1 + 1 := by
  obtain ⟨h1, h2, h3, h4⟩ := nw2 w A B
  refine ⟨?_, ?_, ?_, h3.alloc (by omega) C, by rw [World.size_alloc, h4]⟩
  · rw [hao3 _ _ _ (by omega)]; exact h1
  · rw [hao3 _ _ _ (by omega)]; exact h2
  · rw [← h4]; exact heap_alloc_new _ _
/-- three cells lie in a block of their own -/
def BX (w : World) (g : Nat) (a b c : Value) : Prop := ∃ t, w.heap[g]? = some (.cells #[a, b, c] t (0, 0))
section
variable {w w' : World} {g B : Nat} {a b c : Value}
theorem BX.c0 (h : BX w g a b c) : w.cell? ⟨g, 0, none⟩ = some a := by
  obtain ⟨t, h⟩ := h
  exact (cell_of_row _ _ _ _ _ _ h).trans rfl
theorem BX.c1 (h : BX w g a b c) : w.cell? ⟨g, 1, none⟩ = some b := by
  obtain ⟨t, h⟩ := h
  exact (cell_of_row _ _ _ _ _ _ h).trans rfl
theorem BX.c2 (h : BX w g a b c) : w.cell? ⟨g, 2, none⟩ = some c := by
  obtain ⟨t, h⟩ := h
  exact (cell_of_row _ _ _ _ _ _ h).trans rfl
theorem BX.free (h : BX w g a b c) (o : Nat) : w.frozen? ⟨g, o, none⟩ = false := by
  obtain ⟨t, h⟩ := h
  unfold World.frozen?; rw [h]; simp
theorem BX.put0 (h : BX w g a b c) (v : Value) : BX (w.setCell ⟨g, 0, none⟩ v) g v b c := by
  obtain ⟨t, h⟩ := h
  exact ⟨t, by rw [heap_setCell_same w g 0 _ _ _ h]; rfl⟩
theorem BX.put1 (h : BX w g a b c) (v : Value) : BX (w.setCell ⟨g, 1, none⟩ v) g a v c := by
  obtain ⟨t, h⟩ := h
  exact ⟨t, by rw [heap_setCell_same w g 1 _ _ _ h]; rfl⟩
theorem BX.put2 (h : BX w g a b c) (v : Value) : BX (w.setCell ⟨g, 2, none⟩ v) g a b v := by
  obtain ⟨t, h⟩ := h
  exact ⟨t, by rw [heap_setCell_same w g 2 _ _ _ h]; rfl⟩
theorem BX.other (h : BX w g a b c) {k o : Nat} (hk : k ≠ g) (v : Value) : BX (w.setCell ⟨k, o, none⟩ v) g a b c := by
  obtain ⟨t, h⟩ := h
  exact ⟨t, by rw [heap_setCell_other _ _ _ _ (by simpa using hk.symm)]; exact h⟩
theorem BX.puts (h : BX w g a b c) (x y z : Value) : BX (w.setCells g 0 [x, y, z]) g x y z := ((h.put0 x).put1 y).put2 z
theorem BX.there (h : BX w g a b c) : w.there g 0 3 := fun j hj => by
  refine ⟨?_, h.free _⟩
  rw [Nat.zero_add]
  have : j = 0 ∨ j = 1 ∨ j = 2 := by omega
  rcases this with rfl | rfl | rfl
  · rw [h.c0]; rfl
  · rw [h.c1]; rfl
  · rw [h.c2]; rfl
theorem BX.lt (h : BX w g a b c) : g < w.heap.size := by
  obtain ⟨t, h⟩ := h
  exact (Array.getElem?_eq_some_iff.1 h).1
theorem BX.belowB (h : BX w g a b c) (hb : Below B w w') (hg : g < B) : BX w' g a b c := by
  obtain ⟨t, h⟩ := h
  exact ⟨t, (hb.block g hg).trans h⟩
theorem BX.below (h : BX w g a b c) (hb : Below w.heap.size w w') : BX w' g a b c := h.belowB hb h.lt
end
theorem toGate_any (g : G3) (w : World) :
    Calls Tryd.prog 104 #[gv g] w fun e w' => e = .returned (gv g) ∧ Below w.heap.size w w' := by
  obtain ⟨k, a, b⟩ := g
  go_enter Tryd.func104, Tryd.ntmps104
  go_wp2_with fail
  obtain ⟨h1, h2, h3, hb, hs⟩ := nw3 w (.cells #[.int .i8 k, .int .i16 a, .int .i16 b] 149) (.cells #[.int .i8 k, .int .i16 a, .int .i16 b] 67) (.cells #[.int .i8 k, .int .i16 a, .int .i16 b] 67)
  refine bodyPost_ret (v := gv (k, a, b)) ?_ rfl ⟨rfl, hb⟩
  exact results_cell_row rfl _ _ (w.heap.size + 1) _ _ (0, 0) _ rfl h2 Tryd.underlying67 rfl (by kernel_rfl)
theorem infoGate : (Tryd.prog.info? 67).map (fun i => (i.zero, i.size, i.bytes)) = some (some (.agg #[.int .i8 0, .int .i16 0, .int .i16 0]), 3, 6) := by kernel_rfl
theorem infoI16 : (Tryd.prog.info? 65).map (fun i => (i.zero, i.size, i.bytes)) = some (some (.int .i16 0), 1, 2) := by kernel_rfl
set_option maxHeartbeats 1000000 in
theorem toGateS_any (v : Value) (gs : List G3) (hn : gs.length ≤ 1048576) (w : World) (h : GL w v gs) :
    Calls Tryd.prog 45 #[v] w fun e w' => ∃ u, e = .returned u ∧ Below w.heap.size w w' ∧ w'.ownsRow w.heap.size 67 3 u gs.length (gcs gs) := by
  have H := Lib.hid h
  obtain ⟨A, c, rfl⟩ := h.form
  clear h
  obtain ⟨i0, hi, hz0, hz1, hz2⟩ := info_parts infoGate
  go_enter Tryd.func45, Tryd.ntmps45
  go_wp2_with (at_make; refine wpList_make_full _ rfl _ _ 28 rfl w.heap.size 67 i0 (.agg #[.int .i8 0, .int .i16 0, .int .i16 0]) 3 Tryd.underlying28 hi hz0 hz1 _ _ _ _ gs.length rfl rfl rfl rfl (by rw [hz2]; omega) (by unfold maxLen; omega) (Nat.le_refl _) ?_)
  intro w1 hown hgrow
  have hb1 : Below w.heap.size w w1 := (Below.refl _ w).grown hgrow (Nat.le_refl _) (fun k hk => by cases hk)
  obtain ⟨g, hg⟩ : ∃ g, g = w.heap.size := ⟨_, rfl⟩
  rw [← hg] at hown hb1 ⊢
  have hown1 : w1.ownsRow g 67 3 (.slice (some ⟨g, 0, none⟩) gs.length gs.length) gs.length (gcs (hf gz gs 0)) := by
    rw [hf_zero, ← made3]; exact hown
  clear hown hgrow
  have HG := Lib.hid hg; clear hg
  have HB1 := Lib.hid hb1; have HO1 := Lib.hid hown1
  clear hb1 hown1
  go_wp2_with fail
  go_loopw [4] (fun i wr => ∃ k : Nat, i = .int .i64 k ∧ k ≤ gs.length ∧ Hid (Below g w wr) ∧ Hid (wr.ownsRow g 67 3 (.slice (some ⟨g, 0, none⟩) gs.length gs.length) gs.length (gcs (hf gz gs k)))) (fun i _ => gs.length - (intOf i).toNat)
  case atStart => exact ⟨0, rfl, Nat.zero_le _, HB1, HO1⟩
  case round =>
    obtain ⟨k, rfl, hk, HB, HO⟩ := hrel
    clear HB1 HO1
    by_cases hlt : k < gs.length
    · obtain ⟨b, off, c', e, hlb, hgw, c0, c1, c2⟩ := (H.out.below (by rw [← HG.out]; exact HB.out)).at k hlt
      cases e
      have T1 : decide ((k : Int) < (gs.length : Int)) = true := by simp; omega
      have i1 : (k : Int) < (gs.length : Int) := by omega
      obtain ⟨x, hx⟩ : ∃ x, x = gs.getD k gz := ⟨_, rfl⟩
      rw [← hx] at c0 c1 c2 hgw
      have HX := Lib.hid hx
      clear hx
      go_wp2_with fail
      refine (toGate_any x wr).mono ?_
      rintro e w2 ⟨rfl, hb2⟩
      have hO2 := owb HO.out hb2
      have r3 := own_there hO2 (k * 3) 3 (by omega)
      have h4 := own_gate hO2 k hlt x
      rw [HX.out, hf_set gz gs k hlt, ← HX.out] at h4
      have H4 := Lib.hid h4
      have H5 := Lib.hid (bsets (Nat.le_refl g) (gc x) (k * 3) w2 (bch2 HB.out hb2 (Nat.le_of_lt (ownblk HO.out))))
      clear h4 hO2 hb2 c0 c1 c2 HO HB
      go_wp2_with (guard_target =~ wpList _ _ _ (⟨_, Op.store 67 _ _, _, _, _, _⟩ :: _) _ _; refine wpList_store_mid rfl 67 _ _ rfl g (k * 3) #[.int .i8 x.1, .int .i16 x.2.1, .int .i16 x.2.2] rfl rfl r3 (by kernel_rfl) (gv_one x) ?_)
      exact ⟨⟨k + 1, by go_num, by omega, H5, H4⟩, by simp [intOf]; omega⟩
    · obtain rfl : k = gs.length := by omega
      have T1 : decide ((gs.length : Int) < (gs.length : Int)) = false := by simp
      go_wp2_with fail
      go_ret
      have h := HO.out
      rw [hf_end] at h
      exact ⟨_, rfl, by rw [← HG.out]; exact HB.out, by rw [← HG.out]; exact h⟩
set_option maxHeartbeats 1000000 in
theorem toInt16S_any (v : Value) (os : List Int) (hn : os.length ≤ 1048576) (w : World) (h : IL w v os) :
    Calls Tryd.prog 46 #[v] w fun e w' => ∃ u, e = .returned u ∧ Below w.heap.size w w' ∧ w'.ownsRow w.heap.size 65 1 u os.length (i16s os) := by
  have H := Lib.hid h
  obtain ⟨A, c, rfl⟩ := h.form
  clear h
  obtain ⟨i0, hi, hz0, hz1, hz2⟩ := info_parts infoI16
  go_enter Tryd.func46, Tryd.ntmps46
  go_wp2_with (at_make; refine wpList_make_full _ rfl _ _ 24 rfl w.heap.size 65 i0 (.int .i16 0) 1 Tryd.underlying24 hi hz0 hz1 _ _ _ _ os.length rfl rfl rfl rfl (by rw [hz2]; omega) (by unfold maxLen; omega) (Nat.le_refl _) ?_)
  intro w1 hown hgrow
  have hb1 : Below w.heap.size w w1 := (Below.refl _ w).grown hgrow (Nat.le_refl _) (fun k hk => by cases hk)
  obtain ⟨g, hg⟩ : ∃ g, g = w.heap.size := ⟨_, rfl⟩
  rw [← hg] at hown hb1 ⊢
  have hown1 : w1.ownsRow g 65 1 (.slice (some ⟨g, 0, none⟩) os.length os.length) os.length (i16s (hf 0 os 0)) := by
    have e : (madeCells #[Value.int .i16 0] os.length).toList = i16s (hf 0 os 0) := by
      rw [toList_madeCells_one, hf_zero]; simp
    rw [← e]; simpa using hown
  clear hown hgrow
  have HG := Lib.hid hg; clear hg
  have HB1 := Lib.hid hb1; have HO1 := Lib.hid hown1
  clear hb1 hown1
  go_wp2_with fail
  go_loopw [4] (fun i wr => ∃ k : Nat, i = .int .i64 k ∧ k ≤ os.length ∧ Hid (Below g w wr) ∧ Hid (wr.ownsRow g 65 1 (.slice (some ⟨g, 0, none⟩) os.length os.length) os.length (i16s (hf 0 os k)))) (fun i _ => os.length - (intOf i).toNat)
  case atStart => exact ⟨0, rfl, Nat.zero_le _, HB1, HO1⟩
  case round =>
    obtain ⟨k, rfl, hk, HB, HO⟩ := hrel
    clear HB1 HO1
    by_cases hlt : k < os.length
    · obtain ⟨b, off, c', e, hlb, hgw, c0⟩ := (H.out.below (by rw [← HG.out]; exact HB.out)).at k hlt
      cases e
      have T1 : decide ((k : Int) < (os.length : Int)) = true := by simp; omega
      have i1 : (k : Int) < (os.length : Int) := by omega
      obtain ⟨x, hx⟩ : ∃ x, x = os.getD k 0 := ⟨_, rfl⟩
      rw [← hx] at c0 hgw
      obtain ⟨y, hy⟩ : ∃ y, (i16s (hf 0 os k))[k]? = some y := ⟨_, List.getElem?_eq_getElem (by rw [List.length_map, hf_len _ _ _ hk]; exact hlt)⟩
      have h2 : wr.cell? ⟨g, k, none⟩ = some y := (HO.out.cellAt k (by omega)).trans hy
      have h3 : wr.frozen? ⟨g, k, none⟩ = false := HO.out.frozenAt k
      have h4 := (HO.out.stored k (.int .i16 x)).1
      rw [← List.map_set, hx, hf_set 0 os k hlt, ← hx] at h4
      have H4 := Lib.hid h4
      have H5 := Lib.hid (HB.out.setCell (p := ⟨g, k, none⟩) (Nat.le_refl _) (.int .i16 x))
      clear h4 HO HB hx hy
      go_wp2_with fail
      exact ⟨⟨k + 1, by go_num, by omega, H5, H4⟩, by simp [intOf]; omega⟩
    · obtain rfl : k = os.length := by omega
      have T1 : decide ((os.length : Int) < (os.length : Int)) = false := by simp
      go_wp2_with fail
      go_ret
      have h := HO.out
      rw [hf_end] at h
      exact ⟨_, rfl, by rw [← HG.out]; exact HB.out, by rw [← HG.out]; exact h⟩
theorem three_one {a b c : Value} (h1 : a.oneCell' = true) (h2 : b.oneCell' = true) (h3 : c.oneCell' = true) : (#[a, b, c] : Array Value).all (·.oneCell') = true := all_oneCell_toArray (cs := [a, b, c]) (fun v hv => by
  simp at hv
  rcases hv with rfl | rfl | rfl
  · exact h1
  · exact h2
  · exact h3)
theorem own_sets {w : World} {base : Nat} {e : TypeId} {size : Nat} {v : Value} {n : Nat} {xs : List Value} (h : w.ownsRow base e size v n xs) {k : Nat} (hk : k < base) : ∀ (vs : List Value) (o : Nat), (w.setCells k o vs).ownsRow base e size v n xs := by
  intro vs
  induction vs generalizing w with
  | nil => intro o; exact h
  | cons u r ih => intro o; rw [World.setCells]; exact ih (ownsRow_setCell_below h (a := ⟨k, o, none⟩) hk u) (o + 1)
/-- a circuit in memory of its own, in blocks from lo on, below hi -/
def CO (lo hi : Nat) (w : World) (v : Value) (n : Int) (gs : List G3) (os : List Int) : Prop :=
  ∃ G O, v = .agg #[.int .i8 n, G, O] ∧ (-128 ≤ n ∧ n < 128) ∧ (∀ g ∈ gs, GW g) ∧ (∀ z ∈ os, IW z) ∧
    w.ownsRow lo 67 3 G gs.length (gcs gs) ∧ w.ownsRow lo 65 1 O os.length (i16s os) ∧
    (∀ k, G.ownBlock = some k → k < hi) ∧ (∀ k, O.ownBlock = some k → k < hi) ∧ (∀ k, G.ownBlock = some k → O.ownBlock ≠ some k)
theorem CO.ci {lo hi : Nat} {w : World} {v : Value} {n : Int} {gs : List G3} {os : List Int} (h : CO lo hi w v n gs os) : CI w v n gs os := by
  obtain ⟨G, O, hv, hn, hg, ho, h1, h2, _⟩ := h
  exact ⟨G, O, hv, hn, ⟨LS.of_own h1, hg⟩, ⟨LS.of_own h2, ho⟩⟩
theorem CO.below {lo hi : Nat} {w w' : World} {v : Value} {n : Int} {gs : List G3} {os : List Int} (h : CO lo hi w v n gs os) (hb : Below w.heap.size w w') : CO lo hi w' v n gs os := by
  obtain ⟨G, O, hv, hn, hg, ho, h1, h2, h3⟩ := h
  exact ⟨G, O, hv, hn, hg, ho, owb h1 hb, owb h2 hb, h3⟩
theorem own_block {w : World} {lo n s : Nat} {e : TypeId} {v : Value} {cs : List Value} (h : w.ownsRow lo e s v n cs) (k : Nat) (hk : v.ownBlock = some k) : lo ≤ k ∧ k < w.heap.size := by
  rcases h.2 with ⟨rfl, _⟩ | ⟨g, _, _, rfl, h1, hg, _⟩
  · simp [Value.ownBlock] at hk
  · have e : g = k := by simpa [Value.ownBlock] using hk
    subst e
    exact ⟨h1, (Array.getElem?_eq_some_iff.1 hg).1⟩
theorem own_low {w : World} {lo lo' n s : Nat} {e : TypeId} {v : Value} {cs : List Value} (h : w.ownsRow lo e s v n cs) (hl : lo' ≤ lo) : w.ownsRow lo' e s v n cs := by
  refine ⟨h.1, ?_⟩
  rcases h.2 with q | ⟨g, cap, cur, q1, q2, q3⟩
  · exact .inl q
  · exact .inr ⟨g, cap, cur, q1, Nat.le_trans hl q2, q3⟩
set_option maxHeartbeats 1000000 in
theorem toCircuit_any (v : Value) (n : Int) (gs : List G3) (os : List Int) (hn : gs.length + os.length ≤ 1048576) (w : World) (h : CI w v n gs os) :
    Calls Tryd.prog 11 #[v] w fun e w' => ∃ u, e = .returned u ∧ Below w.heap.size w w' ∧ CO w.heap.size w'.heap.size w' u n gs os := by
  have H := Lib.hid h
  obtain ⟨G, O, rfl, hn1, hg, ho⟩ := h
  have HG := Lib.hid hg; have HO := Lib.hid ho
  obtain ⟨A, c, rfl⟩ := hg.form
  obtain ⟨A2, c2, rfl⟩ := ho.form
  clear hg ho
  go_enter Tryd.func11, Tryd.ntmps11
  go_wp2_with fail
  obtain ⟨a1, a2, a3, a4, a5⟩ := nw3 w (.cells #[.int .i8 n, .slice A gs.length c, .slice A2 os.length c2] 26) (.cells #[.int .i8 0, .slice none 0 0, .slice none 0 0] 30) (.cells #[.int .i8 n, .slice none 0 0, .slice none 0 0] 30)
  generalize World.alloc (World.alloc (World.alloc w _) _) _ = w3 at a1 a2 a3 a4 a5 ⊢
  refine (toGateS_any _ gs (by omega) w3 (HG.out.below a4)).mono ?_
  rintro e w4 ⟨U1, rfl, hb4, ho4⟩
  obtain ⟨B1, d1, rfl⟩ : ∃ B d, U1 = .slice B gs.length d := by
    rcases ho4.2 with ⟨q, h0⟩ | ⟨g, cap, _, q, _⟩
    · exact ⟨none, 0, by rw [q, h0]⟩
    · exact ⟨_, _, q⟩
  have s4 := hb4.size
  have m1 : BX w4 w.heap.size _ _ _ := (BX.belowB ⟨_, a1⟩ hb4 (by omega))
  have m2 : BX w4 (w.heap.size + 1) _ _ _ := (BX.belowB ⟨_, a2⟩ hb4 (by omega))
  have m3 : BX w4 (w.heap.size + 1 + 1) _ _ _ := (BX.belowB ⟨_, a3⟩ hb4 (by omega))
  have k1 := m1.c2
  have k2 := m3.c1
  have k3 := m3.free 1
  have k4 : (w4.setCell ⟨w.heap.size + 1 + 1, 1, none⟩ (.slice B1 gs.length d1)).cell? ⟨w.heap.size, 2, none⟩ = some (.slice A2 os.length c2) := (m1.other (k := w.heap.size + 1 + 1) (o := 1) (by omega) _).c2
  have M1 := Lib.hid m1; have M2 := Lib.hid m2; have M3 := Lib.hid m3
  have HB4 := Lib.hid hb4; have HO4 := Lib.hid ho4; have HA4 := Lib.hid a4; have HA5 := Lib.hid a5
  clear a1 a2 a3 a4 a5 m1 m2 m3 hb4 ho4
  go_wp2_with fail
  have n1 := M1.out.other (k := w.heap.size + 1 + 1) (o := 1) (by omega) (.slice B1 gs.length d1)
  have n2 := M2.out.other (k := w.heap.size + 1 + 1) (o := 1) (by omega) (.slice B1 gs.length d1)
  have n3 := M3.out.put1 (.slice B1 gs.length d1)
  have hlow : Below w3.heap.size w4 w4 := Below.refl _ _
  have b5 : Below w.heap.size w (w4.setCell ⟨w.heap.size + 1 + 1, 1, none⟩ (.slice B1 gs.length d1)) := (HA4.out.trans (HB4.out.mono (by have := HA5.out; omega))).setCell (p := ⟨w.heap.size + 1 + 1, 1, none⟩) (by show w.heap.size ≤ w.heap.size + 1 + 1; omega) _
  have o5 : (w4.setCell ⟨w.heap.size + 1 + 1, 1, none⟩ (.slice B1 gs.length d1)).ownsRow w3.heap.size 67 3 (.slice B1 gs.length d1) gs.length (gcs gs) := ownsRow_setCell_below HO4.out (by show w.heap.size + 1 + 1 < w3.heap.size; have := HA5.out; omega) _
  generalize hw5 : w4.setCell ⟨w.heap.size + 1 + 1, 1, none⟩ (.slice B1 gs.length d1) = w5 at n1 n2 n3 b5 o5 ⊢
  have s5 : w5.heap.size = w4.heap.size := by rw [← hw5]; simp [World.setCell]
  clear hw5 k1 k2 k3 k4 hlow M1 M2 M3
  refine (toInt16S_any _ os (by omega) w5 (HO.out.below b5)).mono ?_
  rintro e w6 ⟨U2, rfl, hb6, ho6⟩
  obtain ⟨B2, d2, rfl⟩ : ∃ B d, U2 = .slice B os.length d := by
    rcases ho6.2 with ⟨q, h0⟩ | ⟨g, cap, _, q, _⟩
    · exact ⟨none, 0, by rw [q, h0]⟩
    · exact ⟨_, _, q⟩
  have s6 := hb6.size
  have m2 := n2.below hb6
  have m3 := n3.below hb6
  have k2 := m3.c2
  have k3 := m3.free 2
  have p3 := m3.put2 (.slice B2 os.length d2)
  have j0 := p3.c0
  have j1 := p3.c1
  have j2 := p3.c2
  have p2 := m2.other (k := w.heap.size + 1 + 1) (o := 2) (by omega) (.slice B2 os.length d2)
  have r2 := p2.there
  have P2 := Lib.hid (p2.puts (.int .i8 n) (.slice B1 gs.length d1) (.slice B2 os.length d2))
  have b7 : Below w.heap.size w (w6.setCell ⟨w.heap.size + 1 + 1, 2, none⟩ (.slice B2 os.length d2)) := (b5.trans (hb6.mono (by have := HA5.out; omega))).setCell (p := ⟨w.heap.size + 1 + 1, 2, none⟩) (by show w.heap.size ≤ w.heap.size + 1 + 1; omega) _
  have B8 := Lib.hid (bsets (g := w.heap.size + 1) (by omega) [.int .i8 n, .slice B1 gs.length d1, .slice B2 os.length d2] 0 _ b7)
  have o7 := ownsRow_setCell_below (owb o5 hb6) (a := ⟨w.heap.size + 1 + 1, 2, none⟩) (by show w.heap.size + 1 + 1 < w3.heap.size; have := HA5.out; omega) (.slice B2 os.length d2)
  have q7 := ownsRow_setCell_below ho6 (a := ⟨w.heap.size + 1 + 1, 2, none⟩) (by show w.heap.size + 1 + 1 < w5.heap.size; have := HA5.out; omega) (.slice B2 os.length d2)
  have O8 := Lib.hid (own_sets o7 (k := w.heap.size + 1) (by have := HA5.out; omega) [.int .i8 n, .slice B1 gs.length d1, .slice B2 os.length d2] 0)
  have Q8 := Lib.hid (own_sets q7 (k := w.heap.size + 1) (by have := HA5.out; omega) [.int .i8 n, .slice B1 gs.length d1, .slice B2 os.length d2] 0)
  have E1 := Lib.hid (fun k hk => own_block HO4.out k hk)
  have E2 := Lib.hid (fun k hk => own_block ho6 k hk)
  have S8 := Lib.hid (show ((w6.setCell ⟨w.heap.size + 1 + 1, 2, none⟩ (.slice B2 os.length d2)).setCells (w.heap.size + 1) 0 [.int .i8 n, .slice B1 gs.length d1, .slice B2 os.length d2]).heap.size = w6.heap.size by simp [World.setCells, World.setCell])
  clear n1 n2 n3 b5 o5 hb6 ho6 m2 m3 p3 p2 b7 o7 q7
  go_wp2_with (guard_target =~ wpList _ _ _ (⟨_, Op.store 30 _ _, _, _, _, _⟩ :: _) _ _; refine wpList_store_mid rfl 30 _ _ rfl (w.heap.size + 1) 0 #[.int .i8 n, .slice B1 gs.length d1, .slice B2 os.length d2] rfl rfl r2 (by kernel_rfl) (three_one rfl rfl rfl) ?_)
  obtain ⟨t8, h8⟩ := P2.out
  refine bodyPost_ret (v := .agg #[.int .i8 n, .slice B1 gs.length d1, .slice B2 os.length d2]) ?_ rfl ⟨_, rfl, B8.out, ?_⟩
  · exact results_cell_row rfl _ _ (w.heap.size + 1) _ _ (0, 0) _ rfl h8 Tryd.underlying30 rfl (by kernel_rfl)
  · have := HA5.out
    refine ⟨_, _, rfl, hn1, HG.out.2, HO.out.2, own_low O8.out (by omega), own_low Q8.out (by omega), fun k hk => ?_, fun k hk => ?_, fun k hk hk2 => ?_⟩
    · have := (E1.out k hk).2; have := S8.out; omega
    · have := (E2.out k hk).2; have := S8.out; omega
    · have := (E1.out k hk).2; have := (E2.out k hk2).1; omega
end Go.Proofs.YtedcfmdgcafnmaaDoor
