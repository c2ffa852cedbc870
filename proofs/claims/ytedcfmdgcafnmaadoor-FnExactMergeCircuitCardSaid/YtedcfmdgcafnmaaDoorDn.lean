/-
  TrimCircuit of the model.
-/
import Derived.Test.YtedcfmdgcafnmaaDoorDm
namespace Go.Proofs.YtedcfmdgcafnmaaDoor
set_option linter.unusedVariables false
set_option linter.unusedSimpArgs false
open Go.ChangeShapes Go.WideShapes Go.ChangeAt Go.RowKit Go.Deep

theorem cells_far {P k i : Nat} (h : P ≠ k) : ∀ (vs : List Value) (o : Nat) (w : World), (w.setCells k o vs).cell? ⟨P, i, none⟩ = w.cell? ⟨P, i, none⟩
  | [], _, _ => rfl
  | v :: r, o, w => by rw [World.setCells, cells_far h r]; exact cell_far h v
theorem region_post {P : Program} {c : Code} {a : Act} {w : World} {Q : Exit → Act → World → Prop} {A : Nat → Act} (R : Nat → World → Prop)
    (h1 : c.wp P (fun x a' w' => x = .normal ∧ ∃ n, a' = A n ∧ R n w') a w) (h2 : ∀ n w', R n w' → Q .normal (A n) w') : c.wp P Q a w :=
  Code.wp_mono (fun x a' w' ⟨hx, n, ha, hr⟩ => by subst hx; subst ha; exact h2 n w' hr) h1
/-- the places in block P; the circuit that is made in block gp, its gates and outputs in memory of their own behind it -/
def TI (w3 : World) (P gp m : Nat) (n : Int) (pl : List Int) (gs : List G3) (zs : List Int) (wr : World) : Prop :=
  Below w3.heap.size w3 wr ∧ wr.ownsRow w3.heap.size 65 1 (.slice (some ⟨P, 0, none⟩) m m) m (i16s pl) ∧ (P < gp ∧ gp < wr.heap.size) ∧
  ∃ GV OV, wr.heap[gp]? = some (.cells #[.int .i8 n, GV, OV] 30 (0, 0)) ∧ wr.ownsRow (gp + 1) 67 3 GV gs.length (gcs gs) ∧ wr.ownsRow (gp + 1) 65 1 OV zs.length (i16s zs)
theorem TI.below {w3 wr w' : World} {P gp m : Nat} {n : Int} {pl : List Int} {gs : List G3} {zs : List Int} (h : TI w3 P gp m n pl gs zs wr) (hb : Below wr.heap.size wr w') : TI w3 P gp m n pl gs zs w' := by
  obtain ⟨h1, h2, ⟨h3, h4⟩, GV, OV, h5, h6, h7⟩ := h
  exact ⟨h1.trans (hb.mono h1.size), owb h2 hb, ⟨h3, Nat.lt_of_lt_of_le h4 hb.size⟩, GV, OV, (hb.block gp h4).trans h5, owb h6 hb, owb h7 hb⟩
theorem TI.place {w3 wr : World} {P gp m : Nat} {n : Int} {pl : List Int} {gs : List G3} {zs : List Int} (h : TI w3 P gp m n pl gs zs wr) (k : Nat) (z : Int) : TI w3 P gp m n (pl.set k z) gs zs (wr.setCell ⟨P, k, none⟩ (.int .i16 z)) := by
  obtain ⟨h1, h2, ⟨h3, h4⟩, GV, OV, h5, h6, h7⟩ := h
  have hp := (own_block h2 P rfl).1
  have e := (h2.stored k (.int .i16 z)).1
  rw [← List.map_set] at e
  exact ⟨h1.setCell (p := ⟨P, k, none⟩) hp _, e, ⟨h3, by simpa [World.setCell] using h4⟩, GV, OV, (heap_setCell_other _ _ _ _ (fun e => by have e2 : gp = P := e; omega)).trans h5,
    ownsRow_setCell_below h6 (a := ⟨P, k, none⟩) (by show P < gp + 1; omega) _, ownsRow_setCell_below h7 (a := ⟨P, k, none⟩) (by show P < gp + 1; omega) _⟩
theorem TI.gates {w3 wr w2 : World} {P gp m : Nat} {n : Int} {pl : List Int} {gs gs' : List G3} {zs : List Int} {GV GV' OV : Value} (h : TI w3 P gp m n pl gs zs wr) (h5 : wr.heap[gp]? = some (.cells #[.int .i8 n, GV, OV] 30 (0, 0))) (h6 : wr.ownsRow (gp + 1) 67 3 GV gs.length (gcs gs)) (h7 : wr.ownsRow (gp + 1) 65 1 OV zs.length (i16s zs))
    (hg : wr.grownBy w2 GV.ownBlock) (ho : w2.ownsRow (gp + 1) 67 3 GV' gs'.length (gcs gs')) : TI w3 P gp m n pl gs' zs (w2.setCell ⟨gp, 1, none⟩ GV') := by
  obtain ⟨h1, h2, ⟨h3, h4⟩, _⟩ := h
  have hb := own_block h6
  have hp := own_block h2 P rfl
  have hg5 := (hg.block gp h4 (fun e => by have := (hb gp e.symm).1; omega)).trans h5
  have hw : w3.heap.size ≤ gp := by omega
  refine ⟨(h1.grown hg (Nat.le_trans (by omega) (Nat.le_of_lt h4)) (fun k hk => by have := (hb k hk).1; omega)).setCell (p := ⟨gp, 1, none⟩) hw _, ?_, ⟨h3, by have := hg.size; simp [World.setCell]; omega⟩, GV', OV, ?_, ?_, ?_⟩
  · refine own_grown (own_grown h2 hg (fun k hk e => by have := (hb k e).1; have e2 : P = k := (by simpa [Value.ownBlock] using hk); omega)) (grown_putd w2 gp 1 GV') (fun k hk e => by
      cases e
      have e2 : P = gp := by simpa [Value.ownBlock] using hk
      omega)
  · rw [heap_setCell_same w2 gp 1 _ _ GV' hg5]; rfl
  · exact ownsRow_setCell_below ho (a := ⟨gp, 1, none⟩) (by show gp < gp + 1; omega) _
  · refine ownsRow_setCell_below (own_grown h7 hg (fun k hk e => by
      obtain ⟨c1, e1⟩ := own_type h7 k hk
      obtain ⟨c2, e2⟩ := own_type h6 k e
      rw [e1] at e2; cases e2)) (a := ⟨gp, 1, none⟩) (by show gp < gp + 1; omega) _
theorem TI.outs {w3 wr w2 : World} {P gp m : Nat} {n : Int} {pl : List Int} {gs : List G3} {zs zs' : List Int} {GV OV OV' : Value} (h : TI w3 P gp m n pl gs zs wr) (h5 : wr.heap[gp]? = some (.cells #[.int .i8 n, GV, OV] 30 (0, 0))) (h6 : wr.ownsRow (gp + 1) 67 3 GV gs.length (gcs gs)) (h7 : wr.ownsRow (gp + 1) 65 1 OV zs.length (i16s zs))
    (hg : wr.grownBy w2 OV.ownBlock) (ho : w2.ownsRow (gp + 1) 65 1 OV' zs'.length (i16s zs')) : TI w3 P gp m n pl gs zs' (w2.setCell ⟨gp, 2, none⟩ OV') := by
  obtain ⟨h1, h2, ⟨h3, h4⟩, _⟩ := h
  have hb := own_block h7
  have hp := own_block h2 P rfl
  have hg5 := (hg.block gp h4 (fun e => by have := (hb gp e.symm).1; omega)).trans h5
  have hw : w3.heap.size ≤ gp := by omega
  refine ⟨(h1.grown hg (Nat.le_trans (by omega) (Nat.le_of_lt h4)) (fun k hk => by have := (hb k hk).1; omega)).setCell (p := ⟨gp, 2, none⟩) hw _, ?_, ⟨h3, by have := hg.size; simp [World.setCell]; omega⟩, GV, OV', ?_, ?_, ?_⟩
  · refine own_grown (own_grown h2 hg (fun k hk e => by have := (hb k e).1; have e2 : P = k := (by simpa [Value.ownBlock] using hk); omega)) (grown_putd w2 gp 2 OV') (fun k hk e => by
      cases e
      have e2 : P = gp := by simpa [Value.ownBlock] using hk
      omega)
  · rw [heap_setCell_same w2 gp 2 _ _ OV' hg5]; rfl
  · refine ownsRow_setCell_below (own_grown h6 hg (fun k hk e => by
      obtain ⟨c1, e1⟩ := own_type h6 k hk
      obtain ⟨c2, e2⟩ := own_type h7 k e
      rw [e1] at e2; cases e2)) (a := ⟨gp, 2, none⟩) (by show gp < gp + 1; omega) _
  · exact ownsRow_setCell_below ho (a := ⟨gp, 2, none⟩) (by show gp < gp + 1; omega) _

theorem one_cellE (w : World) (v : Value) (t : TypeId) (j : Nat) (u : Value) (h : [v][j]? = some u) : (w.alloc (.cells #[v] t)).cell? ((⟨w.heap.size, 0, none⟩ : Addr).add j) = some u := one_cellC w v t j u h
end Go.Proofs.YtedcfmdgcafnmaaDoor
